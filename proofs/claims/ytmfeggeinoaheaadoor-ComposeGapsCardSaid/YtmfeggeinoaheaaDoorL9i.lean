/- Layer 9, ComposeGaps: the rounds of its inner loop, each way a theorem. -/
import Derived.Test.YtmfeggeinoaheaaDoorL9j
namespace Go.Proofs.YtmfeggeinoaheaaDoor
open Go.RowKit
set_option maxRecDepth 1000000
set_option maxHeartbeats 4000000
set_option linter.unusedVariables false
set_option linter.unusedSimpArgs false

def firstLoop9 : Code → Option Code
  | .loop c => some c
  | .seq a b => match firstLoop9 a with
    | some c => some c
    | none => firstLoop9 b
  | .block _ c => firstLoop9 c
  | .scope c => firstLoop9 c
  | .cond _ a b => match firstLoop9 a with
    | some c => some c
    | none => firstLoop9 b
  | _ => none
noncomputable def oBody9 : Code := ((Tryd.f3.body.bind firstLoop9).getD .skip)
noncomputable def iBody9 : Code := ((firstLoop9 oBody9).getD .skip)
theorem inLt9 {w W0 wr : World} {X : List Sp} {aX : Option Addr} {nX cX M N : Nat} {TX : List Tok} {PS QS : List (List Nat)} {DX ES : List Bool} {K g : Nat} {aG : Option Addr} {cG bp op gcp : Nat} {gBp : Option Addr} {gdp bq oq gcq : Nat} {gBq : Option Addr} {gdq HBp HBq i T m k T' : Nat} {ws' : List (List Nat)} {kp : Bool} {P : Act → World → Prop} {Qx : Exit → Act → World → Prop}
    {c0 c1 c2 c3 c4 c5 c7 c9 c10 c11 c13 c15 c16 c17 c28 c29 c30 c31 c32 c33 c34 c35 c36 c37 c38 c39 c40 c41 c42 c43 c44 c45 c46 c47 c48 c49 c50 c51 c52 c53 c54 c55 c56 c57 c58 c59 c60 c61 c62 c63 c64 c65 c66 c67 c68 c69 c70 c71 c72 c73 c74 c75 c76 c77 c78 c79 c80 c81 c82 c83 c84 c85 c86 c87 c88 c89 c90 c91 c92 c93 c94 c95 c96 c97 c98 c99 c100 c101 c102 c103 c104 c105 c106 c107 c108 c109 c110 c111 c112 c113 c114 c115 c116 c117 c118 c119 c120 c121 c122 c123 c124 c125 c126 c127 c128 c232 c233 c234 c235 c236 c237 c238 c239 c240 c241 c242 c243 c244 c245 c246 c247 c248 c249 c250 c251 c252 c253 u6 u24 u25 u26 u27 u129 u130 u131 u132 u133 u134 u135 u136 u137 u138 u139 u140 u141 u142 u143 u144 u145 u146 u147 u148 u149 u150 u151 u152 u153 u154 u155 u156 u157 u158 u159 u160 u161 u162 u163 u164 u165 u166 u167 u168 u169 u170 u171 u172 u173 u174 u175 u176 u177 u178 u179 u180 u181 u182 u183 u184 u185 u186 u187 u188 u189 u190 u191 u192 u193 u194 u195 u196 u197 u198 u199 u200 u201 u202 u203 u204 u205 u206 u207 u208 u209 u210 u211 u212 u213 u214 u215 u216 u217 u218 u219 u220 u221 u222 u223 u224 u225 u226 u227 u228 u229 u230 u231 : Value}
    (hM1 : M ≤ 30) (hNb : N ≤ 400) (EW : Hid (Ext w W0)) (RX : Hid (RdO W0 aX nX cX X)) (RDq : Hid (Rd W0 1 (.slice gBq N gdq) N (ES.map Value.bool)))
    (CL : Hid (∀ (t : Nat) w', t ≤ N → Ext w w' → RdO w' aX nX cX X → Calls Tryd.prog 10 #[.slice aX nX cX, .int .i64 (t : Int)] w' fun e w'' => e = .returned (.tuple #[.int .i64 ((leastT TX t : Nat) : Int), .int .i64 0]) ∧ Ext w' w''))
    (HLL : Hid (∀ t, leastT TX t ≤ M))
    (CU : Hid (∀ (i k : Nat) w', i < M + 1 → k < (PS.getD i []).length → Calls Tryd.prog 11 #[.string (mkS (encs (PS.getD i []))), .int .i64 (k : Int), .int .i64 ((k : Int) + 1)] w' fun e w'' => e = .returned (.tuple #[.string (mkS (encs [(PS.getD i []).getD k 0])), .int .i64 0]) ∧ Ext w' w''))
    (HPL : Hid (PS.length = M + 1)) (HDL : Hid (DX.length = M)) (HUG : Hid (ug PS DX = TX))
    (HBS : Hid (∀ (n l : Nat), n ≤ N + 1 → l < M + 1 → (encs ((wP (M + 1) TX QS ES n).getD l [])).length ≤ 50000000))
    (HBM : Hid (∀ (n l : Nat), n ≤ N → l < M + 1 → (encs ((wM (M + 1) TX QS ES n).getD l [])).length ≤ 50000000))
    (HSQ : Hid (∀ (i : Nat), (encs (QS.getD i [])).length ≤ 100000))
    (E1 : Hid (∀ (i : Nat), i < N → (ES.map Value.bool)[i]? = some (.bool (ES.getD i true))))
    (PC : Hid (∀ (i : Nat), i < M + 1 → W0.cell? ⟨bp, op + i, none⟩ = some (.string (mkS (encs (PS.getD i []))))))
    (QC : Hid (∀ (i : Nat), i < N + 1 → W0.cell? ⟨bq, oq + i, none⟩ = some (.string (mkS (encs (QS.getD i []))))))
    (PB : Hid (W0.cell? ⟨HBp, 0, none⟩ = some (.slice (some ⟨bp, op, none⟩) (M + 1) gcp) ∧ W0.cell? ⟨HBp, 1, none⟩ = some (.slice gBp M gdp)))
    (QB : Hid (W0.cell? ⟨HBq, 0, none⟩ = some (.slice (some ⟨bq, oq, none⟩) (N + 1) gcq) ∧ W0.cell? ⟨HBq, 1, none⟩ = some (.slice gBq N gdq)))
    (hlt : i < M + 1) (hwpi : T + m ≤ N) (HM : Hid ((PS.getD i []).length = m)) (HT : Hid (T = plN PS DX i))
    (HW2 : Hid ((k ≤ m → T' = T + k ∧ ws' = wP (M + 1) TX QS ES T') ∧ (k = m + 1 → T' = T + m ∧ ws' = wM (M + 1) TX QS ES T' ∧ (kp = true ∨ ¬ i < M))))
    (HS2 : Hid (St9 W0 M g K aG cG ws' (gW TX DX ES i) wr))
    (hlt2 : k < m)
    (hpan : Hid (∀ x (a b : Act) (w : World), a.defers = b.defers → Qx (Exit.panic x) a w → Qx (Exit.panic x) b w)) (hend : Hid (∀ {v6 v24 v25 v26 v27 v129 v130 v131 v132 v133 v134 v135 v136 v137 v138 v139 v140 v141 v142 v143 v144 v145 v146 v147 v148 v149 v150 v151 v152 v153 v154 v155 v156 v157 v158 v159 v160 v161 v162 v163 v164 v165 v166 v167 v168 v169 v170 v171 v172 v173 v174 v175 v176 v177 v178 v179 v180 v181 v182 v183 v184 v185 v186 v187 v188 v189 v190 v191 v192 v193 v194 v195 v196 v197 v198 v199 v200 v201 v202 v203 v204 v205 v206 v207 v208 v209 v210 v211 v212 v213 v214 v215 v216 v217 v218 v219 v220 v221 v222 v223 v224 v225 v226 v227 v228 v229 v230 v231 y19 y23 : Value} {T2 : Nat} {ws2 : List (List Nat)} {w2 : World}, y19 = .int .i64 (T2 : Int) → y23 = .int .i64 ((k + 1 : Nat) : Int) →
      Hid ((k + 1 ≤ m → T2 = T + (k + 1) ∧ ws2 = wP (M + 1) TX QS ES T2) ∧ (k + 1 = m + 1 → T2 = T + m ∧ ws2 = wM (M + 1) TX QS ES T2 ∧ (kp = true ∨ ¬ i < M))) → Hid (St9 W0 M g K aG cG ws2 (gW TX DX ES i) w2) →
      P ⟨(List.toArray (c0 :: c1 :: c2 :: c3 :: c4 :: c5 :: v6 :: c7 :: (Value.slice aX nX cX) :: c9 :: c10 :: c11 :: (Value.pointer (some ⟨HBp, 0, none⟩)) :: c13 :: (Value.pointer (some ⟨HBq, 0, none⟩)) :: c15 :: c16 :: c17 :: (Value.pointer (some ⟨K, 0, none⟩)) :: y19 :: (Value.int .i64 (i : Int)) :: (Value.int .i64 (m : Int)) :: (Value.bool kp) :: y23 :: v24 :: v25 :: v26 :: v27 :: c28 :: c29 :: c30 :: c31 :: c32 :: c33 :: c34 :: c35 :: c36 :: c37 :: c38 :: c39 :: c40 :: c41 :: c42 :: c43 :: c44 :: c45 :: c46 :: c47 :: c48 :: c49 :: c50 :: c51 :: c52 :: c53 :: c54 :: c55 :: c56 :: c57 :: c58 :: c59 :: c60 :: c61 :: c62 :: c63 :: c64 :: c65 :: c66 :: c67 :: c68 :: c69 :: c70 :: c71 :: c72 :: c73 :: c74 :: c75 :: c76 :: c77 :: c78 :: c79 :: c80 :: c81 :: c82 :: c83 :: c84 :: c85 :: c86 :: c87 :: c88 :: c89 :: c90 :: c91 :: c92 :: c93 :: c94 :: c95 :: c96 :: c97 :: c98 :: c99 :: c100 :: c101 :: c102 :: c103 :: c104 :: c105 :: c106 :: c107 :: c108 :: c109 :: c110 :: c111 :: c112 :: c113 :: c114 :: c115 :: c116 :: c117 :: c118 :: c119 :: c120 :: c121 :: c122 :: c123 :: c124 :: c125 :: c126 :: c127 :: c128 :: v129 :: v130 :: v131 :: v132 :: v133 :: v134 :: v135 :: v136 :: v137 :: v138 :: v139 :: v140 :: v141 :: v142 :: v143 :: v144 :: v145 :: v146 :: v147 :: v148 :: v149 :: v150 :: v151 :: v152 :: v153 :: v154 :: v155 :: v156 :: v157 :: v158 :: v159 :: v160 :: v161 :: v162 :: v163 :: v164 :: v165 :: v166 :: v167 :: v168 :: v169 :: v170 :: v171 :: v172 :: v173 :: v174 :: v175 :: v176 :: v177 :: v178 :: v179 :: v180 :: v181 :: v182 :: v183 :: v184 :: v185 :: v186 :: v187 :: v188 :: v189 :: v190 :: v191 :: v192 :: v193 :: v194 :: v195 :: v196 :: v197 :: v198 :: v199 :: v200 :: v201 :: v202 :: v203 :: v204 :: v205 :: v206 :: v207 :: v208 :: v209 :: v210 :: v211 :: v212 :: v213 :: v214 :: v215 :: v216 :: v217 :: v218 :: v219 :: v220 :: v221 :: v222 :: v223 :: v224 :: v225 :: v226 :: v227 :: v228 :: v229 :: v230 :: v231 :: c232 :: c233 :: c234 :: c235 :: c236 :: c237 :: c238 :: c239 :: c240 :: c241 :: c242 :: c243 :: c244 :: c245 :: c246 :: c247 :: c248 :: c249 :: c250 :: c251 :: c252 :: c253 :: List.nil)), []⟩ w2)) :
    Code.wp Tryd.prog iBody9 (Exit.then P Qx) ⟨(List.toArray (c0 :: c1 :: c2 :: c3 :: c4 :: c5 :: u6 :: c7 :: (Value.slice aX nX cX) :: c9 :: c10 :: c11 :: (Value.pointer (some ⟨HBp, 0, none⟩)) :: c13 :: (Value.pointer (some ⟨HBq, 0, none⟩)) :: c15 :: c16 :: c17 :: (Value.pointer (some ⟨K, 0, none⟩)) :: (Value.int .i64 (T' : Int)) :: (Value.int .i64 (i : Int)) :: (Value.int .i64 (m : Int)) :: (Value.bool kp) :: (Value.int .i64 (k : Int)) :: u24 :: u25 :: u26 :: u27 :: c28 :: c29 :: c30 :: c31 :: c32 :: c33 :: c34 :: c35 :: c36 :: c37 :: c38 :: c39 :: c40 :: c41 :: c42 :: c43 :: c44 :: c45 :: c46 :: c47 :: c48 :: c49 :: c50 :: c51 :: c52 :: c53 :: c54 :: c55 :: c56 :: c57 :: c58 :: c59 :: c60 :: c61 :: c62 :: c63 :: c64 :: c65 :: c66 :: c67 :: c68 :: c69 :: c70 :: c71 :: c72 :: c73 :: c74 :: c75 :: c76 :: c77 :: c78 :: c79 :: c80 :: c81 :: c82 :: c83 :: c84 :: c85 :: c86 :: c87 :: c88 :: c89 :: c90 :: c91 :: c92 :: c93 :: c94 :: c95 :: c96 :: c97 :: c98 :: c99 :: c100 :: c101 :: c102 :: c103 :: c104 :: c105 :: c106 :: c107 :: c108 :: c109 :: c110 :: c111 :: c112 :: c113 :: c114 :: c115 :: c116 :: c117 :: c118 :: c119 :: c120 :: c121 :: c122 :: c123 :: c124 :: c125 :: c126 :: c127 :: c128 :: u129 :: u130 :: u131 :: u132 :: u133 :: u134 :: u135 :: u136 :: u137 :: u138 :: u139 :: u140 :: u141 :: u142 :: u143 :: u144 :: u145 :: u146 :: u147 :: u148 :: u149 :: u150 :: u151 :: u152 :: u153 :: u154 :: u155 :: u156 :: u157 :: u158 :: u159 :: u160 :: u161 :: u162 :: u163 :: u164 :: u165 :: u166 :: u167 :: u168 :: u169 :: u170 :: u171 :: u172 :: u173 :: u174 :: u175 :: u176 :: u177 :: u178 :: u179 :: u180 :: u181 :: u182 :: u183 :: u184 :: u185 :: u186 :: u187 :: u188 :: u189 :: u190 :: u191 :: u192 :: u193 :: u194 :: u195 :: u196 :: u197 :: u198 :: u199 :: u200 :: u201 :: u202 :: u203 :: u204 :: u205 :: u206 :: u207 :: u208 :: u209 :: u210 :: u211 :: u212 :: u213 :: u214 :: u215 :: u216 :: u217 :: u218 :: u219 :: u220 :: u221 :: u222 :: u223 :: u224 :: u225 :: u226 :: u227 :: u228 :: u229 :: u230 :: u231 :: c232 :: c233 :: c234 :: c235 :: c236 :: c237 :: c238 :: c239 :: c240 :: c241 :: c242 :: c243 :: c244 :: c245 :: c246 :: c247 :: c248 :: c249 :: c250 :: c251 :: c252 :: c253 :: List.nil)), []⟩ wr := by
  conv => arg 2; whnf
  have i0 : (0 : Int) ≤ (i : Int) := by omega
  have i1 : (i : Int) < (M : Int) + 1 := by omega
  have dk : decide (k ≤ m) = true := by rw [decide_eq_true_eq]; omega
  have dq : ((k : Int) == (m : Int)) = false := by rw [beq_eq_false_iff_ne]; omega
  have dl : decide (k < m) = true := by rw [decide_eq_true_eq]; omega
  obtain ⟨hT', hws'⟩ := HW2.out.1 (by omega)
  have k0 : (0 : Int) ≤ (k : Int) := by omega
  have t0 : (0 : Int) ≤ (T' : Int) := by omega
  have t1 : (T' : Int) < (N : Int) + 1 := by omega
  have tN : T' ≤ N := by omega
  have dT : decide (N + 1 ≤ T') = false := by rw [decide_eq_false_iff_not]; omega
  have dT' : decide ((N : Int) + 1 ≤ (T' : Int)) = false := by rw [decide_eq_false_iff_not]; omega
  have hkb : k ≤ 1000 := by omega
  have hk1 : k + 1 ≤ m := by omega
  have tlt : T' < N := by omega
  have dN : decide (T' < N) = true := by rw [decide_eq_true_eq]; exact tlt
  have t2 : (T' : Int) < (N : Int) := by omega
  have HT' := Lib.hid hT'; have HWS' := Lib.hid hws'
  clear hT' hws' HW2 hlt2
  have xwr := HS2.out.ext
  have p0wr := ext_cell xwr PB.out.1; have p1wr := ext_cell xwr PB.out.2
  have q0wr := ext_cell xwr QB.out.1; have q1wr := ext_cell xwr QB.out.2
  have k0wr := HS2.out.c0; have k1wr := HS2.out.c1
  have hLM := HLL.out T'
  have CLT := Lib.hid (fun w' hx hr => CL.out T' w' tN hx hr)
  have hset := wM_of (M + 1) TX QS ES T' (by omega)
  rw [← HWS'.out] at hset
  have hlen : ws'.length = M + 1 := by rw [HWS'.out, wP_len]
  have hb1 : (encs (ws'.getD (leastT TX T') [])).length ≤ 50000000 := by rw [HWS'.out]; exact HBS.out T' _ (by omega) (by omega)
  have hb2 := HSQ.out T'
  have hrow := HS2.out.rds hlen
  have c4 := ext_cell HS2.out.ext (QC.out T' (by omega))
  obtain ⟨Lt, hLt⟩ : ∃ Lt, leastT TX T' = Lt := ⟨_, rfl⟩
  rw [hLt] at hLM CLT hset hb1
  have l0 : (0 : Int) ≤ (Lt : Int) := by omega
  have l1 : (Lt : Int) < (M : Int) + 1 := by omega
  have dL0 : decide ((Lt : Int) < 0) = false := by rw [decide_eq_false_iff_not]; omega
  have dL1 : decide (M + 1 ≤ Lt) = false := by rw [decide_eq_false_iff_not]; omega
  have dL1' : decide ((M : Int) + 1 ≤ (Lt : Int)) = false := by rw [decide_eq_false_iff_not]; omega
  have s0 := HS2.out.at_ Lt (by omega)
  have hcat := cat_mk9 (ws'.getD Lt []) (QS.getD T' [])
  have hput := fun V (h : St9 W0 M g K aG cG ws' (gW TX DX ES i) V) => h.put Lt (ws'.getD Lt [] ++ QS.getD T' [])
  rw [hset] at hput
  rw [← size_mkS] at hb1 hb2
  obtain ⟨SA, hSA⟩ : ∃ SA, mkS (encs (ws'.getD Lt [])) = SA := ⟨_, rfl⟩
  obtain ⟨SB, hSB⟩ : ∃ SB, mkS (encs (QS.getD T' [])) = SB := ⟨_, rfl⟩
  obtain ⟨SC, hSC⟩ : ∃ SC, mkS (encs (ws'.getD Lt [] ++ QS.getD T' [])) = SC := ⟨_, rfl⟩
  rw [hSC] at hcat hput
  rw [hSA] at hcat hb1 s0
  rw [hSB] at hcat hb2 c4
  have HPUT := Lib.hid hput
  have hlim : ¬ 9223372036854775807 < SA.size + SB.size := by omega
  clear hset hput hSA hSB hSC hLt hrow
  go_wp2_with fail
  refine (CLT.out _ (EW.out.trans xwr) (RX.out.ext xwr)).mono ?_; rintro e w2 ⟨rfl, hx2⟩
  have HS3 := Lib.hid (HS2.out.later hx2)
  have xw2 := HS3.out.ext
  have p0w2 := ext_cell xw2 PB.out.1; have p1w2 := ext_cell xw2 PB.out.2
  have q0w2 := ext_cell xw2 QB.out.1; have q1w2 := ext_cell xw2 QB.out.2
  have k0w2 := HS3.out.c0; have k1w2 := HS3.out.c1
  have s0w2 := ext_cell hx2 s0
  have sfw2 := HS3.out.free Lt
  have c4w2 := ext_cell hx2 c4
  have hca : SA ++ SB = SC := hcat
  go_wp2_with fail
  have dr2 : Ext w2 w2.drew := (Ext.refl w2).drew
  refine region_T (fun W => W.cell? ⟨K, 0, none⟩ = some (.slice (some ⟨g, 0, none⟩) (M + 1) (M + 1)) ∧ W.cell? ⟨g, Lt, none⟩ = some (.string SA) ∧ W.cell? ⟨HBq, 0, none⟩ = some (.slice (some ⟨bq, oq, none⟩) (N + 1) gcq) ∧ W.cell? ⟨bq, oq + T', none⟩ = some (.string SB)) 15 (by kernel_rfl) (⟨ext_cell dr2 k0w2, ext_cell dr2 s0w2, ext_cell dr2 q0w2, ext_cell dr2 c4w2⟩) (fun hHeld => ?_)
  obtain ⟨Wd, hWd⟩ : ∃ x, w2.drew = x := ⟨_, rfl⟩
  rw [hWd] at hHeld dr2 ⊢
  clear hWd
  have HSd := Lib.hid (HS3.out.later dr2)
  have sfd := HSd.out.free Lt
  obtain ⟨h1, h2, h3, h4⟩ := id hHeld
  clear k0w2 k1w2 s0w2 q0w2 q1w2 c4w2 sfw2 p0w2 p1w2 xw2
  refine wpAnyT_take (i := 0) (v := ?_) rfl (by kernel_rfl) (fun cP aP wP h => hpan.out cP _ aP wP (by rfl) h) (Or.inl ⟨by rfl, ?_⟩) (by assumption) ?_
  rotate_left
  · (intro W hSw; (try dsimp only at hSw); go_simp; (try with_reducible rfl))
  try simp only [Act.put, List.setIfInBounds_toArray, List.set_cons_zero, List.set_cons_succ]
  refine wpAnyT_take (i := 1) (v := ?_) rfl (by kernel_rfl) (fun cP aP wP h => hpan.out cP _ aP wP (by rfl) h) (Or.inl ⟨by rfl, ?_⟩) (by assumption) ?_
  rotate_left
  · (intro W hSw; (try dsimp only at hSw); go_simp; (try with_reducible rfl))
  try simp only [Act.put, List.setIfInBounds_toArray, List.set_cons_zero, List.set_cons_succ]
  refine wpAnyT_take (i := 2) (v := ?_) rfl (by kernel_rfl) (fun cP aP wP h => hpan.out cP _ aP wP (by rfl) h) (Or.inl ⟨by rfl, ?_⟩) (by assumption) ?_
  rotate_left
  · (intro W hSw; (try dsimp only at hSw); go_simp; (try with_reducible rfl))
  try simp only [Act.put, List.setIfInBounds_toArray, List.set_cons_zero, List.set_cons_succ]
  refine wpAnyT_take (i := 3) (v := ?_) rfl (by kernel_rfl) (fun cP aP wP h => hpan.out cP _ aP wP (by rfl) h) (Or.inl ⟨by rfl, ?_⟩) (by assumption) ?_
  rotate_left
  · (intro W hSw; (try dsimp only at hSw); go_simp; (try with_reducible rfl))
  try simp only [Act.put, List.setIfInBounds_toArray, List.set_cons_zero, List.set_cons_succ]
  refine wpAnyT_take (i := 4) (v := ?_) rfl (by kernel_rfl) (fun cP aP wP h => hpan.out cP _ aP wP (by rfl) h) (Or.inl ⟨by rfl, ?_⟩) (by assumption) ?_
  rotate_left
  · (intro W hSw; (try dsimp only at hSw); go_simp; (try with_reducible rfl))
  try simp only [Act.put, List.setIfInBounds_toArray, List.set_cons_zero, List.set_cons_succ]
  refine wpAnyT_take (i := 5) (v := ?_) rfl (by kernel_rfl) (fun cP aP wP h => hpan.out cP _ aP wP (by rfl) h) (Or.inl ⟨by rfl, ?_⟩) (by assumption) ?_
  rotate_left
  · (intro W hSw; (try dsimp only at hSw); go_simp; (try with_reducible rfl))
  try simp only [Act.put, List.setIfInBounds_toArray, List.set_cons_zero, List.set_cons_succ]
  refine wpAnyT_take (i := 6) (v := ?_) rfl (by kernel_rfl) (fun cP aP wP h => hpan.out cP _ aP wP (by rfl) h) (Or.inl ⟨by rfl, ?_⟩) (by assumption) ?_
  rotate_left
  · (intro W hSw; (try dsimp only at hSw); go_simp; (try with_reducible rfl))
  try simp only [Act.put, List.setIfInBounds_toArray, List.set_cons_zero, List.set_cons_succ]
  refine wpAnyT_take (i := 7) (v := ?_) rfl (by kernel_rfl) (fun cP aP wP h => hpan.out cP _ aP wP (by rfl) h) (Or.inl ⟨by rfl, ?_⟩) (by assumption) ?_
  rotate_left
  · (intro W hSw; (try dsimp only at hSw); go_simp; (try with_reducible rfl))
  try simp only [Act.put, List.setIfInBounds_toArray, List.set_cons_zero, List.set_cons_succ]
  refine wpAnyT_take (i := 8) (v := ?_) rfl (by kernel_rfl) (fun cP aP wP h => hpan.out cP _ aP wP (by rfl) h) (Or.inl ⟨by rfl, ?_⟩) (by assumption) ?_
  rotate_left
  · (intro W hSw; (try dsimp only at hSw); go_simp; (try with_reducible rfl))
  try simp only [Act.put, List.setIfInBounds_toArray, List.set_cons_zero, List.set_cons_succ]
  refine wpAnyT_take (i := 9) (v := ?_) rfl (by kernel_rfl) (fun cP aP wP h => hpan.out cP _ aP wP (by rfl) h) (Or.inl ⟨by rfl, ?_⟩) (by assumption) ?_
  rotate_left
  · (intro W hSw; (try dsimp only at hSw); go_simp; (try with_reducible rfl))
  try simp only [Act.put, List.setIfInBounds_toArray, List.set_cons_zero, List.set_cons_succ]
  refine wpAnyT_take (i := 10) (v := ?_) rfl (by kernel_rfl) (fun cP aP wP h => hpan.out cP _ aP wP (by rfl) h) (Or.inl ⟨by rfl, ?_⟩) (by assumption) ?_
  rotate_left
  · (intro W hSw; (try dsimp only at hSw); go_simp; (try with_reducible rfl))
  try simp only [Act.put, List.setIfInBounds_toArray, List.set_cons_zero, List.set_cons_succ]
  refine wpAnyT_take (i := 11) (v := ?_) rfl (by kernel_rfl) (fun cP aP wP h => hpan.out cP _ aP wP (by rfl) h) (Or.inl ⟨by rfl, ?_⟩) (by assumption) ?_
  rotate_left
  · (intro W hSw; (try dsimp only at hSw); go_simp; (try with_reducible rfl))
  try simp only [Act.put, List.setIfInBounds_toArray, List.set_cons_zero, List.set_cons_succ]
  refine wpAnyT_take (i := 12) (v := ?_) rfl (by kernel_rfl) (fun cP aP wP h => hpan.out cP _ aP wP (by rfl) h) (Or.inl ⟨by rfl, ?_⟩) (by assumption) ?_
  rotate_left
  · (intro W hSw; (try dsimp only at hSw); go_simp; (try with_reducible rfl))
  try simp only [Act.put, List.setIfInBounds_toArray, List.set_cons_zero, List.set_cons_succ]
  refine wpAnyT_take (i := 13) (v := ?_) rfl (by kernel_rfl) (fun cP aP wP h => hpan.out cP _ aP wP (by rfl) h) (Or.inl ⟨by rfl, ?_⟩) (by assumption) ?_
  rotate_left
  · (intro W hSw; (try dsimp only at hSw); go_simp; (try with_reducible rfl))
  try simp only [Act.put, List.setIfInBounds_toArray, List.set_cons_zero, List.set_cons_succ]
  refine wpAnyT_take (i := 14) (v := ?_) rfl (by kernel_rfl) (fun cP aP wP h => hpan.out cP _ aP wP (by rfl) h) (Or.inl ⟨by rfl, ?_⟩) (by assumption) ?_
  rotate_left
  · (intro W hSw; (try dsimp only at hSw); go_simp; (try with_reducible rfl))
  try simp only [Act.put, List.setIfInBounds_toArray, List.set_cons_zero, List.set_cons_succ]
  refine wpAnyT_one (i := 15) rfl (by kernel_rfl) (fun KQ hKQ => ?_)
  go_simp
  refine hKQ.out _ _ (fun h => absurd rfl h) (fun _ => ?_)
  clear hKQ KQ hHeld
  try simp only [Act.put, List.setIfInBounds_toArray, List.set_cons_zero, List.set_cons_succ]
  refine wpAnyT_done (by kernel_rfl) ?_ _
  obtain ⟨w4, hw4⟩ : ∃ w4, Wd.setCell ⟨g, Lt, none⟩ (.string SC) = w4 := ⟨_, rfl⟩
  have HS4 : Hid (St9 W0 M g K aG cG (wM (M + 1) TX QS ES T') (gW TX DX ES i) w4) := Lib.hid (by rw [← hw4]; exact HPUT.out Wd HSd.out)
  rw [hw4]
  clear hw4 HPUT HS3 HSd HS2 HWS' CLT hca hcat hlim hb1 hb2 hlen s0 h1 h2 h3 h4 sfd dr2 c4 hx2 xwr p0wr p1wr q0wr q1wr k0wr k1wr l0 l1 dL0 dL1 dL1' hLM
  have CUk := Lib.hid (fun w' => CU.out i k w' hlt (by rw [HM.out]; omega))
  have c5 := ext_cell HS4.out.ext (PC.out i hlt)
  obtain ⟨be, oe, hBe, -, c6⟩ := rd_at1 (RDq.out.ext HS4.out.ext) tlt (E1.out T' tlt)
  have QB2 : Hid (W0.cell? ⟨HBq, 1, none⟩ = some (.slice (some ⟨be, oe, none⟩) N gdq)) := Lib.hid (by rw [← hBe]; exact QB.out.2)
  clear hBe
  have hcB : ES.getD T' true = false → ∀ j, conB TX ES j T' = if j = i then [(PS.getD i []).getD k 0] else [] := fun he j => by
    have h := conB_ins PS DX ES (by have := HPL.out; have := HDL.out; omega) i (by have := HDL.out; omega) k (by rw [HM.out]; omega) (by rw [← HT.out, ← HT'.out]; exact he) j
    rw [HUG.out, ← HT.out, ← HT'.out] at h; exact h
  obtain ⟨cc, hcc⟩ : ∃ cc, (PS.getD i []).getD k 0 = cc := ⟨_, rfl⟩
  rw [hcc] at CUk hcB
  obtain ⟨ev, hev⟩ : ∃ ev, ES.getD T' true = ev := ⟨_, rfl⟩
  rw [hev] at c6 hcB
  have HEV := Lib.hid hev
  clear hev
  have HCB := Lib.hid hcB
  obtain ⟨ST, hST⟩ : ∃ ST, mkS (encs [cc]) = ST := ⟨_, rfl⟩
  rw [hST] at CUk
  have hbT : ST.size ≤ 4 := by rw [← hST, size_mkS]; have := encs_le [cc]; simpa using this
  obtain ⟨SP, hSP⟩ : ∃ SP, mkS (encs (PS.getD i [])) = SP := ⟨_, rfl⟩
  rw [hSP] at CUk c5
  have HSTq := Lib.hid hST
  clear hcB hcc hSP hST
  have xw4 := HS4.out.ext
  have p0w4 := ext_cell xw4 PB.out.1; have p1w4 := ext_cell xw4 PB.out.2
  have q0w4 := ext_cell xw4 QB.out.1; have q1w4 := ext_cell xw4 QB2.out
  have k0w4 := HS4.out.c0; have k1w4 := HS4.out.c1
  have hevc : ev = true ∨ ev = false := by cases ev; exact .inr rfl; exact .inl rfl
  refine Or.elim hevc (fun hev => ?_) (fun hev => ?_)
  · skip
    clear hevc
    rw [hev] at c6
    obtain ⟨W2, hW2⟩ : ∃ W2, W2 = wP (M + 1) TX QS ES (T' + 1) := ⟨_, rfl⟩
    have hs4 : St9 W0 M g K aG cG W2 (gW TX DX ES i) w4 := by rw [hW2, ← wP_skip (M + 1) TX QS ES T' (conB_gone TX ES T' (HEV.out.trans hev))]; exact HS4.out
    have HW2e := Lib.hid hW2
    clear HS4 hW2
    have HS4 := Lib.hid hs4
    clear HCB hs4
    go_wp2_with fail
    refine (CUk.out _).mono ?_; rintro e w5 ⟨rfl, hx5⟩
    have HS5 := Lib.hid (HS4.out.later hx5)
    have c6w5 := ext_cell hx5 c6
    have xw5 := HS5.out.ext
    have p0w5 := ext_cell xw5 PB.out.1; have p1w5 := ext_cell xw5 PB.out.2
    have q0w5 := ext_cell xw5 QB.out.1; have q1w5 := ext_cell xw5 QB2.out
    have k0w5 := HS5.out.c0; have k1w5 := HS5.out.c1
    go_wp2_with fail
    show P _ _
    exact hend.out (T2 := T' + 1) (by go_num) (by go_num) (Lib.hid ⟨fun _ => ⟨by rw [HT'.out]; omega, HW2e.out⟩, fun h => by omega⟩) HS5
  · skip
    clear hevc
    rw [hev] at c6
    obtain ⟨SA, SC, W2, hW2, s1, hbm, hca, hput⟩ := ltf9 HS4.out hlt (HCB.out hev) (HBM.out T' i tN hlt)
    rw [HSTq.out] at hca
    have HW2e := Lib.hid hW2; have HPUT := Lib.hid hput
    have hlim : ¬ 9223372036854775807 < SA.size + ST.size := by omega
    clear hput hW2 HCB
    go_wp2_with fail
    refine (CUk.out _).mono ?_; rintro e w5 ⟨rfl, hx5⟩
    have HS5 := Lib.hid (HS4.out.later hx5)
    have HX5 := Lib.hid hx5
    have s1w5 := ext_cell hx5 s1; have c6w5 := ext_cell hx5 c6; have sfw5 := HS5.out.free i
    have xw5 := HS5.out.ext
    have p0w5 := ext_cell xw5 PB.out.1; have p1w5 := ext_cell xw5 PB.out.2
    have q0w5 := ext_cell xw5 QB.out.1; have q1w5 := ext_cell xw5 QB2.out
    have k0w5 := HS5.out.c0; have k1w5 := HS5.out.c1
    go_wp2_with fail
    have dr5 : Ext w5 w5.drew := (Ext.refl w5).drew
    refine region_T (fun W => W.cell? ⟨K, 0, none⟩ = some (.slice (some ⟨g, 0, none⟩) (M + 1) (M + 1)) ∧ W.cell? ⟨g, i, none⟩ = some (.string SA)) 11 (by kernel_rfl) (⟨ext_cell dr5 k0w5, ext_cell dr5 s1w5⟩) (fun hHeld => ?_)
    obtain ⟨Wd, hWd⟩ : ∃ x, w5.drew = x := ⟨_, rfl⟩
    rw [hWd] at hHeld dr5 ⊢
    clear hWd
    have HSd := Lib.hid (HS5.out.later dr5)
    have sfd := HSd.out.free i
    obtain ⟨h1, h2⟩ := id hHeld
    have HXd := Lib.hid (HX5.out.trans dr5)
    clear k0w5 k1w5 s1w5 q0w5 q1w5 c6w5 sfw5 p0w5 p1w5 xw5
    refine wpAnyT_take (i := 0) (v := ?_) rfl (by kernel_rfl) (fun cP aP wP h => hpan.out cP _ aP wP (by rfl) h) (Or.inl ⟨by rfl, ?_⟩) (by assumption) ?_
    rotate_left
    · (intro W hSw; (try dsimp only at hSw); go_simp; (try with_reducible rfl))
    try simp only [Act.put, List.setIfInBounds_toArray, List.set_cons_zero, List.set_cons_succ]
    refine wpAnyT_take (i := 1) (v := ?_) rfl (by kernel_rfl) (fun cP aP wP h => hpan.out cP _ aP wP (by rfl) h) (Or.inl ⟨by rfl, ?_⟩) (by assumption) ?_
    rotate_left
    · (intro W hSw; (try dsimp only at hSw); go_simp; (try with_reducible rfl))
    try simp only [Act.put, List.setIfInBounds_toArray, List.set_cons_zero, List.set_cons_succ]
    refine wpAnyT_take (i := 2) (v := ?_) rfl (by kernel_rfl) (fun cP aP wP h => hpan.out cP _ aP wP (by rfl) h) (Or.inl ⟨by rfl, ?_⟩) (by assumption) ?_
    rotate_left
    · (intro W hSw; (try dsimp only at hSw); go_simp; (try with_reducible rfl))
    try simp only [Act.put, List.setIfInBounds_toArray, List.set_cons_zero, List.set_cons_succ]
    refine wpAnyT_take (i := 3) (v := ?_) rfl (by kernel_rfl) (fun cP aP wP h => hpan.out cP _ aP wP (by rfl) h) (Or.inl ⟨by rfl, ?_⟩) (by assumption) ?_
    rotate_left
    · (intro W hSw; (try dsimp only at hSw); go_simp; (try with_reducible rfl))
    try simp only [Act.put, List.setIfInBounds_toArray, List.set_cons_zero, List.set_cons_succ]
    refine wpAnyT_take (i := 4) (v := ?_) rfl (by kernel_rfl) (fun cP aP wP h => hpan.out cP _ aP wP (by rfl) h) (Or.inl ⟨by rfl, ?_⟩) (by assumption) ?_
    rotate_left
    · (intro W hSw; (try dsimp only at hSw); go_simp; (try with_reducible rfl))
    try simp only [Act.put, List.setIfInBounds_toArray, List.set_cons_zero, List.set_cons_succ]
    refine wpAnyT_take (i := 5) (v := ?_) rfl (by kernel_rfl) (fun cP aP wP h => hpan.out cP _ aP wP (by rfl) h) (Or.inl ⟨by rfl, ?_⟩) (by assumption) ?_
    rotate_left
    · (intro W hSw; (try dsimp only at hSw); go_simp; (try with_reducible rfl))
    try simp only [Act.put, List.setIfInBounds_toArray, List.set_cons_zero, List.set_cons_succ]
    refine wpAnyT_take (i := 6) (v := ?_) rfl (by kernel_rfl) (fun cP aP wP h => hpan.out cP _ aP wP (by rfl) h) (Or.inl ⟨by rfl, ?_⟩) (by assumption) ?_
    rotate_left
    · (intro W hSw; (try dsimp only at hSw); go_simp; (try with_reducible rfl))
    try simp only [Act.put, List.setIfInBounds_toArray, List.set_cons_zero, List.set_cons_succ]
    refine wpAnyT_take (i := 7) (v := ?_) rfl (by kernel_rfl) (fun cP aP wP h => hpan.out cP _ aP wP (by rfl) h) (Or.inl ⟨by rfl, ?_⟩) (by assumption) ?_
    rotate_left
    · (intro W hSw; (try dsimp only at hSw); go_simp; (try with_reducible rfl))
    try simp only [Act.put, List.setIfInBounds_toArray, List.set_cons_zero, List.set_cons_succ]
    refine wpAnyT_take (i := 8) (v := ?_) rfl (by kernel_rfl) (fun cP aP wP h => hpan.out cP _ aP wP (by rfl) h) (Or.inl ⟨by rfl, ?_⟩) (by assumption) ?_
    rotate_left
    · (intro W hSw; (try dsimp only at hSw); go_simp; (try with_reducible rfl))
    try simp only [Act.put, List.setIfInBounds_toArray, List.set_cons_zero, List.set_cons_succ]
    refine wpAnyT_take (i := 9) (v := ?_) rfl (by kernel_rfl) (fun cP aP wP h => hpan.out cP _ aP wP (by rfl) h) (Or.inl ⟨by rfl, ?_⟩) (by assumption) ?_
    rotate_left
    · (intro W hSw; (try dsimp only at hSw); go_simp; (try with_reducible rfl))
    try simp only [Act.put, List.setIfInBounds_toArray, List.set_cons_zero, List.set_cons_succ]
    refine wpAnyT_take (i := 10) (v := ?_) rfl (by kernel_rfl) (fun cP aP wP h => hpan.out cP _ aP wP (by rfl) h) (Or.inl ⟨by rfl, ?_⟩) (by assumption) ?_
    rotate_left
    · (intro W hSw; (try dsimp only at hSw); go_simp; (try with_reducible rfl))
    try simp only [Act.put, List.setIfInBounds_toArray, List.set_cons_zero, List.set_cons_succ]
    refine wpAnyT_one (i := 11) rfl (by kernel_rfl) (fun KQ hKQ => ?_)
    go_simp
    refine hKQ.out _ _ (fun h => absurd rfl h) (fun _ => ?_)
    clear hKQ KQ hHeld
    try simp only [Act.put, List.setIfInBounds_toArray, List.set_cons_zero, List.set_cons_succ]
    refine wpAnyT_done (by kernel_rfl) ?_ _
    obtain ⟨w6, hw6⟩ : ∃ w6, Wd.setCell ⟨g, i, none⟩ (.string SC) = w6 := ⟨_, rfl⟩
    have HS6 : Hid (St9 W0 M g K aG cG W2 (gW TX DX ES i) w6) := Lib.hid (by rw [← hw6]; exact HPUT.out Wd HXd.out)
    rw [hw6]
    clear hw6 h1 h2 sfd dr5
    go_wp2_with fail
    show P _ _
    exact hend.out (T2 := T' + 1) (by go_num) (by go_num) (Lib.hid ⟨fun _ => ⟨by rw [HT'.out]; omega, HW2e.out⟩, fun h => by omega⟩) HS6
theorem inEqA9 {w W0 wr : World} {X : List Sp} {aX : Option Addr} {nX cX M N : Nat} {TX : List Tok} {PS QS : List (List Nat)} {DX ES : List Bool} {K g : Nat} {aG : Option Addr} {cG bp op gcp : Nat} {gBp : Option Addr} {gdp bq oq gcq : Nat} {gBq : Option Addr} {gdq HBp HBq i T m k T' : Nat} {ws' : List (List Nat)} {kp : Bool} {P : Act → World → Prop} {Qx : Exit → Act → World → Prop}
    {c0 c1 c2 c3 c4 c5 c7 c9 c10 c11 c13 c15 c16 c17 c28 c29 c30 c31 c32 c33 c34 c35 c36 c37 c38 c39 c40 c41 c42 c43 c44 c45 c46 c47 c48 c49 c50 c51 c52 c53 c54 c55 c56 c57 c58 c59 c60 c61 c62 c63 c64 c65 c66 c67 c68 c69 c70 c71 c72 c73 c74 c75 c76 c77 c78 c79 c80 c81 c82 c83 c84 c85 c86 c87 c88 c89 c90 c91 c92 c93 c94 c95 c96 c97 c98 c99 c100 c101 c102 c103 c104 c105 c106 c107 c108 c109 c110 c111 c112 c113 c114 c115 c116 c117 c118 c119 c120 c121 c122 c123 c124 c125 c126 c127 c128 c232 c233 c234 c235 c236 c237 c238 c239 c240 c241 c242 c243 c244 c245 c246 c247 c248 c249 c250 c251 c252 c253 u6 u24 u25 u26 u27 u129 u130 u131 u132 u133 u134 u135 u136 u137 u138 u139 u140 u141 u142 u143 u144 u145 u146 u147 u148 u149 u150 u151 u152 u153 u154 u155 u156 u157 u158 u159 u160 u161 u162 u163 u164 u165 u166 u167 u168 u169 u170 u171 u172 u173 u174 u175 u176 u177 u178 u179 u180 u181 u182 u183 u184 u185 u186 u187 u188 u189 u190 u191 u192 u193 u194 u195 u196 u197 u198 u199 u200 u201 u202 u203 u204 u205 u206 u207 u208 u209 u210 u211 u212 u213 u214 u215 u216 u217 u218 u219 u220 u221 u222 u223 u224 u225 u226 u227 u228 u229 u230 u231 : Value}
    (hM1 : M ≤ 30) (hNb : N ≤ 400) (EW : Hid (Ext w W0)) (RX : Hid (RdO W0 aX nX cX X)) (RDq : Hid (Rd W0 1 (.slice gBq N gdq) N (ES.map Value.bool)))
    (CL : Hid (∀ (t : Nat) w', t ≤ N → Ext w w' → RdO w' aX nX cX X → Calls Tryd.prog 10 #[.slice aX nX cX, .int .i64 (t : Int)] w' fun e w'' => e = .returned (.tuple #[.int .i64 ((leastT TX t : Nat) : Int), .int .i64 0]) ∧ Ext w' w''))
    (HLL : Hid (∀ t, leastT TX t ≤ M))
    (CU : Hid (∀ (i k : Nat) w', i < M + 1 → k < (PS.getD i []).length → Calls Tryd.prog 11 #[.string (mkS (encs (PS.getD i []))), .int .i64 (k : Int), .int .i64 ((k : Int) + 1)] w' fun e w'' => e = .returned (.tuple #[.string (mkS (encs [(PS.getD i []).getD k 0])), .int .i64 0]) ∧ Ext w' w''))
    (HPL : Hid (PS.length = M + 1)) (HDL : Hid (DX.length = M)) (HUG : Hid (ug PS DX = TX))
    (HBS : Hid (∀ (n l : Nat), n ≤ N + 1 → l < M + 1 → (encs ((wP (M + 1) TX QS ES n).getD l [])).length ≤ 50000000))
    (HBM : Hid (∀ (n l : Nat), n ≤ N → l < M + 1 → (encs ((wM (M + 1) TX QS ES n).getD l [])).length ≤ 50000000))
    (HSQ : Hid (∀ (i : Nat), (encs (QS.getD i [])).length ≤ 100000))
    (E1 : Hid (∀ (i : Nat), i < N → (ES.map Value.bool)[i]? = some (.bool (ES.getD i true))))
    (PC : Hid (∀ (i : Nat), i < M + 1 → W0.cell? ⟨bp, op + i, none⟩ = some (.string (mkS (encs (PS.getD i []))))))
    (QC : Hid (∀ (i : Nat), i < N + 1 → W0.cell? ⟨bq, oq + i, none⟩ = some (.string (mkS (encs (QS.getD i []))))))
    (PB : Hid (W0.cell? ⟨HBp, 0, none⟩ = some (.slice (some ⟨bp, op, none⟩) (M + 1) gcp) ∧ W0.cell? ⟨HBp, 1, none⟩ = some (.slice gBp M gdp)))
    (QB : Hid (W0.cell? ⟨HBq, 0, none⟩ = some (.slice (some ⟨bq, oq, none⟩) (N + 1) gcq) ∧ W0.cell? ⟨HBq, 1, none⟩ = some (.slice gBq N gdq)))
    (hlt : i < M + 1) (hwpi : T + m ≤ N) (HM : Hid ((PS.getD i []).length = m)) (HT : Hid (T = plN PS DX i))
    (HW2 : Hid ((k ≤ m → T' = T + k ∧ ws' = wP (M + 1) TX QS ES T') ∧ (k = m + 1 → T' = T + m ∧ ws' = wM (M + 1) TX QS ES T' ∧ (kp = true ∨ ¬ i < M))))
    (HS2 : Hid (St9 W0 M g K aG cG ws' (gW TX DX ES i) wr))
    (hlt2 : k = m) (hkp : kp = true) (hd9 : DX.getD i true = false) (hjM : i < M)
    (hpan : Hid (∀ x (a b : Act) (w : World), a.defers = b.defers → Qx (Exit.panic x) a w → Qx (Exit.panic x) b w)) (hend : Hid (∀ {v6 v24 v25 v26 v27 v129 v130 v131 v132 v133 v134 v135 v136 v137 v138 v139 v140 v141 v142 v143 v144 v145 v146 v147 v148 v149 v150 v151 v152 v153 v154 v155 v156 v157 v158 v159 v160 v161 v162 v163 v164 v165 v166 v167 v168 v169 v170 v171 v172 v173 v174 v175 v176 v177 v178 v179 v180 v181 v182 v183 v184 v185 v186 v187 v188 v189 v190 v191 v192 v193 v194 v195 v196 v197 v198 v199 v200 v201 v202 v203 v204 v205 v206 v207 v208 v209 v210 v211 v212 v213 v214 v215 v216 v217 v218 v219 v220 v221 v222 v223 v224 v225 v226 v227 v228 v229 v230 v231 y19 y23 : Value} {T2 : Nat} {ws2 : List (List Nat)} {w2 : World}, y19 = .int .i64 (T2 : Int) → y23 = .int .i64 ((k + 1 : Nat) : Int) →
      Hid ((k + 1 ≤ m → T2 = T + (k + 1) ∧ ws2 = wP (M + 1) TX QS ES T2) ∧ (k + 1 = m + 1 → T2 = T + m ∧ ws2 = wM (M + 1) TX QS ES T2 ∧ (kp = true ∨ ¬ i < M))) → Hid (St9 W0 M g K aG cG ws2 (gW TX DX ES i) w2) →
      P ⟨(List.toArray (c0 :: c1 :: c2 :: c3 :: c4 :: c5 :: v6 :: c7 :: (Value.slice aX nX cX) :: c9 :: c10 :: c11 :: (Value.pointer (some ⟨HBp, 0, none⟩)) :: c13 :: (Value.pointer (some ⟨HBq, 0, none⟩)) :: c15 :: c16 :: c17 :: (Value.pointer (some ⟨K, 0, none⟩)) :: y19 :: (Value.int .i64 (i : Int)) :: (Value.int .i64 (m : Int)) :: (Value.bool kp) :: y23 :: v24 :: v25 :: v26 :: v27 :: c28 :: c29 :: c30 :: c31 :: c32 :: c33 :: c34 :: c35 :: c36 :: c37 :: c38 :: c39 :: c40 :: c41 :: c42 :: c43 :: c44 :: c45 :: c46 :: c47 :: c48 :: c49 :: c50 :: c51 :: c52 :: c53 :: c54 :: c55 :: c56 :: c57 :: c58 :: c59 :: c60 :: c61 :: c62 :: c63 :: c64 :: c65 :: c66 :: c67 :: c68 :: c69 :: c70 :: c71 :: c72 :: c73 :: c74 :: c75 :: c76 :: c77 :: c78 :: c79 :: c80 :: c81 :: c82 :: c83 :: c84 :: c85 :: c86 :: c87 :: c88 :: c89 :: c90 :: c91 :: c92 :: c93 :: c94 :: c95 :: c96 :: c97 :: c98 :: c99 :: c100 :: c101 :: c102 :: c103 :: c104 :: c105 :: c106 :: c107 :: c108 :: c109 :: c110 :: c111 :: c112 :: c113 :: c114 :: c115 :: c116 :: c117 :: c118 :: c119 :: c120 :: c121 :: c122 :: c123 :: c124 :: c125 :: c126 :: c127 :: c128 :: v129 :: v130 :: v131 :: v132 :: v133 :: v134 :: v135 :: v136 :: v137 :: v138 :: v139 :: v140 :: v141 :: v142 :: v143 :: v144 :: v145 :: v146 :: v147 :: v148 :: v149 :: v150 :: v151 :: v152 :: v153 :: v154 :: v155 :: v156 :: v157 :: v158 :: v159 :: v160 :: v161 :: v162 :: v163 :: v164 :: v165 :: v166 :: v167 :: v168 :: v169 :: v170 :: v171 :: v172 :: v173 :: v174 :: v175 :: v176 :: v177 :: v178 :: v179 :: v180 :: v181 :: v182 :: v183 :: v184 :: v185 :: v186 :: v187 :: v188 :: v189 :: v190 :: v191 :: v192 :: v193 :: v194 :: v195 :: v196 :: v197 :: v198 :: v199 :: v200 :: v201 :: v202 :: v203 :: v204 :: v205 :: v206 :: v207 :: v208 :: v209 :: v210 :: v211 :: v212 :: v213 :: v214 :: v215 :: v216 :: v217 :: v218 :: v219 :: v220 :: v221 :: v222 :: v223 :: v224 :: v225 :: v226 :: v227 :: v228 :: v229 :: v230 :: v231 :: c232 :: c233 :: c234 :: c235 :: c236 :: c237 :: c238 :: c239 :: c240 :: c241 :: c242 :: c243 :: c244 :: c245 :: c246 :: c247 :: c248 :: c249 :: c250 :: c251 :: c252 :: c253 :: List.nil)), []⟩ w2)) :
    Code.wp Tryd.prog iBody9 (Exit.then P Qx) ⟨(List.toArray (c0 :: c1 :: c2 :: c3 :: c4 :: c5 :: u6 :: c7 :: (Value.slice aX nX cX) :: c9 :: c10 :: c11 :: (Value.pointer (some ⟨HBp, 0, none⟩)) :: c13 :: (Value.pointer (some ⟨HBq, 0, none⟩)) :: c15 :: c16 :: c17 :: (Value.pointer (some ⟨K, 0, none⟩)) :: (Value.int .i64 (T' : Int)) :: (Value.int .i64 (i : Int)) :: (Value.int .i64 (m : Int)) :: (Value.bool kp) :: (Value.int .i64 (k : Int)) :: u24 :: u25 :: u26 :: u27 :: c28 :: c29 :: c30 :: c31 :: c32 :: c33 :: c34 :: c35 :: c36 :: c37 :: c38 :: c39 :: c40 :: c41 :: c42 :: c43 :: c44 :: c45 :: c46 :: c47 :: c48 :: c49 :: c50 :: c51 :: c52 :: c53 :: c54 :: c55 :: c56 :: c57 :: c58 :: c59 :: c60 :: c61 :: c62 :: c63 :: c64 :: c65 :: c66 :: c67 :: c68 :: c69 :: c70 :: c71 :: c72 :: c73 :: c74 :: c75 :: c76 :: c77 :: c78 :: c79 :: c80 :: c81 :: c82 :: c83 :: c84 :: c85 :: c86 :: c87 :: c88 :: c89 :: c90 :: c91 :: c92 :: c93 :: c94 :: c95 :: c96 :: c97 :: c98 :: c99 :: c100 :: c101 :: c102 :: c103 :: c104 :: c105 :: c106 :: c107 :: c108 :: c109 :: c110 :: c111 :: c112 :: c113 :: c114 :: c115 :: c116 :: c117 :: c118 :: c119 :: c120 :: c121 :: c122 :: c123 :: c124 :: c125 :: c126 :: c127 :: c128 :: u129 :: u130 :: u131 :: u132 :: u133 :: u134 :: u135 :: u136 :: u137 :: u138 :: u139 :: u140 :: u141 :: u142 :: u143 :: u144 :: u145 :: u146 :: u147 :: u148 :: u149 :: u150 :: u151 :: u152 :: u153 :: u154 :: u155 :: u156 :: u157 :: u158 :: u159 :: u160 :: u161 :: u162 :: u163 :: u164 :: u165 :: u166 :: u167 :: u168 :: u169 :: u170 :: u171 :: u172 :: u173 :: u174 :: u175 :: u176 :: u177 :: u178 :: u179 :: u180 :: u181 :: u182 :: u183 :: u184 :: u185 :: u186 :: u187 :: u188 :: u189 :: u190 :: u191 :: u192 :: u193 :: u194 :: u195 :: u196 :: u197 :: u198 :: u199 :: u200 :: u201 :: u202 :: u203 :: u204 :: u205 :: u206 :: u207 :: u208 :: u209 :: u210 :: u211 :: u212 :: u213 :: u214 :: u215 :: u216 :: u217 :: u218 :: u219 :: u220 :: u221 :: u222 :: u223 :: u224 :: u225 :: u226 :: u227 :: u228 :: u229 :: u230 :: u231 :: c232 :: c233 :: c234 :: c235 :: c236 :: c237 :: c238 :: c239 :: c240 :: c241 :: c242 :: c243 :: c244 :: c245 :: c246 :: c247 :: c248 :: c249 :: c250 :: c251 :: c252 :: c253 :: List.nil)), []⟩ wr := by
  subst hkp
  conv => arg 2; whnf
  have i0 : (0 : Int) ≤ (i : Int) := by omega
  have i1 : (i : Int) < (M : Int) + 1 := by omega
  have HD := Lib.hid hd9
  clear hd9
  have dm : decide (i < M) = true := by rw [decide_eq_true_eq]; exact hjM
  have i2 : (i : Int) < (M : Int) := by omega
  have dk : decide (k ≤ m) = true := by rw [decide_eq_true_eq]; omega
  have dq : ((k : Int) == (m : Int)) = true := by rw [beq_iff_eq]; omega
  have dl : decide (k < m) = false := by rw [decide_eq_false_iff_not]; omega
  obtain ⟨hT', hws'⟩ := HW2.out.1 (by omega)
  have k0 : (0 : Int) ≤ (k : Int) := by omega
  have t0 : (0 : Int) ≤ (T' : Int) := by omega
  have t1 : (T' : Int) < (N : Int) + 1 := by omega
  have tN : T' ≤ N := by omega
  have dT : decide (N + 1 ≤ T') = false := by rw [decide_eq_false_iff_not]; omega
  have dT' : decide ((N : Int) + 1 ≤ (T' : Int)) = false := by rw [decide_eq_false_iff_not]; omega
  have hkb : k ≤ 1000 := by omega
  have HKM := Lib.hid hlt2
  have HT' := Lib.hid hT'; have HWS' := Lib.hid hws'
  clear hT' hws' HW2 hlt2
  have xwr := HS2.out.ext
  have p0wr := ext_cell xwr PB.out.1; have p1wr := ext_cell xwr PB.out.2
  have q0wr := ext_cell xwr QB.out.1; have q1wr := ext_cell xwr QB.out.2
  have k0wr := HS2.out.c0; have k1wr := HS2.out.c1
  have hLM := HLL.out T'
  have CLT := Lib.hid (fun w' hx hr => CL.out T' w' tN hx hr)
  have hset := wM_of (M + 1) TX QS ES T' (by omega)
  rw [← HWS'.out] at hset
  have hlen : ws'.length = M + 1 := by rw [HWS'.out, wP_len]
  have hb1 : (encs (ws'.getD (leastT TX T') [])).length ≤ 50000000 := by rw [HWS'.out]; exact HBS.out T' _ (by omega) (by omega)
  have hb2 := HSQ.out T'
  have hrow := HS2.out.rds hlen
  have c4 := ext_cell HS2.out.ext (QC.out T' (by omega))
  obtain ⟨Lt, hLt⟩ : ∃ Lt, leastT TX T' = Lt := ⟨_, rfl⟩
  rw [hLt] at hLM CLT hset hb1
  have l0 : (0 : Int) ≤ (Lt : Int) := by omega
  have l1 : (Lt : Int) < (M : Int) + 1 := by omega
  have dL0 : decide ((Lt : Int) < 0) = false := by rw [decide_eq_false_iff_not]; omega
  have dL1 : decide (M + 1 ≤ Lt) = false := by rw [decide_eq_false_iff_not]; omega
  have dL1' : decide ((M : Int) + 1 ≤ (Lt : Int)) = false := by rw [decide_eq_false_iff_not]; omega
  have s0 := HS2.out.at_ Lt (by omega)
  have hcat := cat_mk9 (ws'.getD Lt []) (QS.getD T' [])
  have hput := fun V (h : St9 W0 M g K aG cG ws' (gW TX DX ES i) V) => h.put Lt (ws'.getD Lt [] ++ QS.getD T' [])
  rw [hset] at hput
  rw [← size_mkS] at hb1 hb2
  obtain ⟨SA, hSA⟩ : ∃ SA, mkS (encs (ws'.getD Lt [])) = SA := ⟨_, rfl⟩
  obtain ⟨SB, hSB⟩ : ∃ SB, mkS (encs (QS.getD T' [])) = SB := ⟨_, rfl⟩
  obtain ⟨SC, hSC⟩ : ∃ SC, mkS (encs (ws'.getD Lt [] ++ QS.getD T' [])) = SC := ⟨_, rfl⟩
  rw [hSC] at hcat hput
  rw [hSA] at hcat hb1 s0
  rw [hSB] at hcat hb2 c4
  have HPUT := Lib.hid hput
  have hlim : ¬ 9223372036854775807 < SA.size + SB.size := by omega
  clear hset hput hSA hSB hSC hLt hrow
  go_wp2_with fail
  refine (CLT.out _ (EW.out.trans xwr) (RX.out.ext xwr)).mono ?_; rintro e w2 ⟨rfl, hx2⟩
  have HS3 := Lib.hid (HS2.out.later hx2)
  have xw2 := HS3.out.ext
  have p0w2 := ext_cell xw2 PB.out.1; have p1w2 := ext_cell xw2 PB.out.2
  have q0w2 := ext_cell xw2 QB.out.1; have q1w2 := ext_cell xw2 QB.out.2
  have k0w2 := HS3.out.c0; have k1w2 := HS3.out.c1
  have s0w2 := ext_cell hx2 s0
  have sfw2 := HS3.out.free Lt
  have c4w2 := ext_cell hx2 c4
  have hca : SA ++ SB = SC := hcat
  go_wp2_with fail
  have dr2 : Ext w2 w2.drew := (Ext.refl w2).drew
  refine region_T (fun W => W.cell? ⟨K, 0, none⟩ = some (.slice (some ⟨g, 0, none⟩) (M + 1) (M + 1)) ∧ W.cell? ⟨g, Lt, none⟩ = some (.string SA) ∧ W.cell? ⟨HBq, 0, none⟩ = some (.slice (some ⟨bq, oq, none⟩) (N + 1) gcq) ∧ W.cell? ⟨bq, oq + T', none⟩ = some (.string SB)) 15 (by kernel_rfl) (⟨ext_cell dr2 k0w2, ext_cell dr2 s0w2, ext_cell dr2 q0w2, ext_cell dr2 c4w2⟩) (fun hHeld => ?_)
  obtain ⟨Wd, hWd⟩ : ∃ x, w2.drew = x := ⟨_, rfl⟩
  rw [hWd] at hHeld dr2 ⊢
  clear hWd
  have HSd := Lib.hid (HS3.out.later dr2)
  have sfd := HSd.out.free Lt
  obtain ⟨h1, h2, h3, h4⟩ := id hHeld
  clear k0w2 k1w2 s0w2 q0w2 q1w2 c4w2 sfw2 p0w2 p1w2 xw2
  refine wpAnyT_take (i := 0) (v := ?_) rfl (by kernel_rfl) (fun cP aP wP h => hpan.out cP _ aP wP (by rfl) h) (Or.inl ⟨by rfl, ?_⟩) (by assumption) ?_
  rotate_left
  · (intro W hSw; (try dsimp only at hSw); go_simp; (try with_reducible rfl))
  try simp only [Act.put, List.setIfInBounds_toArray, List.set_cons_zero, List.set_cons_succ]
  refine wpAnyT_take (i := 1) (v := ?_) rfl (by kernel_rfl) (fun cP aP wP h => hpan.out cP _ aP wP (by rfl) h) (Or.inl ⟨by rfl, ?_⟩) (by assumption) ?_
  rotate_left
  · (intro W hSw; (try dsimp only at hSw); go_simp; (try with_reducible rfl))
  try simp only [Act.put, List.setIfInBounds_toArray, List.set_cons_zero, List.set_cons_succ]
  refine wpAnyT_take (i := 2) (v := ?_) rfl (by kernel_rfl) (fun cP aP wP h => hpan.out cP _ aP wP (by rfl) h) (Or.inl ⟨by rfl, ?_⟩) (by assumption) ?_
  rotate_left
  · (intro W hSw; (try dsimp only at hSw); go_simp; (try with_reducible rfl))
  try simp only [Act.put, List.setIfInBounds_toArray, List.set_cons_zero, List.set_cons_succ]
  refine wpAnyT_take (i := 3) (v := ?_) rfl (by kernel_rfl) (fun cP aP wP h => hpan.out cP _ aP wP (by rfl) h) (Or.inl ⟨by rfl, ?_⟩) (by assumption) ?_
  rotate_left
  · (intro W hSw; (try dsimp only at hSw); go_simp; (try with_reducible rfl))
  try simp only [Act.put, List.setIfInBounds_toArray, List.set_cons_zero, List.set_cons_succ]
  refine wpAnyT_take (i := 4) (v := ?_) rfl (by kernel_rfl) (fun cP aP wP h => hpan.out cP _ aP wP (by rfl) h) (Or.inl ⟨by rfl, ?_⟩) (by assumption) ?_
  rotate_left
  · (intro W hSw; (try dsimp only at hSw); go_simp; (try with_reducible rfl))
  try simp only [Act.put, List.setIfInBounds_toArray, List.set_cons_zero, List.set_cons_succ]
  refine wpAnyT_take (i := 5) (v := ?_) rfl (by kernel_rfl) (fun cP aP wP h => hpan.out cP _ aP wP (by rfl) h) (Or.inl ⟨by rfl, ?_⟩) (by assumption) ?_
  rotate_left
  · (intro W hSw; (try dsimp only at hSw); go_simp; (try with_reducible rfl))
  try simp only [Act.put, List.setIfInBounds_toArray, List.set_cons_zero, List.set_cons_succ]
  refine wpAnyT_take (i := 6) (v := ?_) rfl (by kernel_rfl) (fun cP aP wP h => hpan.out cP _ aP wP (by rfl) h) (Or.inl ⟨by rfl, ?_⟩) (by assumption) ?_
  rotate_left
  · (intro W hSw; (try dsimp only at hSw); go_simp; (try with_reducible rfl))
  try simp only [Act.put, List.setIfInBounds_toArray, List.set_cons_zero, List.set_cons_succ]
  refine wpAnyT_take (i := 7) (v := ?_) rfl (by kernel_rfl) (fun cP aP wP h => hpan.out cP _ aP wP (by rfl) h) (Or.inl ⟨by rfl, ?_⟩) (by assumption) ?_
  rotate_left
  · (intro W hSw; (try dsimp only at hSw); go_simp; (try with_reducible rfl))
  try simp only [Act.put, List.setIfInBounds_toArray, List.set_cons_zero, List.set_cons_succ]
  refine wpAnyT_take (i := 8) (v := ?_) rfl (by kernel_rfl) (fun cP aP wP h => hpan.out cP _ aP wP (by rfl) h) (Or.inl ⟨by rfl, ?_⟩) (by assumption) ?_
  rotate_left
  · (intro W hSw; (try dsimp only at hSw); go_simp; (try with_reducible rfl))
  try simp only [Act.put, List.setIfInBounds_toArray, List.set_cons_zero, List.set_cons_succ]
  refine wpAnyT_take (i := 9) (v := ?_) rfl (by kernel_rfl) (fun cP aP wP h => hpan.out cP _ aP wP (by rfl) h) (Or.inl ⟨by rfl, ?_⟩) (by assumption) ?_
  rotate_left
  · (intro W hSw; (try dsimp only at hSw); go_simp; (try with_reducible rfl))
  try simp only [Act.put, List.setIfInBounds_toArray, List.set_cons_zero, List.set_cons_succ]
  refine wpAnyT_take (i := 10) (v := ?_) rfl (by kernel_rfl) (fun cP aP wP h => hpan.out cP _ aP wP (by rfl) h) (Or.inl ⟨by rfl, ?_⟩) (by assumption) ?_
  rotate_left
  · (intro W hSw; (try dsimp only at hSw); go_simp; (try with_reducible rfl))
  try simp only [Act.put, List.setIfInBounds_toArray, List.set_cons_zero, List.set_cons_succ]
  refine wpAnyT_take (i := 11) (v := ?_) rfl (by kernel_rfl) (fun cP aP wP h => hpan.out cP _ aP wP (by rfl) h) (Or.inl ⟨by rfl, ?_⟩) (by assumption) ?_
  rotate_left
  · (intro W hSw; (try dsimp only at hSw); go_simp; (try with_reducible rfl))
  try simp only [Act.put, List.setIfInBounds_toArray, List.set_cons_zero, List.set_cons_succ]
  refine wpAnyT_take (i := 12) (v := ?_) rfl (by kernel_rfl) (fun cP aP wP h => hpan.out cP _ aP wP (by rfl) h) (Or.inl ⟨by rfl, ?_⟩) (by assumption) ?_
  rotate_left
  · (intro W hSw; (try dsimp only at hSw); go_simp; (try with_reducible rfl))
  try simp only [Act.put, List.setIfInBounds_toArray, List.set_cons_zero, List.set_cons_succ]
  refine wpAnyT_take (i := 13) (v := ?_) rfl (by kernel_rfl) (fun cP aP wP h => hpan.out cP _ aP wP (by rfl) h) (Or.inl ⟨by rfl, ?_⟩) (by assumption) ?_
  rotate_left
  · (intro W hSw; (try dsimp only at hSw); go_simp; (try with_reducible rfl))
  try simp only [Act.put, List.setIfInBounds_toArray, List.set_cons_zero, List.set_cons_succ]
  refine wpAnyT_take (i := 14) (v := ?_) rfl (by kernel_rfl) (fun cP aP wP h => hpan.out cP _ aP wP (by rfl) h) (Or.inl ⟨by rfl, ?_⟩) (by assumption) ?_
  rotate_left
  · (intro W hSw; (try dsimp only at hSw); go_simp; (try with_reducible rfl))
  try simp only [Act.put, List.setIfInBounds_toArray, List.set_cons_zero, List.set_cons_succ]
  refine wpAnyT_one (i := 15) rfl (by kernel_rfl) (fun KQ hKQ => ?_)
  go_simp
  refine hKQ.out _ _ (fun h => absurd rfl h) (fun _ => ?_)
  clear hKQ KQ hHeld
  try simp only [Act.put, List.setIfInBounds_toArray, List.set_cons_zero, List.set_cons_succ]
  refine wpAnyT_done (by kernel_rfl) ?_ _
  obtain ⟨w4, hw4⟩ : ∃ w4, Wd.setCell ⟨g, Lt, none⟩ (.string SC) = w4 := ⟨_, rfl⟩
  have HS4 : Hid (St9 W0 M g K aG cG (wM (M + 1) TX QS ES T') (gW TX DX ES i) w4) := Lib.hid (by rw [← hw4]; exact HPUT.out Wd HSd.out)
  rw [hw4]
  clear hw4 HPUT HS3 HSd HS2 HWS' CLT hca hcat hlim hb1 hb2 hlen s0 h1 h2 h3 h4 sfd dr2 c4 hx2 xwr p0wr p1wr q0wr q1wr k0wr k1wr l0 l1 dL0 dL1 dL1' hLM
  go_wp2_with fail
  show P _ _
  exact hend.out (T2 := T') (by go_num) (by go_num) (Lib.hid ⟨fun h => by have := HKM.out; omega, fun _ => ⟨by rw [HT'.out, HKM.out], rfl, .inl (by trivial)⟩⟩) HS4
theorem inEqC9 {w W0 wr : World} {X : List Sp} {aX : Option Addr} {nX cX M N : Nat} {TX : List Tok} {PS QS : List (List Nat)} {DX ES : List Bool} {K g : Nat} {aG : Option Addr} {cG bp op gcp : Nat} {gBp : Option Addr} {gdp bq oq gcq : Nat} {gBq : Option Addr} {gdq HBp HBq i T m k T' : Nat} {ws' : List (List Nat)} {kp : Bool} {P : Act → World → Prop} {Qx : Exit → Act → World → Prop}
    {c0 c1 c2 c3 c4 c5 c7 c9 c10 c11 c13 c15 c16 c17 c28 c29 c30 c31 c32 c33 c34 c35 c36 c37 c38 c39 c40 c41 c42 c43 c44 c45 c46 c47 c48 c49 c50 c51 c52 c53 c54 c55 c56 c57 c58 c59 c60 c61 c62 c63 c64 c65 c66 c67 c68 c69 c70 c71 c72 c73 c74 c75 c76 c77 c78 c79 c80 c81 c82 c83 c84 c85 c86 c87 c88 c89 c90 c91 c92 c93 c94 c95 c96 c97 c98 c99 c100 c101 c102 c103 c104 c105 c106 c107 c108 c109 c110 c111 c112 c113 c114 c115 c116 c117 c118 c119 c120 c121 c122 c123 c124 c125 c126 c127 c128 c232 c233 c234 c235 c236 c237 c238 c239 c240 c241 c242 c243 c244 c245 c246 c247 c248 c249 c250 c251 c252 c253 u6 u24 u25 u26 u27 u129 u130 u131 u132 u133 u134 u135 u136 u137 u138 u139 u140 u141 u142 u143 u144 u145 u146 u147 u148 u149 u150 u151 u152 u153 u154 u155 u156 u157 u158 u159 u160 u161 u162 u163 u164 u165 u166 u167 u168 u169 u170 u171 u172 u173 u174 u175 u176 u177 u178 u179 u180 u181 u182 u183 u184 u185 u186 u187 u188 u189 u190 u191 u192 u193 u194 u195 u196 u197 u198 u199 u200 u201 u202 u203 u204 u205 u206 u207 u208 u209 u210 u211 u212 u213 u214 u215 u216 u217 u218 u219 u220 u221 u222 u223 u224 u225 u226 u227 u228 u229 u230 u231 : Value}
    (hM1 : M ≤ 30) (hNb : N ≤ 400) (EW : Hid (Ext w W0)) (RX : Hid (RdO W0 aX nX cX X)) (RDq : Hid (Rd W0 1 (.slice gBq N gdq) N (ES.map Value.bool)))
    (CL : Hid (∀ (t : Nat) w', t ≤ N → Ext w w' → RdO w' aX nX cX X → Calls Tryd.prog 10 #[.slice aX nX cX, .int .i64 (t : Int)] w' fun e w'' => e = .returned (.tuple #[.int .i64 ((leastT TX t : Nat) : Int), .int .i64 0]) ∧ Ext w' w''))
    (HLL : Hid (∀ t, leastT TX t ≤ M))
    (CU : Hid (∀ (i k : Nat) w', i < M + 1 → k < (PS.getD i []).length → Calls Tryd.prog 11 #[.string (mkS (encs (PS.getD i []))), .int .i64 (k : Int), .int .i64 ((k : Int) + 1)] w' fun e w'' => e = .returned (.tuple #[.string (mkS (encs [(PS.getD i []).getD k 0])), .int .i64 0]) ∧ Ext w' w''))
    (HPL : Hid (PS.length = M + 1)) (HDL : Hid (DX.length = M)) (HUG : Hid (ug PS DX = TX))
    (HBS : Hid (∀ (n l : Nat), n ≤ N + 1 → l < M + 1 → (encs ((wP (M + 1) TX QS ES n).getD l [])).length ≤ 50000000))
    (HBM : Hid (∀ (n l : Nat), n ≤ N → l < M + 1 → (encs ((wM (M + 1) TX QS ES n).getD l [])).length ≤ 50000000))
    (HSQ : Hid (∀ (i : Nat), (encs (QS.getD i [])).length ≤ 100000))
    (E1 : Hid (∀ (i : Nat), i < N → (ES.map Value.bool)[i]? = some (.bool (ES.getD i true))))
    (PC : Hid (∀ (i : Nat), i < M + 1 → W0.cell? ⟨bp, op + i, none⟩ = some (.string (mkS (encs (PS.getD i []))))))
    (QC : Hid (∀ (i : Nat), i < N + 1 → W0.cell? ⟨bq, oq + i, none⟩ = some (.string (mkS (encs (QS.getD i []))))))
    (PB : Hid (W0.cell? ⟨HBp, 0, none⟩ = some (.slice (some ⟨bp, op, none⟩) (M + 1) gcp) ∧ W0.cell? ⟨HBp, 1, none⟩ = some (.slice gBp M gdp)))
    (QB : Hid (W0.cell? ⟨HBq, 0, none⟩ = some (.slice (some ⟨bq, oq, none⟩) (N + 1) gcq) ∧ W0.cell? ⟨HBq, 1, none⟩ = some (.slice gBq N gdq)))
    (hlt : i < M + 1) (hwpi : T + m ≤ N) (HM : Hid ((PS.getD i []).length = m)) (HT : Hid (T = plN PS DX i))
    (HW2 : Hid ((k ≤ m → T' = T + k ∧ ws' = wP (M + 1) TX QS ES T') ∧ (k = m + 1 → T' = T + m ∧ ws' = wM (M + 1) TX QS ES T' ∧ (kp = true ∨ ¬ i < M))))
    (HS2 : Hid (St9 W0 M g K aG cG ws' (gW TX DX ES i) wr))
    (hlt2 : k = m) (hkp : kp = false) (hd9 : DX.getD i true = true) (hjM : ¬ i < M)
    (hpan : Hid (∀ x (a b : Act) (w : World), a.defers = b.defers → Qx (Exit.panic x) a w → Qx (Exit.panic x) b w)) (hend : Hid (∀ {v6 v24 v25 v26 v27 v129 v130 v131 v132 v133 v134 v135 v136 v137 v138 v139 v140 v141 v142 v143 v144 v145 v146 v147 v148 v149 v150 v151 v152 v153 v154 v155 v156 v157 v158 v159 v160 v161 v162 v163 v164 v165 v166 v167 v168 v169 v170 v171 v172 v173 v174 v175 v176 v177 v178 v179 v180 v181 v182 v183 v184 v185 v186 v187 v188 v189 v190 v191 v192 v193 v194 v195 v196 v197 v198 v199 v200 v201 v202 v203 v204 v205 v206 v207 v208 v209 v210 v211 v212 v213 v214 v215 v216 v217 v218 v219 v220 v221 v222 v223 v224 v225 v226 v227 v228 v229 v230 v231 y19 y23 : Value} {T2 : Nat} {ws2 : List (List Nat)} {w2 : World}, y19 = .int .i64 (T2 : Int) → y23 = .int .i64 ((k + 1 : Nat) : Int) →
      Hid ((k + 1 ≤ m → T2 = T + (k + 1) ∧ ws2 = wP (M + 1) TX QS ES T2) ∧ (k + 1 = m + 1 → T2 = T + m ∧ ws2 = wM (M + 1) TX QS ES T2 ∧ (kp = true ∨ ¬ i < M))) → Hid (St9 W0 M g K aG cG ws2 (gW TX DX ES i) w2) →
      P ⟨(List.toArray (c0 :: c1 :: c2 :: c3 :: c4 :: c5 :: v6 :: c7 :: (Value.slice aX nX cX) :: c9 :: c10 :: c11 :: (Value.pointer (some ⟨HBp, 0, none⟩)) :: c13 :: (Value.pointer (some ⟨HBq, 0, none⟩)) :: c15 :: c16 :: c17 :: (Value.pointer (some ⟨K, 0, none⟩)) :: y19 :: (Value.int .i64 (i : Int)) :: (Value.int .i64 (m : Int)) :: (Value.bool kp) :: y23 :: v24 :: v25 :: v26 :: v27 :: c28 :: c29 :: c30 :: c31 :: c32 :: c33 :: c34 :: c35 :: c36 :: c37 :: c38 :: c39 :: c40 :: c41 :: c42 :: c43 :: c44 :: c45 :: c46 :: c47 :: c48 :: c49 :: c50 :: c51 :: c52 :: c53 :: c54 :: c55 :: c56 :: c57 :: c58 :: c59 :: c60 :: c61 :: c62 :: c63 :: c64 :: c65 :: c66 :: c67 :: c68 :: c69 :: c70 :: c71 :: c72 :: c73 :: c74 :: c75 :: c76 :: c77 :: c78 :: c79 :: c80 :: c81 :: c82 :: c83 :: c84 :: c85 :: c86 :: c87 :: c88 :: c89 :: c90 :: c91 :: c92 :: c93 :: c94 :: c95 :: c96 :: c97 :: c98 :: c99 :: c100 :: c101 :: c102 :: c103 :: c104 :: c105 :: c106 :: c107 :: c108 :: c109 :: c110 :: c111 :: c112 :: c113 :: c114 :: c115 :: c116 :: c117 :: c118 :: c119 :: c120 :: c121 :: c122 :: c123 :: c124 :: c125 :: c126 :: c127 :: c128 :: v129 :: v130 :: v131 :: v132 :: v133 :: v134 :: v135 :: v136 :: v137 :: v138 :: v139 :: v140 :: v141 :: v142 :: v143 :: v144 :: v145 :: v146 :: v147 :: v148 :: v149 :: v150 :: v151 :: v152 :: v153 :: v154 :: v155 :: v156 :: v157 :: v158 :: v159 :: v160 :: v161 :: v162 :: v163 :: v164 :: v165 :: v166 :: v167 :: v168 :: v169 :: v170 :: v171 :: v172 :: v173 :: v174 :: v175 :: v176 :: v177 :: v178 :: v179 :: v180 :: v181 :: v182 :: v183 :: v184 :: v185 :: v186 :: v187 :: v188 :: v189 :: v190 :: v191 :: v192 :: v193 :: v194 :: v195 :: v196 :: v197 :: v198 :: v199 :: v200 :: v201 :: v202 :: v203 :: v204 :: v205 :: v206 :: v207 :: v208 :: v209 :: v210 :: v211 :: v212 :: v213 :: v214 :: v215 :: v216 :: v217 :: v218 :: v219 :: v220 :: v221 :: v222 :: v223 :: v224 :: v225 :: v226 :: v227 :: v228 :: v229 :: v230 :: v231 :: c232 :: c233 :: c234 :: c235 :: c236 :: c237 :: c238 :: c239 :: c240 :: c241 :: c242 :: c243 :: c244 :: c245 :: c246 :: c247 :: c248 :: c249 :: c250 :: c251 :: c252 :: c253 :: List.nil)), []⟩ w2)) :
    Code.wp Tryd.prog iBody9 (Exit.then P Qx) ⟨(List.toArray (c0 :: c1 :: c2 :: c3 :: c4 :: c5 :: u6 :: c7 :: (Value.slice aX nX cX) :: c9 :: c10 :: c11 :: (Value.pointer (some ⟨HBp, 0, none⟩)) :: c13 :: (Value.pointer (some ⟨HBq, 0, none⟩)) :: c15 :: c16 :: c17 :: (Value.pointer (some ⟨K, 0, none⟩)) :: (Value.int .i64 (T' : Int)) :: (Value.int .i64 (i : Int)) :: (Value.int .i64 (m : Int)) :: (Value.bool kp) :: (Value.int .i64 (k : Int)) :: u24 :: u25 :: u26 :: u27 :: c28 :: c29 :: c30 :: c31 :: c32 :: c33 :: c34 :: c35 :: c36 :: c37 :: c38 :: c39 :: c40 :: c41 :: c42 :: c43 :: c44 :: c45 :: c46 :: c47 :: c48 :: c49 :: c50 :: c51 :: c52 :: c53 :: c54 :: c55 :: c56 :: c57 :: c58 :: c59 :: c60 :: c61 :: c62 :: c63 :: c64 :: c65 :: c66 :: c67 :: c68 :: c69 :: c70 :: c71 :: c72 :: c73 :: c74 :: c75 :: c76 :: c77 :: c78 :: c79 :: c80 :: c81 :: c82 :: c83 :: c84 :: c85 :: c86 :: c87 :: c88 :: c89 :: c90 :: c91 :: c92 :: c93 :: c94 :: c95 :: c96 :: c97 :: c98 :: c99 :: c100 :: c101 :: c102 :: c103 :: c104 :: c105 :: c106 :: c107 :: c108 :: c109 :: c110 :: c111 :: c112 :: c113 :: c114 :: c115 :: c116 :: c117 :: c118 :: c119 :: c120 :: c121 :: c122 :: c123 :: c124 :: c125 :: c126 :: c127 :: c128 :: u129 :: u130 :: u131 :: u132 :: u133 :: u134 :: u135 :: u136 :: u137 :: u138 :: u139 :: u140 :: u141 :: u142 :: u143 :: u144 :: u145 :: u146 :: u147 :: u148 :: u149 :: u150 :: u151 :: u152 :: u153 :: u154 :: u155 :: u156 :: u157 :: u158 :: u159 :: u160 :: u161 :: u162 :: u163 :: u164 :: u165 :: u166 :: u167 :: u168 :: u169 :: u170 :: u171 :: u172 :: u173 :: u174 :: u175 :: u176 :: u177 :: u178 :: u179 :: u180 :: u181 :: u182 :: u183 :: u184 :: u185 :: u186 :: u187 :: u188 :: u189 :: u190 :: u191 :: u192 :: u193 :: u194 :: u195 :: u196 :: u197 :: u198 :: u199 :: u200 :: u201 :: u202 :: u203 :: u204 :: u205 :: u206 :: u207 :: u208 :: u209 :: u210 :: u211 :: u212 :: u213 :: u214 :: u215 :: u216 :: u217 :: u218 :: u219 :: u220 :: u221 :: u222 :: u223 :: u224 :: u225 :: u226 :: u227 :: u228 :: u229 :: u230 :: u231 :: c232 :: c233 :: c234 :: c235 :: c236 :: c237 :: c238 :: c239 :: c240 :: c241 :: c242 :: c243 :: c244 :: c245 :: c246 :: c247 :: c248 :: c249 :: c250 :: c251 :: c252 :: c253 :: List.nil)), []⟩ wr := by
  subst hkp
  conv => arg 2; whnf
  have i0 : (0 : Int) ≤ (i : Int) := by omega
  have i1 : (i : Int) < (M : Int) + 1 := by omega
  have HD := Lib.hid hd9
  clear hd9
  have dm : decide (i < M) = false := by rw [decide_eq_false_iff_not]; exact hjM
  have dk : decide (k ≤ m) = true := by rw [decide_eq_true_eq]; omega
  have dq : ((k : Int) == (m : Int)) = true := by rw [beq_iff_eq]; omega
  have dl : decide (k < m) = false := by rw [decide_eq_false_iff_not]; omega
  obtain ⟨hT', hws'⟩ := HW2.out.1 (by omega)
  have k0 : (0 : Int) ≤ (k : Int) := by omega
  have t0 : (0 : Int) ≤ (T' : Int) := by omega
  have t1 : (T' : Int) < (N : Int) + 1 := by omega
  have tN : T' ≤ N := by omega
  have dT : decide (N + 1 ≤ T') = false := by rw [decide_eq_false_iff_not]; omega
  have dT' : decide ((N : Int) + 1 ≤ (T' : Int)) = false := by rw [decide_eq_false_iff_not]; omega
  have hkb : k ≤ 1000 := by omega
  have HKM := Lib.hid hlt2
  have HT' := Lib.hid hT'; have HWS' := Lib.hid hws'
  clear hT' hws' HW2 hlt2
  have xwr := HS2.out.ext
  have p0wr := ext_cell xwr PB.out.1; have p1wr := ext_cell xwr PB.out.2
  have q0wr := ext_cell xwr QB.out.1; have q1wr := ext_cell xwr QB.out.2
  have k0wr := HS2.out.c0; have k1wr := HS2.out.c1
  have hLM := HLL.out T'
  have CLT := Lib.hid (fun w' hx hr => CL.out T' w' tN hx hr)
  have hset := wM_of (M + 1) TX QS ES T' (by omega)
  rw [← HWS'.out] at hset
  have hlen : ws'.length = M + 1 := by rw [HWS'.out, wP_len]
  have hb1 : (encs (ws'.getD (leastT TX T') [])).length ≤ 50000000 := by rw [HWS'.out]; exact HBS.out T' _ (by omega) (by omega)
  have hb2 := HSQ.out T'
  have hrow := HS2.out.rds hlen
  have c4 := ext_cell HS2.out.ext (QC.out T' (by omega))
  obtain ⟨Lt, hLt⟩ : ∃ Lt, leastT TX T' = Lt := ⟨_, rfl⟩
  rw [hLt] at hLM CLT hset hb1
  have l0 : (0 : Int) ≤ (Lt : Int) := by omega
  have l1 : (Lt : Int) < (M : Int) + 1 := by omega
  have dL0 : decide ((Lt : Int) < 0) = false := by rw [decide_eq_false_iff_not]; omega
  have dL1 : decide (M + 1 ≤ Lt) = false := by rw [decide_eq_false_iff_not]; omega
  have dL1' : decide ((M : Int) + 1 ≤ (Lt : Int)) = false := by rw [decide_eq_false_iff_not]; omega
  have s0 := HS2.out.at_ Lt (by omega)
  have hcat := cat_mk9 (ws'.getD Lt []) (QS.getD T' [])
  have hput := fun V (h : St9 W0 M g K aG cG ws' (gW TX DX ES i) V) => h.put Lt (ws'.getD Lt [] ++ QS.getD T' [])
  rw [hset] at hput
  rw [← size_mkS] at hb1 hb2
  obtain ⟨SA, hSA⟩ : ∃ SA, mkS (encs (ws'.getD Lt [])) = SA := ⟨_, rfl⟩
  obtain ⟨SB, hSB⟩ : ∃ SB, mkS (encs (QS.getD T' [])) = SB := ⟨_, rfl⟩
  obtain ⟨SC, hSC⟩ : ∃ SC, mkS (encs (ws'.getD Lt [] ++ QS.getD T' [])) = SC := ⟨_, rfl⟩
  rw [hSC] at hcat hput
  rw [hSA] at hcat hb1 s0
  rw [hSB] at hcat hb2 c4
  have HPUT := Lib.hid hput
  have hlim : ¬ 9223372036854775807 < SA.size + SB.size := by omega
  clear hset hput hSA hSB hSC hLt hrow
  go_wp2_with fail
  refine (CLT.out _ (EW.out.trans xwr) (RX.out.ext xwr)).mono ?_; rintro e w2 ⟨rfl, hx2⟩
  have HS3 := Lib.hid (HS2.out.later hx2)
  have xw2 := HS3.out.ext
  have p0w2 := ext_cell xw2 PB.out.1; have p1w2 := ext_cell xw2 PB.out.2
  have q0w2 := ext_cell xw2 QB.out.1; have q1w2 := ext_cell xw2 QB.out.2
  have k0w2 := HS3.out.c0; have k1w2 := HS3.out.c1
  have s0w2 := ext_cell hx2 s0
  have sfw2 := HS3.out.free Lt
  have c4w2 := ext_cell hx2 c4
  have hca : SA ++ SB = SC := hcat
  go_wp2_with fail
  have dr2 : Ext w2 w2.drew := (Ext.refl w2).drew
  refine region_T (fun W => W.cell? ⟨K, 0, none⟩ = some (.slice (some ⟨g, 0, none⟩) (M + 1) (M + 1)) ∧ W.cell? ⟨g, Lt, none⟩ = some (.string SA) ∧ W.cell? ⟨HBq, 0, none⟩ = some (.slice (some ⟨bq, oq, none⟩) (N + 1) gcq) ∧ W.cell? ⟨bq, oq + T', none⟩ = some (.string SB)) 15 (by kernel_rfl) (⟨ext_cell dr2 k0w2, ext_cell dr2 s0w2, ext_cell dr2 q0w2, ext_cell dr2 c4w2⟩) (fun hHeld => ?_)
  obtain ⟨Wd, hWd⟩ : ∃ x, w2.drew = x := ⟨_, rfl⟩
  rw [hWd] at hHeld dr2 ⊢
  clear hWd
  have HSd := Lib.hid (HS3.out.later dr2)
  have sfd := HSd.out.free Lt
  obtain ⟨h1, h2, h3, h4⟩ := id hHeld
  clear k0w2 k1w2 s0w2 q0w2 q1w2 c4w2 sfw2 p0w2 p1w2 xw2
  refine wpAnyT_take (i := 0) (v := ?_) rfl (by kernel_rfl) (fun cP aP wP h => hpan.out cP _ aP wP (by rfl) h) (Or.inl ⟨by rfl, ?_⟩) (by assumption) ?_
  rotate_left
  · (intro W hSw; (try dsimp only at hSw); go_simp; (try with_reducible rfl))
  try simp only [Act.put, List.setIfInBounds_toArray, List.set_cons_zero, List.set_cons_succ]
  refine wpAnyT_take (i := 1) (v := ?_) rfl (by kernel_rfl) (fun cP aP wP h => hpan.out cP _ aP wP (by rfl) h) (Or.inl ⟨by rfl, ?_⟩) (by assumption) ?_
  rotate_left
  · (intro W hSw; (try dsimp only at hSw); go_simp; (try with_reducible rfl))
  try simp only [Act.put, List.setIfInBounds_toArray, List.set_cons_zero, List.set_cons_succ]
  refine wpAnyT_take (i := 2) (v := ?_) rfl (by kernel_rfl) (fun cP aP wP h => hpan.out cP _ aP wP (by rfl) h) (Or.inl ⟨by rfl, ?_⟩) (by assumption) ?_
  rotate_left
  · (intro W hSw; (try dsimp only at hSw); go_simp; (try with_reducible rfl))
  try simp only [Act.put, List.setIfInBounds_toArray, List.set_cons_zero, List.set_cons_succ]
  refine wpAnyT_take (i := 3) (v := ?_) rfl (by kernel_rfl) (fun cP aP wP h => hpan.out cP _ aP wP (by rfl) h) (Or.inl ⟨by rfl, ?_⟩) (by assumption) ?_
  rotate_left
  · (intro W hSw; (try dsimp only at hSw); go_simp; (try with_reducible rfl))
  try simp only [Act.put, List.setIfInBounds_toArray, List.set_cons_zero, List.set_cons_succ]
  refine wpAnyT_take (i := 4) (v := ?_) rfl (by kernel_rfl) (fun cP aP wP h => hpan.out cP _ aP wP (by rfl) h) (Or.inl ⟨by rfl, ?_⟩) (by assumption) ?_
  rotate_left
  · (intro W hSw; (try dsimp only at hSw); go_simp; (try with_reducible rfl))
  try simp only [Act.put, List.setIfInBounds_toArray, List.set_cons_zero, List.set_cons_succ]
  refine wpAnyT_take (i := 5) (v := ?_) rfl (by kernel_rfl) (fun cP aP wP h => hpan.out cP _ aP wP (by rfl) h) (Or.inl ⟨by rfl, ?_⟩) (by assumption) ?_
  rotate_left
  · (intro W hSw; (try dsimp only at hSw); go_simp; (try with_reducible rfl))
  try simp only [Act.put, List.setIfInBounds_toArray, List.set_cons_zero, List.set_cons_succ]
  refine wpAnyT_take (i := 6) (v := ?_) rfl (by kernel_rfl) (fun cP aP wP h => hpan.out cP _ aP wP (by rfl) h) (Or.inl ⟨by rfl, ?_⟩) (by assumption) ?_
  rotate_left
  · (intro W hSw; (try dsimp only at hSw); go_simp; (try with_reducible rfl))
  try simp only [Act.put, List.setIfInBounds_toArray, List.set_cons_zero, List.set_cons_succ]
  refine wpAnyT_take (i := 7) (v := ?_) rfl (by kernel_rfl) (fun cP aP wP h => hpan.out cP _ aP wP (by rfl) h) (Or.inl ⟨by rfl, ?_⟩) (by assumption) ?_
  rotate_left
  · (intro W hSw; (try dsimp only at hSw); go_simp; (try with_reducible rfl))
  try simp only [Act.put, List.setIfInBounds_toArray, List.set_cons_zero, List.set_cons_succ]
  refine wpAnyT_take (i := 8) (v := ?_) rfl (by kernel_rfl) (fun cP aP wP h => hpan.out cP _ aP wP (by rfl) h) (Or.inl ⟨by rfl, ?_⟩) (by assumption) ?_
  rotate_left
  · (intro W hSw; (try dsimp only at hSw); go_simp; (try with_reducible rfl))
  try simp only [Act.put, List.setIfInBounds_toArray, List.set_cons_zero, List.set_cons_succ]
  refine wpAnyT_take (i := 9) (v := ?_) rfl (by kernel_rfl) (fun cP aP wP h => hpan.out cP _ aP wP (by rfl) h) (Or.inl ⟨by rfl, ?_⟩) (by assumption) ?_
  rotate_left
  · (intro W hSw; (try dsimp only at hSw); go_simp; (try with_reducible rfl))
  try simp only [Act.put, List.setIfInBounds_toArray, List.set_cons_zero, List.set_cons_succ]
  refine wpAnyT_take (i := 10) (v := ?_) rfl (by kernel_rfl) (fun cP aP wP h => hpan.out cP _ aP wP (by rfl) h) (Or.inl ⟨by rfl, ?_⟩) (by assumption) ?_
  rotate_left
  · (intro W hSw; (try dsimp only at hSw); go_simp; (try with_reducible rfl))
  try simp only [Act.put, List.setIfInBounds_toArray, List.set_cons_zero, List.set_cons_succ]
  refine wpAnyT_take (i := 11) (v := ?_) rfl (by kernel_rfl) (fun cP aP wP h => hpan.out cP _ aP wP (by rfl) h) (Or.inl ⟨by rfl, ?_⟩) (by assumption) ?_
  rotate_left
  · (intro W hSw; (try dsimp only at hSw); go_simp; (try with_reducible rfl))
  try simp only [Act.put, List.setIfInBounds_toArray, List.set_cons_zero, List.set_cons_succ]
  refine wpAnyT_take (i := 12) (v := ?_) rfl (by kernel_rfl) (fun cP aP wP h => hpan.out cP _ aP wP (by rfl) h) (Or.inl ⟨by rfl, ?_⟩) (by assumption) ?_
  rotate_left
  · (intro W hSw; (try dsimp only at hSw); go_simp; (try with_reducible rfl))
  try simp only [Act.put, List.setIfInBounds_toArray, List.set_cons_zero, List.set_cons_succ]
  refine wpAnyT_take (i := 13) (v := ?_) rfl (by kernel_rfl) (fun cP aP wP h => hpan.out cP _ aP wP (by rfl) h) (Or.inl ⟨by rfl, ?_⟩) (by assumption) ?_
  rotate_left
  · (intro W hSw; (try dsimp only at hSw); go_simp; (try with_reducible rfl))
  try simp only [Act.put, List.setIfInBounds_toArray, List.set_cons_zero, List.set_cons_succ]
  refine wpAnyT_take (i := 14) (v := ?_) rfl (by kernel_rfl) (fun cP aP wP h => hpan.out cP _ aP wP (by rfl) h) (Or.inl ⟨by rfl, ?_⟩) (by assumption) ?_
  rotate_left
  · (intro W hSw; (try dsimp only at hSw); go_simp; (try with_reducible rfl))
  try simp only [Act.put, List.setIfInBounds_toArray, List.set_cons_zero, List.set_cons_succ]
  refine wpAnyT_one (i := 15) rfl (by kernel_rfl) (fun KQ hKQ => ?_)
  go_simp
  refine hKQ.out _ _ (fun h => absurd rfl h) (fun _ => ?_)
  clear hKQ KQ hHeld
  try simp only [Act.put, List.setIfInBounds_toArray, List.set_cons_zero, List.set_cons_succ]
  refine wpAnyT_done (by kernel_rfl) ?_ _
  obtain ⟨w4, hw4⟩ : ∃ w4, Wd.setCell ⟨g, Lt, none⟩ (.string SC) = w4 := ⟨_, rfl⟩
  have HS4 : Hid (St9 W0 M g K aG cG (wM (M + 1) TX QS ES T') (gW TX DX ES i) w4) := Lib.hid (by rw [← hw4]; exact HPUT.out Wd HSd.out)
  rw [hw4]
  clear hw4 HPUT HS3 HSd HS2 HWS' CLT hca hcat hlim hb1 hb2 hlen s0 h1 h2 h3 h4 sfd dr2 c4 hx2 xwr p0wr p1wr q0wr q1wr k0wr k1wr l0 l1 dL0 dL1 dL1' hLM
  go_wp2_with fail
  show P _ _
  exact hend.out (T2 := T') (by go_num) (by go_num) (Lib.hid ⟨fun h => by have := HKM.out; omega, fun _ => ⟨by rw [HT'.out, HKM.out], rfl, .inr hjM⟩⟩) HS4
end Go.Proofs.YtmfeggeinoaheaaDoor
