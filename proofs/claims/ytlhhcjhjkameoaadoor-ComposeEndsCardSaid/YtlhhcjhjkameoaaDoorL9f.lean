/- Layer 9, ComposeEnds. -/
import Derived.Test.YtlhhcjhjkameoaaDoorL9a
import Derived.Test.YtlhhcjhjkameoaaDoorL7a
namespace Go.Proofs.YtlhhcjhjkameoaaDoor
open Go.RowKit
set_option maxRecDepth 100000
set_option maxHeartbeats 4000000
theorem okW_num (k n : Int) (hk : k = 1 ∨ k = 3) (h : 0 ≤ n) : OkW (k, n, ⟨#[]⟩) := .inr ⟨hk, h, rfl⟩
theorem okW_txt (cs : List Nat) (h : ∀ c ∈ cs, IsCp c) : OkW (2, 0, mkS (encs cs)) := .inl ⟨rfl, rfl, cs, by rw [bs_mkS]; exact dec_encs h⟩
theorem tokS_txt (cs : List Nat) (h : ∀ c ∈ cs, IsCp c) : tokS (2, 0, mkS (encs cs)) = cs.map Tok.ins := tokS_text _ _ (by rw [bs_mkS]; exact dec_encs h)
def putE (M : Nat) (cs : List Nat) : List Sp := [(1, (M : Int), ⟨#[]⟩), (2, 0, mkS (encs cs))]
def dropE (n : Int) : List Sp := [(3, n, ⟨#[]⟩)]
def textE (cs : List Nat) : List Sp := [(2, 0, mkS (encs cs))]
def lastE (M : Nat) (cs : List Nat) : List Sp := [(2, 0, mkS (encs cs)), (3, (M : Int), ⟨#[]⟩)]
theorem good_of (X : List Sp) (h : ∀ s ∈ X, OkW s) (hl : X.length ≤ 2) (ht : sumT X ≤ 80) (hi : inL X ≤ 200) : Good X := ⟨h, by omega, by omega, by omega⟩
theorem ends9 (M : Nat) (hM : M ≤ 63) (cs ds : List Nat) (hc : ∀ c ∈ cs, IsCp c) (hd : ∀ c ∈ ds, IsCp c) (lc : cs.length ≤ 20) (ld : ds.length ≤ 20) :
    Good (putE M cs) ∧ Good (dropE ((M : Int) + cs.length)) ∧ Good (textE ds) ∧ Good (dropE M) ∧ Good (lastE M ds) ∧ outL (putE M cs) = inL (dropE ((M : Int) + cs.length)) ∧
    Good (compL (putE M cs) (dropE ((M : Int) + cs.length))) ∧ outL (compL (putE M cs) (dropE ((M : Int) + cs.length))) = inL (textE ds) ∧
    Good (compL (compL (putE M cs) (dropE ((M : Int) + cs.length))) (textE ds)) ∧
    compL (putE M cs) (dropE ((M : Int) + cs.length)) = normL (dropE M) ∧ compL (compL (putE M cs) (dropE ((M : Int) + cs.length))) (textE ds) = normL (lastE M ds) ∧
    inL (compL (compL (putE M cs) (dropE ((M : Int) + cs.length))) (textE ds)) = (M : Int) ∧
    apT (tok (compL (compL (putE M cs) (dropE ((M : Int) + cs.length))) (textE ds))) (List.replicate M 97) = ds ∧
    (compL (putE M cs) (dropE ((M : Int) + cs.length))).length ≤ 300 ∧ (compL (compL (putE M cs) (dropE ((M : Int) + cs.length))) (textE ds)).length ≤ 300 := by
  have e1 := encs_le cs
  have e2 := encs_le ds
  have o1 : ∀ s ∈ putE M cs, OkW s := by
    intro s hs
    rcases List.mem_cons.1 hs with rfl | hs
    · exact okW_num _ _ (.inl rfl) (by omega)
    · rw [List.mem_singleton] at hs; subst hs; exact okW_txt _ hc
  have o2 : ∀ n : Int, 0 ≤ n → ∀ s ∈ dropE n, OkW s := by
    intro n hn s hs
    unfold dropE at hs
    rw [List.mem_singleton] at hs; subst hs; exact okW_num _ _ (.inr rfl) hn
  have o3 : ∀ s ∈ textE ds, OkW s := by
    intro s hs
    unfold textE at hs
    rw [List.mem_singleton] at hs; subst hs; exact okW_txt _ hd
  have o4 : ∀ s ∈ lastE M ds, OkW s := by
    intro s hs
    rcases List.mem_cons.1 hs with rfl | hs
    · exact okW_txt _ hd
    · rw [List.mem_singleton] at hs; subst hs; exact okW_num _ _ (.inr rfl) (by omega)
  have t1 : tok (putE M cs) = List.replicate M Tok.keep ++ cs.map Tok.ins := by
    unfold putE
    rw [tok_cons, tok_cons, tok_nil, List.append_nil, tokS_num _ _ _ (by decide), if_neg (by decide), Int.toNat_natCast, tokS_txt _ hc]
  have t2 : ∀ n : Nat, tok (dropE n) = List.replicate n Tok.del := by
    intro n
    unfold dropE
    rw [tok_cons, tok_nil, List.append_nil, tokS_num _ _ _ (by decide), if_pos rfl, Int.toNat_natCast]
  have t3 : tok (textE ds) = ds.map Tok.ins := by
    unfold textE
    rw [tok_cons, tok_nil, List.append_nil, tokS_txt _ hd]
  have t4 : tok (lastE M ds) = ds.map Tok.ins ++ List.replicate M Tok.del := by
    unfold lastE
    rw [tok_cons, tok_cons, tok_nil, List.append_nil, tokS_txt _ hd, tokS_num 3 _ _ (by decide), if_pos rfl, Int.toNat_natCast]
  have z : ∀ us : List Nat, (mkS (encs us)).size = (encs us).length := fun us => size_mkS _
  have zz : (⟨#[]⟩ : ByteArray).size = 0 := rfl
  have g1 : Good (putE M cs) := good_of _ o1 (by simp [putE]) (by show (⟨#[]⟩ : ByteArray).size + ((mkS (encs cs)).size + 0) ≤ 80; rw [z, zz]; omega) (by show (M : Int) + (0 + 0) ≤ 200; omega)
  have g2 : ∀ n : Int, 0 ≤ n → n ≤ 200 → Good (dropE n) := fun n h0 h1 => good_of _ (o2 n h0) (by simp [dropE]) (by show (⟨#[]⟩ : ByteArray).size + 0 ≤ 80; rw [zz]; omega) (by show n + 0 ≤ 200; omega)
  have g3 : Good (textE ds) := good_of _ o3 (by simp [textE]) (by show (mkS (encs ds)).size + 0 ≤ 80; rw [z]; omega) (by show (0 : Int) + 0 ≤ 200; omega)
  have g4 : Good (lastE M ds) := good_of _ o4 (by simp [lastE]) (by show (mkS (encs ds)).size + ((⟨#[]⟩ : ByteArray).size + 0) ≤ 80; rw [z, zz]; omega) (by show (0 : Int) + ((M : Int) + 0) ≤ 200; omega)
  have gd := g2 ((M : Int) + cs.length) (by omega) (by omega)
  have cast : ((M : Int) + cs.length) = ((M + cs.length : Nat) : Int) := by omega
  have f1 : outL (putE M cs) = inL (dropE ((M : Int) + cs.length)) := by
    have a := g1.tout; have b := gd.tin
    rw [t1, tout_append, tout_rep, if_neg (by decide), tout_inss] at a
    rw [cast, t2, tin_rep _ (.inr rfl)] at b
    rw [cast]; omega
  obtain ⟨a1, a2, a3, a4, a5, a6, a7⟩ := good_comp g1 gd f1 (by have := g1.len; simp [putE, dropE]) (by have := g1.txt; have := gd.txt; show (⟨#[]⟩ : ByteArray).size + ((mkS (encs cs)).size + 0) + ((⟨#[]⟩ : ByteArray).size + 0) ≤ 100000; rw [z, zz]; omega)
  have c1 : compT (tok (putE M cs)) (tok (dropE ((M : Int) + cs.length))) = List.replicate M Tok.del := by
    rw [cast, t1, t2, ← List.replicate_append_replicate, comp_kd]
    have e := comp_id cs [] []
    rw [List.append_nil, List.append_nil] at e
    rw [e]
    have : compT [] [] = [] := by rw [compT]
    rw [this, List.append_nil]
  have f2 : outL (compL (putE M cs) (dropE ((M : Int) + cs.length))) = inL (textE ds) := by
    rw [a5]; rfl
  have la : (compL (putE M cs) (dropE ((M : Int) + cs.length))).length ≤ 3 := by simpa [putE, dropE] using a6
  have ta : sumT (compL (putE M cs) (dropE ((M : Int) + cs.length))) ≤ 80 := by
    refine Nat.le_trans a7 ?_
    show (⟨#[]⟩ : ByteArray).size + ((mkS (encs cs)).size + 0) + ((⟨#[]⟩ : ByteArray).size + 0) ≤ 80
    rw [z, zz]; omega
  obtain ⟨b1, b2, b3, b4, b5, b6, b7⟩ := good_comp a1 g3 f2 (by have : (textE ds).length = 1 := rfl; omega) (by show _ + ((mkS (encs ds)).size + 0) ≤ _; rw [z]; omega)
  have c2 : compT (List.replicate M Tok.del) (ds.map Tok.ins) = ds.map Tok.ins ++ List.replicate M Tok.del := by
    have e := comp_inss ds (List.replicate M Tok.del) []
    rw [List.append_nil] at e
    rw [e]
    have e2 := comp_dels M [] [] trivial
    rw [List.append_nil] at e2
    rw [e2]
    have : compT [] [] = [] := by rw [compT]
    rw [this, List.append_nil]
  have hA : compL (putE M cs) (dropE ((M : Int) + cs.length)) = normL (dropE M) := by
    unfold compL
    rw [c1, norm_tok _ (o2 _ (by omega)), t2]
  rw [a2, c1, t3] at b2
  rw [c2] at b2
  have hB : compL (compL (putE M cs) (dropE ((M : Int) + cs.length))) (textE ds) = normL (lastE M ds) := by
    have e : compL (compL (putE M cs) (dropE ((M : Int) + cs.length))) (textE ds) = spT (compT (tok (compL (putE M cs) (dropE ((M : Int) + cs.length)))) (tok (textE ds))) := rfl
    rw [e, a2, c1, t3, c2, norm_tok _ o4, t4]
  refine ⟨g1, gd, g3, g2 _ (by omega) (by omega), g4, f1, a1, f2, b1, hA, hB, ?_, ?_, by omega, by have : (textE ds).length = 1 := rfl; omega⟩
  · rw [b4, a4]; show (M : Int) + (0 + 0) = M; omega
  · rw [b2, apT_append, apT_ins, apT_del, List.append_nil]
theorem as_more (j : Nat) : mkS (encs (List.replicate (j + 1) 97)) = mkS (encs (List.replicate j 97)) ++ ⟨#[97]⟩ := by
  have e : List.replicate (j + 1) 97 = List.replicate j 97 ++ [97] := by rw [List.replicate_succ']
  rw [e, encs_append]
  have h : ∀ a b : List UInt8, mkS (a ++ b) = mkS a ++ mkS b := fun a b => bs_inj (by rw [bs_mkS]; simp [bs, mkS])
  rw [h]; rfl
theorem composeEnds_c (s t : ByteArray) (n : Int) (w : World) [Tab w] (hs : s.size ≤ maxLen) (ht : t.size ≤ maxLen) (hn : (Lit.int .u8 n).wf = true) :
    Calls Tryd.prog 8 #[.string s, .string t, .int .u8 n] w fun e w' => e = .returned (.bool true) ∧ Below w.heap.size w w' := by
  obtain ⟨n0, n1⟩ := bounds_u8 hn
  obtain ⟨M, hM, hM1⟩ : ∃ M : Nat, n % 64 = (M : Int) ∧ M ≤ 63 := ⟨(n % 64).toNat, by omega, by omega⟩
  obtain ⟨T, cs, hm1, hm2, hTl, hT0, hsz, HFIT, HCP, hcl, hUs, HD⟩ := cut_fit s 20 20 rfl (by omega) hs
  obtain ⟨T2, ds, hm12, hm22, hTl2, hT02, hsz2, HFIT2, HCP2, hcl2, hUs2, HD2⟩ := cut_fit t 20 20 rfl (by omega) ht
  obtain ⟨gP, gD, gT, gN, gL, f1, gA, f2, gB, hA, hB, iB, hap, lA, lB⟩ := ends9 M hM1 cs ds HCP.out HCP2.out hcl hcl2
  have hcn := cnt_U cs _ HD.out
  have HC : Hid (∀ w', Calls Tryd.prog 18 #[.string (mkS (encs cs))] w' fun e w'' => e = .returned (.int .i64 (cs.length : Int)) ∧ Ext w' w'') := Lib.hid fun w' => by
    have h := count_c (mkS (encs cs)) w' (by omega); rw [hcn] at h; exact h
  have F1 := Lib.hid f1; have F2 := Lib.hid f2; have KA := Lib.hid hA; have KB := Lib.hid hB; have LA := Lib.hid lA; have LB := Lib.hid lB
  have h97 : ∀ c ∈ List.replicate M 97, IsCp c := by
    intro c hc
    rw [(List.mem_replicate.1 hc).2]; decide
  have HTO : Hid (∀ A n k w', Ext w w' → RdO w' A n k (compL (compL (putE M cs) (dropE ((M : Int) + cs.length))) (textE ds)) → _) := Lib.hid fun A n k w' hx hr => @toG _ gB (List.replicate M 97) h97 (by rw [iB, List.length_replicate]) w w' _ hx A n k hr
  rw [hap] at HTO
  have hz97 : ∀ j : Nat, j ≤ 63 → (mkS (encs (List.replicate j 97))).size ≤ 300 := by
    intro j hj
    rw [size_mkS]; have := encs_le (List.replicate j 97); rw [List.length_replicate] at this; omega
  have HZ := Lib.hid hz97
  clear f1 f2 hA hB iB hap lA lB hcn h97 hz97 hn hs ht
  go_enter Tryd.func8, Tryd.ntmps8
  go_wp2_with fail
  refine (shown9_c _).mono ?_; rintro e w1 ⟨rfl, hx1⟩
  have e1 : Ext w w1 := hx1
  clear hx1
  go_wp2_with fail
  refine (HFIT.out _).mono ?_; rintro e w2 ⟨rfl, hx2⟩
  have e2 : Ext w w2 := e1.trans hx2
  clear hx2
  go_wp2_with fail
  refine (HFIT2.out _).mono ?_; rintro e w3 ⟨rfl, hx3⟩
  have e3 : Ext w w3 := e2.trans hx3
  clear hx3
  have rP : RdO (w3.alloc (.cells #[.int .i64 1, .int .i64 (M : Int), .string ⟨#[]⟩, .int .i64 2, .int .i64 0, .string (mkS (encs cs))] 54)) (some ⟨(w3).heap.size, 0, none⟩) 2 2 (putE M cs) := ⟨rfl, (Own.made w3 w3.heap.size 54 3 2 #[.int .i64 1, .int .i64 (M : Int), .string ⟨#[]⟩, .int .i64 2, .int .i64 0, .string (mkS (encs cs))] (Nat.le_refl _) (by omega) rfl).rd⟩
  have RP := Lib.hid rP
  clear rP
  have e4 : Ext w (w3.alloc (.cells #[.int .i64 1, .int .i64 (M : Int), .string ⟨#[]⟩, .int .i64 2, .int .i64 0, .string (mkS (encs cs))] 54)) := e3.alloc _
  go_wp2_with fail
  refine (HC.out _).mono ?_; rintro e w5 ⟨rfl, hx5⟩
  have e5 : Ext w w5 := e4.trans hx5
  replace RP := Lib.hid (RP.out.ext hx5)
  clear hx5
  have rD : RdO (w5.alloc (.cells #[.int .i64 3, .int .i64 ((M : Int) + (cs.length : Int)), .string ⟨#[]⟩] 54)) (some ⟨(w5).heap.size, 0, none⟩) 1 1 (dropE ((M : Int) + cs.length)) := ⟨rfl, (Own.made w5 w5.heap.size 54 3 1 #[.int .i64 3, .int .i64 ((M : Int) + (cs.length : Int)), .string ⟨#[]⟩] (Nat.le_refl _) (by omega) rfl).rd⟩
  have RD := Lib.hid rD
  clear rD
  replace RP := Lib.hid (RP.out.ext ((Ext.refl w5).alloc (.cells #[.int .i64 3, .int .i64 ((M : Int) + (cs.length : Int)), .string ⟨#[]⟩] 54)))
  have e6 : Ext w (w5.alloc (.cells #[.int .i64 3, .int .i64 ((M : Int) + (cs.length : Int)), .string ⟨#[]⟩] 54)) := e5.alloc _
  have rT : RdO ((w5.alloc (.cells #[.int .i64 3, .int .i64 ((M : Int) + (cs.length : Int)), .string ⟨#[]⟩] 54)).alloc (.cells #[.int .i64 2, .int .i64 0, .string (mkS (encs ds))] 54)) (some ⟨((w5.alloc (.cells #[.int .i64 3, .int .i64 ((M : Int) + (cs.length : Int)), .string ⟨#[]⟩] 54))).heap.size, 0, none⟩) 1 1 (textE ds) := ⟨rfl, (Own.made (w5.alloc (.cells #[.int .i64 3, .int .i64 ((M : Int) + (cs.length : Int)), .string ⟨#[]⟩] 54)) (w5.alloc (.cells #[.int .i64 3, .int .i64 ((M : Int) + (cs.length : Int)), .string ⟨#[]⟩] 54)).heap.size 54 3 1 #[.int .i64 2, .int .i64 0, .string (mkS (encs ds))] (Nat.le_refl _) (by omega) rfl).rd⟩
  rw [World.size_alloc] at rT
  have RT := Lib.hid rT
  clear rT
  replace RP := Lib.hid (RP.out.ext ((Ext.refl (w5.alloc (.cells #[.int .i64 3, .int .i64 ((M : Int) + (cs.length : Int)), .string ⟨#[]⟩] 54))).alloc (.cells #[.int .i64 2, .int .i64 0, .string (mkS (encs ds))] 54)))
  replace RD := Lib.hid (RD.out.ext ((Ext.refl (w5.alloc (.cells #[.int .i64 3, .int .i64 ((M : Int) + (cs.length : Int)), .string ⟨#[]⟩] 54))).alloc (.cells #[.int .i64 2, .int .i64 0, .string (mkS (encs ds))] 54)))
  have e7 : Ext w ((w5.alloc (.cells #[.int .i64 3, .int .i64 ((M : Int) + (cs.length : Int)), .string ⟨#[]⟩] 54)).alloc (.cells #[.int .i64 2, .int .i64 0, .string (mkS (encs ds))] 54)) := e6.alloc _
  go_wp2_with fail
  refine (compG gP gD F1.out e7 RP.out RD.out).mono ?_; rintro e w8 ⟨hx8, aA, nA, cA, rfl, rA⟩
  have e8 : Ext w w8 := e7.trans hx8
  replace RP := Lib.hid (RP.out.ext hx8)
  replace RD := Lib.hid (RD.out.ext hx8)
  replace RT := Lib.hid (RT.out.ext hx8)
  have RA := Lib.hid rA
  clear hx8 rA
  go_wp2_with fail
  refine (compG gA gT F2.out e8 RA.out RT.out).mono ?_; rintro e w9 ⟨hx9, aB, nB, cB, rfl, rB⟩
  have e9 : Ext w w9 := e8.trans hx9
  replace RP := Lib.hid (RP.out.ext hx9)
  replace RD := Lib.hid (RD.out.ext hx9)
  replace RT := Lib.hid (RT.out.ext hx9)
  replace RA := Lib.hid (RA.out.ext hx9)
  have RB := Lib.hid rB
  clear hx9 rB
  clear RP RD RT
  have rN : RdO (w9.alloc (.cells #[.int .i64 3, .int .i64 (M : Int), .string ⟨#[]⟩] 54)) (some ⟨(w9).heap.size, 0, none⟩) 1 1 (dropE M) := ⟨rfl, (Own.made w9 w9.heap.size 54 3 1 #[.int .i64 3, .int .i64 (M : Int), .string ⟨#[]⟩] (Nat.le_refl _) (by omega) rfl).rd⟩
  have RN := Lib.hid rN
  clear rN
  replace RA := Lib.hid (RA.out.ext ((Ext.refl w9).alloc (.cells #[.int .i64 3, .int .i64 (M : Int), .string ⟨#[]⟩] 54)))
  replace RB := Lib.hid (RB.out.ext ((Ext.refl w9).alloc (.cells #[.int .i64 3, .int .i64 (M : Int), .string ⟨#[]⟩] 54)))
  have e10 : Ext w (w9.alloc (.cells #[.int .i64 3, .int .i64 (M : Int), .string ⟨#[]⟩] 54)) := e9.alloc _
  go_wp2_with fail
  refine (normG gN RN.out).mono ?_; rintro e w11 ⟨hx11, aW, nW, cW, rfl, rW⟩
  have e11 : Ext w w11 := e10.trans hx11
  replace RA := Lib.hid (RA.out.ext hx11)
  replace RB := Lib.hid (RB.out.ext hx11)
  replace RN := Lib.hid (RN.out.ext hx11)
  have RW := Lib.hid rW
  clear hx11 rW
  clear RN
  have rL : RdO (w11.alloc (.cells #[.int .i64 2, .int .i64 0, .string (mkS (encs ds)), .int .i64 3, .int .i64 (M : Int), .string ⟨#[]⟩] 54)) (some ⟨(w11).heap.size, 0, none⟩) 2 2 (lastE M ds) := ⟨rfl, (Own.made w11 w11.heap.size 54 3 2 #[.int .i64 2, .int .i64 0, .string (mkS (encs ds)), .int .i64 3, .int .i64 (M : Int), .string ⟨#[]⟩] (Nat.le_refl _) (by omega) rfl).rd⟩
  have RL := Lib.hid rL
  clear rL
  replace RA := Lib.hid (RA.out.ext ((Ext.refl w11).alloc (.cells #[.int .i64 2, .int .i64 0, .string (mkS (encs ds)), .int .i64 3, .int .i64 (M : Int), .string ⟨#[]⟩] 54)))
  replace RB := Lib.hid (RB.out.ext ((Ext.refl w11).alloc (.cells #[.int .i64 2, .int .i64 0, .string (mkS (encs ds)), .int .i64 3, .int .i64 (M : Int), .string ⟨#[]⟩] 54)))
  replace RW := Lib.hid (RW.out.ext ((Ext.refl w11).alloc (.cells #[.int .i64 2, .int .i64 0, .string (mkS (encs ds)), .int .i64 3, .int .i64 (M : Int), .string ⟨#[]⟩] 54)))
  have e12 : Ext w (w11.alloc (.cells #[.int .i64 2, .int .i64 0, .string (mkS (encs ds)), .int .i64 3, .int .i64 (M : Int), .string ⟨#[]⟩] 54)) := e11.alloc _
  go_wp2_with fail
  refine (normG gL RL.out).mono ?_; rintro e w13 ⟨hx13, aZ, nZ, cZ, rfl, rZ⟩
  have e13 : Ext w w13 := e12.trans hx13
  replace RA := Lib.hid (RA.out.ext hx13)
  replace RB := Lib.hid (RB.out.ext hx13)
  replace RW := Lib.hid (RW.out.ext hx13)
  replace RL := Lib.hid (RL.out.ext hx13)
  have RZ := Lib.hid rZ
  clear hx13 rZ
  clear RL
  go_wp2_with fail
  have eb := Lib.hid e13
  go_loopw [20, 21] (fun o z wr => ∃ j : Nat, j ≤ M ∧ z = .int .i64 j ∧ o = .string (mkS (encs (List.replicate j 97))) ∧ Hid (Ext w wr) ∧ Hid (RdO wr aA nA cA (compL (putE M cs) (dropE ((M : Int) + cs.length)))) ∧ Hid (RdO wr aB nB cB (compL (compL (putE M cs) (dropE ((M : Int) + cs.length))) (textE ds))) ∧ Hid (RdO wr aW nW cW (normL (dropE M))) ∧ Hid (RdO wr aZ nZ cZ (normL (lastE M ds)))) (fun _ z _ => M - (intOf z).toNat)
  case atStart => exact ⟨0, by omega, rfl, rfl, eb, RA, RB, RW, RZ⟩
  case round =>
    clear RA RB RW RZ
    obtain ⟨j, hj, rfl, rfl, hxr, RA, RB, RW, RZ⟩ := hrel
    by_cases hlt : j < M
    · have dn : decide (j < M) = true := by rw [decide_eq_true_eq]; exact hlt
      have hz := HZ.out j (by omega)
      have hst := as_more j
      obtain ⟨S1, hS1⟩ : ∃ S1, mkS (encs (List.replicate (j + 1) 97)) = S1 := ⟨_, rfl⟩
      rw [hS1] at hst
      have HS1 := Lib.hid hS1; have HST := Lib.hid hst
      clear hS1 hst
      generalize mkS (encs (List.replicate j 97)) = S0 at *
      have hnz : ¬ 9223372036854775807 < S0.size + (⟨#[97]⟩ : ByteArray).size := by have : (⟨#[97]⟩ : ByteArray).size = 1 := rfl; omega
      go_wp2_with fail
      go_roundw
      case rel => exact ⟨j + 1, by omega, by go_num, by rw [HS1.out, HST.out], hxr, RA, RB, RW, RZ⟩
      case measure => simp [intOf]; omega
    · obtain rfl : j = M := by omega
      have dn : decide (j < j) = false := by rw [decide_eq_false_iff_not]; omega
      have exr := hxr.out
      go_wp2_with fail
      refine (HTO.out _ _ _ _ exr RB.out).mono ?_; rintro e w1 ⟨rfl, hx1⟩
      have e1 : Ext w w1 := exr.trans hx1
      replace RA := Lib.hid (RA.out.ext hx1)
      replace RB := Lib.hid (RB.out.ext hx1)
      replace RW := Lib.hid (RW.out.ext hx1)
      replace RZ := Lib.hid (RZ.out.ext hx1)
      clear hx1
      go_wp2_with fail
      refine (sameTrueG KA.out LA.out RA.out RW.out).mono ?_; rintro e w2 ⟨rfl, hx2⟩
      have e2 : Ext w w2 := e1.trans hx2
      replace RA := Lib.hid (RA.out.ext hx2)
      replace RB := Lib.hid (RB.out.ext hx2)
      replace RW := Lib.hid (RW.out.ext hx2)
      replace RZ := Lib.hid (RZ.out.ext hx2)
      clear hx2
      go_wp2_with fail
      refine (sameTrueG KB.out LB.out RB.out RZ.out).mono ?_; rintro e w3 ⟨rfl, hx3⟩
      have e3 : Ext w w3 := e2.trans hx3
      replace RA := Lib.hid (RA.out.ext hx3)
      replace RB := Lib.hid (RB.out.ext hx3)
      replace RW := Lib.hid (RW.out.ext hx3)
      replace RZ := Lib.hid (RZ.out.ext hx3)
      clear hx3
      go_wp2_with fail
      go_ret
      exact ⟨rfl, e3⟩
end Go.Proofs.YtlhhcjhjkameoaaDoor
