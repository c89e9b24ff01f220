/- Layer 11, OverApart. -/
import Derived.Laws.Rows
import Derived.Test.YtplbpddkmhmjiaaDoorL11a
import Derived.Test.YtplbpddkmhmjiaaDoorMx
import Derived.Test.YtplbpddkmhmjiaaDoorBf
import Derived.Test.YtplbpddkmhmjiaaDoorBq
namespace Go.Proofs.YtplbpddkmhmjiaaDoor
open Go.RowKit
set_option maxRecDepth 100000
set_option maxHeartbeats 20000000
/-- Some that are kept behind, or ahead. -/
def kN (n : Nat) : Sp := (1, (n : Int) + 1, ⟨#[]⟩)
theorem kN_ok (n : Nat) : OkW (kN n) := .inr ⟨.inl rfl, by show (0 : Int) ≤ (n : Int) + 1; omega, rfl⟩
theorem kN_tok (n : Nat) : tokS (kN n) = List.replicate (n + 1) Tok.keep := by
  unfold kN
  rw [tokS_num _ _ _ (by decide), if_neg (by decide), show ((n : Int) + 1).toNat = n + 1 by omega]
theorem good_snoc {X : List Sp} (gX : Good X) (n : Nat) (hl : X.length ≤ 200) (hi : inL X ≤ 10000) (hn : n ≤ 10000) : Good (X ++ [kN n]) ∧ tok (X ++ [kN n]) = tok X ++ List.replicate (n + 1) Tok.keep ∧ inL (X ++ [kN n]) = inL X + n + 1 := by
  have hok : ∀ s ∈ X ++ [kN n], OkW s := fun s hs => by
    rcases List.mem_append.1 hs with h | h
    · exact gX.ok s h
    · rw [List.mem_singleton] at h; subst h; exact kN_ok n
  have ht : tok (X ++ [kN n]) = tok X ++ List.replicate (n + 1) Tok.keep := by rw [tok_append, tok_cons, tok_nil, List.append_nil, kN_tok]
  have h1 := (tin_ok _ hok).1
  rw [ht, tin_append, tin_keeps] at h1
  have h2 := gX.tin
  have h3 := gX.txt
  have hi2 : inL (X ++ [kN n]) = inL X + n + 1 := by omega
  refine ⟨⟨hok, ?_, ?_, by omega⟩, ht, hi2⟩
  · rw [List.length_append, List.length_singleton]; omega
  · rw [sumT_append, sumT_sing]; show _ + (⟨#[]⟩ : ByteArray).size ≤ _; rw [show (⟨#[]⟩ : ByteArray).size = 0 from rfl]; omega
theorem good_kcons {X : List Sp} (gX : Good X) (n : Nat) (hl : X.length ≤ 200) (hi : inL X ≤ 10000) (hn : n ≤ 10000) : Good (kN n :: X) ∧ tok (kN n :: X) = List.replicate (n + 1) Tok.keep ++ tok X ∧ inL (kN n :: X) = inL X + n + 1 := by
  have hok : ∀ s ∈ kN n :: X, OkW s := fun s hs => by
    rcases List.mem_cons.1 hs with h | h
    · subst h; exact kN_ok n
    · exact gX.ok s h
  have ht : tok (kN n :: X) = List.replicate (n + 1) Tok.keep ++ tok X := by rw [tok_cons, kN_tok]
  have h1 := (tin_ok _ hok).1
  rw [ht, tin_append, tin_keeps] at h1
  have h2 := gX.tin
  have h3 := gX.txt
  have hi2 : inL (kN n :: X) = inL X + n + 1 := by omega
  refine ⟨⟨hok, ?_, ?_, by omega⟩, ht, hi2⟩
  · rw [List.length_cons]; omega
  · rw [sumT_cons]; show (⟨#[]⟩ : ByteArray).size + _ ≤ _; rw [show (⟨#[]⟩ : ByteArray).size = 0 from rfl]; omega
theorem apart11 {X Y : List Sp} (gX : Good X) (gY : Good Y) {i k : Nat} (hi : inL X = (i : Int)) (hk : inL Y = (k : Int)) (hi0 : i ≤ 63) (hk0 : k ≤ 63) (lX : X.length ≤ 13) (lY : Y.length ≤ 13) (oX : outL X ≤ 400) (oY : outL Y ≤ 400) :
    Good (X ++ [kN k]) ∧ Good (kN i :: Y) ∧ inL (X ++ [kN k]) = inL (kN i :: Y) ∧ Good (X ++ [kN (tout (tok Y))]) ∧ Good (kN (tout (tok X)) :: Y) ∧
    overL (X ++ [kN k]) (kN i :: Y) = normL (X ++ [kN (tout (tok Y))]) ∧ overL (kN i :: Y) (X ++ [kN k]) = normL (kN (tout (tok X)) :: Y) := by
  have h1 := gX.tin; have h2 := gY.tin; have h3 := gX.tout; have h4 := gY.tout
  obtain ⟨a1, a2, a3⟩ := good_snoc gX k (by omega) (by omega) (by omega)
  obtain ⟨b1, b2, b3⟩ := good_kcons gY i (by omega) (by omega) (by omega)
  obtain ⟨c1, c2, c3⟩ := good_snoc gX (tout (tok Y)) (by omega) (by omega) (by omega)
  obtain ⟨d1, d2, d3⟩ := good_kcons gY (tout (tok X)) (by omega) (by omega) (by omega)
  have ei : i = tin (tok X) := by omega
  have ek : k = tin (tok Y) := by omega
  refine ⟨a1, b1, by omega, c1, d1, ?_, ?_⟩
  · unfold overL
    rw [a2, b2, ei, ek, over_apart1, norm_tok _ c1.ok, c2]
  · unfold overL
    rw [a2, b2, ei, ek, over_apart2, norm_tok _ d1.ok, d2]
/-- What a row gives, counted span by span. -/
theorem out_at {X : List Sp} (gX : Good X) {j : Nat} (hj : j < X.length) : ∃ a1 a2 a3, X[j] = (a1, a2, a3) ∧ a3.size ≤ 1000000000 ∧
    ((a1 = 1 ∧ cntF (bs a3) = ((0 : Nat) : Int) ∧ ∃ D : Nat, a2 = (D : Int) ∧ tout (tok (X.take (j + 1))) = tout (tok (X.take j)) + D) ∨ (a1 ≠ 1 ∧ ∃ U : Nat, cntF (bs a3) = (U : Int) ∧ tout (tok (X.take (j + 1))) = tout (tok (X.take j)) + U)) := by
  have hst := tok_take X j hj
  have ok := gX.ok _ (List.getElem_mem hj)
  have ht := gX.size _ (List.getElem_mem hj)
  have hsd := (sides _ ok).2
  have hmn : tout (tok (X.take (j + 1))) = tout (tok (X.take j)) + tout (tokS X[j]) := by rw [hst, tout_append]
  obtain ⟨sp, hsp⟩ : ∃ sp, X[j] = sp := ⟨_, rfl⟩
  rw [hsp] at hmn ok ht hsd ⊢
  obtain ⟨a1, a2, a3⟩ := sp
  refine ⟨a1, a2, a3, rfl, ht, ?_⟩
  unfold OkW at ok
  simp only at ok hsd
  rcases ok with ⟨k1, n1, us, hu⟩ | ⟨k1, n1, t1e⟩
  · subst k1
    rw [if_neg (by decide), tokS_text _ _ hu, List.length_map] at hsd
    rw [tokS_text _ _ hu, hsd] at hmn
    exact .inr ⟨by decide, us.length, cntF_some hu, hmn⟩
  · subst t1e
    have e0 : cntF (bs ⟨#[]⟩) = ((0 : Nat) : Int) := by decide
    rcases k1 with k1 | k1
    · subst k1
      obtain ⟨D, rfl⟩ := Int.eq_ofNat_of_zero_le n1
      rw [if_neg (by decide), tokS_num _ _ _ (by decide), List.length_replicate, Int.toNat_natCast] at hsd
      refine .inl ⟨rfl, e0, D, rfl, ?_⟩
      rw [hmn, tokS_num _ _ _ (by decide), Int.toNat_natCast, hsd]
    · subst k1
      rw [if_pos rfl] at hsd
      exact .inr ⟨by decide, 0, e0, by rw [hmn, hsd]⟩
theorem tout_take_le (X : List Sp) (j : Nat) : tout (tok (X.take j)) ≤ tout (tok X) := by
  have h := List.take_append_drop j X
  have h2 : tout (tok X) = tout (tok (X.take j)) + tout (tok (X.drop j)) := by rw [← tout_append, ← tok_append, h]
  omega
theorem app_empty {W : World} {X : List Sp} {a : Option Addr} {n c : Nat} (g : Nat) (hr : RdO W a n c X) (hn : n ≤ 1000) {V : World} (hx : Ext W V) :
    ∃ v' w', (Builtin.append_ #[22, 22] 22 #[.slice (some ⟨g, 0, none⟩) 0 0, .slice a n c]).run Tryd.prog V = .ok v' w' ∧ (OwnE w' W.heap.size 49 3 v' n (spCells X) ∧ Ext V w') := by
  obtain ⟨i, hi, hz0, hz1, hz2⟩ := info_parts info_sp5
  obtain ⟨v', w', h1, h2, h3⟩ := app_erd (P := Tryd.prog) 22 22 49 i _ 3 32 Tryd.underlying22 hi hz0 hz1 hz2 rfl (by omega) (by omega)
    (Below.refl V.heap.size V) (Nat.le_refl _) (OwnE.nil V V.heap.size 49 3 g) (by omega) (hr.2.ext hx) (by omega) (spCells_one _)
  rw [Nat.zero_add, List.nil_append] at h2
  exact ⟨v', w', h1, h2.more hx.size, h3⟩
theorem step_app11 {P : Program} {Y : Nat → Option Bool} {o : Oper} {a : Act} {w : World} {K : Act → World → Prop} {Q : Exit → Act → World → Prop} {E : Prop} (hgd : o.guard = none) (s x : Operand) (t : TypeId)
    (ho : o.op = .call { callee := .builtin .append, args := #[s, x], argTypes := #[t, t] })
    (h : ∃ v' w', (Builtin.append_ #[t, t] o.type #[a.eval s, a.eval x]).run P w = .ok v' w' ∧ K (a.put o.dst v') w') :
    if Region.wanted o Y = true then Oper.wp P o a w K Q else E := by
  have hw : Region.wanted o Y = true := by simp [Region.wanted, hgd]
  rw [if_pos hw]
  obtain ⟨v', w', hrun, hp⟩ := h
  unfold Oper.wp execOp
  simp only [ho, resolve, invoke, builtin, Sem.run_bind, Sem.run_pure, Result.andThen_ok, List.map_toArray, List.map_cons, List.map_nil, hrun]
  exact hp
theorem ex_app11 {P : Program} {a : Act} {w : World} {s x : Operand} {t ty : TypeId} {K : Value → World → Prop} {v y : Value} (hs : a.eval s = v) (hx : a.eval x = y) {Post : Value → World → Prop}
    (hr : ∃ v' w', (Builtin.append_ #[t, t] ty #[v, y]).run P w = .ok v' w' ∧ Post v' w') (h : ∀ v' w', Post v' w' → K v' w') :
    ∃ v' w', (Builtin.append_ #[t, t] ty #[a.eval s, a.eval x]).run P w = .ok v' w' ∧ K v' w' := by
  rw [hs, hx]
  obtain ⟨v', w', h1, h2⟩ := hr
  exact ⟨v', w', h1, h _ _ h2⟩
theorem app_last {W V : World} {X : List Sp} {v : Value} {n K : Nat} {k m : Int} {t : ByteArray} (ho : OwnE V W.heap.size 49 3 v n (spCells X)) (hl : X.length = n) (hn : n ≤ 1000) (hx : Ext W V) (hr : Rd V 3 (.slice (some ⟨K, 0, none⟩) 1 1) 1 [.int .i64 k, .int .i64 m, .string t]) :
    ∃ v' w', (Builtin.append_ #[22, 22] 22 #[v, .slice (some ⟨K, 0, none⟩) 1 1]).run Tryd.prog V = .ok v' w' ∧ ((∃ a c, v' = .slice a (n + 1) c ∧ RdO w' a (n + 1) c (X ++ [(k, m, t)])) ∧ Ext W w') := by
  obtain ⟨i, hi, hz0, hz1, hz2⟩ := info_parts info_sp5
  obtain ⟨v', w', h1, h2, h3⟩ := app_erd (P := Tryd.prog) 22 22 49 i _ 3 32 Tryd.underlying22 hi hz0 hz1 hz2 rfl (by omega) (by omega)
    hx hx.size ho (by omega) hr (by omega) (fun u hu => by rcases List.mem_cons.1 hu with rfl | hu; rfl; rcases List.mem_cons.1 hu with rfl | hu; rfl; rw [List.mem_singleton] at hu; subst hu; rfl)
  have hrd := h2.rd
  obtain ⟨a, c, rfl, _⟩ := hrd.len
  have hc : spCells (X ++ [(k, m, t)]) = spCells X ++ [.int .i64 k, .int .i64 m, .string t] := by rw [spCells_append]; rfl
  exact ⟨_, w', h1, ⟨a, c, rfl, by rw [List.length_append, hl]; rfl, by rw [hc]; exact hrd⟩, h3⟩
theorem app_first {W V : World} {X : List Sp} {a : Option Addr} {n c : Nat} {k m : Int} {t : ByteArray} (hr : RdO W a n c X) (hn : n ≤ 1000) (hx : Ext W V) :
    ∃ v' w', (Builtin.append_ #[22, 22] 22 #[.slice (some ⟨V.heap.size, 0, none⟩) 1 1, .slice a n c]).run Tryd.prog (V.alloc (.cells #[.int .i64 k, .int .i64 m, .string t] 49)) = .ok v' w' ∧ ((∃ aR cR, v' = .slice aR (n + 1) cR ∧ RdO w' aR (n + 1) cR ((k, m, t) :: X)) ∧ Ext V w') := by
  obtain ⟨i, hi, hz0, hz1, hz2⟩ := info_parts info_sp5
  obtain ⟨v', w', h1, ⟨⟨aR, cR, h2, h3, _⟩, h4⟩⟩ := app_rest (P := Tryd.prog) (t := 22) (ty := 22) (e := 49) (a1 := k) (a2 := m) (a3 := t) Tryd.underlying22 hi hz0 hz1 hz2 rfl hr (by omega) (Own.nil W W.heap.size 49 3 (Nat.le_refl _)) (os := []) hx
  exact ⟨v', w', h1, ⟨aR, cR, h2, h3⟩, h4⟩
theorem overApart_c (A0 : Option Addr) (q0 c0 : Nat) (l0 : List Sp) (A1 : Option Addr) (q1 c1 : Nat) (l1 : List Sp) (z : List Int) (w : World) [Tab w] (h0 : Rd w 3 (.slice A0 q0 c0) q0 (spCells l0)) (hl0 : l0.length = q0) (hls0 : ∀ s ∈ l0, s.2.2.size ≤ maxLen) (h1 : Rd w 3 (.slice A1 q1 c1) q1 (spCells l1)) (hl1 : l1.length = q1) (hls1 : ∀ s ∈ l1, s.2.2.size ≤ maxLen) (hz : z.length = 2) (hw : ∀ x ∈ z, (Lit.int .u8 x).wf = true) :
    Calls Tryd.prog 10 #[.slice A0 q0 c0, .slice A1 q1 c1, .agg (z.map (Value.int .u8)).toArray] w fun e w' => e = .returned (.bool true) ∧ Below w.heap.size w w' := by
  match z, hz with
  | [z0, z1], _ =>
    obtain ⟨a0, a1⟩ := bounds_u8 (hw z0 (by simp))
    obtain ⟨b0, b1⟩ := bounds_u8 (hw z1 (by simp))
    obtain ⟨i, hi⟩ : ∃ N : Nat, z0 % 64 = (N : Int) := ⟨(z0 % 64).toNat, by omega⟩
    obtain ⟨k, hk⟩ : ∃ N : Nat, z1 % 64 = (N : Int) := ⟨(z1 % 64).toNat, by omega⟩
    have hi63 : i ≤ 63 := by omega
    have hk63 : k ≤ 63 := by omega
    have HFX : Hid (∀ w', Ext w w' → Calls Tryd.prog 13 #[.slice A0 q0 c0, .int .i64 (i : Int)] w' (TellsL w' (fitL l0 (i : Int)))) := Lib.hid fun w' hx => fitG A0 q0 c0 l0 (i : Int) h0 hl0 hls0 (by omega) (by omega) hx
    have HFY : Hid (∀ w', Ext w w' → Calls Tryd.prog 13 #[.slice A1 q1 c1, .int .i64 (k : Int)] w' (TellsL w' (fitL l1 (k : Int)))) := Lib.hid fun w' hx => fitG A1 q1 c1 l1 (k : Int) h1 hl1 hls1 (by omega) (by omega) hx
    obtain ⟨gX, iX, oX0, oX1, lX, tX⟩ := good_fit l0 (i : Int) (by omega) (by omega)
    obtain ⟨gY, iY, oY0, oY1, lY, tY⟩ := good_fit l1 (k : Int) (by omega) (by omega)
    clear h0 hl0 hls0 h1 hl1 hls1
    generalize fitL l0 (i : Int) = X at *
    generalize fitL l1 (k : Int) = Y at *
    obtain ⟨gA, gB, hab, gC, gD, heq1, heq2⟩ := apart11 gX gY iX iY hi63 hk63 lX lY (by omega) (by omega)
    have HO1 : Hid (∀ A n c B m d w', Ext w w' → RdO w' A n c (X ++ [kN k]) → RdO w' B m d (kN i :: Y) → Calls Tryd.prog 12 #[.slice A n c, .slice B m d] w' (TellsE w' (normL (X ++ [kN (tout (tok Y))])))) := Lib.hid fun A n c B m d w' hx hr hs => by
      have h := overG gA gB hab hx hr hs
      rw [heq1] at h; exact h
    have HO2 : Hid (∀ A n c B m d w', Ext w w' → RdO w' A n c (kN i :: Y) → RdO w' B m d (X ++ [kN k]) → Calls Tryd.prog 12 #[.slice A n c, .slice B m d] w' (TellsE w' (normL (kN (tout (tok X)) :: Y)))) := Lib.hid fun A n c B m d w' hx hr hs => by
      have h := overG gB gA hab.symm hx hr hs
      rw [heq2] at h; exact h
    have LC : Hid ((normL (X ++ [kN (tout (tok Y))])).length ≤ 300) := Lib.hid (by have := norm_len (X ++ [kN (tout (tok Y))]); have := gC.len; omega)
    have LD : Hid ((normL (kN (tout (tok X)) :: Y)).length ≤ 300) := Lib.hid (by have := norm_len (kN (tout (tok X)) :: Y); have := gD.len; omega)
    have HBX : Hid (∀ (w' : World), Ext (w.alloc (.cells #[.int .u8 z0, .int .u8 z1] 52)) w' → ∀ (q : Nat) (u : Value), (#[Value.int .u8 z0, Value.int .u8 z1])[q]? = some u → w'.cell? ⟨w.heap.size, q, none⟩ = some u) :=
      Lib.hid fun w' hx q u hu => box_at _ _ _ _ hx q u hu
    have LX : Hid (X.length ≤ 13) := Lib.hid lX
    have LY : Hid (Y.length ≤ 13) := Lib.hid lY
    have hoX : tout (tok X) ≤ 1000 := by have := gX.tout; omega
    have hoY : tout (tok Y) ≤ 1000 := by have := gY.tout; omega
    clear iX oX0 oX1 lX tX iY oY0 oY1 lY tY gA gB hab heq1 heq2
    go_enter Tryd.func10, Tryd.ntmps10
    go_wp2_with fail
    refine (shown11_c _).mono ?_; rintro r w1 ⟨rfl, hx1⟩
    have q0 := HBX.out w1 hx1 0 _ rfl
    have q1 := HBX.out w1 hx1 1 _ rfl
    have e1 : Ext w w1 := ((Ext.refl w).alloc _).trans hx1
    clear hx1 HBX
    go_wp2_with fail
    refine (HFX.out _ e1).mono ?_; rintro e w2 ⟨hx2, aX, nX, cX, rfl, rX⟩
    have e2 : Ext w w2 := e1.trans hx2
    have RX := Lib.hid rX
    clear hx2 rX
    clear q0 q1
    go_wp2_with fail
    refine (HFY.out _ e2).mono ?_; rintro e w3 ⟨hx3, aY, nY, cY, rfl, rY⟩
    have e3 : Ext w w3 := e2.trans hx3
    replace RX := Lib.hid (RX.out.ext hx3)
    have RY := Lib.hid rY
    clear hx3 rY
    have hqX := RX.out.1; have hqY := RY.out.1
    have hnX : nX ≤ 13 := by have := LX.out; omega
    have hnY : nY ≤ 13 := by have := LY.out; omega
    clear hqX hqY
    go_wp2_with fail
    have hb1 := (BoxG.made w3 #[.int .i64 1, .int .i64 ((k : Int) + 1), .string ⟨#[]⟩] 49).ext ((Ext.refl _).alloc (.cells #[.int .i64 1, .int .i64 ((i : Int) + 1), .string ⟨#[]⟩] 49))
    have hb2 := BoxG.made (w3.alloc (.cells #[.int .i64 1, .int .i64 ((k : Int) + 1), .string ⟨#[]⟩] 49)) #[.int .i64 1, .int .i64 ((i : Int) + 1), .string ⟨#[]⟩] 49
    rw [size_alloc] at hb2
    have e4 : Ext w ((w3.alloc (.cells #[.int .i64 1, .int .i64 ((k : Int) + 1), .string ⟨#[]⟩] 49)).alloc (.cells #[.int .i64 1, .int .i64 ((i : Int) + 1), .string ⟨#[]⟩] 49)) := (e3.alloc _).alloc _
    have rx := RX.out.ext (((Ext.refl w3).alloc (.cells #[.int .i64 1, .int .i64 ((k : Int) + 1), .string ⟨#[]⟩] 49)).alloc (.cells #[.int .i64 1, .int .i64 ((i : Int) + 1), .string ⟨#[]⟩] 49))
    have ry := RY.out.ext (((Ext.refl w3).alloc (.cells #[.int .i64 1, .int .i64 ((k : Int) + 1), .string ⟨#[]⟩] 49)).alloc (.cells #[.int .i64 1, .int .i64 ((i : Int) + 1), .string ⟨#[]⟩] 49))
    obtain ⟨KB, hKB⟩ : ∃ KB, w3.heap.size = KB := ⟨_, rfl⟩
    obtain ⟨W0, hW0⟩ : ∃ W0, (w3.alloc (.cells #[.int .i64 1, .int .i64 ((k : Int) + 1), .string ⟨#[]⟩] 49)).alloc (.cells #[.int .i64 1, .int .i64 ((i : Int) + 1), .string ⟨#[]⟩] 49) = W0 := ⟨_, rfl⟩
    rw [hW0] at hb1 hb2 e4 rx ry ⊢
    rw [hKB] at hb1 hb2 ⊢
    have RX := Lib.hid rx; have RY := Lib.hid ry; have B1 := Lib.hid hb1; have B2 := Lib.hid hb2; have EW := Lib.hid e4
    clear hb1 hb2 e4 rx ry hW0 hKB e1 e2 e3
    have k0 := B1.out.2 0 _ rfl; have k1 := B1.out.2 1 _ rfl; have k2 := B1.out.2 2 _ rfl
    have HA1 : Hid (∀ (V : World) (g : Nat), Ext W0 V → _) := Lib.hid fun V g hx => app_empty (V := V) g RX.out (by omega) hx
    have HA2 : Hid (∀ (V : World) (v : Value) (K : Nat), OwnE V W0.heap.size 49 3 v nX (spCells X) → Ext W0 V → Rd V 3 (.slice (some ⟨K, 0, none⟩) 1 1) 1 [.int .i64 1, .int .i64 ((k : Int) + 1), .string ⟨#[]⟩] → _) := Lib.hid fun V v K ho hx hr => app_last (V := V) (K := K) ho RX.out.1 (by omega) hx hr
    have hrr := Ext.refl W0
    go_cut [14] from 47 (fun p wr => ∃ aP cP, p = .slice aP (nX + 1) cP ∧ RdO wr aP (nX + 1) cP (X ++ [kN k]) ∧ Ext W0 wr)
    case first =>
      clear_value *
      as_aux_lemma =>
      have HKS : Hid (∀ V, Ext W0 V → Ext W0 V ∧ V.cell? ⟨KB, 0, none⟩ = some (.int .i64 1) ∧ V.cell? ⟨KB, 1, none⟩ = some (.int .i64 ((k : Int) + 1)) ∧ V.cell? ⟨KB, 2, none⟩ = some (.string ⟨#[]⟩)) := Lib.hid fun V hx => ⟨hx, ext_cell hx k0, ext_cell hx k1, ext_cell hx k2⟩
      go_region_held3 (fun V => Ext W0 V ∧ V.cell? ⟨KB, 0, none⟩ = some (.int .i64 1) ∧ V.cell? ⟨KB, 1, none⟩ = some (.int .i64 ((k : Int) + 1)) ∧ V.cell? ⟨KB, 2, none⟩ = some (.string ⟨#[]⟩))
        ((go_split_ands; apply HKS.out; first | exact hxw | (exact Ext.drew ‹_›) | (exact Ext.alloc ‹_› _)))
        (first
        | ((refine step_app11 (by rfl) (.tmp 47) (.tmp 48) 22 (by rfl) ?_); (refine ex_app11 (v := .slice (some ⟨_, 0, none⟩) 0 0) (y := .slice aX nX cX) (by rfl) (by rfl) (HA1.out _ _ ?_) ?_); (go_split_ands; assumption); (rintro vP wP ⟨hP, hxk⟩); (obtain ⟨aP, cP, rfl, _⟩ := hP.rd.len); (have hxw : Ext W0 wP := Ext.trans (by go_split_ands; assumption) hxk))
        | ((refine step_app11 (by rfl) (.tmp 49) (.tmp 51) 22 (by rfl) ?_); (refine ex_app11 (v := .slice aP nX cP) (y := .slice (some ⟨_, 0, none⟩) 1 1) (by rfl) (by rfl) (HA2.out _ _ _ ?_ ?_ ?_) ?_); (first | exact hP | exact hP.ext ((Ext.refl _).alloc _)); (go_split_ands; assumption); (first | exact rd_made3 rfl (Ext.refl _) | exact rd_made3 (by first | rfl | rw [size_alloc]) (Ext.trans ((Ext.refl _).drew) hxk) | exact rd_made3 (by first | rfl | rw [size_alloc]) (Ext.trans (((Ext.refl _).alloc _).drew) hxk)); (rintro vH wH ⟨⟨aH, cH, rfl, hH⟩, hxw⟩))
        | fail)
      all_goals
        go_wp2_with fail
        go_meet
        case rel => exact ⟨_, _, rfl, hH, hxw⟩
    case rest =>
      obtain ⟨aP, cP, rfl, rP, hxc⟩ := hcut
      have RP := Lib.hid rP
      have RX2 := Lib.hid (RX.out.ext hxc); have RY2 := Lib.hid (RY.out.ext hxc); have B3 := Lib.hid (B2.out.ext hxc)
      have EC := Lib.hid (EW.out.trans hxc)
      clear rP hxc hrr k0 k1 k2 HA1 HA2 RX RY B1 B2 EW
      have k0 := B3.out.2 0 _ rfl; have k1 := B3.out.2 1 _ rfl; have k2 := B3.out.2 2 _ rfl
      obtain ⟨v1, w5, hap, ⟨⟨aQ, cQ, rfl, rQ⟩, hxq⟩⟩ := app_first (k := 1) (m := (i : Int) + 1) (t := ⟨#[]⟩) RY2.out (by omega) (Ext.refl wc)
      have HAP := Lib.hid hap
      have RQ := Lib.hid rQ
      have RX := Lib.hid (RX2.out.ext hxq); have RY := Lib.hid (RY2.out.ext hxq); have RPn := Lib.hid (RP.out.ext hxq)
      have eQ := EC.out.trans hxq
      clear hap rQ hxq RX2 RY2 RP EC
      go_wp2_with (at_builtin; refine wpList_append_run rfl rfl HAP.out rfl rfl ?_)
      refine (HO1.out _ _ _ _ _ _ _ eQ RPn.out RQ.out).mono ?_; rintro e w6 ⟨hx6, aL, nL, cL, rfl, rL⟩
      have e6 : Ext w w6 := eQ.trans hx6
      replace RX := Lib.hid (RX.out.ext hx6)
      replace RY := Lib.hid (RY.out.ext hx6)
      replace RPn := Lib.hid (RPn.out.ext hx6)
      replace RQ := Lib.hid (RQ.out.ext hx6)
      have RL := Lib.hid rL
      clear hx6 rL
      go_wp2_with fail
      refine (HO2.out _ _ _ _ _ _ _ e6 RQ.out RPn.out).mono ?_; rintro e w7 ⟨hx7, aM, nM, cM, rfl, rM⟩
      have e7 : Ext w w7 := e6.trans hx7
      replace RX := Lib.hid (RX.out.ext hx7)
      replace RY := Lib.hid (RY.out.ext hx7)
      replace RPn := Lib.hid (RPn.out.ext hx7)
      replace RQ := Lib.hid (RQ.out.ext hx7)
      replace RL := Lib.hid (RL.out.ext hx7)
      have RM := Lib.hid rM
      clear hx7 rM
      clear RPn RQ
      go_wp2_with fail
      have HEu := Lib.hid e7
      have hqXu := RY.out.1
      have hq3u := gY.len
      have hq4u : nY ≤ 300 := by omega
      clear hqXu hq3u
      go_loopw [20, 21] (fun v z wr => ∃ j m : Nat, j ≤ nY ∧ z = .int .i64 j ∧ v = .int .i64 m ∧ Hid (m = tout (tok (Y.take j))) ∧ Hid (Ext w wr) ∧ Hid (RdO wr aX nX cX X) ∧ Hid (RdO wr aY nY cY Y) ∧ Hid (RdO wr aL nL cL (normL (X ++ [kN (tout (tok Y))]))) ∧ Hid (RdO wr aM nM cM (normL (kN (tout (tok X)) :: Y)))) (fun _ z _ => nY - (intOf z).toNat)
      case atStart => exact ⟨0, 0, by omega, rfl, rfl, Lib.hid rfl, HEu, RX, RY, RL, RM⟩
      case round =>
        clear RX RY RL RM HEu
        obtain ⟨j, m, hj, rfl, rfl, HM, HXR, RX, RY, RL, RM⟩ := hrel
        by_cases hlt : j < nY
        · have hjl : j < Y.length := by have := RY.out.1; omega
          obtain ⟨b, off, rfl, hb, q0, q1, q2⟩ := sp_at RY.out.2 RY.out.1 hlt
          have dn : decide (j < nY) = true := by rw [decide_eq_true_eq]; exact hlt
          have i0 : (0 : Int) ≤ (j : Int) := by omega
          have i1 : (j : Int) < (nY : Int) := by omega
          have hsm := gY.tout
          have hsm2 := gY.outb
          have hsm3 := gY.inb
          have hsm4 := gY.txt
          have htk := tout_take_le Y j
          have htk2 := tout_take_le Y (j + 1)
          obtain ⟨a1, a2, a3, hsp, ht, hk⟩ := out_at gY hjl
          rw [hsp] at q0 q1 q2
          simp only at q0 q1 q2
          clear hsp
          have hcn := fun w' => count_c a3 w' ht
          have hM := HM.out
          rcases hk with ⟨rfl, hc0, D, rfl, hmn⟩ | ⟨hk, U, hc0, hmn⟩
          · rw [hc0] at hcn
            have HC := Lib.hid hcn
            have HMN : Hid (m + D = tout (tok (Y.take (j + 1)))) := Lib.hid (by omega)
            have hul : D ≤ 300000 := by omega
            have hml : m ≤ 300000 := by omega
            clear hmn hcn hc0 hsm hsm2 hsm3 hsm4 htk htk2 hM
            go_wp2_with fail
            refine (HC.out _).mono ?_; rintro e w1 ⟨rfl, hx1⟩
            go_wp2_with fail
            go_roundw
            case rel => exact ⟨j + 1, m + D, by omega, by go_num, by go_num, HMN, Lib.hid (HXR.out.trans hx1), Lib.hid (RX.out.ext hx1), Lib.hid (RY.out.ext hx1), Lib.hid (RL.out.ext hx1), Lib.hid (RM.out.ext hx1)⟩
            case measure => simp [intOf]; omega
          · have hkk : (a1 == 1) = false := by rw [beq_eq_false_iff_ne]; exact hk
            rw [hc0] at hcn
            have HC := Lib.hid hcn
            have HMN : Hid (m + U = tout (tok (Y.take (j + 1)))) := Lib.hid (by omega)
            have hul : U ≤ 300000 := by omega
            have hml : m ≤ 300000 := by omega
            clear hmn hcn hc0 hsm hsm2 hsm3 hsm4 htk htk2 hM hk
            go_wp2_with fail
            refine (HC.out _).mono ?_; rintro e w1 ⟨rfl, hx1⟩
            go_wp2_with fail
            go_roundw
            case rel => exact ⟨j + 1, m + U, by omega, by go_num, by go_num, HMN, Lib.hid (HXR.out.trans hx1), Lib.hid (RX.out.ext hx1), Lib.hid (RY.out.ext hx1), Lib.hid (RL.out.ext hx1), Lib.hid (RM.out.ext hx1)⟩
            case measure => simp [intOf]; omega
        · obtain rfl : j = nY := by omega
          have hall : Y.take j = Y := by rw [← RY.out.1]; exact List.take_length
          have dn : decide (j < j) = false := by rw [decide_eq_false_iff_not]; omega
          have hM := HM.out
          rw [hall] at hM
          have HCu := Lib.hid hM
          clear hM hall HM
          have exru := HXR.out
          obtain ⟨nY, hnX⟩ : ∃ x, x = j := ⟨j, rfl⟩
          subst hnX
          clear hlt
          obtain ⟨my, hmy⟩ : ∃ x, x = m := ⟨m, rfl⟩
          subst hmy
          go_wp2_with fail
          have HEv := Lib.hid exru
          have hqXv := RX.out.1
          have hq3v := gX.len
          have hq4v : nX ≤ 300 := by omega
          clear hqXv hq3v
          go_loopw [22, 23] (fun v z wr => ∃ j m : Nat, j ≤ nX ∧ z = .int .i64 j ∧ v = .int .i64 m ∧ Hid (m = tout (tok (X.take j))) ∧ Hid (Ext w wr) ∧ Hid (RdO wr aX nX cX X) ∧ Hid (RdO wr aY nY cY Y) ∧ Hid (RdO wr aL nL cL (normL (X ++ [kN (tout (tok Y))]))) ∧ Hid (RdO wr aM nM cM (normL (kN (tout (tok X)) :: Y)))) (fun _ z _ => nX - (intOf z).toNat)
          case atStart => exact ⟨0, 0, by omega, rfl, rfl, Lib.hid rfl, HEv, RX, RY, RL, RM⟩
          case round =>
            clear RX RY RL RM HEv
            obtain ⟨j, m, hj, rfl, rfl, HM, HXR, RX, RY, RL, RM⟩ := hrel
            by_cases hlt : j < nX
            · have hjl : j < X.length := by have := RX.out.1; omega
              obtain ⟨b, off, rfl, hb, q0, q1, q2⟩ := sp_at RX.out.2 RX.out.1 hlt
              have dn : decide (j < nX) = true := by rw [decide_eq_true_eq]; exact hlt
              have i0 : (0 : Int) ≤ (j : Int) := by omega
              have i1 : (j : Int) < (nX : Int) := by omega
              have hsm := gX.tout
              have hsm2 := gX.outb
              have hsm3 := gX.inb
              have hsm4 := gX.txt
              have htk := tout_take_le X j
              have htk2 := tout_take_le X (j + 1)
              obtain ⟨a1, a2, a3, hsp, ht, hk⟩ := out_at gX hjl
              rw [hsp] at q0 q1 q2
              simp only at q0 q1 q2
              clear hsp
              have hcn := fun w' => count_c a3 w' ht
              have hM := HM.out
              rcases hk with ⟨rfl, hc0, D, rfl, hmn⟩ | ⟨hk, U, hc0, hmn⟩
              · rw [hc0] at hcn
                have HC := Lib.hid hcn
                have HMN : Hid (m + D = tout (tok (X.take (j + 1)))) := Lib.hid (by omega)
                have hul : D ≤ 300000 := by omega
                have hml : m ≤ 300000 := by omega
                clear hmn hcn hc0 hsm hsm2 hsm3 hsm4 htk htk2 hM
                go_wp2_with fail
                refine (HC.out _).mono ?_; rintro e w1 ⟨rfl, hx1⟩
                go_wp2_with fail
                go_roundw
                case rel => exact ⟨j + 1, m + D, by omega, by go_num, by go_num, HMN, Lib.hid (HXR.out.trans hx1), Lib.hid (RX.out.ext hx1), Lib.hid (RY.out.ext hx1), Lib.hid (RL.out.ext hx1), Lib.hid (RM.out.ext hx1)⟩
                case measure => simp [intOf]; omega
              · have hkk : (a1 == 1) = false := by rw [beq_eq_false_iff_ne]; exact hk
                rw [hc0] at hcn
                have HC := Lib.hid hcn
                have HMN : Hid (m + U = tout (tok (X.take (j + 1)))) := Lib.hid (by omega)
                have hul : U ≤ 300000 := by omega
                have hml : m ≤ 300000 := by omega
                clear hmn hcn hc0 hsm hsm2 hsm3 hsm4 htk htk2 hM hk
                go_wp2_with fail
                refine (HC.out _).mono ?_; rintro e w1 ⟨rfl, hx1⟩
                go_wp2_with fail
                go_roundw
                case rel => exact ⟨j + 1, m + U, by omega, by go_num, by go_num, HMN, Lib.hid (HXR.out.trans hx1), Lib.hid (RX.out.ext hx1), Lib.hid (RY.out.ext hx1), Lib.hid (RL.out.ext hx1), Lib.hid (RM.out.ext hx1)⟩
                case measure => simp [intOf]; omega
            · obtain rfl : j = nX := by omega
              have hall : X.take j = X := by rw [← RX.out.1]; exact List.take_length
              have dn : decide (j < j) = false := by rw [decide_eq_false_iff_not]; omega
              have hM := HM.out
              rw [hall] at hM
              have HCv := Lib.hid hM
              clear hM hall HM
              have exrv := HXR.out
              obtain ⟨nX, hnX⟩ : ∃ x, x = j := ⟨j, rfl⟩
              subst hnX
              clear hlt
              obtain ⟨mx, hmx⟩ : ∃ x, x = m := ⟨m, rfl⟩
              subst hmx
              have hy1 : my ≤ 1000 := by have := HCu.out; omega
              have hx1 : mx ≤ 1000 := by have := HCv.out; omega
              rw [← HCu.out] at gC LC RL
              rw [← HCv.out] at gD LD RM
              clear HCu HCv
              have hxa := (Ext.refl wr).alloc (.cells #[] 49)
              obtain ⟨v6, w6, hap, hP, hxk⟩ := app_empty wr.heap.size RX.out (by omega) hxa
              obtain ⟨aP, cP, rfl, _⟩ := hP.rd.len
              have HAP1 := Lib.hid hap
              have e6 := hxa.trans hxk
              have ry := RY.out.ext e6; have rl := RL.out.ext e6; have rm := RM.out.ext e6
              obtain ⟨v7, w7, hap2, ⟨⟨aC, cC, rfl, rC⟩, hxm⟩⟩ := app_last (K := w6.heap.size) (k := 1) (m := (my : Int) + 1) (t := ⟨#[]⟩) (hP.ext ((Ext.refl w6).alloc (.cells #[.int .i64 1, .int .i64 ((my : Int) + 1), .string ⟨#[]⟩] 49))) RX.out.1 (by omega) (e6.alloc _) (rd_made3 rfl (Ext.refl _))
              have HAP2 := Lib.hid hap2
              have RY2 := Lib.hid (RY.out.ext hxm); have RL2 := Lib.hid (RL.out.ext hxm); have RM2 := Lib.hid (RM.out.ext hxm)
              obtain ⟨v8, w8, hap3, ⟨⟨aD, cD, rfl, rD⟩, hxn⟩⟩ := app_first (k := 1) (m := (mx : Int) + 1) (t := ⟨#[]⟩) RY2.out (by omega) (Ext.refl w7)
              have HAP3 := Lib.hid hap3
              have RC := Lib.hid (show RdO w8 aC _ cC (X ++ [kN my]) from rC.ext hxn)
              have RD := Lib.hid (show RdO w8 aD _ cD (kN mx :: Y) from rD)
              have RL3 := Lib.hid (RL2.out.ext hxn); have RM3 := Lib.hid (RM2.out.ext hxn)
              have e8 := (exrv.trans hxm).trans hxn
              clear hap hap2 hap3 hP hxk ry rl rm rC rD hxm hxn RY2 RL2 RM2 hxa e6 RX RY RL RM
              go_wp2_with (at_builtin; first | (with_reducible refine wpList_append_run rfl rfl HAP1.out rfl rfl ?_; clear HAP1) | (with_reducible refine wpList_append_run rfl rfl HAP2.out rfl rfl ?_; clear HAP2) | (with_reducible refine wpList_append_run rfl rfl HAP3.out rfl rfl ?_; clear HAP3))
              refine (normG gC RC.out).mono ?_; rintro e w9 ⟨hx9, aE, nE, cE, rfl, rE⟩
              have e9 : Ext w w9 := e8.trans hx9
              replace RC := Lib.hid (RC.out.ext hx9)
              replace RD := Lib.hid (RD.out.ext hx9)
              replace RL3 := Lib.hid (RL3.out.ext hx9)
              replace RM3 := Lib.hid (RM3.out.ext hx9)
              have RE := Lib.hid rE
              clear hx9 rE
              go_wp2_with fail
              refine (sameTrueG rfl LC.out RL3.out RE.out).mono ?_; rintro e w10 ⟨rfl, hx10⟩
              have e10 : Ext w w10 := e9.trans hx10
              replace RC := Lib.hid (RC.out.ext hx10)
              replace RD := Lib.hid (RD.out.ext hx10)
              replace RL3 := Lib.hid (RL3.out.ext hx10)
              replace RM3 := Lib.hid (RM3.out.ext hx10)
              replace RE := Lib.hid (RE.out.ext hx10)
              clear hx10
              go_wp2_with fail
              refine (normG gD RD.out).mono ?_; rintro e w11 ⟨hx11, aF, nF, cF, rfl, rF⟩
              have e11 : Ext w w11 := e10.trans hx11
              replace RC := Lib.hid (RC.out.ext hx11)
              replace RD := Lib.hid (RD.out.ext hx11)
              replace RL3 := Lib.hid (RL3.out.ext hx11)
              replace RM3 := Lib.hid (RM3.out.ext hx11)
              replace RE := Lib.hid (RE.out.ext hx11)
              have RF := Lib.hid rF
              clear hx11 rF
              go_wp2_with fail
              refine (sameTrueG rfl LD.out RM3.out RF.out).mono ?_; rintro e w12 ⟨rfl, hx12⟩
              have e12 : Ext w w12 := e11.trans hx12
              replace RC := Lib.hid (RC.out.ext hx12)
              replace RD := Lib.hid (RD.out.ext hx12)
              replace RL3 := Lib.hid (RL3.out.ext hx12)
              replace RM3 := Lib.hid (RM3.out.ext hx12)
              replace RE := Lib.hid (RE.out.ext hx12)
              replace RF := Lib.hid (RF.out.ext hx12)
              clear hx12
              go_wp2_with fail
              go_ret
              exact ⟨rfl, e12⟩
end Go.Proofs.YtplbpddkmhmjiaaDoor
