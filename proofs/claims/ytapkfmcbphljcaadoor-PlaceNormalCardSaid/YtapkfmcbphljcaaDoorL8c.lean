/- Layer 8, PlaceNormal. -/
import Derived.Test.YtapkfmcbphljcaaDoorL8a
import Derived.Test.YtapkfmcbphljcaaDoorL4a
import Derived.Test.YtapkfmcbphljcaaDoorL5b
import Derived.Test.YtapkfmcbphljcaaDoorBs
namespace Go.Proofs.YtapkfmcbphljcaaDoor
open Go.RowKit
set_option maxRecDepth 100000
set_option maxHeartbeats 4000000
theorem whereFit_c (X : List Sp) (M : Nat) (hm : mayL X = 0) (hi : inL X = (M : Int)) (hl : X.length ≤ 1000) (hts : ∀ s ∈ X, s.2.2.size ≤ 1000000000) (hT : sumT X ≤ 1000000000) (g : Nat) (hg : g ≤ M) (A : Option Addr) (n k : Nat) (w : World) [Tab w] (hr : RdO w A n k X) :
    Calls Tryd.prog 9 #[.slice A n k, .int .i64 (g : Int)] w fun e w' => e = .returned (.tuple #[.int .i64 ((whereT (tok X) g : Nat) : Int), .int .i64 0]) ∧ Ext w w' := by
  have hM := (mayL_all hm hl).2.2
  have h := whereP_c A n k X (g : Int) w hr.2 hr.1 (by have := hr.1; omega) hts hT (by omega) (by omega)
  rw [where_ok hm (by omega) (by omega), Int.toNat_natCast] at h
  exact h
theorem whereOff_c (X : List Sp) (M : Nat) (hm : mayL X = 0) (hi : inL X = (M : Int)) (hl : X.length ≤ 1000) (hts : ∀ s ∈ X, s.2.2.size ≤ 1000000000) (hT : sumT X ≤ 1000000000) (A : Option Addr) (n k : Nat) (w : World) [Tab w] (hr : RdO w A n k X) :
    Calls Tryd.prog 9 #[.slice A n k, .int .i64 ((M : Int) + 1)] w fun e w' => e = .returned (.tuple #[.int .i64 0, .int .i64 6]) ∧ Ext w w' := by
  have hM := (mayL_all hm hl).2.2
  have h := whereP_c A n k X ((M : Int) + 1) w hr.2 hr.1 (by have := hr.1; omega) hts hT (by omega) (by omega)
  rw [where_no hm (by omega)] at h
  exact h
theorem leastFit_c (X : List Sp) (O : Nat) (hm : mayL X = 0) (ho : outL X = (O : Int)) (hl : X.length ≤ 1000) (hts : ∀ s ∈ X, s.2.2.size ≤ 1000000000) (hT : sumT X ≤ 1000000000) (hO : O ≤ 2000000000) (g : Nat) (hg : g ≤ O) (A : Option Addr) (n k : Nat) (w : World) [Tab w] (hr : RdO w A n k X) :
    Calls Tryd.prog 11 #[.slice A n k, .int .i64 (g : Int)] w fun e w' => e = .returned (.tuple #[.int .i64 ((leastT (tok X) g : Nat) : Int), .int .i64 0]) ∧ Ext w w' := by
  have h := leastP_c A n k X (g : Int) w hr.2 hr.1 (by have := hr.1; omega) hts hT (by omega) (by omega)
  rw [least_ok hm (by omega) (by omega), Int.toNat_natCast] at h
  exact h
theorem leastOff_c (X : List Sp) (O : Nat) (hm : mayL X = 0) (ho : outL X = (O : Int)) (hl : X.length ≤ 1000) (hts : ∀ s ∈ X, s.2.2.size ≤ 1000000000) (hT : sumT X ≤ 1000000000) (hO : O ≤ 2000000000) (g : Int) (hg : g = (O : Int) + 1 ∨ g = -1) (A : Option Addr) (n k : Nat) (w : World) [Tab w] (hr : RdO w A n k X) :
    Calls Tryd.prog 11 #[.slice A n k, .int .i64 g] w fun e w' => e = .returned (.tuple #[.int .i64 0, .int .i64 6]) ∧ Ext w w' := by
  have h := leastP_c A n k X g w hr.2 hr.1 (by have := hr.1; omega) hts hT (by omega) (by omega)
  rw [least_no hm (by omega)] at h
  exact h
theorem keep8 (n : Int) (h0 : 0 ≤ n) (h1 : n ≤ 1048576) : mayL (keepL n) = 0 ∧ inL (keepL n) = n ∧ tok (keepL n) = List.replicate n.toNat Tok.keep ∧ (keepL n).length ≤ 1 ∧ (∀ s ∈ keepL n, s.2.2.size ≤ 1000000000) ∧ sumT (keepL n) ≤ 1000000000 := by
  by_cases h : n = 0
  · subst h
    exact ⟨by decide +kernel, rfl, rfl, by decide, fun s hs => (by cases hs), by decide⟩
  · have e : keepL n = [(1, n, ⟨#[]⟩)] := by unfold keepL; rw [if_neg h]
    have hm : ∀ s ∈ [((1 : Int), n, (⟨#[]⟩ : ByteArray))], mayS s.1 s.2.1 s.2.2 = 0 := by
      intro s hs
      rw [List.mem_singleton] at hs
      subst hs
      unfold mayS; rw [if_pos (by simp), if_neg (by simp only; omega)]; rfl
    have hi : inL [((1 : Int), n, (⟨#[]⟩ : ByteArray))] = n := by
      rw [inL_cons]
      show n + 0 = n
      omega
    have e0 : (⟨#[]⟩ : ByteArray).size = 0 := rfl
    rw [e]
    refine ⟨mayL_ok _ hm (by omega) (by omega), hi, ?_, by simp, ?_, ?_⟩
    · rw [tok_cons, tok_nil, tokS_num _ _ _ (by decide), List.append_nil]; rfl
    · intro s hs
      rw [List.mem_singleton] at hs
      subst hs
      simp only [e0]; omega
    · show 0 + 0 ≤ _
      omega
theorem whereT_keep (M g : Nat) (h : g ≤ M) : whereT (List.replicate M Tok.keep) g = g := by
  have e := whereT_keeps M [] g
  rw [List.append_nil] at e
  rw [e]
  by_cases h1 : g < M
  · rw [if_pos h1]
  · rw [if_neg h1]; show M + 0 = g; omega
theorem leastT_keep (M g : Nat) (h : g ≤ M) : leastT (List.replicate M Tok.keep) g = g := by
  have e := leastT_keeps M [] g
  rw [List.append_nil] at e
  rw [e]
  by_cases h1 : g < M
  · rw [if_pos h1]
  · have e2 : g = M := by omega
    rw [if_neg h1, if_pos e2]; show M + 0 = g; omega
theorem placeNormal_c (A : Option Addr) (q c : Nat) (l : List Sp) (n gap : Int) (w : World) [Tab w] (h : Rd w 3 (.slice A q c) q (spCells l)) (hl : l.length = q) (hls : ∀ s ∈ l, s.2.2.size ≤ maxLen) (hn : (Lit.int .u8 n).wf = true) (hg : (Lit.int .u8 gap).wf = true) :
    Calls Tryd.prog 6 #[.slice A q c, .int .u8 n, .int .u8 gap] w fun e w' => e = .returned (.bool true) ∧ Below w.heap.size w w' := by
  obtain ⟨n0, n1⟩ := bounds_u8 hn
  obtain ⟨p0, p1⟩ := bounds_u8 hg
  obtain ⟨M, hM, hM1⟩ : ∃ M : Nat, n % 64 = (M : Int) ∧ M ≤ 63 := ⟨(n % 64).toNat, by omega, by omega⟩
  have HFL : Hid (∀ w', Ext w w' → _) := Lib.hid fun w' hx => fitR4_c A q c l M w' (h.ext hx) hl hls (by omega) (by omega)
  obtain ⟨f1, f2, f3, f4, f5, f6, f7⟩ := fit_all l M (by omega) (by omega)
  have fm := fitL_may l (M : Int) (by omega) (by omega)
  obtain ⟨fo0, fo1⟩ := fit_out l (M : Int) (by omega) (by omega)
  have fa := (fitL_all l (M : Int) (by omega) (by omega)).1
  have fs := (may_sum _ fa).2
  have fs2 : sumN (fitL l M) = inL (fitL l M) := fs
  generalize fitL l M = X at *
  obtain ⟨O, hO⟩ := Int.eq_ofNat_of_zero_le fo0
  have hwo : wrap64 (outL X) = (O : Int) := by unfold wrap64; omega
  have hnl := norm_len X
  have hYm : mayL (normL X) = 0 := mayL_ok _ (norm_may X fa (by omega)) (by rw [inL_norm]; omega) (by rw [inL_norm]; omega)
  have hYi : inL (normL X) = (M : Int) := by rw [inL_norm]; exact f2
  have hYo : outL (normL X) = (O : Int) := by rw [outL_norm X fa (by omega)]; exact hO
  have hYt : tok (normL X) = tok X := tok_norm X f1
  have hYT : sumT (normL X) ≤ 1000000000 := by rw [sumT_norm]; exact f7
  have hYs : ∀ s ∈ normL X, s.2.2.size ≤ 1000000000 := fun s hs => Nat.le_trans (le_sumT _ s hs) hYT
  obtain ⟨g, hgd, hgM⟩ : ∃ g : Nat, gap % ((M : Int) + 1) = (g : Int) ∧ g ≤ M := ⟨(gap % ((M : Int) + 1)).toNat, by have := Int.emod_nonneg gap (show ((M : Int) + 1) ≠ 0 by omega); omega, by have := Int.emod_lt_of_pos gap (show 0 < ((M : Int) + 1) by omega); omega⟩
  obtain ⟨k, hkd, hkO⟩ : ∃ k : Nat, gap % ((O : Int) + 1) = (k : Int) ∧ k ≤ O := ⟨(gap % ((O : Int) + 1)).toNat, by have := Int.emod_nonneg gap (show ((O : Int) + 1) ≠ 0 by omega); omega, by have := Int.emod_lt_of_pos gap (show 0 < ((O : Int) + 1) by omega); omega⟩
  have HWX : Hid (∀ A n k w', Ext w w' → RdO w' A n k X → _) := Lib.hid fun A n k w' hx hr => have hTb := tab_ext hx; whereFit_c X M fm f2 (by omega) f6 f7 g hgM A n k w' hr
  have HWY : Hid (∀ A n k w', Ext w w' → RdO w' A n k (normL X) → _) := Lib.hid fun A n k w' hx hr => have hTb := tab_ext hx; whereFit_c (normL X) M hYm hYi (by omega) hYs hYT g hgM A n k w' hr
  have HLX : Hid (∀ A n k' w', Ext w w' → RdO w' A n k' X → _) := Lib.hid fun A n k' w' hx hr => have hTb := tab_ext hx; leastFit_c X O fm hO (by omega) f6 f7 (by omega) k hkO A n k' w' hr
  have HLY : Hid (∀ A n k' w', Ext w w' → RdO w' A n k' (normL X) → _) := Lib.hid fun A n k' w' hx hr => have hTb := tab_ext hx; leastFit_c (normL X) O hYm hYo (by omega) hYs hYT (by omega) k hkO A n k' w' hr
  rw [hYt] at HWY HLY
  have HOX : Hid (∀ A n k w', Ext w w' → RdO w' A n k X → Calls Tryd.prog 16 #[.slice A n k] w' fun e w'' => e = .returned (.int .i64 (O : Int)) ∧ Ext w' w'') := Lib.hid fun A n k w' hx hr => by
    have hTb := tab_ext hx
    have h := out4_c A n k X w' hr.2 hr.1 (by have := hr.1; omega) f6
    rw [hwo] at h; exact h
  have HNO : Hid (∀ A n k w', RdO w' A n k X → Calls Tryd.prog 18 #[.slice A n k] w' fun e w'' => (∃ A n c, e = .returned (.slice A n c) ∧ RdO w'' A n c (normL X)) ∧ Ext w' w'') := Lib.hid fun A n k w' hr => by
    refine (of5_c A n k X w' hr.2 hr.1 (by have := hr.1; omega) f4).mono ?_
    rintro e w'' ⟨v, rfl, hx, ho⟩
    obtain ⟨A, n, c, rfl, hro⟩ := rdO_own ho
    exact ⟨⟨A, n, c, rfl, hro⟩, hx⟩
  have HKO : Hid (∀ w', Calls Tryd.prog 19 #[.int .i64 (M : Int)] w' fun e w'' => (∃ A n c, e = .returned (.tuple #[.slice A n c, .int .i64 0]) ∧ RdO w'' A n c (keepL M)) ∧ Ext w' w'') := Lib.hid fun w' => by
    refine (keep_ok (M : Int) (by omega) (by omega) w').mono ?_
    rintro e w'' ⟨A, c, rfl, hx, hr⟩
    exact ⟨⟨A, _, c, rfl, rfl, hr⟩, hx⟩
  obtain ⟨k1, k2, k3, k4, k5, k6⟩ := keep8 (M : Int) (by omega) (by omega)
  rw [Int.toNat_natCast] at k3
  have ko : outL (keepL M) = (M : Int) := by
    have h1 := (tin_ok (keepL M) fun s hs => okW_of_may ((mayL_all k1 (by omega)).1 s hs)).2
    rw [k3] at h1
    have h2 := whereT_last (List.replicate M Tok.keep) M (by rw [tin_rep _ (.inl rfl)]; exact Nat.le_refl _)
    rw [whereT_keep M M (Nat.le_refl _)] at h2
    omega
  have HWK : Hid (∀ A n k w', Ext w w' → RdO w' A n k (keepL M) → Calls Tryd.prog 9 #[.slice A n k, .int .i64 (g : Int)] w' fun e w'' => e = .returned (.tuple #[.int .i64 (g : Int), .int .i64 0]) ∧ Ext w' w'') := Lib.hid fun A n k w' hx hr => by
    have hTb := tab_ext hx
    have h := whereFit_c (keepL M) M k1 k2 (by omega) k5 k6 g hgM A n k w' hr
    rw [k3, whereT_keep M g hgM] at h; exact h
  have HLK : Hid (∀ A n k w', Ext w w' → RdO w' A n k (keepL M) → Calls Tryd.prog 11 #[.slice A n k, .int .i64 (g : Int)] w' fun e w'' => e = .returned (.tuple #[.int .i64 (g : Int), .int .i64 0]) ∧ Ext w' w'') := Lib.hid fun A n k w' hx hr => by
    have hTb := tab_ext hx
    have h := leastFit_c (keepL M) M k1 ko (by omega) k5 k6 (by omega) g hgM A n k w' hr
    rw [k3, leastT_keep M g hgM] at h; exact h
  have hOb : O ≤ 400 := by omega
  clear h hl hls hn hg f1 f2 f3 f4 f5 f6 f7 fm fo0 fo1 fa fs fs2 hO hwo hnl hYm hYi hYo hYt hYT hYs k1 k2 k3 k4 k5 k6 ko
  generalize whereT (tok X) g = R1 at *
  generalize leastT (tok X) k = R2 at *
  generalize normL X = Y at *
  generalize keepL (M : Int) = KL at *
  go_enter Tryd.func6, Tryd.ntmps6
  go_wp2_with fail
  refine (shown8_c _).mono ?_; rintro e w1 ⟨rfl, hx1⟩
  have e1 : Ext w w1 := hx1
  clear hx1
  go_wp2_with fail
  refine (HFL.out _ e1).mono ?_; rintro e w2 ⟨v2, rfl, hx2, o2⟩
  have e2 : Ext w w2 := e1.trans hx2
  obtain ⟨aX, nX, cX, rfl, rX⟩ := rdO_own o2
  have RX := Lib.hid rX
  clear o2 rX
  clear hx2
  go_wp2_with fail
  refine (HWX.out _ _ _ _ e2 RX.out).mono ?_; rintro e w3 ⟨rfl, hx3⟩
  have e3 : Ext w w3 := e2.trans hx3
  replace RX := Lib.hid (RX.out.ext hx3)
  clear hx3
  go_wp2_with fail
  refine (HNO.out _ _ _ _ RX.out).mono ?_; rintro e w4 ⟨⟨aN, nN, cN, rfl, rN⟩, hx4⟩
  have e4 : Ext w w4 := e3.trans hx4
  replace RX := Lib.hid (RX.out.ext hx4)
  have RN := Lib.hid rN
  clear rN
  clear hx4
  go_wp2_with fail
  refine (HWY.out _ _ _ _ e4 RN.out).mono ?_; rintro e w5 ⟨rfl, hx5⟩
  have e5 : Ext w w5 := e4.trans hx5
  replace RX := Lib.hid (RX.out.ext hx5)
  replace RN := Lib.hid (RN.out.ext hx5)
  clear hx5
  clear RN
  go_wp2_with fail
  refine (HOX.out _ _ _ _ e5 RX.out).mono ?_; rintro e w6 ⟨rfl, hx6⟩
  have e6 : Ext w w6 := e5.trans hx6
  replace RX := Lib.hid (RX.out.ext hx6)
  clear hx6
  go_wp2_with fail
  refine (HLX.out _ _ _ _ e6 RX.out).mono ?_; rintro e w7 ⟨rfl, hx7⟩
  have e7 : Ext w w7 := e6.trans hx7
  replace RX := Lib.hid (RX.out.ext hx7)
  clear hx7
  go_wp2_with fail
  refine (HNO.out _ _ _ _ RX.out).mono ?_; rintro e w8 ⟨⟨aK, nK, cK, rfl, rK⟩, hx8⟩
  have e8 : Ext w w8 := e7.trans hx8
  replace RX := Lib.hid (RX.out.ext hx8)
  have RK := Lib.hid rK
  clear rK
  clear hx8
  go_wp2_with fail
  refine (HLY.out _ _ _ _ e8 RK.out).mono ?_; rintro e w9 ⟨rfl, hx9⟩
  have e9 : Ext w w9 := e8.trans hx9
  replace RX := Lib.hid (RX.out.ext hx9)
  replace RK := Lib.hid (RK.out.ext hx9)
  clear hx9
  clear RK
  go_wp2_with fail
  refine (HKO.out _).mono ?_; rintro e w10 ⟨⟨aE, nE, cE, rfl, rE⟩, hx10⟩
  have e10 : Ext w w10 := e9.trans hx10
  replace RX := Lib.hid (RX.out.ext hx10)
  have RE := Lib.hid rE
  clear rE
  clear hx10
  go_wp2_with fail
  refine (HWK.out _ _ _ _ e10 RE.out).mono ?_; rintro e w11 ⟨rfl, hx11⟩
  have e11 : Ext w w11 := e10.trans hx11
  replace RX := Lib.hid (RX.out.ext hx11)
  replace RE := Lib.hid (RE.out.ext hx11)
  clear hx11
  go_wp2_with fail
  refine (HLK.out _ _ _ _ e11 RE.out).mono ?_; rintro e w12 ⟨rfl, hx12⟩
  have e12 : Ext w w12 := e11.trans hx12
  replace RX := Lib.hid (RX.out.ext hx12)
  replace RE := Lib.hid (RE.out.ext hx12)
  clear hx12
  go_wp2_with fail
  go_ret
  exact ⟨rfl, e12⟩
end Go.Proofs.YtapkfmcbphljcaaDoor
