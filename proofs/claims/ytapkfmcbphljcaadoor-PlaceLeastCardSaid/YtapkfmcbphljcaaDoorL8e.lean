/- Layer 8, PlaceLeast. -/
import Derived.Test.YtapkfmcbphljcaaDoorL8c
namespace Go.Proofs.YtapkfmcbphljcaaDoor
open Go.RowKit
set_option maxRecDepth 100000
set_option maxHeartbeats 4000000
theorem placeLeast_c (A : Option Addr) (q c : Nat) (l : List Sp) (n : Int) (w : World) [Tab w] (h : Rd w 3 (.slice A q c) q (spCells l)) (hl : l.length = q) (hls : ∀ s ∈ l, s.2.2.size ≤ maxLen) (hn : (Lit.int .u8 n).wf = true) :
    Calls Tryd.prog 5 #[.slice A q c, .int .u8 n] w fun e w' => e = .returned (.bool true) ∧ Below w.heap.size w w' := by
  obtain ⟨n0, n1⟩ := bounds_u8 hn
  obtain ⟨M, hM, hM1⟩ : ∃ M : Nat, n % 41 = (M : Int) ∧ M ≤ 40 := ⟨(n % 41).toNat, by omega, by omega⟩
  have HFL : Hid (∀ w', Ext w w' → _) := Lib.hid fun w' hx => fitR4_c A q c l M w' (h.ext hx) hl hls (by omega) (by omega)
  obtain ⟨f1, f2, f3, f4, f5, f6, f7⟩ := fit_all l M (by omega) (by omega)
  have fm := fitL_may l (M : Int) (by omega) (by omega)
  obtain ⟨fo0, fo1⟩ := fit_out l (M : Int) (by omega) (by omega)
  generalize fitL l M = X at *
  obtain ⟨O, hO⟩ := Int.eq_ofNat_of_zero_le fo0
  have hwo : wrap64 (outL X) = (O : Int) := by unfold wrap64; omega
  have hwi : wrap64 (inL X) = (M : Int) := by unfold wrap64; omega
  have hti := (tin_ok X f1).1
  have hto := (tin_ok X f1).2
  have htO : tout (tok X) = O := by omega
  have htM : tin (tok X) = M := by omega
  have HGA : Hid (∀ k g, k ≤ O → (leastT (tok X) k ≤ g ↔ k ≤ whereT (tok X) g)) := Lib.hid fun k g hk => galois (tok X) k g (by omega)
  have HLE : Hid (∀ k, leastT (tok X) k ≤ M) := Lib.hid fun k => by have := leastT_le (tok X) k; omega
  have HWX : Hid (∀ (g : Nat) A n k w', g ≤ M → Ext w w' → RdO w' A n k X → _) := Lib.hid fun g A n k w' hg hx hr => have hTb := tab_ext hx; whereFit_c X M fm f2 (by omega) f6 f7 g hg A n k w' hr
  have HLX : Hid (∀ (g : Nat) A n k w', g ≤ O → Ext w w' → RdO w' A n k X → _) := Lib.hid fun g A n k w' hg hx hr => have hTb := tab_ext hx; leastFit_c X O fm hO (by omega) f6 f7 (by omega) g hg A n k w' hr
  have HLO1 : Hid (∀ A n k w', Ext w w' → RdO w' A n k X → _) := Lib.hid fun A n k w' hx hr => have hTb := tab_ext hx; leastOff_c X O fm hO (by omega) f6 f7 (by omega) ((O : Int) + 1) (.inl rfl) A n k w' hr
  have HLO2 : Hid (∀ A n k w', Ext w w' → RdO w' A n k X → _) := Lib.hid fun A n k w' hx hr => have hTb := tab_ext hx; leastOff_c X O fm hO (by omega) f6 f7 (by omega) (-1) (.inr rfl) A n k w' hr
  have HOX : Hid (∀ A n k w', Ext w w' → RdO w' A n k X → Calls Tryd.prog 16 #[.slice A n k] w' fun e w'' => e = .returned (.int .i64 (O : Int)) ∧ Ext w' w'') := Lib.hid fun A n k w' hx hr => by
    have hTb := tab_ext hx
    have h := out4_c A n k X w' hr.2 hr.1 (by have := hr.1; omega) f6
    rw [hwo] at h; exact h
  have HIX : Hid (∀ A n k w', Ext w w' → RdO w' A n k X → Calls Tryd.prog 17 #[.slice A n k] w' fun e w'' => e = .returned (.int .i64 (M : Int)) ∧ Ext w' w'') := Lib.hid fun A n k w' hx hr => by
    have hTb := tab_ext hx
    have h := in4_c A n k X w' hr.2 hr.1 (by have := hr.1; omega)
    rw [hwi] at h; exact h
  have hwn : IntKind.i64.wrap ((O : Int) + 1) = (O : Int) + 1 := by rw [IntKind.wrap_i64]; omega
  have hOb : O ≤ 400 := by omega
  clear h hl hls hn f1 f2 f3 f4 f5 f6 f7 fm fo0 fo1 hO hwo hwi hti hto htM htO
  go_enter Tryd.func5, Tryd.ntmps5
  go_wp2_with fail
  refine (shown8_c _).mono ?_; rintro e w1 ⟨rfl, hx1⟩
  have e1 : Ext w w1 := hx1
  clear hx1
  go_wp2_with fail
  refine (HFL.out _ e1).mono ?_; rintro e w2 ⟨v2, rfl, hx2, o2⟩
  have e2 : Ext w w2 := e1.trans hx2
  obtain ⟨aX, nX, cX, rfl, rX⟩ := rdO_own o2
  have RX := Lib.hid rX
  clear o2 rX
  clear hx2
  go_wp2_with fail
  have HE := Lib.hid e2
  clear e2
  go_loopw [7] (fun z wr => ∃ j : Nat, j ≤ O + 1 ∧ j ≤ 200 ∧ z = .int .i64 j ∧ Ext w2 wr) (fun z _ => O + 1 - (intOf z).toNat)
  case atStart => exact ⟨0, by omega, by omega, rfl, Ext.refl _⟩
  case round =>
    obtain ⟨j, hj, hj2, rfl, hxr⟩ := hrel
    have RX2 := Lib.hid (RX.out.ext hxr)
    have HX2 := Lib.hid (HE.out.trans hxr)
    by_cases hlt : j ≤ O ∧ j < 200
    · obtain ⟨hjO, hj200⟩ := hlt
      have dn : decide (j ≤ O) = true := by rw [decide_eq_true_eq]; exact hjO
      have d20 : decide ((j : Int) < 200) = true := by rw [decide_eq_true_eq]; omega
      have HL := Lib.hid (fun A n k w' => HLX.out j A n k w' hjO)
      have hK := HLE.out j
      have HGJ := Lib.hid (fun g => HGA.out j g hjO)
      generalize leastT (tok X) j = K at *
      have dk : decide (M < K) = false := by rw [decide_eq_false_iff_not]; omega
      have HXR := Lib.hid hxr
      clear hxr
      go_wp2_with fail
      refine (HOX.out _ _ _ _ HX2.out RX2.out).mono ?_; rintro e w4 ⟨rfl, hx4⟩
      go_wp2_with fail
      refine (HL.out _ _ _ _ (HX2.out.trans hx4) (RX2.out.ext hx4)).mono ?_; rintro e w5 ⟨rfl, hx5⟩
      go_wp2_with fail
      refine (HIX.out _ _ _ _ ((HX2.out.trans hx4).trans hx5) (RX2.out.ext (hx4.trans hx5))).mono ?_; rintro e w6 ⟨rfl, hx6⟩
      have HX6 := Lib.hid (((HX2.out.trans hx4).trans hx5).trans hx6)
      have RX6 := Lib.hid (RX2.out.ext ((hx4.trans hx5).trans hx6))
      have HXR6 := Lib.hid (HXR.out.trans ((hx4.trans hx5).trans hx6))
      clear hx4 hx5 hx6
      go_wp2_with fail
      go_loopw [10] (fun z wr => ∃ i : Nat, i ≤ M + 1 ∧ z = .int .i64 i ∧ Ext w6 wr) (fun z _ => M + 1 - (intOf z).toNat)
      case atStart => exact ⟨0, by omega, rfl, Ext.refl _⟩
      case round =>
        obtain ⟨i, hi, rfl, hxi⟩ := hrel
        have RXi := Lib.hid (RX6.out.ext hxi)
        have HXi := Lib.hid (HX6.out.trans hxi)
        have HXRi := Lib.hid (HXR6.out.trans hxi)
        by_cases hlt : i ≤ M
        · have di : decide (i ≤ M) = true := by rw [decide_eq_true_eq]; exact hlt
          have HW := Lib.hid (fun A n k w' => HWX.out i A n k w' hlt)
          have hg := HGJ.out i
          generalize whereT (tok X) i = R at *
          by_cases hc : K ≤ i
          · have c1 : decide (K ≤ i) = true := by rw [decide_eq_true_eq]; exact hc
            have c2 : decide (j ≤ R) = true := by rw [decide_eq_true_eq]; exact hg.1 hc
            clear hg hc
            go_wp2_with fail
            refine (HIX.out _ _ _ _ HXi.out RXi.out).mono ?_; rintro e w7 ⟨rfl, hx7⟩
            go_wp2_with fail
            refine (HW.out _ _ _ _ (HXi.out.trans hx7) (RXi.out.ext hx7)).mono ?_; rintro e w8 ⟨rfl, hx8⟩
            go_wp2_with fail
            go_roundw
            case rel => exact ⟨i + 1, by omega, by go_num, (hxi.trans hx7).trans hx8⟩
            case measure => simp [intOf]; omega
          · have c1 : decide (K ≤ i) = false := by rw [decide_eq_false_iff_not]; exact hc
            have c2 : decide (j ≤ R) = false := by rw [decide_eq_false_iff_not]; exact fun h => hc (hg.2 h)
            clear hg hc
            go_wp2_with fail
            refine (HIX.out _ _ _ _ HXi.out RXi.out).mono ?_; rintro e w7 ⟨rfl, hx7⟩
            go_wp2_with fail
            refine (HW.out _ _ _ _ (HXi.out.trans hx7) (RXi.out.ext hx7)).mono ?_; rintro e w8 ⟨rfl, hx8⟩
            go_wp2_with fail
            go_roundw
            case rel => exact ⟨i + 1, by omega, by go_num, (hxi.trans hx7).trans hx8⟩
            case measure => simp [intOf]; omega
        · have di : decide (i ≤ M) = false := by rw [decide_eq_false_iff_not]; exact hlt
          go_wp2_with fail
          refine (HIX.out _ _ _ _ HXi.out RXi.out).mono ?_; rintro e w7 ⟨rfl, hx7⟩
          go_wp2_with fail
          go_roundw
          case rel => exact ⟨j + 1, by omega, by omega, by go_num, HXRi.out.trans hx7⟩
          case measure => simp [intOf]; omega
    · have hcase : (decide (j ≤ O) = false) ∨ (decide (j ≤ O) = true ∧ decide ((j : Int) < 200) = false) := by
        by_cases e : j ≤ O
        · exact .inr ⟨by rw [decide_eq_true_eq]; exact e, by rw [decide_eq_false_iff_not]; omega⟩
        · exact .inl (by rw [decide_eq_false_iff_not]; exact e)
      clear hlt
      rcases hcase with d1 | ⟨d1, d2⟩
      all_goals
        go_wp2_with fail
        refine (HOX.out _ _ _ _ HX2.out RX2.out).mono ?_; rintro e w4 ⟨rfl, hx4⟩
        go_wp2_with fail
        refine (HOX.out _ _ _ _ (HX2.out.trans hx4) (RX2.out.ext hx4)).mono ?_; rintro e w5 ⟨rfl, hx5⟩
        go_wp2_with fail
        refine (HLO1.out _ _ _ _ ((HX2.out.trans hx4).trans hx5) (RX2.out.ext (hx4.trans hx5))).mono ?_; rintro e w6 ⟨rfl, hx6⟩
        go_wp2_with fail
        refine (HLO2.out _ _ _ _ (((HX2.out.trans hx4).trans hx5).trans hx6) (RX2.out.ext ((hx4.trans hx5).trans hx6))).mono ?_; rintro e w7 ⟨rfl, hx7⟩
        go_wp2_with fail
        go_ret
        exact ⟨rfl, (((HX2.out.trans hx4).trans hx5).trans hx6).trans hx7⟩
end Go.Proofs.YtapkfmcbphljcaaDoor
