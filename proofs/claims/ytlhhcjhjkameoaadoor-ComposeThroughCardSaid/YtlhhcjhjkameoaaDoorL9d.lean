/- Layer 9, ComposeThrough. -/
import Derived.Test.YtlhhcjhjkameoaaDoorL9a
namespace Go.Proofs.YtlhhcjhjkameoaaDoor
open Go.RowKit
set_option maxRecDepth 100000
set_option maxHeartbeats 4000000
theorem through9 {X Y : List Sp} (gX : Good X) (gY : Good Y) (hf : outL X = inL Y) (hl : X.length + Y.length ≤ 300) (ht : sumT X + sumT Y ≤ 100000) :
    Good (compL X Y) ∧ inL (compL X Y) = inL X ∧ outL (compL X Y) = outL Y ∧
    (∀ g : Nat, ((whereT (tok X) g : Nat) : Int) ≤ inL Y ∧ whereT (tok (compL X Y)) g = whereT (tok Y) (whereT (tok X) g)) ∧
    (∀ k : Nat, (k : Int) ≤ outL Y → ((leastT (tok Y) k : Nat) : Int) ≤ outL X ∧ leastT (tok (compL X Y)) k = leastT (tok X) (leastT (tok Y) k)) := by
  obtain ⟨a1, a2, a3, a4, a5, a6, a7⟩ := good_comp gX gY hf hl ht
  have x1 := gX.tin; have x2 := gX.tout; have y1 := gY.tin; have y2 := gY.tout
  refine ⟨a1, a4, a5, fun g => ⟨?_, ?_⟩, fun k hk => ⟨?_, ?_⟩⟩
  · have := whereT_le (tok X) g; omega
  · rw [a2, where_comp _ _ _ _ (Nat.le_refl _) (by omega)]
  · have := leastT_le (tok Y) k; omega
  · rw [a2, least_comp _ _ _ _ (Nat.le_refl _) (by omega) (by omega)]
theorem composeThrough_c (A0 : Option Addr) (q0 c0 : Nat) (l0 : List Sp) (A1 : Option Addr) (q1 c1 : Nat) (l1 : List Sp) (n : Int) (w : World) [Tab w] (h0 : Rd w 3 (.slice A0 q0 c0) q0 (spCells l0)) (hl0 : l0.length = q0) (hls0 : ∀ s ∈ l0, s.2.2.size ≤ maxLen) (h1 : Rd w 3 (.slice A1 q1 c1) q1 (spCells l1)) (hl1 : l1.length = q1) (hls1 : ∀ s ∈ l1, s.2.2.size ≤ maxLen) (hn : (Lit.int .u8 n).wf = true) :
    Calls Tryd.prog 9 #[.slice A0 q0 c0, .slice A1 q1 c1, .int .u8 n] w fun e w' => e = .returned (.bool true) ∧ Below w.heap.size w w' := by
  obtain ⟨n0, n1⟩ := bounds_u8 hn
  obtain ⟨M, hM, hM1⟩ : ∃ M : Nat, n % 31 = (M : Int) ∧ M ≤ 30 := ⟨(n % 31).toNat, by omega, by omega⟩
  have H0 := Lib.hid h0; have HL0 := Lib.hid hl0; have HS0 := Lib.hid hls0
  have H1 := Lib.hid h1; have HL1 := Lib.hid hl1; have HS1 := Lib.hid hls1
  clear h0 hl0 hls0 h1 hl1 hls1 hn
  obtain ⟨gX, iX, oX0, oX1, lX, tX⟩ := good_fit l0 (M : Int) (by omega) (by omega)
  obtain ⟨gY, iY, oY0, oY1, lY, tY⟩ := good_fit l1 (outL (fitL l0 M)) oX0 (by omega)
  obtain ⟨gZ, iZ, oZ, hw, hl⟩ := through9 gX gY iY.symm (by omega) (by omega)
  obtain ⟨O, hO⟩ := Int.eq_ofNat_of_zero_le oY0
  have F0 := Lib.hid iY.symm
  have HW : Hid _ := Lib.hid hw
  have HL : Hid _ := Lib.hid hl
  have HIX := Lib.hid iX; have HIY := Lib.hid iY; have HIZ := Lib.hid iZ; have HOZ := Lib.hid oZ; have HOY := Lib.hid hO
  have hOb : O ≤ 700 := by omega
  have FY : Hid (∀ w', Ext w w' → Calls Tryd.prog 11 #[.slice A1 q1 c1, .int .i64 (outL (fitL l0 M))] w' (TellsL w' (fitL l1 (outL (fitL l0 M))))) := Lib.hid fun w' hx => fitG A1 q1 c1 l1 _ H1.out HL1.out HS1.out oX0 (by omega) hx
  have FX : Hid (∀ w', Ext w w' → Calls Tryd.prog 11 #[.slice A0 q0 c0, .int .i64 (M : Int)] w' (TellsL w' (fitL l0 M))) := Lib.hid fun w' hx => fitG A0 q0 c0 l0 _ H0.out HL0.out HS0.out (by omega) (by omega) hx
  clear iX iY iZ oZ hw hl hO lX lY tX tY oX1 oY0 oY1
  generalize fitL l1 (outL (fitL l0 M)) = Y at *
  generalize fitL l0 M = X at *
  go_enter Tryd.func9, Tryd.ntmps9
  go_wp2_with fail
  refine (shown9_c _).mono ?_; rintro e w1 ⟨rfl, hx1⟩
  have e1 : Ext w w1 := hx1
  clear hx1
  go_wp2_with fail
  refine (FX.out _ e1).mono ?_; rintro e w2 ⟨hx2, aX, nX, cX, rfl, rX⟩
  have e2 : Ext w w2 := e1.trans hx2
  have RX := Lib.hid rX
  clear hx2 rX
  go_wp2_with fail
  refine (outG gX e2 RX.out).mono ?_; rintro e w3 ⟨rfl, hx3⟩
  have e3 : Ext w w3 := e2.trans hx3
  replace RX := Lib.hid (RX.out.ext hx3)
  clear hx3
  go_wp2_with fail
  refine (FY.out _ e3).mono ?_; rintro e w4 ⟨hx4, aY, nY, cY, rfl, rY⟩
  have e4 : Ext w w4 := e3.trans hx4
  replace RX := Lib.hid (RX.out.ext hx4)
  have RY := Lib.hid rY
  clear hx4 rY
  go_wp2_with fail
  refine (compG gX gY F0.out e4 RX.out RY.out).mono ?_; rintro e w5 ⟨hx5, aZ, nZ, cZ, rfl, rZ⟩
  have e5 : Ext w w5 := e4.trans hx5
  replace RX := Lib.hid (RX.out.ext hx5)
  replace RY := Lib.hid (RY.out.ext hx5)
  have RZ := Lib.hid rZ
  clear hx5 rZ
  go_wp2_with fail
  have eb := Lib.hid e5
  clear e1 e2 e3 e4 e5
  go_loopw [12] (fun z wr => ∃ g : Nat, g ≤ M + 1 ∧ z = .int .i64 g ∧ Hid (Ext w wr) ∧ Hid (RdO wr aX nX cX X) ∧ Hid (RdO wr aY nY cY Y) ∧ Hid (RdO wr aZ nZ cZ (compL X Y))) (fun z _ => M + 1 - (intOf z).toNat)
  case atStart => exact ⟨0, by omega, rfl, eb, RX, RY, RZ⟩
  case round =>
    clear RX RY RZ eb
    obtain ⟨g, hg, rfl, hxr, RX, RY, RZ⟩ := hrel
    have exr := hxr.out
    have hi := HIX.out
    by_cases hlt : g < M + 1
    · have hle : (g : Int) ≤ inL X := by omega
      obtain ⟨hw1, hw2⟩ := HW.out g
      have hle1 : (g : Int) ≤ inL (compL X Y) := by rw [HIZ.out]; exact hle
      have CX : Hid (∀ w', Ext w w' → RdO w' aX nX cX X → _) := Lib.hid fun w' hx hr => @whereG X gX g hle w w' _ hx aX nX cX hr
      have CY : Hid (∀ w', Ext w w' → RdO w' aY nY cY Y → _) := Lib.hid fun w' hx hr => @whereG Y gY (whereT (tok X) g) hw1 w w' _ hx aY nY cY hr
      have CZ : Hid (∀ w', Ext w w' → RdO w' aZ nZ cZ (compL X Y) → _) := Lib.hid fun w' hx hr => @whereG (compL X Y) gZ g hle1 w w' _ hx aZ nZ cZ hr
      rw [hw2] at CZ
      have hgi : (g : Int) ≤ (M : Int) := by omega
      clear hw2
      generalize whereT (tok Y) (whereT (tok X) g) = R2 at *
      generalize whereT (tok X) g = R1 at *
      go_wp2_with fail
      refine (inG gX exr RX.out).mono ?_; rintro e w1 ⟨rfl, hx1⟩
      have e1 : Ext w w1 := exr.trans hx1
      replace RX := Lib.hid (RX.out.ext hx1)
      replace RY := Lib.hid (RY.out.ext hx1)
      replace RZ := Lib.hid (RZ.out.ext hx1)
      clear hx1
      go_wp2_with fail
      refine (CX.out _ e1 RX.out).mono ?_; rintro e w2 ⟨rfl, hx2⟩
      have e2 : Ext w w2 := e1.trans hx2
      replace RX := Lib.hid (RX.out.ext hx2)
      replace RY := Lib.hid (RY.out.ext hx2)
      replace RZ := Lib.hid (RZ.out.ext hx2)
      clear hx2
      go_wp2_with fail
      refine (CY.out _ e2 RY.out).mono ?_; rintro e w3 ⟨rfl, hx3⟩
      have e3 : Ext w w3 := e2.trans hx3
      replace RX := Lib.hid (RX.out.ext hx3)
      replace RY := Lib.hid (RY.out.ext hx3)
      replace RZ := Lib.hid (RZ.out.ext hx3)
      clear hx3
      go_wp2_with fail
      refine (CZ.out _ e3 RZ.out).mono ?_; rintro e w4 ⟨rfl, hx4⟩
      have e4 : Ext w w4 := e3.trans hx4
      replace RX := Lib.hid (RX.out.ext hx4)
      replace RY := Lib.hid (RY.out.ext hx4)
      replace RZ := Lib.hid (RZ.out.ext hx4)
      clear hx4
      go_wp2_with fail
      go_roundw
      case rel => exact ⟨g + 1, by omega, by go_num, Lib.hid e4, RX, RY, RZ⟩
      case measure => simp [intOf]; omega
    · have hle : ¬ ((g : Int) ≤ inL X) := by omega
      have hlt' : inL X < (g : Int) := by omega
      clear hi
      go_wp2_with fail
      refine (inG gX exr RX.out).mono ?_; rintro e w1 ⟨rfl, hx1⟩
      have e1 : Ext w w1 := exr.trans hx1
      replace RX := Lib.hid (RX.out.ext hx1)
      replace RY := Lib.hid (RY.out.ext hx1)
      replace RZ := Lib.hid (RZ.out.ext hx1)
      clear hx1
      go_wp2_with fail
      have eb := Lib.hid e1
      go_loopw [19] (fun z wr => ∃ g : Nat, g ≤ O + 1 ∧ z = .int .i64 g ∧ Hid (Ext w wr) ∧ Hid (RdO wr aX nX cX X) ∧ Hid (RdO wr aY nY cY Y) ∧ Hid (RdO wr aZ nZ cZ (compL X Y))) (fun z _ => O + 1 - (intOf z).toNat)
      case atStart => exact ⟨0, by omega, rfl, eb, RX, RY, RZ⟩
      case round =>
        clear RX RY RZ eb
        obtain ⟨k, hk, rfl, hxr2, RX, RY, RZ⟩ := hrel
        have exr2 := hxr2.out
        have ho := HOY.out
        by_cases hlt2 : k < O + 1
        · have hle2 : (k : Int) ≤ outL Y := by omega
          obtain ⟨hw1, hw2⟩ := HL.out k hle2
          have hle1 : (k : Int) ≤ outL (compL X Y) := by rw [HOZ.out]; exact hle2
          have CY : Hid (∀ w', Ext w w' → RdO w' aY nY cY Y → _) := Lib.hid fun w' hx hr => @leastG Y gY k hle2 w w' _ hx aY nY cY hr
          have CX : Hid (∀ w', Ext w w' → RdO w' aX nX cX X → _) := Lib.hid fun w' hx hr => @leastG X gX (leastT (tok Y) k) hw1 w w' _ hx aX nX cX hr
          have CZ : Hid (∀ w', Ext w w' → RdO w' aZ nZ cZ (compL X Y) → _) := Lib.hid fun w' hx hr => @leastG (compL X Y) gZ k hle1 w w' _ hx aZ nZ cZ hr
          rw [hw2] at CZ
          clear hw2 ho
          generalize leastT (tok X) (leastT (tok Y) k) = R2 at *
          generalize leastT (tok Y) k = R1 at *
          by_cases h200 : k < 200
          · have d200 : decide ((k : Int) < 200) = true := by rw [decide_eq_true_eq]; omega
            go_wp2_with fail
            refine (outG gY exr2 RY.out).mono ?_; rintro e w1 ⟨rfl, hx1⟩
            have e1 : Ext w w1 := exr2.trans hx1
            replace RX := Lib.hid (RX.out.ext hx1)
            replace RY := Lib.hid (RY.out.ext hx1)
            replace RZ := Lib.hid (RZ.out.ext hx1)
            clear hx1
            go_wp2_with fail
            refine (CY.out _ e1 RY.out).mono ?_; rintro e w2 ⟨rfl, hx2⟩
            have e2 : Ext w w2 := e1.trans hx2
            replace RX := Lib.hid (RX.out.ext hx2)
            replace RY := Lib.hid (RY.out.ext hx2)
            replace RZ := Lib.hid (RZ.out.ext hx2)
            clear hx2
            go_wp2_with fail
            refine (CX.out _ e2 RX.out).mono ?_; rintro e w3 ⟨rfl, hx3⟩
            have e3 : Ext w w3 := e2.trans hx3
            replace RX := Lib.hid (RX.out.ext hx3)
            replace RY := Lib.hid (RY.out.ext hx3)
            replace RZ := Lib.hid (RZ.out.ext hx3)
            clear hx3
            go_wp2_with fail
            refine (CZ.out _ e3 RZ.out).mono ?_; rintro e w4 ⟨rfl, hx4⟩
            have e4 : Ext w w4 := e3.trans hx4
            replace RX := Lib.hid (RX.out.ext hx4)
            replace RY := Lib.hid (RY.out.ext hx4)
            replace RZ := Lib.hid (RZ.out.ext hx4)
            clear hx4
            go_wp2_with fail
            go_roundw
            case rel => exact ⟨k + 1, by omega, by go_num, Lib.hid e4, RX, RY, RZ⟩
            case measure => simp [intOf]; omega
          · have d200 : decide ((k : Int) < 200) = false := by rw [decide_eq_false_iff_not]; omega
            go_wp2_with fail
            refine (outG gY exr2 RY.out).mono ?_; rintro e w1 ⟨rfl, hx1⟩
            have e1 : Ext w w1 := exr2.trans hx1
            clear hx1
            go_wp2_with fail
            go_ret
            exact ⟨rfl, e1⟩
        · have hle2 : outL Y < (k : Int) := by omega
          clear ho
          go_wp2_with fail
          refine (outG gY exr2 RY.out).mono ?_; rintro e w1 ⟨rfl, hx1⟩
          have e1 : Ext w w1 := exr2.trans hx1
          clear hx1
          go_wp2_with fail
          go_ret
          exact ⟨rfl, e1⟩
end Go.Proofs.YtlhhcjhjkameoaaDoor
