/- Layer 2, NumberOrders, NumberBits. -/
import Derived.Test.YtnljmfhiglajcaaL2c
import Derived.Deep.QuietTactic
import Derived.BigQuiet
namespace Go.Proofs.Ytnljmfhiglajcaa
open Go.RowKit
set_option maxRecDepth 100000
set_option maxHeartbeats 1000000

theorem putF_mono (k x y : Nat) (h : x ≤ y) : (putF k x).length ≤ (putF k y).length := by
  induction k generalizing x y with
  | zero => simp [putF]
  | succ k ih =>
    simp only [putF]
    by_cases hx : x < 128
    · rw [if_pos hx]; split <;> simp
    · rw [if_neg hx, if_neg (by omega)]
      have := ih (x / 128) (y / 128) (Nat.div_le_div_right h)
      simpa using this
theorem putL_inj {x y : Nat} (hx : x < 268435456) (hy : y < 268435456) (h : putL x = putL y) : x = y := by
  have h1 := take_put x hx []
  have h2 := take_put y hy []
  rw [h, h2] at h1
  simp only [Prod.mk.injEq] at h1
  exact h1.1.symm
theorem mkS_inj {a b : List UInt8} (h : mkS a = mkS b) : a = b := by rw [← bs_mkS a, h, bs_mkS]
theorem mkS_toList (l : List UInt8) : (mkS l).toList = l := by
  have : (mkS l).toList = (mkS l).data.toList := by
    simp [ByteArray.toList_eq]
  rw [this]; rfl

theorem numberOrders_c (a b odd : Int) (w : World) (ha : (Lit.int .u32 a).wf = true) (hb : (Lit.int .u32 b).wf = true) (ho : (Lit.int .i64 odd).wf = true) :
    Calls Try.prog 6 #[.int .u32 a, .int .u32 b, .int .i64 odd] w fun e w' => e = .returned (.bool true) ∧ Below w.heap.size w w' := by
  obtain ⟨a0, a1⟩ := bounds_u32 ha
  obtain ⟨b0, b1⟩ := bounds_u32 hb
  obtain ⟨o0, o1⟩ := bounds_i64 ho
  obtain ⟨X, hX, hX0, hX1⟩ := and28 a a0 a1
  obtain ⟨Y, hY, hY0, hY1⟩ := and28 b b0 b1
  have HB : ∀ z : Int, (z < 0 ∨ 268435455 < z) → ∀ w', Calls Try.prog 10 #[.int .i64 z] w' fun e w'' => e = .returned (.tuple #[.slice none 0 0, .int .i64 2]) ∧ Ext w' w'' := fun z hz w' => put_bad z hz w'
  have HPX := Lib.hid (fun w' => put_okI X hX0 hX1 w')
  have HPY := Lib.hid (fun w' => put_okI Y hY0 hY1 w')
  obtain ⟨xx, hxx⟩ : ∃ xx, xx = putL X.toNat := ⟨_, rfl⟩
  obtain ⟨yy, hyy⟩ : ∃ yy, yy = putL Y.toNat := ⟨_, rfl⟩
  have hxl := putL_length X.toNat
  have hyl := putL_length Y.toNat
  have hsame : mkS xx = mkS yy ↔ X = Y := by
    rw [hxx, hyy]
    constructor
    · intro h; have := putL_inj (by omega) (by omega) (mkS_inj h); omega
    · intro h; rw [h]
  have hle1 : X ≤ Y → xx.length ≤ yy.length := fun h => by rw [hxx, hyy]; exact putF_mono 4 _ _ (by omega)
  have hle2 : Y ≤ X → yy.length ≤ xx.length := fun h => by rw [hxx, hyy]; exact putF_mono 4 _ _ (by omega)
  rw [← hxx] at HPX hxl
  rw [← hyy] at HPY hyl
  clear hxx hyy ha hb
  have HWF := Lib.hid ho
  clear ho
  have HLE1 := Lib.hid hle1; have HLE2 := Lib.hid hle2; have HSA := Lib.hid hsame
  clear hle1 hle2 hsame
  rcases (by omega : odd < 0 ∨ 268435455 < odd ∨ (0 ≤ odd ∧ odd ≤ 268435455)) with hodd | hodd | ⟨hod0, hod1⟩
  · have HO := Lib.hid (HB odd (.inl hodd))
    clear HB
    rcases (by omega : X < Y ∨ X = Y ∨ Y < X) with hxy | hxy | hxy
    · have hd2 : xx.length ≤ yy.length := HLE1.out (by omega)
      have hxy1 : X ≤ Y := by omega
      have hxy2 : ¬ (Y ≤ X) := by omega
      clear HLE1 HLE2
      go_enter Try.func6, Try.ntmps6
      go_wp2_with fail
      refine (shown2_c _).mono ?_; rintro e w1 ⟨rfl, hx1⟩
      go_wp2_with fail
      refine (HPX.out _).mono ?_; rintro e w2 ⟨p, rfl, hrp, hx2⟩
      go_wp2_with fail
      refine (HPY.out _).mono ?_; rintro e w3 ⟨q, rfl, hrq, hx3⟩
      go_wp2_with fail
      refine (HO.out _).mono ?_; rintro e w4 ⟨rfl, hx4⟩
      have HS1 := Lib.hid (str_run w4 (hrp.ext ((hx3.trans hx4))))
      have HS2 := Lib.hid (str_run w4 (hrq.ext hx4))
      obtain ⟨AP, cp, rfl, hcp⟩ := hrp.len
      obtain ⟨AQ, cq, rfl, hcq⟩ := hrq.len
      have hd1 : decide ((xx.length : Int) ≤ (yy.length : Int)) = true := by rw [decide_eq_true_eq]; omega
      have hd2' : decide (xx.length ≤ yy.length) = true := by rw [decide_eq_true_eq]; omega
      have hb0 : (X == Y) = false := by rw [beq_eq_false_iff_ne]; omega
      have hb1 : ((mkS xx).toList == (mkS yy).toList) = false := by
        rw [beq_eq_false_iff_ne, mkS_toList, mkS_toList]
        intro h
        have := HSA.out.mp (by rw [h])
        omega
      generalize mkS xx = S1 at *
      generalize mkS yy = S2 at *
      go_wp2_with (first | ((with_reducible refine wpList_convert_g ?_ rfl HS1.out rfl ?_); rfl) | ((with_reducible refine wpList_convert_g ?_ rfl HS2.out rfl ?_); rfl))
      go_ret
      exact ⟨rfl, ((hx1.trans hx2).trans hx3).trans hx4⟩
    · subst hxy
      clear HLE1 HLE2
      go_enter Try.func6, Try.ntmps6
      go_wp2_with fail
      refine (shown2_c _).mono ?_; rintro e w1 ⟨rfl, hx1⟩
      go_wp2_with fail
      refine (HPX.out _).mono ?_; rintro e w2 ⟨p, rfl, hrp, hx2⟩
      go_wp2_with fail
      refine (HPX.out _).mono ?_; rintro e w3 ⟨q, rfl, hrq, hx3⟩
      go_wp2_with fail
      refine (HO.out _).mono ?_; rintro e w4 ⟨rfl, hx4⟩
      have HS1 := Lib.hid (str_run w4 (hrp.ext ((hx3.trans hx4))))
      have HS2 := Lib.hid (str_run w4 (hrq.ext hx4))
      obtain ⟨AP, cp, rfl, hcp⟩ := hrp.len
      obtain ⟨AQ, cq, rfl, hcq⟩ := hrq.len
      generalize mkS xx = S1 at *
      go_wp2_with (first | ((with_reducible refine wpList_convert_g ?_ rfl HS1.out rfl ?_); rfl) | ((with_reducible refine wpList_convert_g ?_ rfl HS2.out rfl ?_); rfl))
      go_ret
      exact ⟨rfl, ((hx1.trans hx2).trans hx3).trans hx4⟩
    · have hd2 : yy.length ≤ xx.length := HLE2.out (by omega)
      have hxy1 : Y ≤ X := by omega
      have hxy2 : ¬ (X ≤ Y) := by omega
      clear HLE1 HLE2
      go_enter Try.func6, Try.ntmps6
      go_wp2_with fail
      refine (shown2_c _).mono ?_; rintro e w1 ⟨rfl, hx1⟩
      go_wp2_with fail
      refine (HPY.out _).mono ?_; rintro e w2 ⟨p, rfl, hrp, hx2⟩
      go_wp2_with fail
      refine (HPX.out _).mono ?_; rintro e w3 ⟨q, rfl, hrq, hx3⟩
      go_wp2_with fail
      refine (HO.out _).mono ?_; rintro e w4 ⟨rfl, hx4⟩
      have HS1 := Lib.hid (str_run w4 (hrp.ext ((hx3.trans hx4))))
      have HS2 := Lib.hid (str_run w4 (hrq.ext hx4))
      obtain ⟨AP, cp, rfl, hcp⟩ := hrp.len
      obtain ⟨AQ, cq, rfl, hcq⟩ := hrq.len
      have hd1 : decide ((yy.length : Int) ≤ (xx.length : Int)) = true := by rw [decide_eq_true_eq]; omega
      have hd2' : decide (yy.length ≤ xx.length) = true := by rw [decide_eq_true_eq]; omega
      have hb0 : (X == Y) = false := by rw [beq_eq_false_iff_ne]; omega
      have hb1 : ((mkS yy).toList == (mkS xx).toList) = false := by
        rw [beq_eq_false_iff_ne, mkS_toList, mkS_toList]
        intro h
        have := HSA.out.mp (by rw [h])
        omega
      generalize mkS yy = S1 at *
      generalize mkS xx = S2 at *
      go_wp2_with (first | ((with_reducible refine wpList_convert_g ?_ rfl HS1.out rfl ?_); rfl) | ((with_reducible refine wpList_convert_g ?_ rfl HS2.out rfl ?_); rfl))
      go_ret
      exact ⟨rfl, ((hx1.trans hx2).trans hx3).trans hx4⟩
  · have HO := Lib.hid (HB odd (.inr hodd))
    clear HB
    have hod0 : 0 ≤ odd := by omega
    rcases (by omega : X < Y ∨ X = Y ∨ Y < X) with hxy | hxy | hxy
    · have hd2 : xx.length ≤ yy.length := HLE1.out (by omega)
      have hxy1 : X ≤ Y := by omega
      have hxy2 : ¬ (Y ≤ X) := by omega
      clear HLE1 HLE2
      go_enter Try.func6, Try.ntmps6
      go_wp2_with fail
      refine (shown2_c _).mono ?_; rintro e w1 ⟨rfl, hx1⟩
      go_wp2_with fail
      refine (HPX.out _).mono ?_; rintro e w2 ⟨p, rfl, hrp, hx2⟩
      go_wp2_with fail
      refine (HPY.out _).mono ?_; rintro e w3 ⟨q, rfl, hrq, hx3⟩
      go_wp2_with fail
      refine (HO.out _).mono ?_; rintro e w4 ⟨rfl, hx4⟩
      have HS1 := Lib.hid (str_run w4 (hrp.ext ((hx3.trans hx4))))
      have HS2 := Lib.hid (str_run w4 (hrq.ext hx4))
      obtain ⟨AP, cp, rfl, hcp⟩ := hrp.len
      obtain ⟨AQ, cq, rfl, hcq⟩ := hrq.len
      have hd1 : decide ((xx.length : Int) ≤ (yy.length : Int)) = true := by rw [decide_eq_true_eq]; omega
      have hd2' : decide (xx.length ≤ yy.length) = true := by rw [decide_eq_true_eq]; omega
      have hb0 : (X == Y) = false := by rw [beq_eq_false_iff_ne]; omega
      have hb1 : ((mkS xx).toList == (mkS yy).toList) = false := by
        rw [beq_eq_false_iff_ne, mkS_toList, mkS_toList]
        intro h
        have := HSA.out.mp (by rw [h])
        omega
      generalize mkS xx = S1 at *
      generalize mkS yy = S2 at *
      go_wp2_with (first | ((with_reducible refine wpList_convert_g ?_ rfl HS1.out rfl ?_); rfl) | ((with_reducible refine wpList_convert_g ?_ rfl HS2.out rfl ?_); rfl))
      go_ret
      exact ⟨rfl, ((hx1.trans hx2).trans hx3).trans hx4⟩
    · subst hxy
      clear HLE1 HLE2
      go_enter Try.func6, Try.ntmps6
      go_wp2_with fail
      refine (shown2_c _).mono ?_; rintro e w1 ⟨rfl, hx1⟩
      go_wp2_with fail
      refine (HPX.out _).mono ?_; rintro e w2 ⟨p, rfl, hrp, hx2⟩
      go_wp2_with fail
      refine (HPX.out _).mono ?_; rintro e w3 ⟨q, rfl, hrq, hx3⟩
      go_wp2_with fail
      refine (HO.out _).mono ?_; rintro e w4 ⟨rfl, hx4⟩
      have HS1 := Lib.hid (str_run w4 (hrp.ext ((hx3.trans hx4))))
      have HS2 := Lib.hid (str_run w4 (hrq.ext hx4))
      obtain ⟨AP, cp, rfl, hcp⟩ := hrp.len
      obtain ⟨AQ, cq, rfl, hcq⟩ := hrq.len
      generalize mkS xx = S1 at *
      go_wp2_with (first | ((with_reducible refine wpList_convert_g ?_ rfl HS1.out rfl ?_); rfl) | ((with_reducible refine wpList_convert_g ?_ rfl HS2.out rfl ?_); rfl))
      go_ret
      exact ⟨rfl, ((hx1.trans hx2).trans hx3).trans hx4⟩
    · have hd2 : yy.length ≤ xx.length := HLE2.out (by omega)
      have hxy1 : Y ≤ X := by omega
      have hxy2 : ¬ (X ≤ Y) := by omega
      clear HLE1 HLE2
      go_enter Try.func6, Try.ntmps6
      go_wp2_with fail
      refine (shown2_c _).mono ?_; rintro e w1 ⟨rfl, hx1⟩
      go_wp2_with fail
      refine (HPY.out _).mono ?_; rintro e w2 ⟨p, rfl, hrp, hx2⟩
      go_wp2_with fail
      refine (HPX.out _).mono ?_; rintro e w3 ⟨q, rfl, hrq, hx3⟩
      go_wp2_with fail
      refine (HO.out _).mono ?_; rintro e w4 ⟨rfl, hx4⟩
      have HS1 := Lib.hid (str_run w4 (hrp.ext ((hx3.trans hx4))))
      have HS2 := Lib.hid (str_run w4 (hrq.ext hx4))
      obtain ⟨AP, cp, rfl, hcp⟩ := hrp.len
      obtain ⟨AQ, cq, rfl, hcq⟩ := hrq.len
      have hd1 : decide ((yy.length : Int) ≤ (xx.length : Int)) = true := by rw [decide_eq_true_eq]; omega
      have hd2' : decide (yy.length ≤ xx.length) = true := by rw [decide_eq_true_eq]; omega
      have hb0 : (X == Y) = false := by rw [beq_eq_false_iff_ne]; omega
      have hb1 : ((mkS yy).toList == (mkS xx).toList) = false := by
        rw [beq_eq_false_iff_ne, mkS_toList, mkS_toList]
        intro h
        have := HSA.out.mp (by rw [h])
        omega
      generalize mkS yy = S1 at *
      generalize mkS xx = S2 at *
      go_wp2_with (first | ((with_reducible refine wpList_convert_g ?_ rfl HS1.out rfl ?_); rfl) | ((with_reducible refine wpList_convert_g ?_ rfl HS2.out rfl ?_); rfl))
      go_ret
      exact ⟨rfl, ((hx1.trans hx2).trans hx3).trans hx4⟩
  · have HO := Lib.hid (HB (-1 - odd) (.inl (by omega)))
    clear HB
    rcases (by omega : X < Y ∨ X = Y ∨ Y < X) with hxy | hxy | hxy
    · have hd2 : xx.length ≤ yy.length := HLE1.out (by omega)
      have hxy1 : X ≤ Y := by omega
      have hxy2 : ¬ (Y ≤ X) := by omega
      clear HLE1 HLE2
      go_enter Try.func6, Try.ntmps6
      go_wp2_with fail
      refine (shown2_c _).mono ?_; rintro e w1 ⟨rfl, hx1⟩
      go_wp2_with fail
      refine (HPX.out _).mono ?_; rintro e w2 ⟨p, rfl, hrp, hx2⟩
      go_wp2_with fail
      refine (HPY.out _).mono ?_; rintro e w3 ⟨q, rfl, hrq, hx3⟩
      go_wp2_with fail
      refine (HO.out _).mono ?_; rintro e w4 ⟨rfl, hx4⟩
      have HS1 := Lib.hid (str_run w4 (hrp.ext ((hx3.trans hx4))))
      have HS2 := Lib.hid (str_run w4 (hrq.ext hx4))
      obtain ⟨AP, cp, rfl, hcp⟩ := hrp.len
      obtain ⟨AQ, cq, rfl, hcq⟩ := hrq.len
      have hd1 : decide ((xx.length : Int) ≤ (yy.length : Int)) = true := by rw [decide_eq_true_eq]; omega
      have hd2' : decide (xx.length ≤ yy.length) = true := by rw [decide_eq_true_eq]; omega
      have hb0 : (X == Y) = false := by rw [beq_eq_false_iff_ne]; omega
      have hb1 : ((mkS xx).toList == (mkS yy).toList) = false := by
        rw [beq_eq_false_iff_ne, mkS_toList, mkS_toList]
        intro h
        have := HSA.out.mp (by rw [h])
        omega
      generalize mkS xx = S1 at *
      generalize mkS yy = S2 at *
      go_wp2_with (first | ((with_reducible refine wpList_convert_g ?_ rfl HS1.out rfl ?_); rfl) | ((with_reducible refine wpList_convert_g ?_ rfl HS2.out rfl ?_); rfl))
      go_ret
      exact ⟨rfl, ((hx1.trans hx2).trans hx3).trans hx4⟩
    · subst hxy
      clear HLE1 HLE2
      go_enter Try.func6, Try.ntmps6
      go_wp2_with fail
      refine (shown2_c _).mono ?_; rintro e w1 ⟨rfl, hx1⟩
      go_wp2_with fail
      refine (HPX.out _).mono ?_; rintro e w2 ⟨p, rfl, hrp, hx2⟩
      go_wp2_with fail
      refine (HPX.out _).mono ?_; rintro e w3 ⟨q, rfl, hrq, hx3⟩
      go_wp2_with fail
      refine (HO.out _).mono ?_; rintro e w4 ⟨rfl, hx4⟩
      have HS1 := Lib.hid (str_run w4 (hrp.ext ((hx3.trans hx4))))
      have HS2 := Lib.hid (str_run w4 (hrq.ext hx4))
      obtain ⟨AP, cp, rfl, hcp⟩ := hrp.len
      obtain ⟨AQ, cq, rfl, hcq⟩ := hrq.len
      generalize mkS xx = S1 at *
      go_wp2_with (first | ((with_reducible refine wpList_convert_g ?_ rfl HS1.out rfl ?_); rfl) | ((with_reducible refine wpList_convert_g ?_ rfl HS2.out rfl ?_); rfl))
      go_ret
      exact ⟨rfl, ((hx1.trans hx2).trans hx3).trans hx4⟩
    · have hd2 : yy.length ≤ xx.length := HLE2.out (by omega)
      have hxy1 : Y ≤ X := by omega
      have hxy2 : ¬ (X ≤ Y) := by omega
      clear HLE1 HLE2
      go_enter Try.func6, Try.ntmps6
      go_wp2_with fail
      refine (shown2_c _).mono ?_; rintro e w1 ⟨rfl, hx1⟩
      go_wp2_with fail
      refine (HPY.out _).mono ?_; rintro e w2 ⟨p, rfl, hrp, hx2⟩
      go_wp2_with fail
      refine (HPX.out _).mono ?_; rintro e w3 ⟨q, rfl, hrq, hx3⟩
      go_wp2_with fail
      refine (HO.out _).mono ?_; rintro e w4 ⟨rfl, hx4⟩
      have HS1 := Lib.hid (str_run w4 (hrp.ext ((hx3.trans hx4))))
      have HS2 := Lib.hid (str_run w4 (hrq.ext hx4))
      obtain ⟨AP, cp, rfl, hcp⟩ := hrp.len
      obtain ⟨AQ, cq, rfl, hcq⟩ := hrq.len
      have hd1 : decide ((yy.length : Int) ≤ (xx.length : Int)) = true := by rw [decide_eq_true_eq]; omega
      have hd2' : decide (yy.length ≤ xx.length) = true := by rw [decide_eq_true_eq]; omega
      have hb0 : (X == Y) = false := by rw [beq_eq_false_iff_ne]; omega
      have hb1 : ((mkS yy).toList == (mkS xx).toList) = false := by
        rw [beq_eq_false_iff_ne, mkS_toList, mkS_toList]
        intro h
        have := HSA.out.mp (by rw [h])
        omega
      generalize mkS yy = S1 at *
      generalize mkS xx = S2 at *
      go_wp2_with (first | ((with_reducible refine wpList_convert_g ?_ rfl HS1.out rfl ?_); rfl) | ((with_reducible refine wpList_convert_g ?_ rfl HS2.out rfl ?_); rfl))
      go_ret
      exact ⟨rfl, ((hx1.trans hx2).trans hx3).trans hx4⟩
end Go.Proofs.Ytnljmfhiglajcaa
