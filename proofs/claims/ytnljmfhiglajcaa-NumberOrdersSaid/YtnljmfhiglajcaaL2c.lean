/- Layer 2, NumberBack. -/
import Derived.Test.YtnljmfhiglajcaaL2a
namespace Go.Proofs.Ytnljmfhiglajcaa
open Go.RowKit
set_option maxRecDepth 100000
set_option maxHeartbeats 1000000

/-- The 28 lowest bits of a number of 32. -/
theorem and28 (n : Int) (h0 : 0 ≤ n) (h1 : n ≤ 4294967295) : ∃ X : Int, bits .and .i64 n 268435455 = X ∧ 0 ≤ X ∧ X ≤ 268435455 := by
  obtain ⟨a, rfl⟩ := Int.eq_ofNat_of_zero_le h0
  refine ⟨((a &&& 268435455 : Nat) : Int), ?_, by omega, ?_⟩
  · have hx : a &&& 268435455 < 2 ^ 63 := Nat.and_lt_two_pow _ (by decide)
    show IntKind.i64.wrap ((BitVec.ofInt 64 (a : Int) &&& BitVec.ofInt 64 ((268435455 : Nat) : Int)).toNat : Int) = _
    have e : ∀ b : Nat, b < 9223372036854775808 → (BitVec.ofInt 64 (b : Int)).toNat = b := fun b hb => by
      rw [BitVec.ofInt_natCast, BitVec.toNat_ofNat]; exact Nat.mod_eq_of_lt (by omega)
    rw [BitVec.toNat_and, e a (by omega), e 268435455 (by omega), IntKind.wrap_i64]
    omega
  · have : a &&& 268435455 ≤ 268435455 := Nat.and_le_right
    omega
theorem putL_len (x : Nat) : (x < 128 → (putL x).length = 1) ∧ (128 ≤ x → x < 16384 → (putL x).length = 2) ∧ (16384 ≤ x → x < 2097152 → (putL x).length = 3) ∧ (2097152 ≤ x → (putL x).length = 4) := by
  have e1 : 2097152 = 16384 * 128 := rfl
  refine ⟨fun h => ?_, fun h h' => ?_, fun h h' => ?_, fun h => ?_⟩
  · unfold putL; rw [putF, if_pos h]; rfl
  · unfold putL; rw [putF, if_neg (by omega), putF, if_pos (by omega)]; rfl
  · unfold putL; rw [putF, if_neg (by omega), putF, if_neg (by omega), putF, if_pos (by omega)]; rfl
  · unfold putL; rw [putF, if_neg (by omega), putF, if_neg (by omega), putF, if_neg (by omega), putF]; split <;> rfl
/-- Put at a number that is one, an Int. -/
theorem put_okI (X : Int) (h0 : 0 ≤ X) (h1 : X ≤ 268435455) (w : World) : Calls Try.prog 10 #[.int .i64 X] w fun e w' => ∃ v, e = .returned (.tuple #[v, .int .i64 0]) ∧ Rd w' 1 v (putL X.toNat).length (Lib.byteCells (putL X.toNat)) ∧ Ext w w' := by
  have h := put_ok X.toNat (by omega) w
  rw [Int.toNat_of_nonneg h0] at h
  exact h

theorem numberBack_c (n : Int) (A : Option Addr) (k c : Nat) (zs : List Int) (w : World) (hn : (Lit.int .u32 n).wf = true) (h : IsInts .u8 w A k c zs) :
    Calls Try.prog 4 #[.int .u32 n, .slice A k c] w fun e w' => e = .returned (.bool true) ∧ Below w.heap.size w w' := by
  obtain ⟨m, l, hm, hl, hrd, hfew⟩ := few2_in h
  have hm20 : m ≤ 20 := by omega
  obtain ⟨i, hi, hz0, hz1, hz2⟩ := info_parts info_u8b
  obtain ⟨n0, n1⟩ := bounds_u32 hn
  obtain ⟨X, hX, hX0, hX1⟩ := and28 n n0 n1
  obtain ⟨x, hx⟩ : ∃ x, x = X.toNat := ⟨_, rfl⟩
  have hxX : (x : Int) = X := by omega
  have hxl : x < 268435456 := by omega
  obtain ⟨q, hq⟩ : ∃ q, q = (putL x).length := ⟨_, rfl⟩
  have hq4 : q ≤ 4 := by have := putL_length x; omega
  have hq1 : 1 ≤ q := by have := putL_pos x; omega
  have hP := fun w' => put_okI X hX0 hX1 w'
  rw [← hx, ← hq] at hP
  have HP := Lib.hid hP
  have hpl : (q = 1 ∧ X < 128) ∨ (q = 2 ∧ 128 ≤ X ∧ X < 16384) ∨ (q = 3 ∧ 16384 ≤ X ∧ X < 2097152) ∨ (q = 4 ∧ 2097152 ≤ X ∧ X < 268435456) := by
    obtain ⟨g1, g2, g3, g4⟩ := putL_len x
    by_cases c1 : x < 128
    · exact .inl ⟨by rw [hq, g1 c1], by omega⟩
    by_cases c2 : x < 16384
    · exact .inr (.inl ⟨by rw [hq, g2 (by omega) c2], by omega, by omega⟩)
    by_cases c3 : x < 2097152
    · exact .inr (.inr (.inl ⟨by rw [hq, g3 (by omega) c3], by omega, by omega⟩))
    · exact .inr (.inr (.inr ⟨by rw [hq, g4 (by omega)], by omega, by omega⟩))
  have htake : takeL (putL x ++ l) = (x, q, 0) := by rw [hq]; exact take_put x hxl l
  have hpre : ∀ j, j < q → takeL ((putL x).take j) = (0, 0, 7) := fun j hj => take_pre x j (by omega)
  have HF := Lib.hid hfew; have HRD := Lib.hid hrd; have HI := Lib.hid hi; have HZ0 := Lib.hid hz0; have HZ1 := Lib.hid hz1; have HZ2 := Lib.hid hz2
  have HT := Lib.hid htake; have HPRE := Lib.hid hpre; have HPL := Lib.hid hpl; have HQ := Lib.hid hq; have HL := Lib.hid hl; have HXX := Lib.hid hxX
  clear h hm hl hrd hfew hn hx hxX hxl hq hP hpl htake hpre hi hz0 hz1 hz2
  go_enter Try.func4, Try.ntmps4
  go_wp2_with fail
  refine (shown2_c _).mono ?_; rintro e w1 ⟨rfl, hx1⟩
  go_wp2_with fail
  refine (HP.out _).mono ?_; rintro e w2 ⟨p, rfl, hrp, hx2⟩
  have hx := hx1.trans hx2
  clear hx1 hx2
  obtain ⟨AP, cp, rfl, hcp⟩ := hrp.len
  have hown0 : Own (w2.alloc (.cells #[] 5)) w2.heap.size 5 1 (.slice (some ⟨w2.heap.size, 0, none⟩) 0 0) 0 [] := Own.made w2 w2.heap.size 5 1 0 #[] (Nat.le_refl _) (by omega) rfl
  have hb0 : Below w2.heap.size w2 (w2.alloc (.cells #[] 5)) := (Below.refl _ _).alloc (Nat.le_refl _) _
  obtain ⟨v1, w3, happ1, hown1, hb1⟩ := app_rd (P := Try.prog) 22 22 5 i _ 1 1 Try.underlying22 HI.out HZ0.out HZ1.out HZ2.out rfl (by omega) (by omega) hb0 hown0 (by omega) (hrp.ext ((Ext.refl w2).alloc _)) (by omega) (byteCells_one _)
  obtain ⟨v2, w4, happ2, hown2, hb2⟩ := app_rd (P := Try.prog) 22 22 5 i _ 1 1 Try.underlying22 HI.out HZ0.out HZ1.out HZ2.out rfl (by omega) (by omega) hb1 hown1 (by omega) (HRD.out.ext (hx.trans hb1)) (by omega) (byteCells_one _)
  obtain ⟨A2, c2, rfl, hc2⟩ := hown2.len
  have hrd2 : Rd w4 1 (.slice A2 (0 + q + m) c2) (0 + q + m) (Lib.byteCells (putL x ++ l)) := by
    have h := hown2.rd
    rw [List.nil_append, ← byteCells_append2] at h
    exact h
  have HT2 : Hid (Calls Try.prog 12 #[.slice A2 (0 + q + m) c2] w4 fun e w' => e = .returned (.tuple #[.int .i64 X, .int .i64 q, .int .i64 0]) ∧ Ext w4 w') := Lib.hid (by
    have h := take_c A2 (0 + q + m) c2 (putL x ++ l) w4 hrd2 (by omega)
    rw [HT.out] at h
    unfold takeV at h
    simp only [HXX.out] at h
    exact h)
  rw [Nat.zero_add] at HT2
  have hx4 : Ext w2 w4 := hb2
  have HA1 := Lib.hid happ1; have HA2 := Lib.hid happ2
  clear happ1 happ2 hown0 hown1 hown2 hb0 hb1 hb2 hrd2
  go_wp2_with (first | (at_builtin; refine wpList_append_run rfl rfl HA1.out rfl rfl ?_) | (go_at_call 13; refine (HF.out _).mono ?_; rintro e w' ⟨rfl, rfl⟩) | (at_builtin; refine wpList_append_run rfl rfl HA2.out rfl rfl ?_))
  refine HT2.out.mono ?_; rintro e w5 ⟨rfl, hx5⟩
  have hx25 : Ext w2 w5 := hx4.trans hx5
  clear hx4 hx5
  go_wp2_with fail
  go_loopw [12] (fun z wr => ∃ j : Nat, j ≤ q ∧ z = .int .i64 j ∧ Ext w2 wr) (fun z _ => q - (intOf z).toNat)
  case atStart => exact ⟨0, by omega, rfl, hx25⟩
  case round =>
    obtain ⟨j, hj, rfl, hxr⟩ := hrel
    by_cases hlt : j < q
    · have hjr := (hrp.ext hxr).take (m := j) (by omega)
      rw [Nat.mul_one, byteCells_take] at hjr
      have HTJ : Hid (Calls Try.prog 12 #[.slice AP j cp] wr fun e w' => e = .returned (.tuple #[.int .i64 0, .int .i64 0, .int .i64 7]) ∧ Ext wr w') := Lib.hid (by
        have h := take_c AP j cp _ wr hjr (by omega)
        rw [HPRE.out j hlt] at h
        exact h)
      have hjc : j ≤ cp := by omega
      clear hjr
      go_wp2_with (go_at_call 12; refine HTJ.out.mono ?_; rintro e w6 ⟨rfl, hx6⟩)
      go_roundw
      case rel => exact ⟨j + 1, by omega, by go_num, hxr.trans hx6⟩
      case measure => simp [intOf]; omega
    · obtain rfl : j = q := by omega
      clear hlt hj
      rcases HPL.out with ⟨g1, g2⟩ | ⟨g1, g2, g3⟩ | ⟨g1, g2, g3⟩ | ⟨g1, g2, g3⟩
      all_goals
        subst g1
        go_wp2_with fail
        go_ret
        exact ⟨rfl, hx.trans hxr⟩
end Go.Proofs.Ytnljmfhiglajcaa
