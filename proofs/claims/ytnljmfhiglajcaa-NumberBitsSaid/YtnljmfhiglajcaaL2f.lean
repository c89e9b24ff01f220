/- Layer 2, NumberBits. -/
import Derived.Test.YtnljmfhiglajcaaL2c
import Derived.Deep.QuietTactic
import Derived.BigQuiet
namespace Go.Proofs.Ytnljmfhiglajcaa
open Go.RowKit
set_option maxRecDepth 100000
set_option maxHeartbeats 1000000

theorem putF_succ (k m : Nat) (h : m < capN (k + 1)) : putF (k + 1) m = putF (k + 2) m := by
  induction k generalizing m with
  | zero =>
    have : m < 128 := by simpa [capN] using h
    rw [putF, if_pos this, putF, if_pos this]
  | succ k ih =>
    rw [putF]
    conv => rhs; rw [putF]
    by_cases hm : m < 128
    · rw [if_pos hm, if_pos hm]
    · rw [if_neg hm, if_neg hm, ih (m / 128) (by
        rw [capN] at h
        exact Nat.div_lt_of_lt_mul h)]
theorem putL_small (x : Nat) (h : x < 128) : putL x = [u8 x] := by unfold putL; rw [putF, if_pos h]
theorem putL_big (x : Nat) (h : 128 ≤ x) (h' : x < 268435456) : putL x = u8 (128 + x % 128) :: putL (x / 128) := by
  unfold putL
  rw [putF, if_neg (by omega), putF_succ 2 (x / 128) (by
    have e : capN 3 = 2097152 := rfl
    rw [e]
    have e1 : 268435456 = 128 * 2097152 := rfl
    exact Nat.div_lt_of_lt_mul (by omega))]

theorem numberBits_c (n : Int) (w : World) (hn : (Lit.int .u32 n).wf = true) :
    Calls Try.prog 8 #[.int .u32 n] w fun e w' => e = .returned (.bool true) ∧ Below w.heap.size w w' := by
  obtain ⟨n0, n1⟩ := bounds_u32 hn
  obtain ⟨X, hX, hX0, hX1⟩ := and28 n n0 n1
  have HP := Lib.hid (fun w' => put_okI X hX0 hX1 w')
  clear hn
  by_cases h : X < 128
  · have hp : putL X.toNat = [u8 X.toNat] := putL_small _ (by omega)
    have hv : ((u8 X.toNat).toNat : Int) = X := by rw [u8_toNat (by omega)]; omega
    rw [hp] at HP
    have HV := Lib.hid hv
    clear hp hv
    generalize u8 X.toNat = v0 at *
    go_enter Try.func8, Try.ntmps8
    go_wp2_with fail
    refine (shown2_c _).mono ?_; rintro e w1 ⟨rfl, hx1⟩
    go_wp2_with fail
    refine (HP.out _).mono ?_; rintro e w2 ⟨p, rfl, hrp, hx2⟩
    obtain ⟨AP, cp, rfl, hcp⟩ := hrp.len
    have hrp1 : Rd w2 1 (.slice AP 1 cp) 1 (Lib.byteCells [v0]) := hrp
    obtain ⟨b, off, rfl, hcell, hb⟩ := byte_at hrp1 (j := 0) (by omega)
    have hcell1 : w2.cell? ⟨b, off, none⟩ = some (.int .u8 X) := by
      rw [Nat.add_zero] at hcell
      rw [hcell, ← HV.out]; rfl
    have HRP := Lib.hid hrp
    clear hcell hrp1 hrp
    have hl1 : ([v0] : List UInt8).length = 1 := rfl
    go_wp2_with fail
    go_ret
    exact ⟨rfl, hx1.trans hx2⟩
  · obtain ⟨v, hv⟩ : ∃ v : Int, v = 128 + X % 128 := ⟨_, rfl⟩
    have hp : putL X.toNat = u8 v.toNat :: putL (X / 128).toNat := by
      rw [putL_big X.toNat (by omega) (by omega), show 128 + X.toNat % 128 = v.toNat from by omega, show X.toNat / 128 = (X / 128).toNat from by omega]
    have hv0 : ((u8 v.toNat).toNat : Int) = v := by rw [u8_toNat (by omega)]; omega
    have hm : v % 128 = X % 128 := by omega
    have hv1 : 128 ≤ v := by omega
    have hv2 : v < 256 := by omega
    have hX128 : 128 ≤ X := by omega
    have HQ := Lib.hid (fun w' => put_okI (X / 128) (by omega) (by omega) w')
    rw [hp] at HP
    have HV := Lib.hid hv0
    clear hp hv0 hv
    generalize u8 v.toNat = v0 at *
    obtain ⟨q, hq⟩ : ∃ q, q = putL (X / 128).toNat := ⟨_, rfl⟩
    rw [← hq] at HP HQ
    obtain ⟨k, hk⟩ : ∃ k, k = (v0 :: q).length := ⟨_, rfl⟩
    have hkq : k = q.length + 1 := by rw [hk]; rfl
    rw [← hk] at HP
    have hqp : 0 < q.length := by rw [hq]; exact putL_pos _
    have HK := Lib.hid hkq
    clear hq hk hkq
    have hk1 : 1 < k := by have := HK.out; omega
    go_enter Try.func8, Try.ntmps8
    go_wp2_with fail
    refine (shown2_c _).mono ?_; rintro e w1 ⟨rfl, hx1⟩
    go_wp2_with fail
    refine (HP.out _).mono ?_; rintro e w2 ⟨p, rfl, hrp, hx2⟩
    obtain ⟨AP, cp, rfl, hcp⟩ := hrp.len
    obtain ⟨b, off, rfl, hcell, hb⟩ := byte_at hrp (j := 0) (by omega)
    have hcell1 : w2.cell? ⟨b, off, none⟩ = some (.int .u8 v) := by
      rw [Nat.add_zero] at hcell
      rw [hcell, ← HV.out]; rfl
    have hrest := hrp.drop (m := 1) (by omega)
    have HRP := Lib.hid hrp
    have HRR := Lib.hid hrest
    clear hcell hrest hrp
    go_wp2_with fail
    refine (HQ.out _).mono ?_; rintro e w3 ⟨pq, rfl, hrq, hx3⟩
    have hx := (hx1.trans hx2).trans hx3
    have hrr : Rd w3 1 (.slice (some ⟨b, off + 1, none⟩) (k - 1) (cp - 1)) (k - 1) (Lib.byteCells q) := by
      have h := HRR.out.ext hx3
      rw [Nat.mul_one] at h
      have e : (Lib.byteCells (v0 :: q)).drop 1 = Lib.byteCells q := rfl
      rw [e] at h
      exact h
    have k1 : ∀ nq, (convert 22 9 (.slice (some ⟨b, off + 1, none⟩) (k - 1) (cp - 1))).run Try.prog (w3.drewN nq) = .ok (.string (mkS q)) (w3.drewN nq) := fun nq => str_run _ (hrr.ext ((Ext.refl w3).drewN nq))
    have k2 : ∀ nq, (convert 22 9 pq).run Try.prog (w3.drewN nq) = .ok (.string (mkS q)) (w3.drewN nq) := fun nq => str_run _ (hrq.ext ((Ext.refl w3).drewN nq))
    generalize mkS q = S at *
    go_wp2_with fail
    go_quiet (fail)
    go_wp2_with fail
    go_ret
    exact ⟨rfl, hx.drewN _⟩
end Go.Proofs.Ytnljmfhiglajcaa
