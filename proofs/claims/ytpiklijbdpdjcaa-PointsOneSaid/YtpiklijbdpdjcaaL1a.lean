/- Layer 1, the statements' own functions: shown, few. -/
import Derived.Test.YtpiklijbdpdjcaaC1g
import Derived.Test.YtpiklijbdpdjcaaC1j
namespace Go.Proofs.Ytpiklijbdpdjcaa
open Go.RowKit
set_option maxRecDepth 100000
set_option maxHeartbeats 1000000

theorem ex_cut : cutF (bs ⟨#[97, 195, 169, 98]⟩) 1 2 = ([195, 169], 0) := by decide +kernel
theorem ex_cnt : cntF (bs ⟨#[97, 195, 169, 98]⟩) = 3 := by decide +kernel
theorem mkS_ex : mkS [195, 169] = ⟨#[195, 169]⟩ := rfl

theorem shown_c (w : World) : Calls Try.prog 9 #[] w fun e w' => e = .returned (.bool true) ∧ Ext w w' := by
  have H1 : Hid (∀ w', Calls Try.prog 11 #[.string ⟨#[97, 195, 169, 98]⟩, .int .i64 1, .int .i64 2] w' fun e w'' => e = .returned (.tuple #[.string ⟨#[195, 169]⟩, .int .i64 0]) ∧ Ext w' w'') :=
    Lib.hid fun w' => by
      have h := cut_c ⟨#[97, 195, 169, 98]⟩ 1 2 w' (by decide)
      rw [ex_cut] at h; exact h
  have H2 : Hid (∀ w', Calls Try.prog 15 #[.string ⟨#[97, 195, 169, 98]⟩] w' fun e w'' => e = .returned (.int .i64 3) ∧ Ext w' w'') :=
    Lib.hid fun w' => by
      have h := count_c ⟨#[97, 195, 169, 98]⟩ w' (by decide)
      rw [ex_cnt] at h; exact h
  go_enter Try.func9, Try.ntmps9
  go_wp2_with (first | (go_at_call 11; refine (H1.out _).mono ?_; rintro e w1 ⟨rfl, hx1⟩) | (go_at_call 15; refine (H2.out _).mono ?_; rintro e w2 ⟨rfl, hx2⟩))
  go_ret
  exact ⟨rfl, hx1.trans hx2⟩

/-- The first 120 bytes of a string, as few makes them. -/
def few1 (s : ByteArray) : ByteArray := s.extract 0 (min s.size 120)
theorem few1_size (s : ByteArray) : (few1 s).size ≤ 120 := by simp [few1]; omega
theorem few_c (s : ByteArray) (w : World) (hs : s.size ≤ maxLen) : Calls Try.prog 10 #[.string s] w fun e w' => e = .returned (.string (few1 s)) ∧ w = w' := by
  unfold maxLen at hs
  have hm : (min (s.size : Int) 120).toNat = min s.size 120 := by omega
  have HM := Lib.hid hm; clear hm
  go_enter Try.func10, Try.ntmps10
  go_wp2_with fail
  go_ret
  rw [HM.out]
  exact ⟨rfl, rfl⟩
theorem mkS_append (a b : List UInt8) : mkS a ++ mkS b = mkS (a ++ b) := by
  apply bs_inj; rw [bs_mkS]; simp [bs, mkS]
end Go.Proofs.Ytpiklijbdpdjcaa
