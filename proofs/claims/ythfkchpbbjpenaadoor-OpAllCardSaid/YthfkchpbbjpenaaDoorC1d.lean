/- Layer 1, the reference: Valid, Count, Cut. -/
import Derived.Test.YthfkchpbbjpenaaDoorC1c
import Derived.Deep.QuietTactic
import Derived.BigQuiet
namespace Go.Proofs.YthfkchpbbjpenaaDoor
open Go.RowKit
set_option maxRecDepth 100000
set_option maxHeartbeats 1000000

def cntF (l : List UInt8) : Int := match dec l with | none => -1 | some cs => (cs.length : Int)
def cutF (l : List UInt8) (a b : Int) : List UInt8 × Int :=
  match dec l with
  | none => ([], 3)
  | some cs => if 0 ≤ a ∧ a ≤ b ∧ b ≤ cs.length then (encs ((cs.take b.toNat).drop a.toNat), 0) else ([], 6)

theorem validR_c (s : ByteArray) (w : World) (hs : s.size ≤ 1000000000) :
    Calls Tryd.prog 29 #[.string s] w fun e w' => e = .returned (.bool (dec (bs s)).isSome) ∧ Ext w w' := by
  go_enter Tryd.func29, Tryd.ntmps29
  go_wp2_with fail
  refine (starts_c s _ hs).mono ?_
  rintro e w1 ⟨hx, ⟨hd, rfl⟩ | ⟨cs, v, hd, rfl, hown⟩⟩
  all_goals
    have HD := Lib.hid hd; clear hd
    go_wp2_with fail
    go_ret
    rw [HD.out]
    exact ⟨rfl, hx⟩
theorem countR_c (s : ByteArray) (w : World) (hs : s.size ≤ 1000000000) :
    Calls Tryd.prog 32 #[.string s] w fun e w' => e = .returned (.int .i64 (cntF (bs s))) ∧ Ext w w' := by
  go_enter Tryd.func32, Tryd.ntmps32
  go_wp2_with fail
  refine (starts_c s _ hs).mono ?_
  rintro e w1 ⟨hx, ⟨hd, rfl⟩ | ⟨cs, v, hd, rfl, hown⟩⟩
  · have HD : Hid (cntF (bs s) = -1) := Lib.hid (by unfold cntF; rw [hd])
    clear hd
    go_wp2_with fail
    go_ret
    rw [HD.out]
    exact ⟨rfl, hx⟩
  · have HD : Hid (cntF (bs s) = cs.length) := Lib.hid (by unfold cntF; rw [hd])
    have hl : cs.length ≤ 1000000000 := by
      have := (dec_some hd).2; have h2 := length_le_encs cs; rw [← this, bs_length] at h2; omega
    clear hd
    obtain ⟨a, c, rfl, hc⟩ := hown.len
    go_wp2_with fail
    go_ret
    rw [HD.out]
    exact ⟨ret_int (by omega), hx⟩
end Go.Proofs.YthfkchpbbjpenaaDoor
