/- Packed: L5b. -/
import Derived.BigQuiet
import Derived.ChangeOld
import Derived.Deep.MidRow
import Derived.Deep.QuietTactic
import Derived.Deep.RegionHeld3
import Derived.Deep.RegionWith
import Derived.Deep.Slices
import Derived.Laws.AppendOwnNone
import Derived.Laws.BytesArg
import Derived.Laws.IdiomCopy
import Derived.Laws.MakeOwn
import Derived.Lib.AppendStr
import Derived.Lib.Builder
import Derived.Lib.DecodeN
import Derived.Lib.Hide
import Derived.Lib.Strings
import Derived.Lib.UnsafeStr
import Derived.OpenShut
import Derived.ProofKit
import Derived.ShutString
import Derived.StillTailTactics
import Derived.Test.YtgcaphjjigpjlaaGreatDoorProg
import Derived.Test.YtgcaphjjigpjlaaGreatDoorShelf
import Derived.WalkKit
import Derived.WalkLawsBesides
import Derived.WalkSpells
import Derived.Test.YtgcaphjjigpjlaaGreatDoorQ00
import Derived.Test.YtgcaphjjigpjlaaGreatDoorQ01
import Derived.Test.YtgcaphjjigpjlaaGreatDoorQ02
import Derived.Test.YtgcaphjjigpjlaaGreatDoorQ05
import Derived.Test.YtgcaphjjigpjlaaGreatDoorQ06
import Derived.Test.YtgcaphjjigpjlaaGreatDoorQ09
namespace Go.Proofs.YtgcaphjjigpjlaaGreatDoor
open Go.RowKit
set_option maxRecDepth 100000
set_option maxHeartbeats 1000000
instance decN : (l : List Sp) → Decidable (isN l)
  | [] => isTrue trivial
  | [s] => inferInstanceAs (Decidable (¬ emp s))
  | s :: t :: r => have := decN (t :: r); inferInstanceAs (Decidable (¬ emp s ∧ s.1 ≠ t.1 ∧ isN (t :: r)))
end Go.Proofs.YtgcaphjjigpjlaaGreatDoor
namespace Go.Proofs.YtgcaphjjigpjlaaGreatDoor
open Go.RowKit
set_option maxRecDepth 100000
set_option maxHeartbeats 1000000
theorem sumT_le (l : List Sp) (b : Nat) (h : ∀ s ∈ l, s.2.2.size ≤ b) : sumT l ≤ l.length * b := by
  induction l with
  | nil => simp [sumT]
  | cons a t ih =>
    have h1 := h a (by simp)
    have h2 := ih (fun s hs => h s (by simp [hs]))
    have e : sumT (a :: t) = a.2.2.size + sumT t := rfl
    rw [e, List.length_cons, Nat.add_mul, Nat.one_mul]; omega
end Go.Proofs.YtgcaphjjigpjlaaGreatDoor
