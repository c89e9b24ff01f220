/- Packed: C15. -/
import Derived.BigQuiet
import Derived.Deep.QuietTactic
import Derived.Laws.AppendOwnNone
import Derived.Laws.BytesArg
import Derived.Lib.AppendStr
import Derived.Lib.DecodeN
import Derived.Lib.Hide
import Derived.Lib.Strings
import Derived.Lib.UnsafeStr
import Derived.StillTailTactics
import Derived.Test.YtgcaphjjigpjlaaDoorProg
import Derived.WalkKit
import Derived.WalkLawsBesides
import Derived.WalkSpells
import Derived.Test.YtgcaphjjigpjlaaDoorQ00
import Derived.Test.YtgcaphjjigpjlaaDoorQ01
import Derived.Test.YtgcaphjjigpjlaaDoorQ02
namespace Go.Proofs.YtgcaphjjigpjlaaDoor
open Go.RowKit
set_option maxRecDepth 100000
set_option maxHeartbeats 4000000
set_option linter.unusedSimpArgs false
def BytesR (w : World) (E : Int) (B : List UInt8) (e : Ending) (w' : World) : Prop :=
  Ext w w' ∧ ∃ v, e = .returned (.tuple #[v, .int .i64 E]) ∧ Own w' w.heap.size 5 1 v B.length (Lib.byteCells B)
def rwB (l : List Int) : List UInt8 := if rowE l = 0 then rwL l else []
theorem rises_drop {l : List Int} {j : Nat} (hj : j < l.length) (was : Int) : rises was (l.drop j) ↔ was < l[j] ∧ l[j] ≤ 268435455 ∧ rises l[j] (l.drop (j + 1)) := by
  rw [List.drop_eq_getElem_cons hj]; exact Iff.rfl
theorem rises_at {l : List Int} : ∀ {was : Int}, rises was l → ∀ j (hj : j < l.length), was < l[j] ∧ l[j] ≤ 268435455 ∧ rises l[j] (l.drop (j + 1)) := by
  induction l with
  | nil => intro was _ j hj; exact absurd hj (by simp)
  | cons x r ih =>
    intro was h j hj
    obtain ⟨h1, h2, h3⟩ := h
    cases j with
    | zero => exact ⟨h1, h2, h3⟩
    | succ j =>
      obtain ⟨a, b, c⟩ := ih h3 j (by simpa using hj)
      exact ⟨by rw [List.getElem_cons_succ]; omega, b, c⟩
def lastI (l : List Int) : Nat → Int
  | 0 => -1
  | j + 1 => l.getD j (-1)
theorem lastI_succ {l : List Int} {j : Nat} (h : j < l.length) : lastI l (j + 1) = l[j] := by simp [lastI, h]
theorem rises_step {l : List Int} {j : Nat} (hj : j < l.length) : rises (lastI l j) (l.drop j) ↔ lastI l j < l[j] ∧ l[j] ≤ 268435455 ∧ rises (lastI l (j + 1)) (l.drop (j + 1)) := by
  rw [rises_drop hj, lastI_succ hj]
theorem rsL_take (l : List Int) : ∀ (was : Int) (j : Nat) (hj : j < l.length), rsL was (l.take (j + 1)) = rsL was (l.take j) ++ rS (if j = 0 then was else l.getD (j - 1) (-1)) l[j] := by
  induction l with
  | nil => intro was j hj; exact absurd hj (by simp)
  | cons x r ih =>
    intro was j hj
    cases j with
    | zero => show rS was x ++ rsL x [] = [] ++ rS was x; simp [rsL]
    | succ j =>
      have h := ih x j (by simpa using hj)
      show rS was x ++ rsL x (r.take (j + 1)) = (rS was x ++ rsL x (r.take j)) ++ _
      rw [h, List.append_assoc, List.getElem_cons_succ]
      cases j with
      | zero => simp
      | succ j => simp
theorem rsL_take' {l : List Int} {j : Nat} (hj : j < l.length) : rsL (-1) (l.take (j + 1)) = rsL (-1) (l.take j) ++ rS (lastI l j) l[j] := by
  rw [rsL_take l (-1) j hj]
  cases j with
  | zero => rfl
  | succ j => rw [if_neg (by omega), Nat.add_sub_cancel]; rfl
end Go.Proofs.YtgcaphjjigpjlaaDoor
