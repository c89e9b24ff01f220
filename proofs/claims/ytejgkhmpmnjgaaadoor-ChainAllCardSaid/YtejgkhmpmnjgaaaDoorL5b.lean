/- Layer 5, NormalAll. -/
import Derived.Test.YtejgkhmpmnjgaaaDoorP5
import Derived.Test.YtejgkhmpmnjgaaaDoorC4
import Derived.Test.YtejgkhmpmnjgaaaDoorFr
import Derived.Test.YtejgkhmpmnjgaaaDoorMg
namespace Go.Proofs.YtejgkhmpmnjgaaaDoor
open Go.RowKit
set_option maxRecDepth 100000
set_option maxHeartbeats 1000000
instance decN : (l : List Sp) → Decidable (isN l)
  | [] => isTrue trivial
  | [s] => inferInstanceAs (Decidable (¬ emp s))
  | s :: t :: r => have := decN (t :: r); inferInstanceAs (Decidable (¬ emp s ∧ s.1 ≠ t.1 ∧ isN (t :: r)))
theorem dec_of_iff {l : List Sp} {b : Bool} (h : b = true ↔ isN l) : b = decide (isN l) := by
  by_cases hi : isN l
  · rw [decide_eq_true hi]; exact h.2 hi
  · rw [decide_eq_false hi]
    cases b with
    | true => exact absurd (h.1 rfl) hi
    | false => rfl
theorem isR_dec (A : Option Addr) (q c : Nat) (l : List Sp) (w : World) (h : Rd w 3 (.slice A q c) q (spCells l)) (hl : l.length = q) (hq : q ≤ 100000) :
    Calls Tryd.prog 32 #[.slice A q c] w fun e w' => e = .returned (.bool (decide (isN l))) ∧ Ext w w' :=
  (isR5_c A q c l w h hl hq).mono fun _ _ ⟨b, he, hx, hb⟩ => ⟨by rw [← dec_of_iff hb]; exact he, hx⟩
theorem is_dec (A : Option Addr) (q c : Nat) (l : List Sp) (w : World) (h : Rd w 3 (.slice A q c) q (spCells l)) (hl : l.length = q) (hq : q ≤ 100000) :
    Calls Tryd.prog 60 #[.slice A q c] w fun e w' => e = .returned (.bool (decide (isN l))) ∧ Ext w w' :=
  (is5_c A q c l w h hl hq).mono fun _ _ ⟨b, he, hx, hb⟩ => ⟨by rw [← dec_of_iff hb]; exact he, hx⟩
theorem is_yes (A : Option Addr) (q c : Nat) (l : List Sp) (w : World) (h : Rd w 3 (.slice A q c) q (spCells l)) (hl : l.length = q) (hq : q ≤ 100000) (hi : isN l) :
    Calls Tryd.prog 60 #[.slice A q c] w fun e w' => e = .returned (.bool true) ∧ Ext w w' :=
  (is5_c A q c l w h hl hq).mono fun _ _ ⟨b, he, hx, hb⟩ => by obtain rfl := hb.2 hi; exact ⟨he, hx⟩
theorem is_no (A : Option Addr) (q c : Nat) (l : List Sp) (w : World) (h : Rd w 3 (.slice A q c) q (spCells l)) (hl : l.length = q) (hq : q ≤ 100000) (hi : ¬ isN l) :
    Calls Tryd.prog 60 #[.slice A q c] w fun e w' => e = .returned (.bool false) ∧ Ext w w' :=
  (is5_c A q c l w h hl hq).mono fun _ _ ⟨b, he, hx, hb⟩ => by
    cases b with
    | true => exact absurd (hb.1 rfl) hi
    | false => exact ⟨he, hx⟩
end Go.Proofs.YtejgkhmpmnjgaaaDoor
namespace Go.Proofs.YtejgkhmpmnjgaaaDoor
open Go.RowKit
set_option maxRecDepth 100000
set_option maxHeartbeats 1000000
theorem sumT_le (l : List Sp) (b : Nat) (h : ∀ s ∈ l, s.2.2.size ≤ b) : sumT l ≤ l.length * b := by
  induction l with
  | nil => simp [sumT]
  | cons a t ih =>
    have h1 := h a (by simp)
    have h2 := ih (fun s hs => h s (by simp [hs]))
    have e : sumT (a :: t) = a.2.2.size + sumT t := rfl
    rw [e, List.length_cons, Nat.add_mul, Nat.one_mul]; omega
/-- Operations that Fit makes may be asked for their shortest form. -/
theorem fit_ok (l : List Sp) (n : Int) (h0 : 0 ≤ n) (h1 : n ≤ 1048576) : Ok (fitL l n) := by
  obtain ⟨h2, h3⟩ := fitL_all l n h0 h1
  obtain ⟨h4, h5⟩ := may_sum _ h2
  have h6 := sumT_le _ 24 (fitL_text l n)
  have h7 := fitL_len l n
  exact ⟨h4, by unfold sumN; rw [h5, h3]; omega, by omega⟩
end Go.Proofs.YtejgkhmpmnjgaaaDoor
