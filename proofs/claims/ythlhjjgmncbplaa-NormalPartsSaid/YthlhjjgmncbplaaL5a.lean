/- Layer 5, the statements' own functions: shown. -/
import Derived.Test.YthlhjjgmncbplaaP5
import Derived.Test.YthlhjjgmncbplaaC4c
import Derived.Test.YthlhjjgmncbplaaFr
namespace Go.Proofs.Ythlhjjgmncbplaa
open Go.RowKit
set_option maxRecDepth 100000
set_option maxHeartbeats 1000000
instance decN : (l : List Sp) → Decidable (isN l)
  | [] => isTrue trivial
  | [s] => inferInstanceAs (Decidable (¬ emp s))
  | s :: t :: r => have := decN (t :: r); inferInstanceAs (Decidable (¬ emp s ∧ s.1 ≠ t.1 ∧ isN (t :: r)))
theorem dec_of_iff {l : List Sp} {b : Bool} (h : b = true ↔ isN l) : b = decide (isN l) := by
  by_cases hi : isN l
  · rw [decide_eq_true hi]; exact h.2 hi
  · rw [decide_eq_false hi]
    cases b with
    | true => exact absurd (h.1 rfl) hi
    | false => rfl
theorem isR_dec (A : Option Addr) (q c : Nat) (l : List Sp) (w : World) (h : Rd w 3 (.slice A q c) q (spCells l)) (hl : l.length = q) (hq : q ≤ 100000) :
    Calls Try.prog 13 #[.slice A q c] w fun e w' => e = .returned (.bool (decide (isN l))) ∧ Ext w w' :=
  (isR5_c A q c l w h hl hq).mono fun _ _ ⟨b, he, hx, hb⟩ => ⟨by rw [← dec_of_iff hb]; exact he, hx⟩
theorem is_dec (A : Option Addr) (q c : Nat) (l : List Sp) (w : World) (h : Rd w 3 (.slice A q c) q (spCells l)) (hl : l.length = q) (hq : q ≤ 100000) :
    Calls Try.prog 12 #[.slice A q c] w fun e w' => e = .returned (.bool (decide (isN l))) ∧ Ext w w' :=
  (is5_c A q c l w h hl hq).mono fun _ _ ⟨b, he, hx, hb⟩ => ⟨by rw [← dec_of_iff hb]; exact he, hx⟩
theorem is_yes (A : Option Addr) (q c : Nat) (l : List Sp) (w : World) (h : Rd w 3 (.slice A q c) q (spCells l)) (hl : l.length = q) (hq : q ≤ 100000) (hi : isN l) :
    Calls Try.prog 12 #[.slice A q c] w fun e w' => e = .returned (.bool true) ∧ Ext w w' :=
  (is5_c A q c l w h hl hq).mono fun _ _ ⟨b, he, hx, hb⟩ => by obtain rfl := hb.2 hi; exact ⟨he, hx⟩
theorem is_no (A : Option Addr) (q c : Nat) (l : List Sp) (w : World) (h : Rd w 3 (.slice A q c) q (spCells l)) (hl : l.length = q) (hq : q ≤ 100000) (hi : ¬ isN l) :
    Calls Try.prog 12 #[.slice A q c] w fun e w' => e = .returned (.bool false) ∧ Ext w w' :=
  (is5_c A q c l w h hl hq).mono fun _ _ ⟨b, he, hx, hb⟩ => by
    cases b with
    | true => exact absurd (hb.1 rfl) hi
    | false => exact ⟨he, hx⟩
def ex5 : List Sp := [(1, 1, ⟨#[]⟩), (3, 0, ⟨#[]⟩), (1, 2, ⟨#[]⟩), (2, 0, ⟨#[97]⟩), (2, 0, ⟨#[98]⟩)]
theorem ex5_norm : normL ex5 = [(1, 3, ⟨#[]⟩), (2, 0, ⟨#[97, 98]⟩)] := by decide +kernel
theorem ex5_ok : Ok ex5 := ⟨by
  intro s hs
  simp only [ex5, List.mem_cons, List.not_mem_nil, or_false] at hs
  rcases hs with rfl | rfl | rfl | rfl | rfl <;> decide, by decide, by decide⟩
theorem ex5_is : isN [((1 : Int), (3 : Int), (⟨#[]⟩ : ByteArray)), (2, 0, ⟨#[97, 98]⟩)] := ⟨by decide, by decide, by show ¬ emp _; decide⟩
theorem shown5_c (w : World) : Calls Try.prog 7 #[] w fun e w' => e = .returned (.bool true) ∧ Ext w w' := by
  have hrd : Rd (w.alloc (.cells #[.int .i64 1, .int .i64 1, .string ⟨#[]⟩, .int .i64 3, .int .i64 0, .string ⟨#[]⟩, .int .i64 1, .int .i64 2, .string ⟨#[]⟩, .int .i64 2, .int .i64 0, .string ⟨#[97]⟩, .int .i64 2, .int .i64 0, .string ⟨#[98]⟩] 31)) 3 (.slice (some ⟨w.heap.size, 0, none⟩) 5 5) 5 (spCells ex5) :=
    (Own.made w w.heap.size 31 3 5 _ (Nat.le_refl _) (by omega) rfl).rd
  have HN := Lib.hid (of5_c _ _ _ ex5 _ hrd rfl (by omega) ex5_ok)
  rw [ex5_norm] at HN
  have HEX : Hid (∀ o, Ext w (w.alloc o)) := Lib.hid fun o => (Ext.refl w).alloc o
  clear hrd
  go_enter Try.func7, Try.ntmps7
  go_wp2_with fail
  refine HN.out.mono ?_; rintro e w1 ⟨v, rfl, hx1, hown⟩
  obtain ⟨g, cg, rfl, _, _, _, hcell⟩ := hown.cells (by simp)
  simp only [List.length_cons, List.length_nil, Nat.zero_add, Nat.reduceAdd] at hown hcell ⊢
  have x0 := hcell 0 _ rfl
  have x1 := hcell 1 _ rfl
  have x2 := hcell 2 _ rfl
  have x5 := hcell 5 _ rfl
  have HY := Lib.hid (fun w' hx => is_yes _ _ _ _ w' (hown.rd.ext (w' := w') hx) rfl (by simp) ex5_is)
  have HNO := Lib.hid (fun (w' : World) => is_no _ _ _ [(3, 0, ⟨#[]⟩)] _ (Own.made w' w'.heap.size 31 3 1 #[.int .i64 3, .int .i64 0, .string ⟨#[]⟩] (Nat.le_refl _) (by omega) rfl).rd rfl (by omega) (fun h => h ⟨rfl, rfl⟩))
  have HX3 : Hid (∀ (a : World) o, Ext w a → Ext w (a.alloc o)) := Lib.hid fun a o h => h.alloc o
  clear hown hcell
  go_wp2_with fail
  refine (HY.out _ (Ext.refl _)).mono ?_; rintro e w2 ⟨rfl, hx2⟩
  go_wp2_with fail
  refine (HNO.out _).mono ?_; rintro e w3 ⟨rfl, hx3⟩
  go_wp2_with fail
  go_ret
  exact ⟨rfl, (HX3.out _ _ (((HEX.out _).trans hx1).trans hx2)).trans hx3⟩
end Go.Proofs.Ythlhjjgmncbplaa
