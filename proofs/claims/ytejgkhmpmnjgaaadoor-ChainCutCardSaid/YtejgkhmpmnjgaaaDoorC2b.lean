/- Layer 2, the reference: Take. -/
import Derived.Test.YtejgkhmpmnjgaaaDoorC2a
import Derived.Deep.QuietTactic
import Derived.BigQuiet
namespace Go.Proofs.YtejgkhmpmnjgaaaDoor
open Go.RowKit
set_option maxRecDepth 100000
set_option maxHeartbeats 1000000

theorem lead_lt {k j : Nat} {l : List UInt8} (h : j < leadN k l) : j < l.length ∧ j < k ∧ 128 ≤ nth l j := by
  induction k generalizing j l with
  | zero => simp [leadN] at h
  | succ k ih =>
    cases l with
    | nil => simp [leadN] at h
    | cons b t =>
      simp only [leadN] at h
      split at h
      · omega
      · cases j with
        | zero => refine ⟨by simp, by omega, ?_⟩; simp [nth]; omega
        | succ j =>
          obtain ⟨h1, h2, h3⟩ := ih (j := j) (l := t) (by omega)
          exact ⟨by simpa using h1, by omega, by simpa [nth] using h3⟩
theorem lead_eq {k : Nat} {l : List UInt8} : leadN k l = k ∨ l.length ≤ leadN k l ∨ nth l (leadN k l) < 128 := by
  induction k generalizing l with
  | zero => simp [leadN]
  | succ k ih =>
    cases l with
    | nil => simp [leadN]
    | cons b t =>
      simp only [leadN]
      split
      · rename_i hb; right; right; simpa [nth] using hb
      · rcases ih (l := t) with h | h | h
        · left; omega
        · right; left; simpa using h
        · right; right; simpa [nth] using h
theorem valN_lt (j : Nat) (l : List UInt8) : valN j l < 256 * capN j := by
  induction j generalizing l with
  | zero => cases l with
    | nil => simp [valN, capN]
    | cons b t => have := b.toNat_lt; simp only [valN, capN]; omega
  | succ j ih => cases l with
    | nil => have := capN_pos (j + 1); simp only [valN]; omega
    | cons b t => have := b.toNat_lt; have := ih t; have := capN_pos j; simp only [valN, capN]; omega
theorem capN_le {j : Nat} (h : j ≤ 3) : capN j ≤ 2097152 := by
  have e0 : capN 0 = 1 := rfl
  have e1 : capN 1 = 128 := rfl
  have e2 : capN 2 = 16384 := rfl
  have e3 : capN 3 = 2097152 := rfl
  match j, h with
  | 0, _ => omega
  | 1, _ => omega
  | 2, _ => omega
  | 3, _ => omega
theorem valN_le {j : Nat} (h : j ≤ 3) (l : List UInt8) : valN j l < 536870912 := by
  have := valN_lt j l; have := capN_le h; omega
theorem valN_step (l : List UInt8) (k j : Nat) (hj : j < k) (hk : k < l.length) : valN (k - j) (l.drop j) = (nth l j - 128) + 128 * valN (k - (j + 1)) (l.drop (j + 1)) := by
  have hjl : j < l.length := by omega
  obtain ⟨d, hd⟩ : ∃ d, k - j = d + 1 := ⟨k - j - 1, by omega⟩
  rw [List.drop_eq_getElem_cons hjl, hd, valN, show k - (j + 1) = d from by omega]
  simp [nth, hjl]

/-- What Take answers. -/
def takeV (r : Nat × Nat × Nat) : Value := .tuple #[.int .i64 r.1, .int .i64 r.2.1, .int .i64 r.2.2]
theorem take_form (l : List UInt8) : takeL l = (0, 0, 8) ∨ takeL l = (0, 0, 7) ∨ takeL l = (0, 0, 8) ∨ True := by simp
theorem byte_at {w : World} {A : Option Addr} {n c : Nat} {l : List UInt8} (h : Rd w 1 (.slice A n c) n (Lib.byteCells l)) {j : Nat} (hj : j < n) :
    ∃ b off, A = some ⟨b, off, none⟩ ∧ w.cell? ⟨b, off + j, none⟩ = some (.int .u8 (nth l j)) ∧ b < w.heap.size := by
  obtain ⟨b, off, u, hA, hb, hu, hc⟩ := h.cell hj
  refine ⟨b, off, hA, ?_, hb⟩
  rw [hc]
  unfold Lib.byteCells at hu
  rw [List.getElem?_map] at hu
  have hjl : j < l.length := by have := h.1; simp [Lib.byteCells] at this; omega
  rw [List.getElem?_eq_getElem hjl] at hu
  simp only [Option.map_some, Option.some.injEq] at hu
  rw [← hu]
  simp [nth, hjl]
end Go.Proofs.YtejgkhmpmnjgaaaDoor
