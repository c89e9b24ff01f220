/- Plain mathematics of layer 2: numbers as bytes. It names no program. -/
import Derived.Test.YtejgkhmpmnjgaaaDoorMa
namespace Go.Proofs.YtejgkhmpmnjgaaaDoor

def putF : Nat → Nat → List UInt8
  | 0, _ => []
  | k + 1, n => if n < 128 then [u8 n] else u8 (128 + n % 128) :: putF k (n / 128)
/-- The bytes of a number below 2^28. -/
def putL (n : Nat) : List UInt8 := putF 4 n

/-- How many bytes from 128 on stand at the beginning, four at most. -/
def leadN : Nat → List UInt8 → Nat
  | 0, _ => 0
  | _ + 1, [] => 0
  | k + 1, b :: t => if b.toNat < 128 then 0 else leadN k t + 1
/-- The number of k + 1 bytes. -/
def valN : Nat → List UInt8 → Nat
  | _, [] => 0
  | 0, b :: _ => b.toNat
  | k + 1, b :: t => (b.toNat - 128) + 128 * valN k t
theorem valN_zero (l : List UInt8) : valN 0 l = nth l 0 := by cases l <;> rfl
def takeL (l : List UInt8) : Nat × Nat × Nat :=
  let k := leadN 4 l
  if k = 4 then (0, 0, 8) else if l.length ≤ k then (0, 0, 7) else if 0 < k ∧ nth l k = 0 then (0, 0, 8) else (valN k l, k + 1, 0)

theorem putF_length (k n : Nat) : (putF k n).length ≤ k := by
  induction k generalizing n with
  | zero => simp [putF]
  | succ k ih => simp only [putF]; split
                 · simp
                 · have := ih (n / 128); simp; omega
theorem putL_length (n : Nat) : (putL n).length ≤ 4 := putF_length 4 n
theorem putF_pos (k n : Nat) : 0 < (putF (k + 1) n).length := by
  simp only [putF]; split <;> simp
theorem putL_pos (n : Nat) : 0 < (putL n).length := putF_pos 3 n

theorem leadN_le (k : Nat) (l : List UInt8) : leadN k l ≤ k ∧ leadN k l ≤ l.length := by
  induction k generalizing l with
  | zero => simp [leadN]
  | succ k ih =>
    cases l with
    | nil => simp [leadN]
    | cons b t => have := ih t; simp only [leadN]; split
                  · simp
                  · simp; omega

/-- Bound by fuel. -/
def capN : Nat → Nat
  | 0 => 1
  | k + 1 => 128 * capN k
theorem capN_four : capN 4 = 268435456 := rfl
theorem capN_pos (k : Nat) : 0 < capN k := by induction k with
  | zero => decide
  | succ k ih => simp only [capN]; omega

/-- What was put is taken, whatever stands behind. -/
theorem lead_put (k n : Nat) (h : n < capN (k + 1)) (r : List UInt8) :
    leadN (k + 1) (putF (k + 1) n ++ r) = (putF (k + 1) n).length - 1 ∧ valN ((putF (k + 1) n).length - 1) (putF (k + 1) n ++ r) = n ∧
      ((putF (k + 1) n).length = 1 ∨ nth (putF (k + 1) n ++ r) ((putF (k + 1) n).length - 1) ≠ 0) := by
  induction k generalizing n with
  | zero =>
    have hn : n < 128 := by simpa [capN] using h
    simp only [putF, if_pos hn, List.length_singleton, List.cons_append, List.nil_append, leadN, valN, Nat.sub_self]
    rw [u8_toNat (by omega), if_pos hn]
    exact ⟨rfl, rfl, .inl trivial⟩
  | succ k ih =>
    by_cases hn : n < 128
    · have e : putF (k + 1 + 1) n = [u8 n] := by rw [putF, if_pos hn]
      rw [e]
      simp only [List.length_singleton, List.cons_append, List.nil_append, leadN, valN, Nat.sub_self]
      rw [u8_toNat (by omega), if_pos hn]
      exact ⟨rfl, rfl, .inl trivial⟩
    · have e : putF (k + 1 + 1) n = u8 (128 + n % 128) :: putF (k + 1) (n / 128) := by rw [putF, if_neg hn]
      have hb : n / 128 < capN (k + 1) := by simp only [capN] at h ⊢; omega
      obtain ⟨h1, h2, h3⟩ := ih (n / 128) hb
      have hp := putF_pos k (n / 128)
      obtain ⟨m, hm⟩ : ∃ m, (putF (k + 1) (n / 128)).length = m + 1 := ⟨_, (Nat.succ_pred_eq_of_pos hp).symm⟩
      rw [e]
      rw [hm] at h1 h2 h3
      simp only [List.length_cons, List.cons_append, hm, Nat.add_sub_cancel] at h1 h2 h3 ⊢
      have hu : (u8 (128 + n % 128)).toNat = 128 + n % 128 := u8_toNat (by omega)
      refine ⟨?_, ?_, .inr ?_⟩
      · rw [leadN, hu, if_neg (by omega), h1]
      · rw [valN, hu, h2]; omega
      · have : nth (u8 (128 + n % 128) :: (putF (k + 1) (n / 128) ++ r)) (m + 1) = nth (putF (k + 1) (n / 128) ++ r) m := rfl
        rw [this]
        rcases h3 with h3 | h3
        · have hm0 : m = 0 := by omega
          subst hm0
          intro h0
          rw [← valN_zero, h2] at h0
          omega
        · exact h3
theorem take_put (n : Nat) (h : n < 268435456) (r : List UInt8) : takeL (putL n ++ r) = (n, (putL n).length, 0) := by
  obtain ⟨h1, h2, h3⟩ := lead_put 3 n (by rw [capN_four]; exact h) r
  have hp := putL_pos n
  have hl := putL_length n
  unfold takeL
  show (let k := leadN 4 (putL n ++ r); _) = _
  have h1' : leadN 4 (putL n ++ r) = (putL n).length - 1 := h1
  simp only [h1']
  rw [if_neg (by omega), if_neg (by rw [List.length_append]; omega)]
  rw [if_neg (by
    rintro ⟨ha, hb⟩
    rcases h3 with h3 | h3
    · have h3' : (putL n).length = 1 := h3
      omega
    · exact h3 hb)]
  have h2' : valN ((putL n).length - 1) (putL n ++ r) = n := h2
  rw [h2', Nat.sub_add_cancel hp]

/-- A proper beginning of a number's bytes is too short. -/
theorem lead_pre (k n i : Nat) (hi : i < (putF (k + 1) n).length) : leadN (k + 1) ((putF (k + 1) n).take i) = i := by
  induction k generalizing n i with
  | zero =>
    have : (putF (0 + 1) n).length ≤ 1 := putF_length 1 n
    obtain rfl : i = 0 := by omega
    rfl
  | succ k ih =>
    cases i with
    | zero => rfl
    | succ i =>
      by_cases hn : n < 128
      · rw [putF, if_pos hn] at hi; simp at hi
      · rw [putF, if_neg hn] at hi ⊢
        simp only [List.length_cons, Nat.add_lt_add_iff_right] at hi
        rw [List.take_succ_cons, leadN, u8_toNat (by omega), if_neg (by omega), ih _ _ hi]
theorem take_pre (n i : Nat) (hi : i < (putL n).length) : takeL ((putL n).take i) = (0, 0, 7) := by
  have h : leadN 4 ((putL n).take i) = i := lead_pre 3 n i hi
  have hl := putL_length n
  unfold takeL
  simp only [h]
  rw [if_neg (by omega), if_pos (by rw [List.length_take]; omega)]

/-- What is taken is what was put. -/
theorem put_val (k j : Nat) (l : List UInt8) (hj : leadN (k + 1) l = j) (hk : j < k + 1) (hl : j < l.length) (h0 : 0 < j → nth l j ≠ 0) :
    putF (k + 1) (valN j l) = l.take (j + 1) ∧ valN j l < capN (k + 1) ∧ (0 < j → 0 < valN j l) := by
  induction k generalizing j l with
  | zero =>
    obtain rfl : j = 0 := by omega
    cases l with
    | nil => simp at hl
    | cons b t =>
      simp only [leadN] at hj
      have hb : b.toNat < 128 := by
        by_cases hb : b.toNat < 128
        · exact hb
        · rw [if_neg hb] at hj; omega
      have e1 : valN 0 (b :: t) = b.toNat := rfl
      have e2 : capN (0 + 1) = 128 := rfl
      rw [e1, e2]
      refine ⟨by rw [putF, if_pos hb, u8_of]; rfl, hb, fun h => absurd h (by omega)⟩
  | succ k ih =>
    cases l with
    | nil => simp at hl
    | cons b t =>
      by_cases hb : b.toNat < 128
      · rw [leadN, if_pos hb] at hj
        subst hj
        simp only [valN]
        refine ⟨by rw [putF, if_pos hb, u8_of]; rfl, ?_, by omega⟩
        have := capN_pos (k + 1)
        simp only [capN] at this ⊢; omega
      · rw [leadN, if_neg hb] at hj
        obtain ⟨i, rfl⟩ : ∃ i, j = i + 1 := ⟨_, hj.symm⟩
        have hi : leadN (k + 1) t = i := by omega
        obtain ⟨h1, h2, h3⟩ := ih i t hi (by omega) (by simpa using hl) (fun hp => by have := h0 (by omega); simpa [nth] using this)
        have hlt := b.toNat_lt
        have hv : 0 < valN i t := by
          rcases Nat.eq_zero_or_pos i with hz | hz
          · subst hz
            have := h0 (by omega)
            cases t with
            | nil => simp at hl
            | cons c t' => simp only [valN]; simp [nth] at this; omega
          · exact h3 hz
        simp only [valN]
        have e : (b.toNat - 128 + 128 * valN i t) / 128 = valN i t := by omega
        have e2 : u8 (128 + (b.toNat - 128 + 128 * valN i t) % 128) = b := by
          rw [show 128 + (b.toNat - 128 + 128 * valN i t) % 128 = b.toNat from by omega, u8_of]
        refine ⟨?_, ?_, by omega⟩
        · rw [putF, if_neg (by omega), e, h1, e2]; rfl
        · simp only [capN] at h2 ⊢; omega
theorem take_some {l : List UInt8} {n k : Nat} (h : takeL l = (n, k, 0)) : n < 268435456 ∧ putL n = l.take k ∧ 1 ≤ k ∧ k ≤ l.length := by
  unfold takeL at h
  simp only at h
  have hle := leadN_le 4 l
  split at h
  · simp at h
  split at h
  · simp at h
  split at h
  · simp at h
  rename_i c1 c2 c3
  simp only [Prod.mk.injEq] at h
  obtain ⟨rfl, rfl, _⟩ := h
  obtain ⟨h1, h2, _⟩ := put_val 3 (leadN 4 l) l rfl (by omega) (by omega) (fun hp h0 => c3 ⟨hp, h0⟩)
  exact ⟨by rw [← capN_four]; exact h2, h1, by omega, by omega⟩
end Go.Proofs.YtejgkhmpmnjgaaaDoor
