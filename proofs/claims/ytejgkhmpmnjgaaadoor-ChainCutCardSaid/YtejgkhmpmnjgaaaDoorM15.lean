/- Mathematics of layer 15: texts and rows as bytes. -/
import Derived.Test.YtejgkhmpmnjgaaaDoorMb
import Derived.Test.YtejgkhmpmnjgaaaDoorBa
namespace Go.Proofs.YtejgkhmpmnjgaaaDoor
set_option maxRecDepth 100000
set_option linter.unusedSimpArgs false
/-- A text's bytes, behind how many they are. -/
def snL (s : ByteArray) : List UInt8 := putL s.size ++ bs s
def snE (s : ByteArray) : Int := if dec (bs s) = none then 3 else if 65536 < s.size then 2 else 0
def takeT (b : List UInt8) : Nat × List UInt8 × Nat :=
  if (takeL b).2.2 ≠ 0 then ((takeL b).2.2, [], 0)
  else if 65536 < (takeL b).1 then (8, [], 0)
  else if b.length - (takeL b).2.1 < (takeL b).1 then (7, [], 0)
  else if dec ((b.drop (takeL b).2.1).take (takeL b).1) = none then (8, [], 0)
  else (0, (b.drop (takeL b).2.1).take (takeL b).1, (takeL b).2.1 + (takeL b).1)
theorem takeT_put (s : ByteArray) (h : snE s = 0) (r : List UInt8) : takeT (snL s ++ r) = (0, bs s, (snL s).length) := by
  unfold snE at h
  have hb := bs_length s
  by_cases h1 : dec (bs s) = none
  · rw [if_pos h1] at h; omega
  · rw [if_neg h1] at h
    by_cases h2 : 65536 < s.size
    · rw [if_pos h2] at h; omega
    · have h3 := take_put s.size (by omega) (bs s ++ r)
      unfold takeT snL
      rw [List.append_assoc, h3]
      simp only [List.drop_left, List.length_append]
      rw [if_neg (by omega), if_neg (by omega), if_neg (by omega), List.take_append_of_le_length (by omega), List.take_of_length_le (by omega), if_neg h1, hb]
theorem takeT_pre (s : ByteArray) (h : snE s = 0) (i : Nat) (hi : i < (snL s).length) : takeT ((snL s).take i) = (7, [], 0) := by
  unfold snE at h
  have hb := bs_length s
  by_cases h1 : dec (bs s) = none
  · rw [if_pos h1] at h; omega
  · rw [if_neg h1] at h
    by_cases h2 : 65536 < s.size
    · rw [if_pos h2] at h; omega
    · by_cases hp : i < (putL s.size).length
      · unfold takeT snL
        rw [List.take_append_of_le_length (by omega), take_pre _ _ hp, if_pos (by decide)]
      · unfold snL at hi ⊢
        rw [List.length_append] at hi
        have e : (putL s.size ++ bs s).take i = putL s.size ++ (bs s).take (i - (putL s.size).length) := by
          rw [List.take_append, List.take_of_length_le (by omega)]
        have h3 := take_put s.size (by omega) ((bs s).take (i - (putL s.size).length))
        unfold takeT
        rw [e, h3]
        simp only [List.length_append, List.length_take]
        rw [if_neg (by decide), if_neg (by omega), if_pos (by omega)]
theorem takeT_some {b u : List UInt8} {k : Nat} (h : takeT b = (0, u, k)) : dec u ≠ none ∧ u.length ≤ 65536 ∧ putL u.length ++ u = b.take k ∧ 1 ≤ k ∧ k ≤ b.length := by
  unfold takeT at h
  by_cases c1 : (takeL b).2.2 = 0
  · rw [if_neg (by omega)] at h
    obtain ⟨t1, t2, t3, t4⟩ := take_some (l := b) (n := (takeL b).1) (k := (takeL b).2.1) (by rw [← c1])
    generalize (takeL b).1 = N at *
    generalize (takeL b).2.1 = K at *
    split at h
    · exact absurd h (by simp)
    · split at h
      · exact absurd h (by simp)
      · split at h
        · exact absurd h (by simp)
        · rename_i c2 c3 c4
          simp only [Prod.mk.injEq, true_and] at h
          obtain ⟨rfl, rfl⟩ := h
          have hl : ((b.drop K).take N).length = N := by rw [List.length_take, List.length_drop]; omega
          refine ⟨c4, by omega, ?_, by omega, by omega⟩
          rw [hl, t2, List.take_add]
  · rw [if_pos c1] at h
    simp only [Prod.mk.injEq] at h
    exact absurd h.1 c1
theorem takeL_err15 (b : List UInt8) : (takeL b).2.2 = 0 ∨ (takeL b).2.2 = 7 ∨ (takeL b).2.2 = 8 := by
  unfold takeL
  simp only
  repeat' split
  all_goals simp
theorem takeT_err (b : List UInt8) : (takeT b).1 = 0 ∨ ((takeT b).1 = 7 ∨ (takeT b).1 = 8) ∧ (takeT b).2.1 = [] ∧ (takeT b).2.2 = 0 := by
  have h := takeL_err15 b
  unfold takeT
  split
  · right; simp; omega
  · split
    · right; simp
    · split
      · right; simp
      · split
        · right; simp
        · left; rfl
theorem takeT_len (b : List UInt8) : (takeT b).2.1.length ≤ b.length ∧ (takeT b).2.2 ≤ b.length := by
  by_cases h : (takeT b).1 = 0
  · obtain ⟨⟨e, u, k⟩, hr⟩ : ∃ r, takeT b = r := ⟨_, rfl⟩
    rw [hr] at h ⊢
    simp only at h
    subst h
    obtain ⟨h1, h2, h3, h4, h5⟩ := takeT_some hr
    have h6 : (putL u.length ++ u).length = k := by rw [h3, List.length_take]; omega
    rw [List.length_append] at h6
    exact ⟨by simp only; omega, h5⟩
  · rcases takeT_err b with h' | ⟨_, h1, h2⟩
    · exact absurd h' h
    · rw [h1, h2]; simp
/-- A row that may be put: how many there are, the first one, and each step. -/
def rises : Int → List Int → Prop
  | _, [] => True
  | was, x :: r => was < x ∧ x ≤ 268435455 ∧ rises x r
instance risesD : ∀ was l, Decidable (rises was l)
  | _, [] => .isTrue trivial
  | was, x :: r => by unfold rises; have := risesD x r; infer_instance
def rowOk (l : List Int) : Prop := l ≠ [] ∧ l.length ≤ 65536 ∧ rises (-1) l
instance rowOkD (l : List Int) : Decidable (rowOk l) := by unfold rowOk; infer_instance
def rowE (l : List Int) : Int := if rowOk l then 0 else 2
def rS (was x : Int) : List UInt8 := putL (x - was - 1).toNat
def rsL : Int → List Int → List UInt8
  | _, [] => []
  | was, x :: r => rS was x ++ rsL x r
def rwL (l : List Int) : List UInt8 := putL l.length ++ rsL (-1) l
def tR : Nat → Int → List UInt8 → Nat × List Int × Nat
  | 0, _, _ => (0, [], 0)
  | m + 1, was, b =>
    if (takeL b).2.2 ≠ 0 then ((takeL b).2.2, [], 0)
    else if 268435455 < was + 1 + ((takeL b).1 : Int) then (8, [], 0)
    else if (tR m (was + 1 + ((takeL b).1 : Int)) (b.drop (takeL b).2.1)).1 ≠ 0 then ((tR m (was + 1 + ((takeL b).1 : Int)) (b.drop (takeL b).2.1)).1, [], 0)
    else (0, (was + 1 + ((takeL b).1 : Int)) :: (tR m (was + 1 + ((takeL b).1 : Int)) (b.drop (takeL b).2.1)).2.1, (takeL b).2.1 + (tR m (was + 1 + ((takeL b).1 : Int)) (b.drop (takeL b).2.1)).2.2)
def takeRw (b : List UInt8) : Nat × List Int × Nat :=
  if (takeL b).2.2 ≠ 0 then ((takeL b).2.2, [], 0)
  else if (takeL b).1 = 0 ∨ 65536 < (takeL b).1 then (8, [], 0)
  else if (tR (takeL b).1 (-1) (b.drop (takeL b).2.1)).1 ≠ 0 then ((tR (takeL b).1 (-1) (b.drop (takeL b).2.1)).1, [], 0)
  else (0, (tR (takeL b).1 (-1) (b.drop (takeL b).2.1)).2.1, (takeL b).2.1 + (tR (takeL b).1 (-1) (b.drop (takeL b).2.1)).2.2)
theorem tR_put (l : List Int) : ∀ (was : Int), -1 ≤ was → rises was l → ∀ r, tR l.length was (rsL was l ++ r) = (0, l, (rsL was l).length) := by
  induction l with
  | nil => intro was _ _ r; rfl
  | cons x l ih =>
    intro was h0 h r
    obtain ⟨h1, h2, h3⟩ := h
    have h4 := take_put (x - was - 1).toNat (by omega) (rsL x l ++ r)
    have h5 := ih x (by omega) h3 r
    have e : was + 1 + (((x - was - 1).toNat : Nat) : Int) = x := by omega
    rw [List.length_cons]
    show tR (l.length + 1) was ((putL (x - was - 1).toNat ++ rsL x l) ++ r) = (0, x :: l, (putL (x - was - 1).toNat ++ rsL x l).length)
    rw [List.append_assoc, tR, h4]
    simp only [List.drop_left, e, h5]
    rw [if_neg (by decide), if_neg (by omega), if_neg (by decide), List.length_append]
theorem takeRw_put (l : List Int) (h : rowOk l) (r : List UInt8) : takeRw (rwL l ++ r) = (0, l, (rwL l).length) := by
  obtain ⟨h1, h2, h3⟩ := h
  have h0 : 0 < l.length := List.length_pos_iff.2 h1
  have h4 := take_put l.length (by omega) (rsL (-1) l ++ r)
  have h5 := tR_put l (-1) (by omega) h3 r
  unfold takeRw rwL
  rw [List.append_assoc, h4]
  simp only [List.drop_left, h5]
  rw [if_neg (by decide), if_neg (by omega), if_neg (by decide), List.length_append]
theorem tR_pre (l : List Int) : ∀ (was : Int), -1 ≤ was → rises was l → ∀ i, i < (rsL was l).length → tR l.length was ((rsL was l).take i) = (7, [], 0) := by
  induction l with
  | nil => intro was _ _ i hi; exact absurd hi (by simp [rsL])
  | cons x l ih =>
    intro was h0 h i hi
    obtain ⟨h1, h2, h3⟩ := h
    have e0 : rsL was (x :: l) = putL (x - was - 1).toNat ++ rsL x l := rfl
    rw [e0] at hi ⊢
    by_cases hp : i < (putL (x - was - 1).toNat).length
    · rw [List.length_cons, List.take_append_of_le_length (by omega), tR, take_pre _ _ hp, if_pos (by decide)]
    · rw [List.length_append] at hi
      have e : (putL (x - was - 1).toNat ++ rsL x l).take i = putL (x - was - 1).toNat ++ (rsL x l).take (i - (putL (x - was - 1).toNat).length) := by
        rw [List.take_append, List.take_of_length_le (by omega)]
      have h4 := take_put (x - was - 1).toNat (by omega) ((rsL x l).take (i - (putL (x - was - 1).toNat).length))
      have h5 := ih x (by omega) h3 (i - (putL (x - was - 1).toNat).length) (by omega)
      have e1 : was + 1 + (((x - was - 1).toNat : Nat) : Int) = x := by omega
      rw [List.length_cons, e, tR, h4]
      simp only [List.drop_left, e1, h5]
      rw [if_neg (by decide), if_neg (by omega), if_pos (by decide)]
theorem takeRw_pre (l : List Int) (h : rowOk l) (i : Nat) (hi : i < (rwL l).length) : takeRw ((rwL l).take i) = (7, [], 0) := by
  obtain ⟨h1, h2, h3⟩ := h
  have h0 : 0 < l.length := List.length_pos_iff.2 h1
  by_cases hp : i < (putL l.length).length
  · unfold takeRw rwL
    rw [List.take_append_of_le_length (by omega), take_pre _ _ hp, if_pos (by decide)]
  · unfold rwL at hi ⊢
    rw [List.length_append] at hi
    have e : (putL l.length ++ rsL (-1) l).take i = putL l.length ++ (rsL (-1) l).take (i - (putL l.length).length) := by
      rw [List.take_append, List.take_of_length_le (by omega)]
    have h4 := take_put l.length (by omega) ((rsL (-1) l).take (i - (putL l.length).length))
    have h5 := tR_pre l (-1) (by omega) h3 (i - (putL l.length).length) (by omega)
    unfold takeRw
    rw [e, h4]
    simp only [List.drop_left, h5]
    rw [if_neg (by decide), if_neg (by omega), if_pos (by decide)]
theorem tR_some (m : Nat) : ∀ (was : Int) (b : List UInt8) (l : List Int) (k : Nat), -1 ≤ was → tR m was b = (0, l, k) → rises was l ∧ l.length = m ∧ rsL was l = b.take k ∧ k ≤ b.length ∧ m ≤ k := by
  induction m with
  | zero =>
    intro was b l k _ h
    simp only [tR, Prod.mk.injEq, true_and] at h
    obtain ⟨rfl, rfl⟩ := h
    exact ⟨trivial, rfl, by simp [rsL], Nat.zero_le _, Nat.le_refl _⟩
  | succ m ih =>
    intro was b l k h0 h
    rw [tR] at h
    by_cases c1 : (takeL b).2.2 = 0
    · rw [if_neg (by omega)] at h
      obtain ⟨t1, t2, t3, t4⟩ := take_some (l := b) (n := (takeL b).1) (k := (takeL b).2.1) (by rw [← c1])
      generalize (takeL b).1 = N at *
      generalize (takeL b).2.1 = K at *
      split at h
      · exact absurd h (by simp)
      · rename_i c2
        obtain ⟨⟨f, q, i⟩, hq⟩ : ∃ q, tR m (was + 1 + (N : Int)) (b.drop K) = q := ⟨_, rfl⟩
        rw [hq] at h
        simp only at h
        by_cases c3 : f = 0
        · subst c3
          rw [if_neg (by simp)] at h
          simp only [Prod.mk.injEq, true_and] at h
          obtain ⟨rfl, rfl⟩ := h
          obtain ⟨b1, b2, b3, b4, b5⟩ := ih _ _ _ _ (by omega) hq
          rw [List.length_drop] at b4
          refine ⟨⟨by omega, by omega, b1⟩, by rw [List.length_cons, b2], ?_, by omega, by omega⟩
          show putL (was + 1 + (N : Int) - was - 1).toNat ++ rsL (was + 1 + (N : Int)) q = _
          rw [show (was + 1 + (N : Int) - was - 1).toNat = N by omega, t2, b3, List.take_add]
        · rw [if_pos c3] at h
          simp only [Prod.mk.injEq] at h
          exact absurd h.1 c3
    · rw [if_pos c1] at h
      simp only [Prod.mk.injEq] at h
      exact absurd h.1 c1
theorem takeRw_some {b : List UInt8} {l : List Int} {k : Nat} (h : takeRw b = (0, l, k)) : rowOk l ∧ rwL l = b.take k ∧ 1 ≤ k ∧ k ≤ b.length ∧ l.length ≤ k := by
  unfold takeRw at h
  by_cases c1 : (takeL b).2.2 = 0
  · rw [if_neg (by omega)] at h
    obtain ⟨t1, t2, t3, t4⟩ := take_some (l := b) (n := (takeL b).1) (k := (takeL b).2.1) (by rw [← c1])
    generalize (takeL b).1 = N at *
    generalize (takeL b).2.1 = K at *
    split at h
    · exact absurd h (by simp)
    · rename_i c2
      obtain ⟨⟨f, q, i⟩, hq⟩ : ∃ q, tR N (-1) (b.drop K) = q := ⟨_, rfl⟩
      rw [hq] at h
      simp only at h
      by_cases c3 : f = 0
      · subst c3
        rw [if_neg (by simp)] at h
        simp only [Prod.mk.injEq, true_and] at h
        obtain ⟨rfl, rfl⟩ := h
        obtain ⟨b1, b2, b3, b4, b5⟩ := tR_some _ _ _ _ _ (by omega) hq
        rw [List.length_drop] at b4
        refine ⟨⟨fun e => ?_, by omega, b1⟩, ?_, by omega, by omega, by omega⟩
        · subst e
          simp at b2
          omega
        · unfold rwL
          rw [b2, t2, b3, List.take_add]
      · rw [if_pos c3] at h
        simp only [Prod.mk.injEq] at h
        exact absurd h.1 c3
  · rw [if_pos c1] at h
    simp only [Prod.mk.injEq] at h
    exact absurd h.1 c1
theorem tR_err (m : Nat) : ∀ (was : Int) (b : List UInt8), (tR m was b).1 = 0 ∨ (tR m was b).1 = 7 ∨ (tR m was b).1 = 8 := by
  induction m with
  | zero => intro was b; exact .inl rfl
  | succ m ih =>
    intro was b
    have h := takeL_err15 b
    have h2 := ih (was + 1 + ((takeL b).1 : Int)) (b.drop (takeL b).2.1)
    rw [tR]
    split
    · exact h
    · split
      · simp
      · split
        · exact h2
        · exact .inl rfl
theorem takeRw_err (b : List UInt8) : (takeRw b).1 = 0 ∨ ((takeRw b).1 = 7 ∨ (takeRw b).1 = 8) ∧ (takeRw b).2.1 = [] ∧ (takeRw b).2.2 = 0 := by
  have h := takeL_err15 b
  have h2 := tR_err (takeL b).1 (-1) (b.drop (takeL b).2.1)
  unfold takeRw
  split
  · right; simp; omega
  · split
    · right; simp
    · split
      · right; simp; omega
      · left; rfl
theorem takeRw_len (b : List UInt8) : (takeRw b).2.1.length ≤ b.length ∧ (takeRw b).2.2 ≤ b.length := by
  by_cases h : (takeRw b).1 = 0
  · obtain ⟨⟨e, u, k⟩, hr⟩ : ∃ r, takeRw b = r := ⟨_, rfl⟩
    rw [hr] at h ⊢
    simp only at h
    subst h
    obtain ⟨h1, h2, h3, h4, h5⟩ := takeRw_some hr
    exact ⟨by simp only; omega, h4⟩
  · rcases takeRw_err b with h' | ⟨_, h1, h2⟩
    · exact absurd h' h
    · rw [h1, h2]; simp
theorem rsL_len (l : List Int) : ∀ was, (rsL was l).length ≤ 4 * l.length := by
  induction l with
  | nil => intro was; simp [rsL]
  | cons x l ih =>
    intro was
    have := ih x
    have := putL_length (x - was - 1).toNat
    show (putL (x - was - 1).toNat ++ rsL x l).length ≤ _
    rw [List.length_append, List.length_cons]; omega
end Go.Proofs.YtejgkhmpmnjgaaaDoor
