/- Spans of one kind next to each other, however many. -/
import Derived.Test.YthlhjjgmncbplaaMm
namespace Go.Proofs.Ythlhjjgmncbplaa
open Go.RowKit
set_option maxRecDepth 100000
def cat : Nat → ByteArray → ByteArray
  | 0, _ => ⟨#[]⟩
  | n + 1, t => cat n t ++ t
theorem cat_comm (n : Nat) (t : ByteArray) : t ++ cat n t = cat n t ++ t := by
  induction n with
  | zero => rw [cat, ba_nil, nil_ba]
  | succ n ih => rw [cat, ← ba_assoc, ih]
theorem cat_size (n : Nat) (t : ByteArray) : (cat n t).size = n * t.size := by
  induction n with
  | zero => rw [Nat.zero_mul]; rfl
  | succ n ih => rw [cat, ba_size, ih, Nat.add_mul, Nat.one_mul]
theorem cat_nil (n : Nat) : cat n ⟨#[]⟩ = ⟨#[]⟩ := by
  induction n with
  | zero => rfl
  | succ n ih => rw [cat, ih, ba_nil]
/-- n spans that are one. -/
def rep (n : Nat) (s : Sp) : Sp := (s.1, n * s.2.1, cat n s.2.2)
def apartB (k : Int) : List Sp → Prop
  | [] => True
  | t :: _ => k ≠ t.1
theorem foldr_rep (s : Sp) (b : List Sp) (hs : ¬ emp s) (h0 : 0 ≤ s.2.1) (hb : apartB s.1 b) (n : Nat) : (List.replicate (n + 1) s).foldr normC b = rep (n + 1) s :: b := by
  induction n with
  | zero =>
    show normC s b = _
    have e : rep 1 s = s := by
      obtain ⟨a, m, t⟩ := s
      show (a, ((1 : Nat) : Int) * m, (⟨#[]⟩ : ByteArray) ++ t) = _
      rw [nil_ba]; congr 2; omega
    rw [e]
    cases b with
    | nil => exact normC_nil s hs
    | cons t r => rw [normC_cons _ _ _ hs, if_neg hb]
  | succ n ih =>
    rw [List.replicate_succ, List.foldr_cons, ih, normC_cons _ _ _ hs, if_pos (show s.1 = (rep (n + 1) s).1 from rfl)]
    congr 1
    unfold mrg rep
    simp only
    rw [cat_comm]
    congr 2
    have e : ((n + 1 + 1 : Nat) : Int) * s.2.1 = ((n + 1 : Nat) : Int) * s.2.1 + s.2.1 := by rw [Int.natCast_add, Int.add_mul]; omega
    omega
theorem foldr_rep_emp (s : Sp) (b : List Sp) (hs : emp s) (n : Nat) : (List.replicate n s).foldr normC b = b := by
  induction n with
  | zero => rfl
  | succ n ih => rw [List.replicate_succ, List.foldr_cons, ih, normC_emp _ _ hs]
/-- What n spans that may be empty come to. -/
def part (n : Nat) (s : Sp) : List Sp := if n = 0 ∨ emp s then [] else [rep n s]
theorem foldr_part (s : Sp) (b : List Sp) (h0 : 0 ≤ s.2.1) (hb : apartB s.1 b) (n : Nat) : (List.replicate n s).foldr normC b = part n s ++ b := by
  unfold part
  by_cases hs : emp s
  · rw [if_pos (.inr hs), foldr_rep_emp s b hs]; rfl
  · cases n with
    | zero => rw [if_pos (.inl rfl)]; rfl
    | succ n => rw [if_neg (by simp [hs]), foldr_rep s b hs h0 hb]; rfl
theorem part_kind (n : Nat) (s : Sp) (b : List Sp) (k : Int) (h : k ≠ s.1) (hb : apartB k b) : apartB k (part n s ++ b) := by
  unfold part; split
  · exact hb
  · exact h
/-- Three rows, of kinds that differ. -/
theorem norm_three (s t u : Sp) (a b c : Nat) (h1 : 0 ≤ s.2.1) (h2 : 0 ≤ t.2.1) (h3 : 0 ≤ u.2.1) (k1 : s.1 ≠ t.1) (k2 : s.1 ≠ u.1) (k3 : t.1 ≠ u.1) :
    normL (List.replicate a s ++ (List.replicate b t ++ List.replicate c u)) = part a s ++ (part b t ++ part c u) := by
  have e3 : normL (List.replicate c u) = part c u := by
    have := foldr_part u [] h3 trivial c
    rw [List.append_nil] at this; exact this
  rw [norm_append, norm_append, e3]
  have p3 : ∀ k, k ≠ u.1 → apartB k (part c u) := fun k hk => by
    have := part_kind c u [] k hk trivial
    rw [List.append_nil] at this; exact this
  rw [foldr_part t _ h2 (p3 _ k3), foldr_part s _ h1 (part_kind _ _ _ _ k1 (p3 _ k2))]
theorem part_num (n : Nat) (k x : Int) (hk : 0 ≤ x) : part n (k, x, ⟨#[]⟩) = if 0 < (n : Int) * x then [(k, (n : Int) * x, ⟨#[]⟩)] else [] := by
  unfold part rep
  by_cases hn : n = 0
  · subst hn; simp
  · by_cases hx : x = 0
    · subst hx; rw [if_pos (.inr ⟨rfl, rfl⟩)]; simp
    · have hp : 0 < (n : Int) * x := Int.mul_pos (by omega) (by omega)
      rw [if_neg (fun h => h.elim hn (fun h => hx h.1)), if_pos hp]
      simp only [cat_nil]
theorem part_text (n : Nat) (t : ByteArray) : part n (2, 0, t) = if (cat n t).size = 0 then [] else [(2, 0, cat n t)] := by
  unfold part rep
  rw [cat_size]
  by_cases hn : n = 0
  · subst hn; simp
  · by_cases hx : t.size = 0
    · rw [if_pos (.inr ⟨rfl, hx⟩), if_pos (by rw [hx, Nat.mul_zero])]
    · rw [if_neg (fun h => h.elim hn (fun h => hx h.2)), if_neg (Nat.mul_ne_zero hn hx)]
      simp
end Go.Proofs.Ythlhjjgmncbplaa
