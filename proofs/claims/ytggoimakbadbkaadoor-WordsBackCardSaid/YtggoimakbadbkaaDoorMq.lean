/- Mathematics of layer 14: operations as bytes. -/
import Derived.Test.YtggoimakbadbkaaDoorMb
import Derived.Test.YtggoimakbadbkaaDoorMg
import Derived.Test.YtggoimakbadbkaaDoorMc
import Derived.Test.YtggoimakbadbkaaDoorMd
namespace Go.Proofs.YtggoimakbadbkaaDoor
set_option maxRecDepth 100000
set_option linter.unusedSimpArgs false
/-- A span's head, its bytes, those of all, and an operation's. -/
def headN (s : Sp) : Nat := 4 * (s.2.1.toNat + s.2.2.size) + s.1.toNat
def wS (s : Sp) : List UInt8 := putL (headN s) ++ bs s.2.2
def wsL (l : List Sp) : List UInt8 := l.flatMap wS
def wordsL (l : List Sp) : List UInt8 := putL l.length ++ wsL l
def noS : Sp := (0, 0, ⟨#[]⟩)
/-- One span is taken: the error, the span, how many bytes. -/
def tS (was : Int) (b : List UInt8) : Nat × Sp × Nat :=
  if (takeL b).2.2 ≠ 0 then ((takeL b).2.2, noS, 0)
  else if (takeL b).1 % 4 = 0 ∨ (if (takeL b).1 % 4 = 2 then 65536 else 1048576) < (takeL b).1 / 4 ∨ (takeL b).1 / 4 = 0 ∨ (((takeL b).1 % 4 : Nat) : Int) = was then (8, noS, 0)
  else if (takeL b).1 % 4 = 2 then
    if b.length - (takeL b).2.1 < (takeL b).1 / 4 then (7, noS, 0)
    else if dec ((b.drop (takeL b).2.1).take ((takeL b).1 / 4)) = none then (8, noS, 0)
    else (0, (2, 0, mkS ((b.drop (takeL b).2.1).take ((takeL b).1 / 4))), (takeL b).2.1 + (takeL b).1 / 4)
  else (0, ((((takeL b).1 % 4 : Nat) : Int), (((takeL b).1 / 4 : Nat) : Int), ⟨#[]⟩), (takeL b).2.1)
def tW : Nat → Int → List UInt8 → Nat × List Sp × Nat
  | 0, _, _ => (0, [], 0)
  | m + 1, was, b =>
    if (tS was b).1 ≠ 0 then ((tS was b).1, [], 0)
    else if (tW m (tS was b).2.1.1 (b.drop (tS was b).2.2)).1 ≠ 0 then ((tW m (tS was b).2.1.1 (b.drop (tS was b).2.2)).1, [], 0)
    else (0, (tS was b).2.1 :: (tW m (tS was b).2.1.1 (b.drop (tS was b).2.2)).2.1, (tS was b).2.2 + (tW m (tS was b).2.1.1 (b.drop (tS was b).2.2)).2.2)
def takeW (b : List UInt8) : Nat × List Sp × Nat :=
  if (takeL b).2.2 ≠ 0 then ((takeL b).2.2, [], 0)
  else if 65536 < (takeL b).1 then (8, [], 0)
  else if (tW (takeL b).1 0 (b.drop (takeL b).2.1)).1 ≠ 0 then ((tW (takeL b).1 0 (b.drop (takeL b).2.1)).1, [], 0)
  else if mayL (tW (takeL b).1 0 (b.drop (takeL b).2.1)).2.1 ≠ 0 then (8, [], 0)
  else (0, (tW (takeL b).1 0 (b.drop (takeL b).2.1)).2.1, (takeL b).2.1 + (tW (takeL b).1 0 (b.drop (takeL b).2.1)).2.2)
/-- A span that may be put. -/
structure WOk (s : Sp) : Prop where
  ok : OkW s
  ne : ¬ emp s
  txt : s.2.2.size ≤ 65536
  num : s.2.1 ≤ 1048576
/-- No span is of the kind of the one ahead. -/
def chainK : Int → List Sp → Prop
  | _, [] => True
  | was, s :: r => s.1 ≠ was ∧ chainK s.1 r
theorem chainK_of : ∀ (l : List Sp) (was : Int), isN l → (∀ s r, l = s :: r → s.1 ≠ was) → chainK was l
  | [], _, _, _ => trivial
  | [_], _, _, h => ⟨h _ _ rfl, trivial⟩
  | s :: t :: r, _, hn, h => ⟨h _ _ rfl, chainK_of (t :: r) s.1 hn.2.2 fun u q e => by injection e with e1 _; subst e1; exact fun h => hn.2.1 h.symm⟩
theorem chainK_is : ∀ (l : List Sp) (was : Int), chainK was l → (∀ s ∈ l, ¬ emp s) → isN l
  | [], _, _, _ => trivial
  | [s], _, _, h => h s (by simp)
  | s :: t :: r, _, hc, h => ⟨h s (by simp), fun e => hc.2.1 e.symm, chainK_is (t :: r) s.1 hc.2 fun u hu => h u (List.mem_cons_of_mem _ hu)⟩
theorem head_num (k : Int) (n : Nat) (_hk : k = 1 ∨ k = 3) : headN (k, (n : Int), ⟨#[]⟩) = 4 * n + k.toNat := by
  unfold headN
  simp only [Int.toNat_natCast]
  have : (⟨#[]⟩ : ByteArray).size = 0 := rfl
  omega
theorem tS_put (s : Sp) (h : WOk s) (was : Int) (hw : s.1 ≠ was) (r : List UInt8) : tS was (wS s ++ r) = (0, s, (wS s).length) := by
  obtain ⟨k, n, t⟩ := s
  obtain ⟨ok, ne, ht, hn⟩ := h
  simp only at ht hn hw
  unfold wS
  rcases ok with ⟨k1, n1, us, hu⟩ | ⟨k1, n1, t1⟩
  · simp only at k1 n1 hu
    subst k1; subst n1
    have hpos : 0 < t.size := by
      rcases Nat.eq_zero_or_pos t.size with h0 | h0
      · exact absurd ⟨rfl, h0⟩ ne
      · exact h0
    have hh : headN (2, 0, t) = 4 * t.size + 2 := by unfold headN; simp
    have htk := take_put (4 * t.size + 2) (by omega) (bs t ++ r)
    unfold tS
    rw [hh, List.append_assoc, htk]
    have e1 : (4 * t.size + 2) % 4 = 2 := by omega
    have e2 : (4 * t.size + 2) / 4 = t.size := by omega
    simp only [e1, e2]
    have hl := bs_length t
    have e3 : ((putL (4 * t.size + 2) ++ (bs t ++ r)).drop (putL (4 * t.size + 2)).length).take t.size = bs t := by
      rw [List.drop_left]
      rw [← hl, List.take_left]
    rw [if_neg (by omega), if_neg (by
      rintro (h | h | h | h)
      · omega
      · rw [if_pos trivial] at h; omega
      · omega
      · exact hw h), if_pos trivial, if_neg (by simp only [List.length_append]; omega), e3, if_neg (by rw [hu]; simp), mkS_bs, List.length_append, hl]
  · simp only at k1 n1 t1
    subst t1
    obtain ⟨m, rfl⟩ := Int.eq_ofNat_of_zero_le n1
    have hpos : 0 < m := by
      rcases Nat.eq_zero_or_pos m with h0 | h0
      · subst h0; exact absurd ⟨rfl, rfl⟩ ne
      · exact h0
    have hk : k.toNat = 1 ∨ k.toNat = 3 := by omega
    have hh := head_num k m k1
    have hb : bs (⟨#[]⟩ : ByteArray) = [] := rfl
    have htk := take_put (4 * m + k.toNat) (by omega) r
    unfold tS
    rw [hh, hb, List.append_nil, htk]
    have e1 : (4 * m + k.toNat) % 4 = k.toNat := by omega
    have e2 : (4 * m + k.toNat) / 4 = m := by omega
    have e3 : ((k.toNat : Nat) : Int) = k := by omega
    simp only [e1, e2, e3]
    rw [if_neg (by omega), if_neg (by
      rintro (h | h | h | h)
      · omega
      · rw [if_neg (by omega)] at h; omega
      · omega
      · exact hw h), if_neg (by omega)]
theorem wS_pos (s : Sp) : 0 < (wS s).length := by unfold wS; rw [List.length_append]; have := putL_pos (headN s); omega
theorem wsL_cons (s : Sp) (l : List Sp) : wsL (s :: l) = wS s ++ wsL l := by simp [wsL]
theorem wsL_append (a b : List Sp) : wsL (a ++ b) = wsL a ++ wsL b := by simp [wsL]
theorem tW_put (l : List Sp) : ∀ (was : Int), (∀ s ∈ l, WOk s) → chainK was l → ∀ r, tW l.length was (wsL l ++ r) = (0, l, (wsL l).length) := by
  induction l with
  | nil => intro was _ _ r; rfl
  | cons s l ih =>
    intro was h hc r
    have h1 := tS_put s (h s (by simp)) was hc.1 (wsL l ++ r)
    have h2 := ih s.1 (fun u hu => h u (List.mem_cons_of_mem _ hu)) hc.2 r
    rw [List.length_cons, wsL_cons, List.append_assoc, tW, h1]
    simp only [List.drop_left, h2]
    simp
theorem takeW_put (l : List Sp) (h : ∀ s ∈ l, WOk s) (hN : isN l) (hm : mayL l = 0) (hl : l.length ≤ 65536) (r : List UInt8) : takeW (wordsL l ++ r) = (0, l, (wordsL l).length) := by
  have h1 := take_put l.length (by omega) (wsL l ++ r)
  have hc : chainK 0 l := chainK_of l 0 hN fun s q e => by
    subst e
    rcases (h s (by simp)).ok with ⟨k, _⟩ | ⟨k, _⟩ <;> omega
  have h2 := tW_put l 0 h hc r
  unfold takeW wordsL
  rw [List.append_assoc, h1]
  simp only [List.drop_left, h2]
  rw [if_neg (by omega), if_neg (by omega), if_neg (by omega), if_neg (by omega), List.length_append]
/-- No beginning is taken. -/
theorem tS_pre (s : Sp) (h : WOk s) (was : Int) (hw : s.1 ≠ was) (i : Nat) (hi : i < (wS s).length) : tS was ((wS s).take i) = (7, noS, 0) := by
  by_cases hp : i < (putL (headN s)).length
  · have e : (wS s).take i = (putL (headN s)).take i := by unfold wS; rw [List.take_append_of_le_length (by omega)]
    unfold tS
    rw [e, take_pre _ _ hp, if_pos (by decide)]
  · obtain ⟨k, n, t⟩ := s
    obtain ⟨ok, ne, ht, hn⟩ := h
    simp only at ht hn hw
    rcases ok with ⟨k1, n1, us, hu⟩ | ⟨k1, n1, t1⟩
    · simp only at k1 n1 hu
      subst k1; subst n1
      have hpos : 0 < t.size := by
        rcases Nat.eq_zero_or_pos t.size with h0 | h0
        · exact absurd ⟨rfl, h0⟩ ne
        · exact h0
      have hh : headN (2, 0, t) = 4 * t.size + 2 := by unfold headN; simp
      rw [hh] at hp
      unfold wS at hi ⊢
      rw [hh, List.length_append, bs_length] at hi
      simp only at hi
      rw [hh]
      have e : (putL (4 * t.size + 2) ++ bs t).take i = putL (4 * t.size + 2) ++ (bs t).take (i - (putL (4 * t.size + 2)).length) := by
        rw [List.take_append, List.take_of_length_le (by omega)]
      have hl := bs_length t
      rw [e]
      have htk := take_put (4 * t.size + 2) (by omega) ((bs t).take (i - (putL (4 * t.size + 2)).length))
      unfold tS
      rw [htk]
      have e1 : (4 * t.size + 2) % 4 = 2 := by omega
      have e2 : (4 * t.size + 2) / 4 = t.size := by omega
      simp only [e1, e2]
      rw [if_neg (by omega), if_neg (by
        rintro (h | h | h | h)
        · omega
        · rw [if_pos trivial] at h; omega
        · omega
        · exact hw h), if_pos trivial, if_pos (by rw [List.length_append, List.length_take]; omega)]
    · simp only at k1 n1 t1
      subst t1
      unfold wS at hi
      have hb : bs (⟨#[]⟩ : ByteArray) = [] := rfl
      simp only [hb, List.append_nil] at hi
      omega
theorem tW_pre (l : List Sp) : ∀ (was : Int), (∀ s ∈ l, WOk s) → chainK was l → ∀ i, i < (wsL l).length → tW l.length was ((wsL l).take i) = (7, [], 0) := by
  induction l with
  | nil => intro was _ _ i hi; exact absurd hi (by simp [wsL])
  | cons s l ih =>
    intro was h hc i hi
    by_cases hp : i < (wS s).length
    · have h1 := tS_pre s (h s (by simp)) was hc.1 i hp
      rw [List.length_cons, wsL_cons, List.take_append_of_le_length (by omega), tW, h1, if_pos (by decide)]
    · rw [wsL_cons, List.length_append] at hi
      have e : (wS s ++ wsL l).take i = wS s ++ (wsL l).take (i - (wS s).length) := by
        rw [List.take_append, List.take_of_length_le (by omega)]
      have h1 := tS_put s (h s (by simp)) was hc.1 ((wsL l).take (i - (wS s).length))
      have h2 := ih s.1 (fun u hu => h u (List.mem_cons_of_mem _ hu)) hc.2 (i - (wS s).length) (by omega)
      rw [List.length_cons, wsL_cons, e, tW, h1]
      simp only [List.drop_left, h2]
      rw [if_neg (by decide), if_pos (by decide)]
theorem takeW_pre (l : List Sp) (h : ∀ s ∈ l, WOk s) (hN : isN l) (hl : l.length ≤ 65536) (i : Nat) (hi : i < (wordsL l).length) : takeW ((wordsL l).take i) = (7, [], 0) := by
  have hc : chainK 0 l := chainK_of l 0 hN fun s q e => by
    subst e
    rcases (h s (by simp)).ok with ⟨k, _⟩ | ⟨k, _⟩ <;> omega
  by_cases hp : i < (putL l.length).length
  · unfold takeW wordsL
    rw [List.take_append_of_le_length (by omega), take_pre _ _ hp, if_pos (by decide)]
  · unfold wordsL at hi ⊢
    rw [List.length_append] at hi
    have e : (putL l.length ++ wsL l).take i = putL l.length ++ (wsL l).take (i - (putL l.length).length) := by
      rw [List.take_append, List.take_of_length_le (by omega)]
    have h1 := take_put l.length (by omega) ((wsL l).take (i - (putL l.length).length))
    have h2 := tW_pre l 0 h hc (i - (putL l.length).length) (by omega)
    unfold takeW
    rw [e, h1]
    simp only [List.drop_left, h2]
    rw [if_neg (by decide), if_neg (by omega), if_pos (by decide)]
/-- What is taken is what was put. -/
theorem tS_some {was : Int} {b : List UInt8} {s : Sp} {k : Nat} (h : tS was b = (0, s, k)) : WOk s ∧ s.1 ≠ was ∧ wS s = b.take k ∧ 1 ≤ k ∧ k ≤ b.length := by
  unfold tS at h
  by_cases c1 : (takeL b).2.2 = 0
  · rw [if_neg (by omega)] at h
    obtain ⟨t1, t2, t3, t4⟩ := take_some (l := b) (n := (takeL b).1) (k := (takeL b).2.1) (by rw [← c1])
    generalize (takeL b).1 = N at *
    generalize (takeL b).2.1 = K at *
    by_cases c2 : N % 4 = 0 ∨ (if N % 4 = 2 then 65536 else 1048576) < N / 4 ∨ N / 4 = 0 ∨ ((N % 4 : Nat) : Int) = was
    · rw [if_pos c2] at h
      exact absurd h (by simp)
    · rw [if_neg c2] at h
      simp only [not_or] at c2
      obtain ⟨d1, d2, d3, d4⟩ := c2
      split at h
      · rename_i c3
        rw [if_pos c3] at d2
        split at h
        · exact absurd h (by simp)
        · rename_i c4
          split at h
          · exact absurd h (by simp)
          · rename_i c5
            simp only [Prod.mk.injEq, true_and] at h
            obtain ⟨rfl, rfl⟩ := h
            have hlen : ((b.drop K).take (N / 4)).length = N / 4 := by rw [List.length_take, List.length_drop]; omega
            have hsz : (mkS ((b.drop K).take (N / 4))).size = N / 4 := by rw [size_mkS, hlen]
            obtain ⟨cs, hcs⟩ : ∃ cs, dec ((b.drop K).take (N / 4)) = some cs := Option.ne_none_iff_exists'.1 c5
            refine ⟨⟨.inl ⟨rfl, rfl, cs, by rw [bs_mkS]; exact hcs⟩, fun he => d3 (by rw [← hsz]; exact he.2), by simp only; omega, by simp only; omega⟩, by simp only; rw [c3] at d4; exact d4, ?_, by omega, by omega⟩
            have hh : headN (2, 0, mkS ((b.drop K).take (N / 4))) = N := by unfold headN; simp only [hsz]; simp; omega
            unfold wS
            rw [hh, t2]
            simp only [bs_mkS]
            rw [List.take_add]
      · rename_i c3
        rw [if_neg c3] at d2
        simp only [Prod.mk.injEq, true_and] at h
        obtain ⟨rfl, rfl⟩ := h
        have hk : N % 4 = 1 ∨ N % 4 = 3 := by omega
        refine ⟨⟨.inr ⟨by simp only; omega, by simp only; omega, rfl⟩, fun he => d3 (by have := he.1; simp only at this; omega), by show (⟨#[]⟩ : ByteArray).size ≤ 65536; decide, by simp only; omega⟩, d4, ?_, by omega, by omega⟩
        have hh : headN (((N % 4 : Nat) : Int), ((N / 4 : Nat) : Int), ⟨#[]⟩) = N := by
          rw [head_num _ _ (by omega)]; omega
        unfold wS
        rw [hh, t2]
        have hb : bs (⟨#[]⟩ : ByteArray) = [] := rfl
        simp only [hb, List.append_nil]
  · rw [if_pos c1] at h
    simp only [Prod.mk.injEq] at h
    exact absurd h.1 c1
theorem tW_some (m : Nat) : ∀ (was : Int) (b : List UInt8) (l : List Sp) (k : Nat), tW m was b = (0, l, k) → (∀ s ∈ l, WOk s) ∧ chainK was l ∧ l.length = m ∧ wsL l = b.take k ∧ k ≤ b.length ∧ m ≤ k := by
  induction m with
  | zero =>
    intro was b l k h
    simp only [tW, Prod.mk.injEq, true_and] at h
    obtain ⟨rfl, rfl⟩ := h
    exact ⟨fun s hs => (by cases hs), trivial, rfl, (by simp [wsL]), Nat.zero_le _, Nat.le_refl _⟩
  | succ m ih =>
    intro was b l k h
    rw [tW] at h
    obtain ⟨⟨e, s, j⟩, hr⟩ : ∃ r, tS was b = r := ⟨_, rfl⟩
    rw [hr] at h
    simp only at h
    by_cases c1 : e = 0
    · subst c1
      obtain ⟨a1, a2, a3, a4, a5⟩ := tS_some hr
      obtain ⟨⟨f, q, i⟩, hq⟩ : ∃ q, tW m s.1 (b.drop j) = q := ⟨_, rfl⟩
      rw [hq] at h
      simp only at h
      rw [if_neg (by simp)] at h
      by_cases c2 : f = 0
      · subst c2
        rw [if_neg (by simp)] at h
        simp only [Prod.mk.injEq, true_and] at h
        obtain ⟨rfl, rfl⟩ := h
        obtain ⟨b1, b2, b3, b4, b5, b6⟩ := ih _ _ _ _ hq
        rw [List.length_drop] at b5
        refine ⟨fun u hu => ?_, ⟨a2, b2⟩, by rw [List.length_cons, b3], ?_, by omega, by omega⟩
        · rcases List.mem_cons.1 hu with rfl | hu
          · exact a1
          · exact b1 u hu
        · rw [wsL_cons, a3, b4, List.take_add]
      · rw [if_pos c2] at h
        simp only [Prod.mk.injEq] at h
        exact absurd h.1 c2
    · rw [if_pos c1] at h
      simp only [Prod.mk.injEq] at h
      exact absurd h.1 c1
theorem takeW_some {b : List UInt8} {l : List Sp} {k : Nat} (h : takeW b = (0, l, k)) : (∀ s ∈ l, WOk s) ∧ isN l ∧ mayL l = 0 ∧ l.length ≤ 65536 ∧ wordsL l = b.take k ∧ 1 ≤ k ∧ k ≤ b.length := by
  unfold takeW at h
  by_cases c1 : (takeL b).2.2 = 0
  · rw [if_neg (by omega)] at h
    obtain ⟨t1, t2, t3, t4⟩ := take_some (l := b) (n := (takeL b).1) (k := (takeL b).2.1) (by rw [← c1])
    generalize (takeL b).1 = N at *
    generalize (takeL b).2.1 = K at *
    split at h
    · exact absurd h (by simp)
    · rename_i c2
      obtain ⟨⟨f, q, i⟩, hq⟩ : ∃ q, tW N 0 (b.drop K) = q := ⟨_, rfl⟩
      rw [hq] at h
      simp only at h
      by_cases c3 : f = 0
      · subst c3
        rw [if_neg (by simp)] at h
        split at h
        · exact absurd h (by simp)
        · rename_i c4
          simp only [Prod.mk.injEq, true_and] at h
          obtain ⟨rfl, rfl⟩ := h
          obtain ⟨b1, b2, b3, b4, b5, b6⟩ := tW_some _ _ _ _ _ hq
          rw [List.length_drop] at b5
          refine ⟨b1, chainK_is _ _ b2 fun s hs => (b1 s hs).ne, Decidable.not_not.1 c4, by omega, ?_, by omega, by omega⟩
          unfold wordsL
          rw [b3, t2, b4, List.take_add]
      · rw [if_pos c3] at h
        simp only [Prod.mk.injEq] at h
        exact absurd h.1 c3
  · rw [if_pos c1] at h
    simp only [Prod.mk.injEq] at h
    exact absurd h.1 c1
/-- Which errors there are. -/
theorem takeL_err (b : List UInt8) : (takeL b).2.2 = 0 ∨ (takeL b).2.2 = 7 ∨ (takeL b).2.2 = 8 := by
  unfold takeL
  simp only
  repeat' split
  all_goals simp
theorem tS_err (was : Int) (b : List UInt8) : (tS was b).1 = 0 ∨ (tS was b).1 = 7 ∨ (tS was b).1 = 8 := by
  have h := takeL_err b
  unfold tS
  split
  · exact h
  · repeat' split
    all_goals simp
theorem tW_err (m : Nat) : ∀ (was : Int) (b : List UInt8), (tW m was b).1 = 0 ∨ (tW m was b).1 = 7 ∨ (tW m was b).1 = 8 := by
  induction m with
  | zero => intro was b; exact .inl rfl
  | succ m ih =>
    intro was b
    have h := tS_err was b
    have h2 := ih (tS was b).2.1.1 (b.drop (tS was b).2.2)
    rw [tW]
    split
    · exact h
    · split
      · exact h2
      · exact .inl rfl
theorem takeW_err (b : List UInt8) : (takeW b).1 = 0 ∨ ((takeW b).1 = 7 ∨ (takeW b).1 = 8) ∧ (takeW b).2.1 = [] ∧ (takeW b).2.2 = 0 := by
  have h := takeL_err b
  have h2 := tW_err (takeL b).1 0 (b.drop (takeL b).2.1)
  unfold takeW
  split
  · right; simp; omega
  · split
    · right; simp
    · split
      · right; simp; omega
      · split
        · right; simp
        · left; rfl
end Go.Proofs.YtggoimakbadbkaaDoor
