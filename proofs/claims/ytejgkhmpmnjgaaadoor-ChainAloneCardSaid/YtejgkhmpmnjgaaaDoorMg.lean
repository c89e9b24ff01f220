/- An operation by places: mathematics of gaps. -/
import Derived.Test.YtejgkhmpmnjgaaaDoorC4d
import Derived.Test.YtejgkhmpmnjgaaaDoorC4
import Derived.Test.YtejgkhmpmnjgaaaDoorC5
namespace Go.Proofs.YtejgkhmpmnjgaaaDoor
open Go.RowKit
set_option maxRecDepth 100000
theorem spCells_one (l : List Sp) : ∀ u ∈ spCells l, u.oneCell' = true := by
  intro u hu
  unfold spCells at hu
  obtain ⟨s, _, hs⟩ := List.mem_flatMap.1 hu
  simp only [List.mem_cons, List.not_mem_nil, or_false] at hs
  rcases hs with rfl | rfl | rfl <;> rfl
theorem inL_append (a b : List Sp) : inL (a ++ b) = inL a + inL b := by simp [inL]
theorem outL_append (a b : List Sp) : outL (a ++ b) = outL a + outL b := by simp [outL]
theorem wrap_two (a b : Int) : wrap64 (wrap64 a + wrap64 b) = wrap64 (a + b) := by unfold wrap64; omega
theorem errL_take (l : List Sp) (j : Nat) (h : j < l.length) : errL (l.take (j + 1)) = if errL (l.take j) = 0 then mayS l[j].1 l[j].2.1 l[j].2.2 else errL (l.take j) := by
  induction l generalizing j with
  | nil => simp at h
  | cons a t ih =>
    cases j with
    | zero =>
      show (if mayS a.1 a.2.1 a.2.2 = 0 then (0 : Int) else mayS a.1 a.2.1 a.2.2) = if (0 : Int) = 0 then mayS a.1 a.2.1 a.2.2 else 0
      rw [if_pos rfl]
      split
      · rename_i h2; exact h2.symm
      · rfl
    | succ j =>
      rw [List.take_succ_cons, List.take_succ_cons, errL, errL]
      split
      · exact ih j (by simpa using h)
      · rfl
theorem errL_pre (l : List Sp) (j : Nat) (h : errL (l.take j) ≠ 0) : errL l = errL (l.take j) := by
  induction l generalizing j with
  | nil => simp
  | cons a t ih =>
    cases j with
    | zero => exact absurd rfl h
    | succ j =>
      rw [List.take_succ_cons, errL] at h ⊢
      rw [errL]
      split
      · rename_i h2; rw [if_pos h2] at h; exact ih j h
      · rfl
theorem mayS_put {cs : List Nat} (h : ∀ c ∈ cs, IsCp c) : mayS 2 0 (mkS (encs cs)) = 0 := by
  unfold mayS; rw [if_neg (by omega), if_pos rfl, if_pos rfl, bs_mkS, dec_encs h]; rfl
/-- Fit's operation may be, and takes what it was made for. -/
theorem fitRun_may (l : List Sp) (n : Int) (h0 : 0 ≤ n) (j : Nat) (hj : j ≤ l.length) : (∀ s ∈ (fitRun (l.take j) n).1, mayS s.1 s.2.1 s.2.2 = 0) ∧ inL (fitRun (l.take j) n).1 = n - (fitRun (l.take j) n).2 := by
  induction j with
  | zero => exact ⟨by simp [fitRun], by simp [fitRun, inL]⟩
  | succ j ih =>
    obtain ⟨h1, h2⟩ := ih (by omega)
    have h3 := fitRun_left l n h0 j (by omega)
    rw [fitRun_take l n j hj]
    generalize (fitRun (l.take j) n).1 = xs at *
    generalize (fitRun (l.take j) n).2 = m at *
    have hone : mayS (fitOne l[j] m).1.1 (fitOne l[j] m).1.2.1 (fitOne l[j] m).1.2.2 = 0 ∧ inS (fitOne l[j] m).1.1 (fitOne l[j] m).1.2.1 = m - (fitOne l[j] m).2 := by
      unfold fitOne
      split
      · refine ⟨?_, ?_⟩
        · exact mayS_put (fitC_cp _)
        · unfold inS; simp only; rw [if_neg (by omega)]; omega
      · rename_i hk
        have e : 1 + l[j].1 % 3 = 1 ∨ 1 + l[j].1 % 3 = 3 := by omega
        refine ⟨?_, ?_⟩
        · unfold mayS; simp only; rw [if_pos e, if_neg (by omega)]; rfl
        · unfold inS; simp only; rw [if_pos e]; omega
    refine ⟨?_, ?_⟩
    · intro s hs
      rcases List.mem_append.1 hs with hs | hs
      · exact h1 s hs
      · rw [List.mem_singleton] at hs; subst hs; exact hone.1
    · rw [inL_append, h2]
      have e : inL [(fitOne l[j] m).1] = m - (fitOne l[j] m).2 := by rw [← hone.2]; simp [inL]
      rw [e]; simp only; omega
theorem fitL_all (l : List Sp) (n : Int) (h0 : 0 ≤ n) (h1 : n ≤ 1048576) : (∀ s ∈ fitL l n, mayS s.1 s.2.1 s.2.2 = 0) ∧ inL (fitL l n) = n := by
  have e12 : l.take (min 12 l.length) = l.take 12 := List.take_eq_take_min.symm
  have h2 := fitRun_may l n h0 (min 12 l.length) (by omega)
  have h3 := fitRun_left l n h0 (min 12 l.length) (by omega)
  rw [e12] at h2 h3
  unfold fitL
  generalize (fitRun (l.take 12) n).1 = xs at *
  generalize (fitRun (l.take 12) n).2 = m at *
  by_cases hm : 0 < m
  · rw [if_pos hm]
    refine ⟨?_, ?_⟩
    · intro s hs
      rcases List.mem_append.1 hs with hs | hs
      · exact h2.1 s hs
      · rw [List.mem_singleton] at hs; subst hs
        unfold mayS; simp only; rw [if_pos (by simp), if_neg (by omega)]; rfl
    · rw [inL_append, h2.2]; simp [inL, inS]
  · rw [if_neg hm, List.append_nil]
    exact ⟨h2.1, by rw [h2.2]; omega⟩
theorem fitL_may (l : List Sp) (n : Int) (h0 : 0 ≤ n) (h1 : n ≤ 1048576) : mayL (fitL l n) = 0 := by
  obtain ⟨h2, h3⟩ := fitL_all l n h0 h1
  have hw : wrap64 n = n := by unfold wrap64; omega
  unfold mayL
  rw [errL_all _ h2, if_pos rfl, h3, hw, if_neg (by omega)]
theorem fitL_len (l : List Sp) (n : Int) : (fitL l n).length ≤ 13 := by
  have e12 : l.take (min 12 l.length) = l.take 12 := List.take_eq_take_min.symm
  have h := fitRun_len l n (min 12 l.length) (by omega)
  rw [e12] at h
  unfold fitL
  rw [List.length_append, h]
  split
  · simp; omega
  · simp; omega
theorem fitOne_text (s : Sp) (m : Int) : (fitOne s m).1.2.2.size ≤ 24 := by
  unfold fitOne
  split
  · simp only
    rw [size_mkS]
    have h1 := encs_le (fitC ((bs s.2.2).take 6))
    have h2 := fitC_length ((bs s.2.2).take 6)
    have h3 : ((bs s.2.2).take 6).length ≤ 6 := by rw [List.length_take]; omega
    omega
  · exact Nat.zero_le _
theorem fitRun_text (l : List Sp) (n : Int) : ∀ s ∈ (fitRun l n).1, s.2.2.size ≤ 24 := by
  have key : ∀ (l : List Sp) (r : List Sp × Int), (∀ s ∈ r.1, s.2.2.size ≤ 24) → ∀ s ∈ (l.foldl (fun r s => (r.1 ++ [(fitOne s r.2).1], (fitOne s r.2).2)) r).1, s.2.2.size ≤ 24 := by
    intro l
    induction l with
    | nil => intro r h; exact h
    | cons a t ih =>
      intro r h
      rw [List.foldl_cons]
      apply ih
      intro s hs
      rcases List.mem_append.1 hs with hs | hs
      · exact h s hs
      · rw [List.mem_singleton] at hs; subst hs; exact fitOne_text _ _
  exact key l ([], n) (by simp)
theorem fitL_text (l : List Sp) (n : Int) : ∀ s ∈ fitL l n, s.2.2.size ≤ 24 := by
  intro s hs
  unfold fitL at hs
  rcases List.mem_append.1 hs with hs | hs
  · exact fitRun_text _ _ s hs
  · split at hs
    · rw [List.mem_singleton] at hs; subst hs; exact Nat.zero_le _
    · simp at hs
theorem may_pos (s : Sp) (h : mayS s.1 s.2.1 s.2.2 = 0) : 0 ≤ s.2.1 ∧ s.2.1 ≤ 1048576 ∧ inS s.1 s.2.1 = s.2.1 := by
  unfold mayS at h
  split at h
  · rename_i hk
    split at h
    · omega
    · rename_i hn
      exact ⟨by omega, by omega, by unfold inS; rw [if_pos hk]⟩
  · rename_i hk
    split at h
    · split at h
      · rename_i h0
        rw [h0]
        exact ⟨by omega, by omega, by unfold inS; rw [if_neg hk]⟩
      · omega
    · omega
theorem may_sum (l : List Sp) (h : ∀ s ∈ l, mayS s.1 s.2.1 s.2.2 = 0) : pos l ∧ (l.map fun s => s.2.1).sum = inL l := by
  refine ⟨fun s hs => (may_pos s (h s hs)).1, ?_⟩
  unfold inL
  congr 1
  apply List.map_congr_left
  intro s hs
  exact (may_pos s (h s hs)).2.2.symm
end Go.Proofs.YtejgkhmpmnjgaaaDoor
namespace Go.Proofs.YtejgkhmpmnjgaaaDoor
open Go.RowKit
set_option maxRecDepth 100000

theorem inS_mrg (s t : Sp) (h : s.1 = t.1) : inS (mrg s t).1 (mrg s t).2.1 = inS s.1 s.2.1 + inS t.1 t.2.1 := by
  unfold mrg inS; simp only; rw [← h]; split <;> omega
theorem inL_cons (s : Sp) (l : List Sp) : inL (s :: l) = inS s.1 s.2.1 + inL l := rfl
theorem outL_cons (s : Sp) (l : List Sp) : outL (s :: l) = outS s.1 s.2.1 s.2.2 + outL l := rfl
theorem inL_normC (s : Sp) (r : List Sp) : inL (normC s r) = inS s.1 s.2.1 + inL r := by
  by_cases hs : emp s
  · rw [normC_emp _ _ hs]
    have e : inS s.1 s.2.1 = 0 := by unfold inS; rw [hs.1]; split <;> rfl
    omega
  · cases r with
    | nil => rw [normC_nil _ hs]; rfl
    | cons t r =>
      rw [normC_cons _ _ _ hs]
      split
      · rename_i hk; rw [inL_cons, inL_cons, inS_mrg s t hk]; omega
      · rfl
theorem inL_norm (l : List Sp) : inL (normL l) = inL l := by
  induction l with
  | nil => rfl
  | cons a t ih => show inL (normC a (normL t)) = _; rw [inL_normC, ih]; rfl
theorem may_text {s : Sp} (h : mayS s.1 s.2.1 s.2.2 = 0) : (s.1 = 2 ∧ s.2.1 = 0 ∧ ∃ cs, dec (bs s.2.2) = some cs) ∨ ((s.1 = 1 ∨ s.1 = 3) ∧ 0 ≤ s.2.1 ∧ s.2.1 ≤ 1048576 ∧ s.2.2 = ⟨#[]⟩) := by
  unfold mayS at h
  split at h
  · rename_i hk
    split at h
    · omega
    · split at h
      · rename_i hn he
        refine .inr ⟨hk, by omega, by omega, ba_empty ?_⟩
        rw [← bs_length, List.isEmpty_iff.1 he]; rfl
      · omega
  · split at h
    · rename_i hk
      split at h
      · rename_i h0
        split at h
        · rename_i hd
          exact .inl ⟨hk, h0, Option.isSome_iff_exists.1 hd⟩
        · omega
      · omega
    · omega
theorem dec_cat {a b : ByteArray} {cs ds : List Nat} (h1 : dec (bs a) = some cs) (h2 : dec (bs b) = some ds) : dec (bs (a ++ b)) = some (cs ++ ds) := by
  obtain ⟨c1, e1⟩ := dec_some h1
  obtain ⟨c2, e2⟩ := dec_some h2
  rw [bs_append, e1, e2, ← encs_append]
  exact dec_encs (fun c hc => (List.mem_append.1 hc).elim (c1 c) (c2 c))
theorem cntF_some {l : List UInt8} {cs : List Nat} (h : dec l = some cs) : cntF l = (cs.length : Int) := by unfold cntF; rw [h]
theorem outS_mrg (s t : Sp) (h : s.1 = t.1) (hs : mayS s.1 s.2.1 s.2.2 = 0) (ht : mayS t.1 t.2.1 t.2.2 = 0) : outS (mrg s t).1 (mrg s t).2.1 (mrg s t).2.2 = outS s.1 s.2.1 s.2.2 + outS t.1 t.2.1 t.2.2 := by
  rcases may_text hs with ⟨k1, n1, cs, d1⟩ | ⟨k1, _, _, t1⟩
  · rcases may_text ht with ⟨k2, n2, ds, d2⟩ | ⟨k2, _, _, t2⟩
    · unfold mrg outS
      simp only
      rw [k1, k2, if_neg (show ¬ (2 : Int) = 1 by omega), if_pos rfl, if_neg (show ¬ (2 : Int) = 1 by omega), if_pos rfl, if_neg (show ¬ (2 : Int) = 1 by omega), if_pos rfl, cntF_some d1, cntF_some d2, cntF_some (dec_cat d1 d2), List.length_append]
      omega
    · omega
  · unfold mrg outS
    simp only
    rw [← h]
    rcases k1 with k | k
    · rw [k, if_pos rfl, if_pos rfl, if_pos rfl]
    · rw [k, if_neg (by omega), if_neg (by omega), if_neg (by omega), if_neg (by omega), if_neg (by omega), if_neg (by omega)]; rfl
theorem outS_emp (s : Sp) (h : emp s) : outS s.1 s.2.1 s.2.2 = 0 := by
  unfold outS
  rw [h.1, ba_empty h.2]
  split
  · rfl
  · split
    · rfl
    · rfl
theorem outL_normC (s : Sp) (r : List Sp) (hs : mayS s.1 s.2.1 s.2.2 = 0) (hr : ∀ u ∈ r, mayS u.1 u.2.1 u.2.2 = 0) : outL (normC s r) = outS s.1 s.2.1 s.2.2 + outL r := by
  by_cases he : emp s
  · rw [normC_emp _ _ he, outS_emp s he]; omega
  · cases r with
    | nil => rw [normC_nil _ he]; rfl
    | cons t r =>
      rw [normC_cons _ _ _ he]
      split
      · rename_i hk; rw [outL_cons, outL_cons, outS_mrg s t hk hs (hr t (by simp))]; omega
      · rfl
theorem mayS_mrg (s t : Sp) (h : s.1 = t.1) (hs : mayS s.1 s.2.1 s.2.2 = 0) (ht : mayS t.1 t.2.1 t.2.2 = 0) (hb : s.2.1 + t.2.1 ≤ 1048576) : mayS (mrg s t).1 (mrg s t).2.1 (mrg s t).2.2 = 0 := by
  rcases may_text hs with ⟨k1, n1, cs, d1⟩ | ⟨k1, p1, _, t1⟩
  · rcases may_text ht with ⟨k2, n2, ds, d2⟩ | ⟨k2, _, _, t2⟩
    · unfold mrg mayS
      simp only
      rw [k1, if_neg (by omega), if_pos rfl, n1, n2, if_pos (by omega), dec_cat d1 d2]; rfl
    · omega
  · rcases may_text ht with ⟨k2, n2, ds, d2⟩ | ⟨k2, p2, _, t2⟩
    · omega
    · unfold mrg mayS
      simp only
      rw [if_pos k1, if_neg (by omega), t1, t2, ba_nil]; rfl
theorem le_sumN (l : List Sp) (h : pos l) : ∀ s ∈ l, s.2.1 ≤ sumN l := by
  induction l with
  | nil => intro s hs; cases hs
  | cons a t ih =>
    intro s hs
    have ht : pos t := fun s hs => h s (by simp [hs])
    have h1 := sumN_pos t ht
    have h2 := h a (by simp)
    have e : sumN (a :: t) = a.2.1 + sumN t := rfl
    rcases List.mem_cons.1 hs with rfl | hs
    · omega
    · have := ih ht s hs; omega
theorem le_sumT (l : List Sp) : ∀ s ∈ l, s.2.2.size ≤ sumT l := by
  induction l with
  | nil => intro s hs; cases hs
  | cons a t ih =>
    intro s hs
    have e : sumT (a :: t) = a.2.2.size + sumT t := rfl
    rcases List.mem_cons.1 hs with rfl | hs
    · omega
    · have := ih s hs; omega
theorem norm_may (l : List Sp) (h : ∀ s ∈ l, mayS s.1 s.2.1 s.2.2 = 0) (hb : sumN l ≤ 1048576) : ∀ s ∈ normL l, mayS s.1 s.2.1 s.2.2 = 0 := by
  induction l with
  | nil => intro s hs; cases hs
  | cons a t ih =>
    have ha := h a (by simp)
    have ht : ∀ s ∈ t, mayS s.1 s.2.1 s.2.2 = 0 := fun s hs => h s (by simp [hs])
    have hpt := (may_sum t ht).1
    have hpa := may_pos a ha
    have e : sumN (a :: t) = a.2.1 + sumN t := rfl
    have ih' := ih ht (by omega)
    have hn := norm_pos t hpt
    have hsn := sumN_norm t
    show ∀ s ∈ normC a (normL t), _
    generalize normL t = r at *
    by_cases he : emp a
    · rw [normC_emp _ _ he]; exact ih'
    · cases r with
      | nil => rw [normC_nil _ he]; intro s hs; rw [List.mem_singleton] at hs; subst hs; exact ha
      | cons u r =>
        rw [normC_cons _ _ _ he]
        split
        · rename_i hk
          intro s hs
          rcases List.mem_cons.1 hs with rfl | hs
          · have := le_sumN _ hn u (by simp)
            exact mayS_mrg a u hk ha (ih' u (by simp)) (by omega)
          · exact ih' s (by simp [hs])
        · intro s hs
          rcases List.mem_cons.1 hs with rfl | hs
          · exact ha
          · exact ih' s hs
theorem outL_norm (l : List Sp) (h : ∀ s ∈ l, mayS s.1 s.2.1 s.2.2 = 0) (hb : sumN l ≤ 1048576) : outL (normL l) = outL l := by
  induction l with
  | nil => rfl
  | cons a t ih =>
    have ht : ∀ s ∈ t, mayS s.1 s.2.1 s.2.2 = 0 := fun s hs => h s (by simp [hs])
    have e : sumN (a :: t) = a.2.1 + sumN t := rfl
    have hpa := may_pos a (h a (by simp))
    show outL (normC a (normL t)) = _
    rw [outL_normC a _ (h a (by simp)) (norm_may t ht (by omega)), ih ht (by omega)]; rfl
theorem mayL_ok (l : List Sp) (h : ∀ s ∈ l, mayS s.1 s.2.1 s.2.2 = 0) (h0 : 0 ≤ inL l) (h1 : inL l ≤ 1048576) : mayL l = 0 := by
  have hw : wrap64 (inL l) = inL l := by unfold wrap64; omega
  unfold mayL
  rw [errL_all _ h, if_pos rfl, hw, if_neg (by omega)]
end Go.Proofs.YtejgkhmpmnjgaaaDoor
namespace Go.Proofs.YtejgkhmpmnjgaaaDoor
set_option maxRecDepth 100000

/-- What an operation does to one code point, or puts. -/
inductive Tok where
  | ins (c : Nat)
  | keep
  | del
deriving DecidableEq

def tokS (s : Sp) : List Tok := if s.1 = 2 then ((dec (bs s.2.2)).getD []).map Tok.ins else List.replicate s.2.1.toNat (if s.1 = 3 then Tok.del else Tok.keep)
def tok (l : List Sp) : List Tok := l.flatMap tokS
def one : Tok → Sp
  | .ins c => (2, 0, mkS (enc1 c))
  | .keep => (1, 1, ⟨#[]⟩)
  | .del => (3, 1, ⟨#[]⟩)
/-- The shortest form of what is done code point by code point. -/
def spT (ts : List Tok) : List Sp := normL (ts.map one)
/-- A span that may be, but for its bound. -/
def OkW (s : Sp) : Prop := (s.1 = 2 ∧ s.2.1 = 0 ∧ ∃ cs, dec (bs s.2.2) = some cs) ∨ ((s.1 = 1 ∨ s.1 = 3) ∧ 0 ≤ s.2.1 ∧ s.2.2 = ⟨#[]⟩)
/-- Each code point that is put is one. -/
def OkT (ts : List Tok) : Prop := ∀ c, Tok.ins c ∈ ts → IsCp c

theorem okW_of_may {s : Sp} (h : mayS s.1 s.2.1 s.2.2 = 0) : OkW s := by
  rcases may_text h with h | ⟨h1, h2, _, h4⟩
  · exact .inl h
  · exact .inr ⟨h1, h2, h4⟩
theorem OkW.nonneg {s : Sp} (h : OkW s) : 0 ≤ s.2.1 := by
  rcases h with ⟨_, h, _⟩ | ⟨_, h, _⟩ <;> omega
theorem tok_nil : tok [] = [] := rfl
theorem tok_cons (s : Sp) (r : List Sp) : tok (s :: r) = tokS s ++ tok r := rfl
theorem tok_append (a b : List Sp) : tok (a ++ b) = tok a ++ tok b := by simp [tok]
theorem tokS_text (t : ByteArray) (n : Int) {cs : List Nat} (h : dec (bs t) = some cs) : tokS (2, n, t) = cs.map Tok.ins := by simp [tokS, h]
theorem tokS_num (k n : Int) (t : ByteArray) (hk : k ≠ 2) : tokS (k, n, t) = List.replicate n.toNat (if k = 3 then Tok.del else Tok.keep) := by simp [tokS, hk]
theorem tokS_emp (s : Sp) (h : emp s) : tokS s = [] := by
  obtain ⟨k, n, t⟩ := s
  obtain ⟨h1, h2⟩ := h
  simp only at h1 h2
  subst h1
  have ht : t = ⟨#[]⟩ := ba_empty h2
  subst ht
  by_cases hk : k = 2
  · subst hk; rfl
  · rw [tokS_num _ _ _ hk]; rfl
theorem tokS_mrg (s t : Sp) (hk : s.1 = t.1) (hs : OkW s) (ht : OkW t) : tokS (mrg s t) = tokS s ++ tokS t := by
  obtain ⟨k, n, a⟩ := s
  obtain ⟨k', m, b⟩ := t
  simp only at hk
  subst hk
  rcases hs with ⟨h1, h2, cs, h3⟩ | ⟨h1, h2, h3⟩
  · simp only at h1 h2 h3
    subst h1; subst h2
    rcases ht with ⟨_, g2, ds, g3⟩ | ⟨g1, _⟩
    · simp only at g2 g3
      subst g2
      show tokS (2, 0 + 0, a ++ b) = _
      rw [tokS_text _ _ (dec_cat h3 g3), tokS_text _ _ h3, tokS_text _ _ g3, List.map_append]
    · simp only at g1; omega
  · simp only at h1 h2 h3
    rcases ht with ⟨g1, _⟩ | ⟨_, g2, g3⟩
    · simp only at g1; omega
    · simp only at g2 g3
      show tokS (k, n + m, a ++ b) = _
      rw [tokS_num _ _ _ (by omega), tokS_num _ _ _ (by omega), tokS_num _ _ _ (by omega), Int.toNat_add h2 g2, List.replicate_append_replicate]
theorem okW_mrg (s t : Sp) (hk : s.1 = t.1) (hs : OkW s) (ht : OkW t) : OkW (mrg s t) := by
  obtain ⟨k, n, a⟩ := s
  obtain ⟨k', m, b⟩ := t
  simp only at hk
  subst hk
  rcases hs with ⟨h1, h2, cs, h3⟩ | ⟨h1, h2, h3⟩
  · simp only at h1 h2 h3
    rcases ht with ⟨_, g2, ds, g3⟩ | ⟨g1, _⟩
    · simp only at g2 g3
      exact .inl ⟨h1, by simp only [mrg]; omega, _, dec_cat h3 g3⟩
    · simp only at g1; omega
  · simp only at h1 h2 h3
    rcases ht with ⟨g1, _⟩ | ⟨_, g2, g3⟩
    · simp only at g1; omega
    · simp only at g2 g3
      refine .inr ⟨h1, by simp only [mrg]; omega, ?_⟩
      simp only [mrg]
      rw [h3, g3]; rfl
theorem normC_okW (s : Sp) (r : List Sp) (hs : OkW s) (hr : ∀ x ∈ r, OkW x) : (∀ x ∈ normC s r, OkW x) ∧ tok (normC s r) = tokS s ++ tok r := by
  by_cases he : emp s
  · rw [normC_emp _ _ he, tokS_emp _ he]
    exact ⟨hr, rfl⟩
  · cases r with
    | nil =>
      rw [normC_nil _ he]
      exact ⟨fun x hx => by rw [List.mem_singleton] at hx; subst hx; exact hs, rfl⟩
    | cons t r =>
      have ht := hr t (List.mem_cons_self ..)
      rw [normC_cons _ _ _ he]
      by_cases hk : s.1 = t.1
      · rw [if_pos hk]
        refine ⟨fun x hx => ?_, by rw [tok_cons, tokS_mrg _ _ hk hs ht, tok_cons, List.append_assoc]⟩
        rcases List.mem_cons.1 hx with rfl | hx
        · exact okW_mrg _ _ hk hs ht
        · exact hr x (List.mem_cons_of_mem _ hx)
      · rw [if_neg hk]
        refine ⟨fun x hx => ?_, rfl⟩
        rcases List.mem_cons.1 hx with rfl | hx
        · exact hs
        · exact hr x hx
theorem norm_okW (l : List Sp) (h : ∀ s ∈ l, OkW s) : (∀ x ∈ normL l, OkW x) ∧ tok (normL l) = tok l := by
  induction l with
  | nil => exact ⟨fun x hx => (by cases hx), rfl⟩
  | cons s r ih =>
    have h1 := ih fun x hx => h x (List.mem_cons_of_mem _ hx)
    have h2 := normC_okW s (normL r) (h s (List.mem_cons_self ..)) h1.1
    exact ⟨h2.1, by show tok (normC s (normL r)) = _; rw [h2.2, h1.2, tok_cons]⟩
theorem tok_norm (l : List Sp) (h : ∀ s ∈ l, OkW s) : tok (normL l) = tok l := (norm_okW l h).2

theorem num_one (k : Int) (r : List Sp) (n : Nat) : normC (k, (n : Int), ⟨#[]⟩) r = (List.replicate n (k, (1 : Int), (⟨#[]⟩ : ByteArray))).foldr normC r := by
  induction n with
  | zero => rw [normC_emp _ _ ⟨rfl, rfl⟩]; rfl
  | succ n ih =>
    rw [List.replicate_succ, List.foldr_cons, ← ih]
    by_cases h0 : n = 0
    · subst h0
      rw [normC_emp (k, ((0 : Nat) : Int), ⟨#[]⟩) r ⟨rfl, rfl⟩]; rfl
    · have e := normC_two (k, 1, ⟨#[]⟩) (k, (n : Int), ⟨#[]⟩) r (fun h => by have := h.1; simp only at this; omega) (fun h => by have := h.1; simp only at this; omega) rfl (by simp only; omega) (by simp only; omega)
      rw [← e]
      unfold mrg
      simp only
      rw [ba_nil, show (1 : Int) + (n : Int) = ((n + 1 : Nat) : Int) by omega]
theorem text_one (r : List Sp) (cs : List Nat) (hc : ∀ c ∈ cs, IsCp c) : normC (2, 0, mkS (encs cs)) r = (cs.map fun c => ((2 : Int), (0 : Int), mkS (enc1 c))).foldr normC r := by
  induction cs with
  | nil => rw [normC_emp _ _ ⟨rfl, rfl⟩]; rfl
  | cons c cs ih =>
    rw [List.map_cons, List.foldr_cons, ← ih fun x hx => hc x (List.mem_cons_of_mem _ hx)]
    have hne : ∀ d, ¬ emp (2, 0, mkS (enc1 d)) := fun d h => by
      have h2 := h.2
      simp only at h2
      rw [size_mkS, enc1_length] at h2
      have := wid_pos d; omega
    by_cases h0 : cs = []
    · subst h0
      rw [encs_single, normC_emp (2, 0, mkS (encs [])) r ⟨rfl, rfl⟩]
    · have hne2 : ¬ emp (2, 0, mkS (encs cs)) := fun h => by
        have h2 := h.2
        simp only at h2
        rw [size_mkS] at h2
        have := length_le_encs cs
        exact h0 (List.eq_nil_of_length_eq_zero (by omega))
      rw [← normC_two _ _ r (hne c) hne2 rfl (Int.le_refl _) (Int.le_refl _)]
      unfold mrg
      simp only
      rw [encs_cons, Int.add_zero]
      congr 3
theorem span_one (s : Sp) (r : List Sp) (h : OkW s) : normC s r = ((tokS s).map one).foldr normC r := by
  obtain ⟨k, n, t⟩ := s
  rcases h with ⟨h1, h2, cs, h3⟩ | ⟨h1, h2, h3⟩
  · simp only at h1 h2 h3
    subst h1; subst h2
    obtain ⟨hc, he⟩ := dec_some h3
    rw [tokS_text _ _ h3, List.map_map, mkS_of he, text_one r cs hc]
    rfl
  · simp only at h1 h2 h3
    subst h3
    rw [tokS_num _ _ _ (by omega), List.map_replicate]
    have hn := num_one k r n.toNat
    rw [Int.toNat_of_nonneg h2] at hn
    rw [hn]
    rcases h1 with rfl | rfl <;> rfl
/-- The shortest form hangs on what is done code point by code point, alone. -/
theorem norm_tok (l : List Sp) (h : ∀ s ∈ l, OkW s) : normL l = spT (tok l) := by
  induction l with
  | nil => rfl
  | cons s r ih =>
    have h1 := ih fun x hx => h x (List.mem_cons_of_mem _ hx)
    show normC s (normL r) = _
    rw [h1, span_one s _ (h s (List.mem_cons_self ..))]
    unfold spT normL
    rw [tok_cons, List.map_append, List.foldr_append]
theorem one_ok (t : Tok) (h : OkT [t]) : OkW (one t) ∧ tokS (one t) = [t] := by
  cases t with
  | ins c =>
    have hc : IsCp c := h c (List.mem_singleton.2 rfl)
    have hd : dec (bs (mkS (enc1 c))) = some [c] := by
      rw [bs_mkS, ← encs_single, dec_encs]
      intro x hx
      rw [List.mem_singleton] at hx; subst hx; exact hc
    exact ⟨.inl ⟨rfl, rfl, _, hd⟩, tokS_text _ _ hd⟩
  | keep => exact ⟨.inr ⟨.inl rfl, by show (0 : Int) ≤ 1; omega, rfl⟩, rfl⟩
  | del => exact ⟨.inr ⟨.inr rfl, by show (0 : Int) ≤ 1; omega, rfl⟩, rfl⟩
theorem okT_cons {t : Tok} {ts : List Tok} (h : OkT (t :: ts)) : OkT [t] ∧ OkT ts :=
  ⟨fun c hc => h c (by rw [List.mem_singleton] at hc; rw [hc]; exact List.mem_cons_self ..), fun c hc => h c (List.mem_cons_of_mem _ hc)⟩
theorem map_one (ts : List Tok) (h : OkT ts) : (∀ s ∈ ts.map one, OkW s) ∧ tok (ts.map one) = ts := by
  induction ts with
  | nil => exact ⟨fun x hx => (by cases hx), rfl⟩
  | cons t ts ih =>
    obtain ⟨h1, h2⟩ := okT_cons h
    obtain ⟨g1, g2⟩ := one_ok t h1
    obtain ⟨g3, g4⟩ := ih h2
    refine ⟨fun x hx => ?_, by rw [List.map_cons, tok_cons, g2, g4]; rfl⟩
    rcases List.mem_cons.1 hx with rfl | hx
    · exact g1
    · exact g3 x hx
theorem tok_spT (ts : List Tok) (h : OkT ts) : tok (spT ts) = ts := by
  unfold spT
  rw [tok_norm _ (map_one ts h).1, (map_one ts h).2]
theorem spT_okW (ts : List Tok) (h : OkT ts) : ∀ s ∈ spT ts, OkW s := (norm_okW _ (map_one ts h).1).1
theorem okW_pos (l : List Sp) (h : ∀ s ∈ l, OkW s) : pos l := fun s hs => (h s hs).nonneg
theorem spT_is (ts : List Tok) (h : OkT ts) : isN (spT ts) := norm_is _ (okW_pos _ (map_one ts h).1)
theorem okT_append {a b : List Tok} : OkT (a ++ b) ↔ OkT a ∧ OkT b :=
  ⟨fun h => ⟨fun c hc => h c (List.mem_append_left _ hc), fun c hc => h c (List.mem_append_right _ hc)⟩, fun h c hc => (List.mem_append.1 hc).elim (h.1 c) (h.2 c)⟩
theorem tokS_okT (s : Sp) (h : OkW s) : OkT (tokS s) := by
  obtain ⟨k, n, t⟩ := s
  intro c hc
  rcases h with ⟨h1, h2, cs, h3⟩ | ⟨h1, h2, h3⟩
  · simp only at h1 h2 h3
    subst h1
    rw [tokS_text _ _ h3] at hc
    obtain ⟨x, hx, e⟩ := List.mem_map.1 hc
    injection e with e
    subst e
    exact (dec_some h3).1 x hx
  · simp only at h1
    rw [tokS_num _ _ _ (by omega)] at hc
    have e := (List.mem_replicate.1 hc).2
    split at e <;> cases e
theorem tok_okT (l : List Sp) (h : ∀ s ∈ l, OkW s) : OkT (tok l) := by
  induction l with
  | nil => intro c hc; cases hc
  | cons s r ih =>
    rw [tok_cons, okT_append]
    exact ⟨tokS_okT s (h s (List.mem_cons_self ..)), ih fun x hx => h x (List.mem_cons_of_mem _ hx)⟩
/-- Two operations have one shortest form just if they do the same, code point by code point. -/
theorem norm_iff (l m : List Sp) (hl : ∀ s ∈ l, OkW s) (hm : ∀ s ∈ m, OkW s) : normL l = normL m ↔ tok l = tok m :=
  ⟨fun h => by rw [← tok_norm l hl, ← tok_norm m hm, h], fun h => by rw [norm_tok l hl, norm_tok m hm, h]⟩

/-- How many code points are taken, and given. -/
def tin (ts : List Tok) : Nat := (ts.filter fun t => match t with | .ins _ => false | _ => true).length
def tout (ts : List Tok) : Nat := (ts.filter fun t => match t with | .del => false | _ => true).length
theorem tin_append (a b : List Tok) : tin (a ++ b) = tin a + tin b := by simp [tin]
theorem tout_append (a b : List Tok) : tout (a ++ b) = tout a + tout b := by simp [tout]
theorem tin_span (s : Sp) (h : OkW s) : (tin (tokS s) : Int) = inS s.1 s.2.1 ∧ (tout (tokS s) : Int) = outS s.1 s.2.1 s.2.2 := by
  obtain ⟨k, n, t⟩ := s
  rcases h with ⟨h1, h2, cs, h3⟩ | ⟨h1, h2, h3⟩
  · simp only at h1 h2 h3
    subst h1
    rw [tokS_text _ _ h3]
    unfold inS outS
    rw [if_neg (by omega), if_neg (by omega), if_pos rfl, cntF_some h3]
    unfold tin tout
    rw [List.filter_map, List.filter_map]
    constructor
    · simp [Function.comp_def]
    · simp only [Function.comp_def, List.length_map]
      rw [List.filter_eq_self.2 fun _ _ => rfl]
      omega
  · simp only at h1 h2 h3
    rw [tokS_num _ _ _ (by omega)]
    unfold inS outS tin tout
    rcases h1 with rfl | rfl
    · simp; omega
    · simp; omega
theorem tin_ok (l : List Sp) (h : ∀ s ∈ l, OkW s) : (tin (tok l) : Int) = inL l ∧ (tout (tok l) : Int) = outL l := by
  induction l with
  | nil => exact ⟨rfl, rfl⟩
  | cons s r ih =>
    have h1 := ih fun x hx => h x (List.mem_cons_of_mem _ hx)
    have h2 := tin_span s (h s (List.mem_cons_self ..))
    rw [tok_cons, tin_append, tout_append, inL_cons, outL_cons]
    omega
end Go.Proofs.YtejgkhmpmnjgaaaDoor
namespace Go.Proofs.YtejgkhmpmnjgaaaDoor
set_option maxRecDepth 100000

/-- Which code points are dropped. -/
def gpD : List Tok → List Bool
  | [] => []
  | .ins _ :: r => gpD r
  | .keep :: r => false :: gpD r
  | .del :: r => true :: gpD r
def consHead (c : Nat) : List (List Nat) → List (List Nat)
  | [] => [[c]]
  | p :: ps => (c :: p) :: ps
/-- What is put, gap by gap. -/
def gpP : List Tok → List (List Nat)
  | [] => [[]]
  | .ins c :: r => consHead c (gpP r)
  | .keep :: r => [] :: gpP r
  | .del :: r => [] :: gpP r
/-- The operation of some gaps. -/
def ug : List (List Nat) → List Bool → List Tok
  | [], _ => []
  | p :: _, [] => p.map Tok.ins
  | p :: ps, d :: ds => p.map Tok.ins ++ (if d then Tok.del else Tok.keep) :: ug ps ds

theorem gpD_append (a b : List Tok) : gpD (a ++ b) = gpD a ++ gpD b := by
  induction a with
  | nil => rfl
  | cons t a ih => cases t <;> simp [gpD, ih]
theorem gpD_ins (cs : List Nat) : gpD (cs.map Tok.ins) = [] := by
  induction cs with
  | nil => rfl
  | cons c cs ih => simpa [gpD] using ih
theorem gpD_length (ts : List Tok) : (gpD ts).length = tin ts := by
  induction ts with
  | nil => rfl
  | cons t ts ih => cases t <;> simp [gpD, tin] at ih ⊢ <;> exact ih
theorem consHead_len (c : Nat) (l : List (List Nat)) (h : l ≠ []) : (consHead c l).length = l.length := by
  cases l with
  | nil => exact absurd rfl h
  | cons p ps => rfl
theorem consHead_ne (c : Nat) (l : List (List Nat)) : consHead c l ≠ [] := by cases l <;> simp [consHead]
theorem gpP_ne (ts : List Tok) : gpP ts ≠ [] := by
  cases ts with
  | nil => simp [gpP]
  | cons t ts => cases t <;> simp [gpP, consHead_ne]
theorem gpP_length (ts : List Tok) : (gpP ts).length = (gpD ts).length + 1 := by
  induction ts with
  | nil => rfl
  | cons t ts ih =>
    cases t with
    | ins c => rw [gpP, consHead_len _ _ (gpP_ne ts), ih, gpD]
    | keep => simp [gpP, gpD, ih]
    | del => simp [gpP, gpD, ih]
theorem consHead_append (c : Nat) (a b : List (List Nat)) (h : a ≠ []) : consHead c (a ++ b) = consHead c a ++ b := by
  cases a with
  | nil => exact absurd rfl h
  | cons p ps => rfl
/-- Of one operation behind another one: those that meet put one text behind the other. -/
theorem gpP_append (a b : List Tok) (i : List (List Nat)) (x y : List Nat) (r : List (List Nat)) (ha : gpP a = i ++ [x]) (hb : gpP b = y :: r) : gpP (a ++ b) = i ++ (x ++ y) :: r := by
  induction a generalizing i x with
  | nil =>
    have e : i = [] ∧ x = [] := by
      cases i with
      | nil => simp [gpP] at ha; exact ⟨rfl, ha⟩
      | cons p i => simp [gpP] at ha
    obtain ⟨rfl, rfl⟩ := e
    simpa using hb
  | cons t a ih =>
    obtain ⟨i', x', h'⟩ : ∃ i' x', gpP a = i' ++ [x'] := by
      have := gpP_ne a
      exact ⟨(gpP a).dropLast, (gpP a).getLast this, (List.dropLast_concat_getLast this).symm⟩
    have g := ih i' x' h'
    cases t with
    | ins c =>
      rw [gpP, h'] at ha
      show consHead c (gpP (a ++ b)) = _
      rw [g]
      cases i' with
      | nil =>
        cases i with
        | nil => simp [consHead] at ha ⊢; rw [← ha]; rfl
        | cons p i => simp [consHead] at ha
      | cons p i' =>
        cases i with
        | nil => simp [consHead] at ha
        | cons q i =>
          simp [consHead] at ha ⊢
          obtain ⟨h1, h2, h3⟩ := ha
          subst h1; subst h2; subst h3
          exact ⟨rfl, rfl⟩
    | keep =>
      rw [gpP, h', ← List.cons_append] at ha
      obtain ⟨h1, h2⟩ := List.append_inj' ha rfl
      injection h2 with h2
      subst h2
      show [] :: gpP (a ++ b) = _
      rw [g, ← h1]; rfl
    | del =>
      rw [gpP, h', ← List.cons_append] at ha
      obtain ⟨h1, h2⟩ := List.append_inj' ha rfl
      injection h2 with h2
      subst h2
      show [] :: gpP (a ++ b) = _
      rw [g, ← h1]; rfl
theorem gpP_ins (cs : List Nat) : gpP (cs.map Tok.ins) = [cs] := by
  induction cs with
  | nil => rfl
  | cons c cs ih => rw [List.map_cons, gpP, ih]; rfl
theorem gpP_last (a : List Tok) : ∃ i x, gpP a = i ++ [x] ∧ i.length = (gpD a).length := by
  have := gpP_ne a
  refine ⟨(gpP a).dropLast, (gpP a).getLast this, (List.dropLast_concat_getLast this).symm, ?_⟩
  rw [List.length_dropLast, gpP_length]; omega
theorem gpP_head (a : List Tok) : ∃ x r, gpP a = x :: r := by
  cases h : gpP a with
  | nil => exact absurd h (gpP_ne a)
  | cons x r => exact ⟨x, r, rfl⟩
theorem gpP_snoc_ins (a : List Tok) (i : List (List Nat)) (x cs : List Nat) (h : gpP a = i ++ [x]) : gpP (a ++ cs.map Tok.ins) = i ++ [x ++ cs] :=
  gpP_append a _ i x cs [] h (gpP_ins cs)
theorem gpP_snoc (a : List Tok) (t : Tok) (ht : t = .keep ∨ t = .del) : gpP (a ++ [t]) = gpP a ++ [[]] := by
  obtain ⟨i, x, h, _⟩ := gpP_last a
  have hb : gpP [t] = [] :: [[]] := by rcases ht with rfl | rfl <;> rfl
  rw [gpP_append a [t] i x [] [[]] h hb, h, List.append_nil, List.append_assoc]; rfl
/-- The operation of an operation's gaps is it. -/
theorem ug_gp (ts : List Tok) : ug (gpP ts) (gpD ts) = ts := by
  induction ts with
  | nil => rfl
  | cons t ts ih =>
    cases t with
    | ins c =>
      obtain ⟨x, r, h⟩ := gpP_head ts
      rw [gpP, gpD]
      rw [h] at ih ⊢
      cases hd : gpD ts with
      | nil => rw [hd] at ih; simp only [consHead, ug, List.map_cons]; rw [ug] at ih; rw [ih]
      | cons d ds => rw [hd] at ih; simp only [consHead, ug, List.map_cons, List.cons_append]; rw [ug] at ih; rw [ih]
    | keep => simp only [gpP, gpD, ug, List.map_nil, List.nil_append, ih]; rfl
    | del => simp only [gpP, gpD, ug, List.map_nil, List.nil_append, ih]; rfl
theorem gp_ug (ps : List (List Nat)) (ds : List Bool) (h : ps.length = ds.length + 1) : gpP (ug ps ds) = ps ∧ gpD (ug ps ds) = ds := by
  induction ds generalizing ps with
  | nil =>
    match ps, h with
    | [p], _ => exact ⟨gpP_ins p, gpD_ins p⟩
  | cons d ds ih =>
    cases ps with
    | nil => simp at h
    | cons p ps =>
      obtain ⟨h1, h2⟩ := ih ps (by simpa using h)
      have e1 : gpP ((if d then Tok.del else Tok.keep) :: ug ps ds) = [] :: ps := by cases d <;> simp [gpP, h1]
      have e2 : gpD ((if d then Tok.del else Tok.keep) :: ug ps ds) = d :: ds := by cases d <;> simp [gpD, h2]
      constructor
      · show gpP (p.map Tok.ins ++ _) = _
        rw [gpP_append _ _ [] p [] ps (gpP_ins p) e1, List.append_nil]; rfl
      · show gpD (p.map Tok.ins ++ _) = _
        rw [gpD_append, gpD_ins, e2]; rfl
theorem gp_iff (a b : List Tok) : (gpP a = gpP b ∧ gpD a = gpD b) ↔ a = b :=
  ⟨fun h => by rw [← ug_gp a, ← ug_gp b, h.1, h.2], fun h => by rw [h]; exact ⟨rfl, rfl⟩⟩
theorem ug_okT (ps : List (List Nat)) (ds : List Bool) (h : ∀ p ∈ ps, ∀ c ∈ p, IsCp c) : OkT (ug ps ds) := by
  induction ds generalizing ps with
  | nil =>
    cases ps with
    | nil => intro c hc; cases hc
    | cons p ps =>
      intro c hc
      simp only [ug, List.mem_map] at hc
      obtain ⟨x, hx, e⟩ := hc
      injection e with e; subst e
      exact h p (List.mem_cons_self ..) x hx
  | cons d ds ih =>
    cases ps with
    | nil => intro c hc; cases hc
    | cons p ps =>
      intro c hc
      rcases List.mem_append.1 (show Tok.ins c ∈ p.map Tok.ins ++ _ from hc) with hc | hc
      · obtain ⟨x, hx, e⟩ := List.mem_map.1 hc
        injection e with e; subst e
        exact h p (List.mem_cons_self ..) x hx
      · rcases List.mem_cons.1 hc with hc | hc
        · cases d <;> simp at hc
        · exact ih ps (fun q hq => h q (List.mem_cons_of_mem _ hq)) c hc
theorem gpP_cp (ts : List Tok) (h : OkT ts) : ∀ p ∈ gpP ts, ∀ c ∈ p, IsCp c := by
  induction ts with
  | nil => intro p hp; rw [gpP, List.mem_singleton] at hp; subst hp; intro c hc; cases hc
  | cons t ts ih =>
    obtain ⟨h1, h2⟩ := okT_cons h
    have g := ih h2
    cases t with
    | ins c =>
      obtain ⟨x, r, hx⟩ := gpP_head ts
      rw [gpP, hx]
      rw [hx] at g
      intro p hp d hd
      rcases List.mem_cons.1 (show p ∈ (c :: x) :: r from hp) with rfl | hp
      · rcases List.mem_cons.1 hd with rfl | hd
        · exact h1 d (List.mem_singleton.2 rfl)
        · exact g x (List.mem_cons_self ..) d hd
      · exact g p (List.mem_cons_of_mem _ hp) d hd
    | keep =>
      intro p hp
      rcases List.mem_cons.1 (show p ∈ [] :: gpP ts from hp) with rfl | hp
      · intro c hc; cases hc
      · exact g p hp
    | del =>
      intro p hp
      rcases List.mem_cons.1 (show p ∈ [] :: gpP ts from hp) with rfl | hp
      · intro c hc; cases hc
      · exact g p hp
/-- What is put, all together. -/
def insT (ts : List Tok) : List Nat := ts.filterMap fun t => match t with | .ins c => some c | _ => none
theorem insT_append (a b : List Tok) : insT (a ++ b) = insT a ++ insT b := by simp [insT]
theorem gpP_le (ts : List Tok) : ∀ p ∈ gpP ts, (encs p).length ≤ (encs (insT ts)).length := by
  induction ts with
  | nil => intro p hp; rw [gpP, List.mem_singleton] at hp; subst hp; exact Nat.le_refl _
  | cons t ts ih =>
    cases t with
    | ins c =>
      obtain ⟨x, r, hx⟩ := gpP_head ts
      have e : insT (Tok.ins c :: ts) = c :: insT ts := rfl
      rw [gpP, hx, e, encs_cons, List.length_append]
      rw [hx] at ih
      intro p hp
      rcases List.mem_cons.1 (show p ∈ (c :: x) :: r from hp) with rfl | hp
      · have := ih x (List.mem_cons_self ..)
        rw [encs_cons, List.length_append]; omega
      · have := ih p (List.mem_cons_of_mem _ hp)
        omega
    | keep =>
      have e : insT (Tok.keep :: ts) = insT ts := rfl
      rw [gpP, e]
      intro p hp
      rcases List.mem_cons.1 hp with rfl | hp
      · exact Nat.zero_le _
      · exact ih p hp
    | del =>
      have e : insT (Tok.del :: ts) = insT ts := rfl
      rw [gpP, e]
      intro p hp
      rcases List.mem_cons.1 hp with rfl | hp
      · exact Nat.zero_le _
      · exact ih p hp
theorem insT_span (s : Sp) (h : OkW s) : (encs (insT (tokS s))).length ≤ s.2.2.size := by
  obtain ⟨k, n, t⟩ := s
  rcases h with ⟨h1, h2, cs, h3⟩ | ⟨h1, h2, h3⟩
  · simp only at h1 h2 h3
    subst h1
    rw [tokS_text _ _ h3]
    have e : insT (cs.map Tok.ins) = cs := by unfold insT; rw [List.filterMap_map]; exact List.filterMap_some
    rw [e, ← bs_length, (dec_some h3).2]
    exact Nat.le_refl _
  · simp only at h1
    rw [tokS_num _ _ _ (by omega)]
    have e : insT (List.replicate n.toNat (if k = 3 then Tok.del else Tok.keep)) = [] := by
      unfold insT
      rw [List.filterMap_eq_nil_iff]
      intro a ha
      have := (List.mem_replicate.1 ha).2
      subst this
      by_cases hk : k = 3 <;> simp [hk]
    rw [e]; exact Nat.zero_le _
theorem insT_sum (l : List Sp) (h : ∀ s ∈ l, OkW s) : (encs (insT (tok l))).length ≤ sumT l := by
  induction l with
  | nil => exact Nat.zero_le _
  | cons s r ih =>
    have h1 := ih fun x hx => h x (List.mem_cons_of_mem _ hx)
    have h2 := insT_span s (h s (List.mem_cons_self ..))
    have e : sumT (s :: r) = s.2.2.size + sumT r := rfl
    rw [tok_cons, insT_append, encs_append, List.length_append, e]; omega
theorem tok_take (l : List Sp) (j : Nat) (h : j < l.length) : tok (l.take (j + 1)) = tok (l.take j) ++ tokS l[j] := by
  rw [List.take_add_one, List.getElem?_eq_getElem h, tok_append]
  simp [tok]
theorem gpD_rep (t : Tok) (ht : t = .keep ∨ t = .del) (k : Nat) : gpD (List.replicate k t) = List.replicate k (decide (t = .del)) := by
  induction k with
  | zero => rfl
  | succ k ih => rw [List.replicate_succ, List.replicate_succ]; rcases ht with rfl | rfl <;> simp [gpD, ih]
end Go.Proofs.YtejgkhmpmnjgaaaDoor
