/- The shortest form: what it takes and gives, and that it may be. -/
import Derived.Test.YthlhjjgmncbplaaDoorC5
import Derived.Test.YthlhjjgmncbplaaDoorMf
namespace Go.Proofs.YthlhjjgmncbplaaDoor
open Go.RowKit
set_option maxRecDepth 100000

theorem inS_mrg (s t : Sp) (h : s.1 = t.1) : inS (mrg s t).1 (mrg s t).2.1 = inS s.1 s.2.1 + inS t.1 t.2.1 := by
  unfold mrg inS; simp only; rw [← h]; split <;> omega
theorem inL_cons (s : Sp) (l : List Sp) : inL (s :: l) = inS s.1 s.2.1 + inL l := rfl
theorem outL_cons (s : Sp) (l : List Sp) : outL (s :: l) = outS s.1 s.2.1 s.2.2 + outL l := rfl
theorem inL_normC (s : Sp) (r : List Sp) : inL (normC s r) = inS s.1 s.2.1 + inL r := by
  by_cases hs : emp s
  · rw [normC_emp _ _ hs]
    have e : inS s.1 s.2.1 = 0 := by unfold inS; rw [hs.1]; split <;> rfl
    omega
  · cases r with
    | nil => rw [normC_nil _ hs]; rfl
    | cons t r =>
      rw [normC_cons _ _ _ hs]
      split
      · rename_i hk; rw [inL_cons, inL_cons, inS_mrg s t hk]; omega
      · rfl
theorem inL_norm (l : List Sp) : inL (normL l) = inL l := by
  induction l with
  | nil => rfl
  | cons a t ih => show inL (normC a (normL t)) = _; rw [inL_normC, ih]; rfl
theorem may_text {s : Sp} (h : mayS s.1 s.2.1 s.2.2 = 0) : (s.1 = 2 ∧ s.2.1 = 0 ∧ ∃ cs, dec (bs s.2.2) = some cs) ∨ ((s.1 = 1 ∨ s.1 = 3) ∧ 0 ≤ s.2.1 ∧ s.2.1 ≤ 1048576 ∧ s.2.2 = ⟨#[]⟩) := by
  unfold mayS at h
  split at h
  · rename_i hk
    split at h
    · omega
    · split at h
      · rename_i hn he
        refine .inr ⟨hk, by omega, by omega, ba_empty ?_⟩
        rw [← bs_length, List.isEmpty_iff.1 he]; rfl
      · omega
  · split at h
    · rename_i hk
      split at h
      · rename_i h0
        split at h
        · rename_i hd
          exact .inl ⟨hk, h0, Option.isSome_iff_exists.1 hd⟩
        · omega
      · omega
    · omega
theorem dec_cat {a b : ByteArray} {cs ds : List Nat} (h1 : dec (bs a) = some cs) (h2 : dec (bs b) = some ds) : dec (bs (a ++ b)) = some (cs ++ ds) := by
  obtain ⟨c1, e1⟩ := dec_some h1
  obtain ⟨c2, e2⟩ := dec_some h2
  rw [bs_append, e1, e2, ← encs_append]
  exact dec_encs (fun c hc => (List.mem_append.1 hc).elim (c1 c) (c2 c))
theorem cntF_some {l : List UInt8} {cs : List Nat} (h : dec l = some cs) : cntF l = (cs.length : Int) := by unfold cntF; rw [h]
theorem outS_mrg (s t : Sp) (h : s.1 = t.1) (hs : mayS s.1 s.2.1 s.2.2 = 0) (ht : mayS t.1 t.2.1 t.2.2 = 0) : outS (mrg s t).1 (mrg s t).2.1 (mrg s t).2.2 = outS s.1 s.2.1 s.2.2 + outS t.1 t.2.1 t.2.2 := by
  rcases may_text hs with ⟨k1, n1, cs, d1⟩ | ⟨k1, _, _, t1⟩
  · rcases may_text ht with ⟨k2, n2, ds, d2⟩ | ⟨k2, _, _, t2⟩
    · unfold mrg outS
      simp only
      rw [k1, k2, if_neg (show ¬ (2 : Int) = 1 by omega), if_pos rfl, if_neg (show ¬ (2 : Int) = 1 by omega), if_pos rfl, if_neg (show ¬ (2 : Int) = 1 by omega), if_pos rfl, cntF_some d1, cntF_some d2, cntF_some (dec_cat d1 d2), List.length_append]
      omega
    · omega
  · unfold mrg outS
    simp only
    rw [← h]
    rcases k1 with k | k
    · rw [k, if_pos rfl, if_pos rfl, if_pos rfl]
    · rw [k, if_neg (by omega), if_neg (by omega), if_neg (by omega), if_neg (by omega), if_neg (by omega), if_neg (by omega)]; rfl
theorem outS_emp (s : Sp) (h : emp s) : outS s.1 s.2.1 s.2.2 = 0 := by
  unfold outS
  rw [h.1, ba_empty h.2]
  split
  · rfl
  · split
    · rfl
    · rfl
theorem outL_normC (s : Sp) (r : List Sp) (hs : mayS s.1 s.2.1 s.2.2 = 0) (hr : ∀ u ∈ r, mayS u.1 u.2.1 u.2.2 = 0) : outL (normC s r) = outS s.1 s.2.1 s.2.2 + outL r := by
  by_cases he : emp s
  · rw [normC_emp _ _ he, outS_emp s he]; omega
  · cases r with
    | nil => rw [normC_nil _ he]; rfl
    | cons t r =>
      rw [normC_cons _ _ _ he]
      split
      · rename_i hk; rw [outL_cons, outL_cons, outS_mrg s t hk hs (hr t (by simp))]; omega
      · rfl
theorem mayS_mrg (s t : Sp) (h : s.1 = t.1) (hs : mayS s.1 s.2.1 s.2.2 = 0) (ht : mayS t.1 t.2.1 t.2.2 = 0) (hb : s.2.1 + t.2.1 ≤ 1048576) : mayS (mrg s t).1 (mrg s t).2.1 (mrg s t).2.2 = 0 := by
  rcases may_text hs with ⟨k1, n1, cs, d1⟩ | ⟨k1, p1, _, t1⟩
  · rcases may_text ht with ⟨k2, n2, ds, d2⟩ | ⟨k2, _, _, t2⟩
    · unfold mrg mayS
      simp only
      rw [k1, if_neg (by omega), if_pos rfl, n1, n2, if_pos (by omega), dec_cat d1 d2]; rfl
    · omega
  · rcases may_text ht with ⟨k2, n2, ds, d2⟩ | ⟨k2, p2, _, t2⟩
    · omega
    · unfold mrg mayS
      simp only
      rw [if_pos k1, if_neg (by omega), t1, t2, ba_nil]; rfl
theorem le_sumN (l : List Sp) (h : pos l) : ∀ s ∈ l, s.2.1 ≤ sumN l := by
  induction l with
  | nil => intro s hs; cases hs
  | cons a t ih =>
    intro s hs
    have ht : pos t := fun s hs => h s (by simp [hs])
    have h1 := sumN_pos t ht
    have h2 := h a (by simp)
    have e : sumN (a :: t) = a.2.1 + sumN t := rfl
    rcases List.mem_cons.1 hs with rfl | hs
    · omega
    · have := ih ht s hs; omega
theorem le_sumT (l : List Sp) : ∀ s ∈ l, s.2.2.size ≤ sumT l := by
  induction l with
  | nil => intro s hs; cases hs
  | cons a t ih =>
    intro s hs
    have e : sumT (a :: t) = a.2.2.size + sumT t := rfl
    rcases List.mem_cons.1 hs with rfl | hs
    · omega
    · have := ih s hs; omega
theorem norm_may (l : List Sp) (h : ∀ s ∈ l, mayS s.1 s.2.1 s.2.2 = 0) (hb : sumN l ≤ 1048576) : ∀ s ∈ normL l, mayS s.1 s.2.1 s.2.2 = 0 := by
  induction l with
  | nil => intro s hs; cases hs
  | cons a t ih =>
    have ha := h a (by simp)
    have ht : ∀ s ∈ t, mayS s.1 s.2.1 s.2.2 = 0 := fun s hs => h s (by simp [hs])
    have hpt := (may_sum t ht).1
    have hpa := may_pos a ha
    have e : sumN (a :: t) = a.2.1 + sumN t := rfl
    have ih' := ih ht (by omega)
    have hn := norm_pos t hpt
    have hsn := sumN_norm t
    show ∀ s ∈ normC a (normL t), _
    generalize normL t = r at *
    by_cases he : emp a
    · rw [normC_emp _ _ he]; exact ih'
    · cases r with
      | nil => rw [normC_nil _ he]; intro s hs; rw [List.mem_singleton] at hs; subst hs; exact ha
      | cons u r =>
        rw [normC_cons _ _ _ he]
        split
        · rename_i hk
          intro s hs
          rcases List.mem_cons.1 hs with rfl | hs
          · have := le_sumN _ hn u (by simp)
            exact mayS_mrg a u hk ha (ih' u (by simp)) (by omega)
          · exact ih' s (by simp [hs])
        · intro s hs
          rcases List.mem_cons.1 hs with rfl | hs
          · exact ha
          · exact ih' s hs
theorem outL_norm (l : List Sp) (h : ∀ s ∈ l, mayS s.1 s.2.1 s.2.2 = 0) (hb : sumN l ≤ 1048576) : outL (normL l) = outL l := by
  induction l with
  | nil => rfl
  | cons a t ih =>
    have ht : ∀ s ∈ t, mayS s.1 s.2.1 s.2.2 = 0 := fun s hs => h s (by simp [hs])
    have e : sumN (a :: t) = a.2.1 + sumN t := rfl
    have hpa := may_pos a (h a (by simp))
    show outL (normC a (normL t)) = _
    rw [outL_normC a _ (h a (by simp)) (norm_may t ht (by omega)), ih ht (by omega)]; rfl
theorem mayL_ok (l : List Sp) (h : ∀ s ∈ l, mayS s.1 s.2.1 s.2.2 = 0) (h0 : 0 ≤ inL l) (h1 : inL l ≤ 1048576) : mayL l = 0 := by
  have hw : wrap64 (inL l) = inL l := by unfold wrap64; omega
  unfold mayL
  rw [errL_all _ h, if_pos rfl, hw, if_neg (by omega)]
end Go.Proofs.YthlhjjgmncbplaaDoor
