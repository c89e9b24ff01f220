/- Layer 16, logs that are spoilt. -/
import Derived.Test.YtejgkhmpmnjgaaaDoorL16e
namespace Go.Proofs.YtejgkhmpmnjgaaaDoor
open Go.RowKit
set_option maxRecDepth 100000
set_option maxHeartbeats 4000000
set_option linter.unusedSimpArgs false
theorem u8_ne255 (n : Nat) (h : n < 255) : u8 n ≠ 255 := by
  intro e
  have := congrArg UInt8.toNat e
  simp [u8] at this
  omega
theorem enc1_ff (c : Nat) (h : IsCp c) : (255 : UInt8) ∉ enc1 c := by
  obtain ⟨h1, _⟩ := h
  unfold enc1
  intro hm
  split at hm
  · simp only [List.mem_singleton] at hm
    exact u8_ne255 _ (by omega) hm.symm
  · split at hm
    · simp only [List.mem_cons, List.not_mem_nil, or_false] at hm
      rcases hm with hm | hm
      · exact u8_ne255 _ (by omega) hm.symm
      · exact u8_ne255 _ (by omega) hm.symm
    · split at hm
      · simp only [List.mem_cons, List.not_mem_nil, or_false] at hm
        rcases hm with hm | hm | hm
        · exact u8_ne255 _ (by omega) hm.symm
        · exact u8_ne255 _ (by omega) hm.symm
        · exact u8_ne255 _ (by omega) hm.symm
      · simp only [List.mem_cons, List.not_mem_nil, or_false] at hm
        rcases hm with hm | hm | hm | hm
        · exact u8_ne255 _ (by omega) hm.symm
        · exact u8_ne255 _ (by omega) hm.symm
        · exact u8_ne255 _ (by omega) hm.symm
        · exact u8_ne255 _ (by omega) hm.symm
theorem dec_ff (s : ByteArray) : dec (bs (s ++ ⟨#[255]⟩)) = none := by
  cases h : dec (bs (s ++ ⟨#[255]⟩)) with
  | none => rfl
  | some cs =>
    exfalso
    obtain ⟨h1, h2⟩ := dec_some h
    have h3 : (255 : UInt8) ∈ bs (s ++ ⟨#[255]⟩) := by rw [bs_append]; exact List.mem_append_right _ (by simp [bs])
    rw [h2] at h3
    obtain ⟨c, hc, hb⟩ := List.mem_flatMap.1 h3
    exact enc1_ff c (h1 c hc) hb
theorem encs_ge16i (cs : List Nat) : cs.length ≤ (encs cs).length := by
  induction cs with
  | nil => simp [encs]
  | cons a t ih =>
    have h : 0 < (enc1 a).length := by unfold enc1; split <;> (try split) <;> (try split) <;> simp
    simp only [encs, List.flatMap_cons, List.length_append, List.length_cons] at *
    omega
theorem segE_app {n : Int} {a b : List (List Sp)} (h : segE n a = 0) : segE n (a ++ b) = segE ((n :: a.map outL).getLast (List.cons_ne_nil _ _)) b := by
  induction a generalizing n with
  | nil => simp
  | cons l r ih =>
    obtain ⟨⟨h1, h2, h3, h4⟩, h5⟩ := segE_cons.1 h
    rw [List.cons_append, segE, if_neg (by omega), if_neg (by omega), if_neg (by omega), if_pos h4, ih h5]
    simp [List.getLast_cons]
/-- A log that may be with another segment at a place. -/
theorem log_set {S : ByteArray} {FR : List Int} {FL : List (List Sp)} (h : FitLog S FR FL) {k : Nat} (hk : k < FL.length) (l' : List Sp) :
    ∃ N : Int, 0 ≤ N ∧ N ≤ 6400 ∧ mayL FL[k] = 0 ∧ inL FL[k] = N ∧ outL FL[k] ≤ 1048576 ∧ normL FL[k] = FL[k] ∧ logE S FR (FL.set k l') = segE N (l' :: FL.drop (k + 1)) := by
  obtain ⟨cs, h1, h2, h3, h4, h5⟩ := logE_ok h.ok
  have e : FL = FL.take k ++ FL[k] :: FL.drop (k + 1) := by rw [← List.drop_eq_getElem_cons hk, List.take_append_drop]
  have h6 : segE (cs.length : Int) (FL.take k ++ FL[k] :: FL.drop (k + 1)) = 0 := by rw [← e]; exact h5
  obtain ⟨s1, s2⟩ := segE_append.1 h6
  obtain ⟨⟨m1, m2, m3, m4⟩, _⟩ := segE_cons.1 s2
  obtain ⟨g1, ds, g2, g3⟩ := allL_ok h1 s1 fun l hx => h.lens l (List.mem_of_mem_take hx)
  have hsz := allL_size (s := S) (ls := FL.take k)
  have hst := (sumTT_take16 FL k).1
  have hdl : ds.length ≤ 6400 := by
    have q1 := encs_ge16i ds
    have q2 := (dec_some g2).2
    have q3 := bs_length (allL S (FL.take k)).1
    rw [q2] at q3
    have := h.txt; have := h.sum
    omega
  refine ⟨(ds.length : Int), by omega, by omega, m1, by rw [m2, g3], m3, m4, ?_⟩
  rw [logE_s (by rw [h1]; simp) (by rw [cntF_some h1]; omega) ⟨h3, by rw [List.length_set]; exact h4⟩, cntF_some h1, List.set_eq_take_append_cons_drop, if_pos hk, segE_app s1, g3]
theorem isN_ne16 : ∀ (l : List Sp), isN l → ∀ s ∈ l, ¬ emp s
  | [], _, s, h => (by cases h)
  | [a], h, s, hs => (by rw [List.mem_singleton] at hs; subst hs; exact h)
  | a :: b :: r, h, s, hs => (by
    rcases List.mem_cons.1 hs with rfl | hs
    · exact h.1
    · exact isN_ne16 (b :: r) h.2.2 s hs)
theorem spoil_4 {S : ByteArray} {FR : List Int} {FL : List (List Sp)} (h : FitLog S FR FL) {k : Nat} (hk : k < FL.length) : logE S FR (FL.set k (FL[k] ++ [(2, 0, ⟨#[]⟩)])) = 8 := by
  obtain ⟨N, n0, n1, m1, m2, m3, m4, he⟩ := log_set h hk (FL[k] ++ [(2, 0, ⟨#[]⟩)])
  obtain ⟨ha, _, _⟩ := mayL_all m1 (h.lens _ (List.getElem_mem hk))
  have hi : inL (FL[k] ++ [((2 : Int), (0 : Int), (⟨#[]⟩ : ByteArray))]) = N := by rw [inL_append, m2]; show N + 0 = N; omega
  have ho : outL (FL[k] ++ [((2 : Int), (0 : Int), (⟨#[]⟩ : ByteArray))]) = outL FL[k] := by rw [outL_append, show outL [((2 : Int), (0 : Int), (⟨#[]⟩ : ByteArray))] = 0 by decide +kernel, Int.add_zero]
  have hall : ∀ s ∈ FL[k] ++ [((2 : Int), (0 : Int), (⟨#[]⟩ : ByteArray))], mayS s.1 s.2.1 s.2.2 = 0 := by
    intro s hs
    rcases List.mem_append.1 hs with hs | hs
    · exact ha s hs
    · rw [List.mem_singleton] at hs; subst hs; decide +kernel
  have hma := mayL_ok _ hall (by omega) (by omega)
  rw [he, segE, if_neg (by omega), if_neg (by omega), if_neg (by omega), if_neg]
  intro hn
  have hpos := okW_pos _ fun s hs => okW_of_may (hall s hs)
  have hisn : isN (FL[k] ++ [((2 : Int), (0 : Int), (⟨#[]⟩ : ByteArray))]) := (isN_iff16 hpos).2 hn
  exact isN_ne16 _ hisn _ (List.mem_append_right _ (List.mem_singleton.2 rfl)) ⟨rfl, rfl⟩
theorem spoil_5 {S : ByteArray} {FR : List Int} {FL : List (List Sp)} (h : FitLog S FR FL) {k : Nat} (hk : k < FL.length) : logE S FR (FL.set k (FL[k] ++ [(3, 1, ⟨#[]⟩)])) = 5 := by
  obtain ⟨N, n0, n1, m1, m2, m3, m4, he⟩ := log_set h hk (FL[k] ++ [(3, 1, ⟨#[]⟩)])
  obtain ⟨ha, _, _⟩ := mayL_all m1 (h.lens _ (List.getElem_mem hk))
  have hi : inL (FL[k] ++ [((3 : Int), (1 : Int), (⟨#[]⟩ : ByteArray))]) = N + 1 := by rw [inL_append, m2]; show N + (1 + 0) = N + 1; omega
  have hall : ∀ s ∈ FL[k] ++ [((3 : Int), (1 : Int), (⟨#[]⟩ : ByteArray))], mayS s.1 s.2.1 s.2.2 = 0 := by
    intro s hs
    rcases List.mem_append.1 hs with hs | hs
    · exact ha s hs
    · rw [List.mem_singleton] at hs; subst hs; decide +kernel
  have hma := mayL_ok _ hall (by omega) (by omega)
  rw [he, segE, if_neg (by omega), if_pos (by omega)]
theorem spoil_r {S : ByteArray} {FR R : List Int} {FL : List (List Sp)} (h : FitLog S FR FL) (hr : ¬ (rowOk R ∧ R.length = FL.length + 1)) : logE S R FL = 6 := by
  obtain ⟨cs, h1, h2, _, _, _⟩ := logE_ok h.ok
  exact logE_6 (by rw [h1]; simp) (by rw [cntF_some h1]; omega) hr
theorem rises_lt16 {l : List Int} {was : Int} (h : rises was l) {k : Nat} (hk : k + 1 < l.length) : l[k] < l[k + 1] := by
  obtain ⟨_, _, h3⟩ := rises_at h k (by omega)
  have h4 := (rises_drop hk l[k]).1 h3
  exact h4.1
theorem spoil_2 {S : ByteArray} {FR : List Int} {FL : List (List Sp)} (h : FitLog S FR FL) {k : Nat} (hk : k + 1 < FR.length) : logE S (FR.set (k + 1) (FR[k]'(by omega))) FL = 6 := by
  refine spoil_r h ?_
  rintro ⟨⟨_, _, h3⟩, _⟩
  have h4 := rises_lt16 h3 (k := k) (by rw [List.length_set]; exact hk)
  rw [List.getElem_set_self, List.getElem_set_ne (by omega)] at h4
  omega
theorem spoil_3 {S : ByteArray} {FR : List Int} {FL : List (List Sp)} (h : FitLog S FR FL) (hk : 0 < FR.length) : logE S (FR.set 0 (-1)) FL = 6 := by
  refine spoil_r h ?_
  rintro ⟨⟨_, _, h3⟩, _⟩
  obtain ⟨h4, _⟩ := rises_at h3 0 (by rw [List.length_set]; exact hk)
  rw [List.getElem_set_self] at h4
  omega
end Go.Proofs.YtejgkhmpmnjgaaaDoor
