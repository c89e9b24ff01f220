/- Layer 5, NormalParts. -/
import Derived.Test.YthlhjjgmncbplaaL5b
import Derived.Test.YthlhjjgmncbplaaMm
import Derived.OpenShut
namespace Go.Proofs.Ythlhjjgmncbplaa
open Go.RowKit
set_option maxRecDepth 100000
set_option maxHeartbeats 1000000
/-- A span in two halves. -/
def cut1 (s : Sp) : Sp := (s.1, s.2.1 / 2, if s.1 = 2 then ⟨#[]⟩ else s.2.2)
def cut2 (s : Sp) : Sp := (s.1, s.2.1 - s.2.1 / 2, s.2.2)
theorem cut_norm (s : Sp) (h : mayS s.1 s.2.1 s.2.2 = 0) (r : List Sp) : normC (cut1 s) (normC (cut2 s) r) = normC s r := by
  obtain ⟨k, n, t⟩ := s
  rcases may_text h with ⟨k1, n1, _⟩ | ⟨k1, p1, p2, t1⟩
  · simp only at k1 n1
    subst k1; subst n1
    have e1 : cut1 (2, 0, t) = (2, 0, ⟨#[]⟩) := rfl
    have e2 : cut2 (2, 0, t) = (2, 0, t) := rfl
    rw [e1, e2, normC_emp _ _ ⟨rfl, rfl⟩]
  · simp only at k1 p1 p2 t1
    subst t1
    have hk : ¬ k = 2 := by omega
    have e1 : cut1 (k, n, ⟨#[]⟩) = (k, n / 2, ⟨#[]⟩) := by unfold cut1; simp only; rw [if_neg hk]
    have e2 : cut2 (k, n, ⟨#[]⟩) = (k, n - n / 2, ⟨#[]⟩) := rfl
    rw [e1, e2]
    by_cases h2 : n / 2 = 0
    · rw [h2, normC_emp (k, 0, ⟨#[]⟩) _ ⟨rfl, rfl⟩, Int.sub_zero]
    · have hs1 : ¬ emp (k, n / 2, (⟨#[]⟩ : ByteArray)) := fun h => h2 h.1
      have hs2 : ¬ emp (k, n - n / 2, (⟨#[]⟩ : ByteArray)) := fun h => by have := h.1; simp only at this; omega
      rw [← normC_two _ _ r hs1 hs2 rfl (by simp only; omega) (by simp only; omega)]
      unfold mrg
      simp only
      rw [ba_nil, show n / 2 + (n - n / 2) = n by omega]
/-- An operation with an empty span put in, and the one behind it cut. -/
def oddL (all : List Sp) (k : Nat) (c : Int) : List Sp := (all.take k ++ [(c, 0, ⟨#[]⟩)]) ++ if h : k < all.length then [cut1 all[k], cut2 all[k]] ++ all.drop (k + 1) else []
theorem odd_norm (all : List Sp) (k : Nat) (c : Int) (h : ∀ s ∈ all, mayS s.1 s.2.1 s.2.2 = 0) : normL (oddL all k c) = normL all := by
  have e : normL all = (all.take k).foldr normC (normL (all.drop k)) := by rw [← norm_append, List.take_append_drop]
  unfold oddL
  rw [e, List.append_assoc, norm_append]
  congr 1
  show normC (c, 0, ⟨#[]⟩) (normL _) = _
  rw [normC_emp _ _ ⟨rfl, rfl⟩]
  by_cases hl : k < all.length
  · rw [dif_pos hl, List.drop_eq_getElem_cons hl]
    show normC (cut1 all[k]) (normC (cut2 all[k]) (normL (all.drop (k + 1)))) = normC all[k] (normL (all.drop (k + 1)))
    exact cut_norm _ (h _ (List.getElem_mem hl)) _
  · rw [dif_neg hl, List.drop_of_length_le (by omega)]
    rfl
theorem cut_sum (s : Sp) (h : mayS s.1 s.2.1 s.2.2 = 0) : 0 ≤ (cut1 s).2.1 ∧ 0 ≤ (cut2 s).2.1 ∧ (cut1 s).2.1 + (cut2 s).2.1 = s.2.1 ∧ (cut1 s).2.2.size + (cut2 s).2.2.size = s.2.2.size := by
  have hp := may_pos s h
  have ht := may_text h
  unfold cut1 cut2
  refine ⟨by simp only; omega, by simp only; omega, by simp only; omega, ?_⟩
  simp only
  have e0 : (⟨#[]⟩ : ByteArray).size = 0 := rfl
  split
  · rw [e0]; omega
  · rcases ht with ⟨k1, _⟩ | ⟨_, _, _, t1⟩
    · omega
    · rw [t1, e0]
theorem odd_ok (all : List Sp) (k : Nat) (c : Int) (h : ∀ s ∈ all, mayS s.1 s.2.1 s.2.2 = 0) (ho : Ok all) : Ok (oddL all k c) := by
  have e0 : (⟨#[]⟩ : ByteArray).size = 0 := rfl
  have s1 : sumN all = sumN (all.take k) + sumN (all.drop k) := by rw [← sumN_append, List.take_append_drop]
  have s2 : sumT all = sumT (all.take k) + sumT (all.drop k) := by rw [← sumT_append, List.take_append_drop]
  have hn := ho.n; have ht := ho.t
  have n1 : sumN [(c, (0 : Int), (⟨#[]⟩ : ByteArray))] = 0 := rfl
  have t1 : sumT [(c, (0 : Int), (⟨#[]⟩ : ByteArray))] = 0 := rfl
  by_cases hl : k < all.length
  · obtain ⟨c1, c2, c3, c4⟩ := cut_sum all[k] (h _ (List.getElem_mem hl))
    have d1 : sumN (all.drop k) = all[k].2.1 + sumN (all.drop (k + 1)) := by rw [List.drop_eq_getElem_cons hl]; rfl
    have d2 : sumT (all.drop k) = all[k].2.2.size + sumT (all.drop (k + 1)) := by rw [List.drop_eq_getElem_cons hl]; rfl
    have f1 : sumN [cut1 all[k], cut2 all[k]] = (cut1 all[k]).2.1 + ((cut2 all[k]).2.1 + 0) := rfl
    have f2 : sumT [cut1 all[k], cut2 all[k]] = (cut1 all[k]).2.2.size + ((cut2 all[k]).2.2.size + 0) := rfl
    unfold oddL
    rw [dif_pos hl]
    refine ⟨?_, ?_, ?_⟩
    · intro s hs
      rcases List.mem_append.1 hs with hs | hs
      · rcases List.mem_append.1 hs with hs | hs
        · exact ho.pos s (List.mem_of_mem_take hs)
        · rw [List.mem_singleton] at hs; subst hs; exact Int.le_refl _
      · rcases List.mem_append.1 hs with hs | hs
        · simp only [List.mem_cons, List.not_mem_nil, or_false] at hs
          rcases hs with rfl | rfl
          · exact c1
          · exact c2
        · exact ho.pos s (List.mem_of_mem_drop hs)
    · rw [sumN_append, sumN_append, sumN_append, n1, f1]; omega
    · rw [sumT_append, sumT_append, sumT_append, t1, f2]; omega
  · unfold oddL
    rw [dif_neg hl, List.append_nil]
    refine ⟨?_, ?_, ?_⟩
    · intro s hs
      rcases List.mem_append.1 hs with hs | hs
      · exact ho.pos s (List.mem_of_mem_take hs)
      · rw [List.mem_singleton] at hs; subst hs; exact Int.le_refl _
    · have := sumN_pos (all.drop k) (fun s hs => ho.pos s (List.mem_of_mem_drop hs))
      rw [sumN_append, n1]; omega
    · rw [sumT_append, t1]; omega
theorem ok_append (a b : List Sp) (ha : Ok a) (hb : Ok b) (h1 : sumN a + sumN b ≤ 1000000000) (h2 : sumT a + sumT b ≤ 1000000000) : Ok (a ++ b) :=
  ⟨fun s hs => (List.mem_append.1 hs).elim (ha.pos s) (hb.pos s), by rw [sumN_append]; exact h1, by rw [sumT_append]; exact h2⟩
/-- The beginning of a slice of spans. -/
theorem rd_take {w : World} {A : Option Addr} {n c : Nat} {l : List Sp} (h : Rd w 3 (.slice A n c) n (spCells l)) (hl : l.length = n) {k : Nat} (hk : k ≤ n) : Rd w 3 (.slice A k c) k (spCells (l.take k)) := by
  obtain ⟨h1, A', c', hv, hc, h2⟩ := h
  injection hv with e1 _ e2
  subst e1; subst e2
  have hsp : spCells l = spCells (l.take k) ++ spCells (l.drop k) := by rw [← spCells_append, List.take_append_drop]
  refine ⟨by rw [spCells_length, List.length_take]; omega, A, c, rfl, by omega, fun h0 => ?_⟩
  obtain ⟨b, off, hA, hb, hcell⟩ := h2 (by omega)
  refine ⟨b, off, hA, hb, fun j u hu => hcell j u ?_⟩
  rw [hsp, List.getElem?_append_left (List.getElem?_eq_some_iff.1 hu).1]
  exact hu
/-- The end of a slice of spans. -/
theorem rd_drop {w : World} {b off n c : Nat} {l : List Sp} (h : Rd w 3 (.slice (some ⟨b, off, none⟩) n c) n (spCells l)) (hl : l.length = n) {k : Nat} (hk : k ≤ n) : Rd w 3 (.slice (some ⟨b, off + k * 3, none⟩) (n - k) (c - k)) (n - k) (spCells (l.drop k)) := by
  obtain ⟨h1, A', c', hv, hc, h2⟩ := h
  injection hv with e1 _ e2
  subst e1; subst e2
  have hsp : spCells l = spCells (l.take k) ++ spCells (l.drop k) := by rw [← spCells_append, List.take_append_drop]
  have htl : (spCells (l.take k)).length = k * 3 := by rw [spCells_length, List.length_take, Nat.min_eq_left (by omega)]
  refine ⟨by rw [spCells_length, List.length_drop]; omega, _, _, rfl, by omega, fun h0 => ?_⟩
  obtain ⟨b', off', hA, hb, hcell⟩ := h2 (by omega)
  injection hA with hA
  injection hA with e1 e2
  subst e1; subst e2
  refine ⟨b, off + k * 3, rfl, hb, fun j u hu => ?_⟩
  rw [Nat.add_assoc]
  refine hcell (k * 3 + j) u ?_
  rw [hsp, List.getElem?_append_right (by omega), htl, Nat.add_sub_cancel_left]
  exact hu
/-- As the walk writes it: at the very end of the room the address is not moved. -/
theorem rd_drop' {w : World} {b off n c : Nat} {l : List Sp} (h : Rd w 3 (.slice (some ⟨b, off, none⟩) n c) n (spCells l)) (hl : l.length = n) {k : Nat} (hk : k ≤ n) (hc : n ≤ c) :
    Rd w 3 (.slice (if c = k then some ⟨b, off, none⟩ else some ⟨b, off + k * 3, none⟩) (n - k) (c - k)) (n - k) (spCells (l.drop k)) := by
  split
  · rename_i e
    have e0 : n - k = 0 := by omega
    have e1 : l.drop k = [] := List.drop_of_length_le (by omega)
    rw [e0, e1]
    exact ⟨by simp [spCells], _, _, rfl, by omega, fun h => absurd h (Nat.lt_irrefl 0)⟩
  · exact rd_drop h hl hk
end Go.Proofs.Ythlhjjgmncbplaa
