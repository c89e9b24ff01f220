/- Layer 6, GapsOne. -/
import Derived.Test.YtelepadnbgcbnaaDoorL6b
import Derived.Test.YtelepadnbgcbnaaDoorC1h
namespace Go.Proofs.YtelepadnbgcbnaaDoor
open Go.RowKit
set_option maxRecDepth 100000
set_option maxHeartbeats 4000000
theorem gpP_rep1 (t : Tok) (ht : t = .keep ∨ t = .del) (k : Nat) : gpP (List.replicate k t) = List.replicate (k + 1) [] := by
  induction k with
  | zero => rfl
  | succ k ih => rw [List.replicate_succ, List.replicate_succ (n := k + 1), ← ih]; rcases ht with rfl | rfl <;> rfl
theorem one_gaps (a d r : Nat) (cs : List Nat) :
    gpP (List.replicate a Tok.keep ++ (cs.map Tok.ins ++ (List.replicate d Tok.del ++ List.replicate r Tok.keep))) = List.replicate a [] ++ cs :: List.replicate (d + r) [] ∧
    gpD (List.replicate a Tok.keep ++ (cs.map Tok.ins ++ (List.replicate d Tok.del ++ List.replicate r Tok.keep))) = List.replicate a false ++ (List.replicate d true ++ List.replicate r false) := by
  constructor
  · have h0 : gpP (List.replicate d Tok.del ++ List.replicate r Tok.keep) = [] :: List.replicate (d + r) [] := by
      rw [gpP_append _ _ (List.replicate d []) [] [] (List.replicate r []) (by rw [gpP_rep1 _ (.inr rfl), List.replicate_succ']) (by rw [gpP_rep1 _ (.inl rfl), List.replicate_succ])]
      rw [List.append_nil, ← List.replicate_succ, List.replicate_append_replicate, ← List.replicate_succ]
      congr 1
    have h1 := gpP_append (cs.map Tok.ins) _ [] cs [] (List.replicate (d + r) []) (gpP_ins cs) h0
    rw [List.append_nil, List.nil_append] at h1
    rw [gpP_append _ _ (List.replicate a []) [] cs (List.replicate (d + r) []) (by rw [gpP_rep1 _ (.inl rfl), List.replicate_succ']) h1, List.nil_append]
  · rw [gpD_append, gpD_append, gpD_append, gpD_ins, gpD_rep _ (.inl rfl), gpD_rep _ (.inr rfl), gpD_rep _ (.inl rfl)]
    rfl
/-- One text that is put, and some code points dropped behind it. -/
def oneL (a d r : Nat) (U : ByteArray) : List Sp := [(1, (a : Int), ⟨#[]⟩), (2, 0, U), (3, (d : Int), ⟨#[]⟩), (1, (r : Int), ⟨#[]⟩)]
theorem one_all (a d r : Nat) (cs : List Nat) (hc : ∀ c ∈ cs, IsCp c) (hs : a + d + r ≤ 63) (hl : (encs cs).length ≤ 1000) :
    gapsE (oneL a d r (mkS (encs cs))) = 0 ∧ inL (oneL a d r (mkS (encs cs))) = ((a + d + r : Nat) : Int) ∧ (∀ s ∈ oneL a d r (mkS (encs cs)), s.2.2.size ≤ 1000000000) ∧ sumT (oneL a d r (mkS (encs cs))) ≤ 1000000000 ∧
    putC (gpP (tok (oneL a d r (mkS (encs cs))))) = List.replicate a ⟨#[]⟩ ++ mkS (encs cs) :: List.replicate (d + r) ⟨#[]⟩ ∧ gpD (tok (oneL a d r (mkS (encs cs)))) = List.replicate a false ++ (List.replicate d true ++ List.replicate r false) := by
  have e0 : (⟨#[]⟩ : ByteArray).size = 0 := rfl
  have hd : dec (bs (mkS (encs cs))) = some cs := by rw [bs_mkS, dec_encs hc]
  have hm : ∀ s ∈ oneL a d r (mkS (encs cs)), mayS s.1 s.2.1 s.2.2 = 0 := by
    intro s hs
    simp only [oneL, List.mem_cons, List.not_mem_nil, or_false] at hs
    rcases hs with rfl | rfl | rfl | rfl
    · unfold mayS; rw [if_pos (by simp), if_neg (by simp only; omega)]; rfl
    · unfold mayS; rw [if_neg (by simp), if_pos rfl, if_pos rfl, hd]; rfl
    · unfold mayS; rw [if_pos (by simp), if_neg (by simp only; omega)]; rfl
    · unfold mayS; rw [if_pos (by simp), if_neg (by simp only; omega)]; rfl
  have hi : inL (oneL a d r (mkS (encs cs))) = ((a + d + r : Nat) : Int) := by
    unfold oneL
    rw [inL_cons, inL_cons, inL_cons, inL_cons]
    show (a : Int) + (0 + ((d : Int) + ((r : Int) + 0))) = _
    omega
  have htk : tok (oneL a d r (mkS (encs cs))) = List.replicate a Tok.keep ++ (cs.map Tok.ins ++ (List.replicate d Tok.del ++ List.replicate r Tok.keep)) := by
    unfold oneL
    rw [tok_cons, tok_cons, tok_cons, tok_cons, tok_nil, tokS_num _ _ _ (by decide), tokS_text _ _ hd, tokS_num _ _ _ (by decide), tokS_num _ _ _ (by decide)]
    simp
  obtain ⟨g1, g2⟩ := one_gaps a d r cs
  refine ⟨?_, hi, ?_, ?_, ?_, ?_⟩
  · unfold gapsE
    rw [if_pos (mayL_ok _ hm (by rw [hi]; omega) (by rw [hi]; omega)), hi, if_neg (by omega)]
  · intro s hs
    simp only [oneL, List.mem_cons, List.not_mem_nil, or_false] at hs
    rcases hs with rfl | rfl | rfl | rfl
    · simp only [e0]; omega
    · simp only [size_mkS]; omega
    · simp only [e0]; omega
    · simp only [e0]; omega
  · show 0 + ((mkS (encs cs)).size + (0 + (0 + 0))) ≤ _
    rw [size_mkS]; omega
  · rw [htk, g1, putC_append]
    simp only [putC, List.map_replicate, List.map_cons]
    rfl
  · rw [htk, g2]
theorem one_put (a m : Nat) (U : ByteArray) (j : Nat) (h : j ≤ a + m) : (List.replicate a (⟨#[]⟩ : ByteArray) ++ U :: List.replicate m ⟨#[]⟩)[j]? = some (if j = a then U else ⟨#[]⟩) := by
  rcases (by omega : j < a ∨ j = a ∨ a < j) with h1 | h1 | h1
  · rw [List.getElem?_append_left (by rw [List.length_replicate]; exact h1), if_neg (by omega), List.getElem?_replicate, if_pos h1]
  · subst h1
    rw [if_pos rfl]
    exact get_mid _ _ _ _ List.length_replicate
  · rw [List.getElem?_append_right (by rw [List.length_replicate]; omega), if_neg (by omega), List.length_replicate]
    obtain ⟨x, hx⟩ : ∃ x, j - a = x + 1 := ⟨j - a - 1, by omega⟩
    rw [hx, List.getElem?_cons_succ, List.getElem?_replicate, if_pos (by omega)]
theorem one_gone (a d r : Nat) (j : Nat) (h : j < a + d + r) : (List.replicate a false ++ (List.replicate d true ++ List.replicate r false))[j]? = some (decide (a ≤ j ∧ j < a + d)) := by
  rcases (by omega : j < a ∨ (a ≤ j ∧ j < a + d) ∨ (a + d ≤ j)) with h1 | ⟨h1, h2⟩ | h1
  · rw [List.getElem?_append_left (by rw [List.length_replicate]; exact h1), decide_eq_false (by omega), List.getElem?_replicate, if_pos h1]
  · rw [List.getElem?_append_right (by rw [List.length_replicate]; exact h1), List.length_replicate, List.getElem?_append_left (by rw [List.length_replicate]; omega), decide_eq_true ⟨h1, h2⟩, List.getElem?_replicate, if_pos (by omega)]
  · rw [List.getElem?_append_right (by rw [List.length_replicate]; omega), List.length_replicate, List.getElem?_append_right (by rw [List.length_replicate]; omega), decide_eq_false (by omega), List.length_replicate, List.getElem?_replicate, if_pos (by omega)]
end Go.Proofs.YtelepadnbgcbnaaDoor
