/- What is put, counted span by span: mathematics. -/
import Derived.Test.YtmhkglkpkpkpoaaDoorNu
import Derived.Test.YtmhkglkpkpkpoaaDoorG9
namespace Go.Proofs.YtmhkglkpkpkpoaaDoor
set_option maxRecDepth 100000
theorem insT_text11 (us : List Nat) : insT (us.map Tok.ins) = us := by
  induction us with
  | nil => rfl
  | cons u us ih => rw [List.map_cons]; show u :: insT _ = _; rw [ih]
theorem insT_keeps11 (n : Nat) : insT (List.replicate n Tok.keep) = [] := by
  induction n with
  | zero => rfl
  | succ n ih => rw [List.replicate_succ]; exact ih
theorem insT_dels11 (n : Nat) : insT (List.replicate n Tok.del) = [] := by
  induction n with
  | zero => rfl
  | succ n ih => rw [List.replicate_succ]; exact ih
theorem insT_take_le (X : List Sp) (j : Nat) : (insT (tok (X.take j))).length ≤ (insT (tok X)).length := by
  have h := List.take_append_drop j X
  have h2 : insT (tok X) = insT (tok (X.take j)) ++ insT (tok (X.drop j)) := by rw [← insT_append, ← tok_append, h]
  rw [h2, List.length_append]; omega
theorem insT_small {X : List Sp} (gX : Good X) : (insT (tok X)).length ≤ 100000 := by
  have h1 := insT_sum X gX.ok
  have h2 := length_le_encs (insT (tok X))
  have h3 := gX.txt
  omega
/-- One span more. -/
theorem put_at {X : List Sp} (gX : Good X) {j : Nat} (hj : j < X.length) : ∃ a1 a2 a3, X[j] = (a1, a2, a3) ∧ a3.size ≤ 1000000000 ∧
    ((a1 = 2 ∧ ∃ us, dec (bs a3) = some us ∧ (insT (tok (X.take (j + 1)))).length = (insT (tok (X.take j))).length + us.length) ∨ (a1 ≠ 2 ∧ (insT (tok (X.take (j + 1)))).length = (insT (tok (X.take j))).length)) := by
  have hst := tok_take X j hj
  have hmn : (insT (tok (X.take (j + 1)))).length = (insT (tok (X.take j))).length + (insT (tokS X[j])).length := by rw [hst, insT_append, List.length_append]
  have ok := gX.ok _ (List.getElem_mem hj)
  have ht := gX.size _ (List.getElem_mem hj)
  obtain ⟨sp, hsp⟩ : ∃ sp, X[j] = sp := ⟨_, rfl⟩
  rw [hsp] at hmn ok ht ⊢
  obtain ⟨a1, a2, a3⟩ := sp
  refine ⟨a1, a2, a3, rfl, ht, ?_⟩
  unfold OkW at ok
  simp only at ok
  rcases ok with ⟨k1, n1, us, hu⟩ | ⟨k1, n1, t1e⟩
  · subst k1
    rw [tokS_text _ _ hu, insT_text11] at hmn
    exact .inl ⟨rfl, us, hu, hmn⟩
  · have e0 : insT (tokS (a1, a2, a3)) = [] := by
      rw [tokS_num _ _ _ (by omega)]
      rcases k1 with k1 | k1
      · rw [if_neg (by omega)]; exact insT_keeps11 _
      · rw [if_pos k1]; exact insT_dels11 _
    rw [e0] at hmn
    exact .inr ⟨by omega, hmn⟩
theorem tok_mem {X : List Sp} {s : Sp} (h : s ∈ X) {t : Tok} (ht : t ∈ tokS s) : t ∈ tok X := by
  induction X with
  | nil => cases h
  | cons u r ih =>
    rw [tok_cons]
    rcases List.mem_cons.1 h with rfl | h
    · exact List.mem_append_left _ ht
    · exact List.mem_append_right _ (ih h)
theorem noDel_at {L : List Sp} (hok : ∀ s ∈ L, OkW s) (hN : isN L) (hd : Tok.del ∉ tok L) {s : Sp} (hs : s ∈ L) : s.1 ≠ 3 := by
  intro hk
  have h1 := hok s hs
  have h2 := tokS_pos s h1 (isN_ne L hN s hs)
  rcases tokS_kind s h1 with ⟨k, _⟩ | ⟨k, _⟩ | ⟨_, e⟩
  · omega
  · omega
  · refine hd (tok_mem hs ?_)
    rw [e]
    exact List.mem_replicate.2 ⟨by omega, rfl⟩
/-- Behind itself. -/
theorem over_self (x : List Tok) : Tok.del ∉ overT x x ∧ insT (overT x x) = insT x := ⟨over_noDel x x (leD_refl _), over_insT x x rfl⟩
end Go.Proofs.YtmhkglkpkpkpoaaDoor
