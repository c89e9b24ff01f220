/- Chains of operations: mathematics. -/
import Derived.Test.YtapkfmcbphljcaaDoorM7
namespace Go.Proofs.YtapkfmcbphljcaaDoor
set_option maxRecDepth 100000
theorem tout_le (ts : List Tok) : tout ts ≤ tin ts + (encs (insT ts)).length := by
  induction ts with
  | nil => exact Nat.zero_le _
  | cons t ts ih =>
    cases t with
    | ins c =>
      have e : insT (Tok.ins c :: ts) = c :: insT ts := rfl
      have := wid_pos c
      rw [tout_cins, tin_ins, e, encs_cons, List.length_append, enc1_length]; omega
    | keep =>
      have e : insT (Tok.keep :: ts) = insT ts := rfl
      rw [tout_keep, tin_keep, e]; omega
    | del =>
      have e : insT (Tok.del :: ts) = insT ts := rfl
      rw [tout_del, tin_del, e]; omega
theorem outL_le (l : List Sp) (h : ∀ s ∈ l, OkW s) : 0 ≤ outL l ∧ outL l ≤ inL l + sumT l := by
  obtain ⟨h1, h2⟩ := tin_ok l h
  have h3 := tout_le (tok l)
  have h4 := insT_sum l h
  omega
/-- Operations that fit each other, as Chain makes them. -/
def chainL : List (List Sp) → Int → List (List Sp)
  | [], _ => []
  | l :: r, n => fitL l n :: chainL r (outL (fitL l n))
/-- How many code points the last one gives. -/
def endL : List (List Sp) → Int → Int
  | [], n => n
  | l :: r, n => endL r (outL (fitL l n))
theorem chainL_len (ls : List (List Sp)) (n : Int) : (chainL ls n).length = ls.length := by
  induction ls generalizing n with
  | nil => rfl
  | cons l r ih => rw [chainL, List.length_cons, ih, List.length_cons]
theorem chainL_snoc (ls : List (List Sp)) (l : List Sp) (n : Int) : chainL (ls ++ [l]) n = chainL ls n ++ [fitL l (endL ls n)] := by
  induction ls generalizing n with
  | nil => rfl
  | cons k r ih => rw [List.cons_append, chainL, chainL, ih]; rfl
theorem endL_snoc (ls : List (List Sp)) (l : List Sp) (n : Int) : endL (ls ++ [l]) n = outL (fitL l (endL ls n)) := by
  induction ls generalizing n with
  | nil => rfl
  | cons k r ih => rw [List.cons_append, endL, ih]; rfl
theorem fit_sumT (l : List Sp) (n : Int) : sumT (fitL l n) ≤ 312 := by
  have h1 : ∀ (k : List Sp), (∀ s ∈ k, s.2.2.size ≤ 24) → sumT k ≤ k.length * 24 := by
    intro k
    induction k with
    | nil => intro _; exact Nat.zero_le _
    | cons a t ih =>
      intro h
      have h2 := h a (List.mem_cons_self ..)
      have h3 := ih fun s hs => h s (List.mem_cons_of_mem _ hs)
      have e : sumT (a :: t) = a.2.2.size + sumT t := rfl
      rw [e, List.length_cons, Nat.add_mul]; omega
  have h2 := h1 (fitL l n) (fitL_text l n)
  have h3 := fitL_len l n
  omega
theorem fit_out (l : List Sp) (n : Int) (h0 : 0 ≤ n) (h1 : n ≤ 1048576) : 0 ≤ outL (fitL l n) ∧ outL (fitL l n) ≤ n + 312 := by
  obtain ⟨hm, hi⟩ := fitL_all l n h0 h1
  have h2 := outL_le (fitL l n) fun s hs => okW_of_may (hm s hs)
  have h3 := fit_sumT l n
  omega
theorem endL_le (ls : List (List Sp)) (n : Int) (h0 : 0 ≤ n) (h1 : n + 312 * ls.length ≤ 1048576) : 0 ≤ endL ls n ∧ endL ls n ≤ n + 312 * ls.length := by
  induction ls generalizing n with
  | nil => exact ⟨h0, by simp [endL]⟩
  | cons l r ih =>
    rw [List.length_cons] at h1 ⊢
    obtain ⟨g0, g1⟩ := fit_out l n h0 (by omega)
    obtain ⟨i0, i1⟩ := ih (outL (fitL l n)) g0 (by omega)
    exact ⟨i0, by show endL r (outL (fitL l n)) ≤ _; omega⟩
theorem chainL_mem (ls : List (List Sp)) (n : Int) : ∀ x ∈ chainL ls n, ∃ l m, x = fitL l m := by
  induction ls generalizing n with
  | nil => intro x hx; cases hx
  | cons l r ih =>
    intro x hx
    rcases List.mem_cons.1 hx with rfl | hx
    · exact ⟨l, n, rfl⟩
    · exact ih _ x hx
end Go.Proofs.YtapkfmcbphljcaaDoor
