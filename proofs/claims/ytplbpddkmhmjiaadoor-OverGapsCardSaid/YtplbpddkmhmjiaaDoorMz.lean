/- Gap by gap, and code point by code point, what one operation is behind another one: mathematics. -/
import Derived.Test.YtplbpddkmhmjiaaDoorMu
namespace Go.Proofs.YtplbpddkmhmjiaaDoor
set_option maxRecDepth 100000
set_option linter.unusedSimpArgs false
def ovS (s : List Tok) (P : List (List Nat)) (k n : Nat) : List Nat := (List.range n).flatMap fun i => if whereT s i = k then P.getD i [] else []
theorem ovS_succ (s : List Tok) (P : List (List Nat)) (k n : Nat) : ovS s P k (n + 1) = ovS s P k n ++ if whereT s n = k then P.getD n [] else [] := by
  unfold ovS; rw [List.range_succ, List.flatMap_append]; simp
theorem ovS_head (s : List Tok) (P : List (List Nat)) (k n : Nat) : ovS s P k (n + 1) = (if whereT s 0 = k then P.getD 0 [] else []) ++ (List.range n).flatMap fun i => if whereT s (i + 1) = k then P.getD (i + 1) [] else [] := by
  unfold ovS; rw [List.range_succ_eq_map, List.flatMap_cons, List.flatMap_map]
theorem ovS_none (s : List Tok) (P : List (List Nat)) (k n : Nat) (h : ∀ i, (if whereT s i = k then P.getD i [] else []) = ([] : List Nat)) : ovS s P k n = [] := by
  unfold ovS
  rw [show (fun i => if whereT s i = k then P.getD i [] else []) = fun _ => ([] : List Nat) from funext h]
  simp
theorem ovS_tail (s s' : List Tok) (P P' : List (List Nat)) (k k' n : Nat) (h0 : (if whereT s 0 = k then P.getD 0 [] else []) = ([] : List Nat)) (h : ∀ i, (if whereT s (i + 1) = k then P.getD (i + 1) [] else []) = if whereT s' i = k' then P'.getD i [] else []) : ovS s P k (n + 1) = ovS s' P' k' n := by
  rw [ovS_head, h0, List.nil_append]
  unfold ovS
  rw [funext h]
theorem ovS_same (s s' : List Tok) (P P' : List (List Nat)) (k k' n : Nat) (h : ∀ i, (if whereT s i = k then P.getD i [] else []) = if whereT s' i = k' then P'.getD i [] else []) : ovS s P k n = ovS s' P' k' n := by
  unfold ovS
  rw [funext h]
theorem consHead_at (c : Nat) (l : List (List Nat)) (h : l ≠ []) (j : Nat) : (consHead c l).getD j [] = (if j = 0 then [c] else []) ++ l.getD j [] := by
  rcases l with _ | ⟨x, l⟩
  · exact absurd rfl h
  · cases j <;> simp [consHead]
theorem where_zero (s : List Tok) (h : noIns s) : whereT s 0 = 0 := by
  rcases s with _ | ⟨_ | _ | _, s⟩
  · rw [whereT]
  · exact absurd h (by simp [noIns])
  · rw [whereT]
  · rw [whereT]
theorem ovS_ins (s : List Tok) (hs : noIns s) (c : Nat) (P : List (List Nat)) (hP : P ≠ []) (k n : Nat) : ovS s (consHead c P) k (n + 1) = (if k = 0 then [c] else []) ++ ovS s P k (n + 1) := by
  rw [ovS_head, ovS_head, where_zero s hs, consHead_at c P hP, if_pos rfl]
  rw [show (fun i => if whereT s (i + 1) = k then (consHead c P).getD (i + 1) [] else []) = fun i => if whereT s (i + 1) = k then P.getD (i + 1) [] else [] from funext fun i => by rw [consHead_at c P hP, if_neg (Nat.succ_ne_zero i), List.nil_append]]
  by_cases h : k = 0
  · subst h; simp
  · rw [if_neg (fun e => h e.symm), if_neg h, if_neg (fun e => h e.symm)]; rfl
theorem tinI (c : Nat) (a : List Tok) : tin (.ins c :: a) = tin a := by simp [tin]
theorem tinK (a : List Tok) : tin (.keep :: a) = tin a + 1 := by simp [tin]
theorem tinD (a : List Tok) : tin (.del :: a) = tin a + 1 := by simp [tin]
theorem toutI (c : Nat) (a : List Tok) : tout (.ins c :: a) = tout a + 1 := by simp [tout]
theorem toutK (a : List Tok) : tout (.keep :: a) = tout a + 1 := by simp [tout]
theorem toutD (a : List Tok) : tout (.del :: a) = tout a := by simp [tout]
theorem over_ins1 (c : Nat) (a s : List Tok) (hs : noIns s) : overT (.ins c :: a) s = .ins c :: overT a s := over_putT [c] a s hs
theorem gap_keep (s : List Tok) (P : List (List Nat)) (k n : Nat) : ovS (.keep :: s) ([] :: P) k (n + 1) = if k = 0 then [] else ovS s P (k - 1) n := by
  cases k with
  | zero =>
    rw [if_pos rfl]
    refine ovS_none _ _ _ _ fun i => ?_
    cases i with
    | zero => simp
    | succ i => rw [whereT, if_neg (by omega)]
  | succ k =>
    rw [if_neg (by omega), Nat.add_sub_cancel]
    refine ovS_tail _ _ _ _ _ _ _ (by simp) fun i => ?_
    rw [whereT, List.getD_cons_succ]
    by_cases h : whereT s i = k
    · rw [if_pos h, if_pos (by omega)]
    · rw [if_neg h, if_neg (by omega)]
theorem gap_del (s : List Tok) (P : List (List Nat)) (k n : Nat) : ovS (.del :: s) ([] :: P) k (n + 1) = ovS s P k n := by
  refine ovS_tail _ _ _ _ _ _ _ (by simp) fun i => ?_
  rw [whereT, List.getD_cons_succ]
theorem gap_over (a s : List Tok) (h : tin a = tin s) (k : Nat) : (gpP (overT a s)).getD k [] = ovS s (gpP a) k (tin s + 1) := by
  induction hn : a.length + s.length using Nat.strongRecOn generalizing a s k with
  | ind n ih =>
    have hins : ∀ c a', a = .ins c :: a' → noIns s → (gpP (overT a s)).getD k [] = ovS s (gpP a) k (tin s + 1) := by
      rintro c a' rfl hs
      rw [tinI] at h
      have e := ih _ (by simp at hn ⊢; omega) a' s h k rfl
      rw [over_ins1 c a' s hs, gpP, gpP, consHead_at _ _ (gpP_ne _), ovS_ins s hs c _ (gpP_ne _), e]
    rcases s with _ | ⟨d | _ | _, s⟩
    · rcases a with _ | ⟨c | _ | _, a⟩
      · rw [over_nil]
        cases k <;> simp [ovS, gpP, whereT, tin]
      · exact hins c a rfl trivial
      · rw [tinK] at h; simp [tin] at h
      · rw [tinD] at h; simp [tin] at h
    · rw [tinI] at h
      rw [overT_ins, tinI, gpP]
      cases k with
      | zero =>
        rw [List.getD_cons_zero]
        exact (ovS_none _ _ _ _ fun i => by rw [whereT, if_neg (by omega)]).symm
      | succ k =>
        rw [List.getD_cons_succ, ih _ (by simp at hn ⊢; omega) a s h k rfl]
        refine ovS_same _ _ _ _ _ _ _ fun i => ?_
        rw [whereT]
        by_cases e : whereT s i = k
        · rw [if_pos e, if_pos (by omega)]
        · rw [if_neg e, if_neg (by omega)]
    · rw [tinK] at h
      rcases a with _ | ⟨c | _ | _, a⟩
      · simp [tin] at h
      · rw [← tinK] at h; exact hins c a rfl trivial
      · rw [tinK] at h
        rw [overT, gpP, gpP, tinK, gap_keep]
        cases k with
        | zero => rfl
        | succ k => rw [List.getD_cons_succ, if_neg (by omega), Nat.add_sub_cancel]; exact ih _ (by simp at hn ⊢; omega) a s (by omega) k rfl
      · rw [tinD] at h
        rw [overT, gpP, gpP, tinK, gap_keep]
        cases k with
        | zero => rfl
        | succ k => rw [List.getD_cons_succ, if_neg (by omega), Nat.add_sub_cancel]; exact ih _ (by simp at hn ⊢; omega) a s (by omega) k rfl
    · rw [tinD] at h
      rcases a with _ | ⟨c | _ | _, a⟩
      · simp [tin] at h
      · rw [← tinD] at h; exact hins c a rfl trivial
      · rw [tinK] at h
        rw [overT, gpP, tinD, gap_del]
        exact ih _ (by simp at hn ⊢; omega) a s (by omega) k rfl
      · rw [tinD] at h
        rw [overT, gpP, tinD, gap_del]
        exact ih _ (by simp at hn ⊢; omega) a s (by omega) k rfl
/-- What is dropped. -/
def ovD (s : List Tok) (E D : List Bool) (k n : Nat) : Bool := (List.range n).any fun i => !(E.getD i true) && (whereT s i == k) && D.getD i true
theorem ovD_succ (s : List Tok) (E D : List Bool) (k n : Nat) : ovD s E D k (n + 1) = (ovD s E D k n || (!(E.getD n true) && (whereT s n == k) && D.getD n true)) := by
  unfold ovD; rw [List.range_succ, List.any_append]; simp
theorem ovD_head (s : List Tok) (E D : List Bool) (k n : Nat) : ovD s E D k (n + 1) = ((!(E.getD 0 true) && (whereT s 0 == k) && D.getD 0 true) || (List.range n).any fun i => !(E.getD (i + 1) true) && (whereT s (i + 1) == k) && D.getD (i + 1) true) := by
  unfold ovD; rw [List.range_succ_eq_map, List.any_cons, List.any_map]; rfl
theorem any_same {n : Nat} {f g : Nat → Bool} (h : ∀ i, f i = g i) : (List.range n).any f = (List.range n).any g := by rw [funext h]
theorem any_none {n : Nat} {f : Nat → Bool} (h : ∀ i, f i = false) : (List.range n).any f = false := by
  rw [show f = fun _ => false from funext h]; simp
theorem gone_keep (s : List Tok) (E D : List Bool) (d : Bool) (k n : Nat) : ovD (.keep :: s) (false :: E) (d :: D) k (n + 1) = if k = 0 then d else ovD s E D (k - 1) n := by
  rw [ovD_head]
  cases k with
  | zero =>
    rw [if_pos rfl, any_none fun i => by rw [whereT]; simp]
    simp [whereT]
  | succ k =>
    rw [if_neg (by omega), Nat.add_sub_cancel]
    rw [show (whereT (.keep :: s) 0 == k + 1) = false by rw [whereT, beq_eq_false_iff_ne]; omega]
    simp only [Bool.and_false, Bool.false_and, Bool.false_or]
    refine any_same fun i => ?_
    rw [whereT, List.getD_cons_succ, List.getD_cons_succ]
    congr 2
    by_cases h : whereT s i = k
    · rw [h, beq_self_eq_true, beq_self_eq_true]
    · rw [beq_eq_false_iff_ne.2 h, beq_eq_false_iff_ne]; omega
theorem gone_del (s : List Tok) (E D : List Bool) (d : Bool) (k n : Nat) : ovD (.del :: s) (true :: E) (d :: D) k (n + 1) = ovD s E D k n := by
  rw [ovD_head]
  simp only [List.getD_cons_zero, Bool.not_true, Bool.false_and, Bool.false_or]
  refine any_same fun i => ?_
  rw [whereT, List.getD_cons_succ, List.getD_cons_succ]
theorem gone_over (a s : List Tok) (h : tin a = tin s) (k : Nat) (hk : k < tout s) : (gpD (overT a s)).getD k true = ovD s (gpD s) (gpD a) k (tin s) := by
  induction hn : a.length + s.length using Nat.strongRecOn generalizing a s k with
  | ind n ih =>
    have hins : ∀ c a', a = .ins c :: a' → noIns s → (gpD (overT a s)).getD k true = ovD s (gpD s) (gpD a) k (tin s) := by
      rintro c a' rfl hs
      rw [tinI] at h
      have e := ih _ (by simp at hn ⊢; omega) a' s h k hk rfl
      rw [over_ins1 c a' s hs, gpD, gpD, e]
    rcases s with _ | ⟨d | _ | _, s⟩
    · simp [tout] at hk
    · rw [tinI] at h
      rw [toutI] at hk
      rw [overT_ins, tinI, gpD, gpD]
      cases k with
      | zero =>
        rw [List.getD_cons_zero]
        exact (any_none fun i => by rw [whereT]; simp).symm
      | succ k =>
        rw [List.getD_cons_succ, ih _ (by simp at hn ⊢; omega) a s h k (by omega) rfl]
        refine any_same fun i => ?_
        rw [whereT]
        congr 2
        by_cases h : whereT s i = k
        · rw [h, beq_self_eq_true, beq_self_eq_true]
        · rw [beq_eq_false_iff_ne.2 h]; symm; rw [beq_eq_false_iff_ne]; omega
    · rw [tinK] at h
      rcases a with _ | ⟨c | _ | _, a⟩
      · simp [tin] at h
      · rw [← tinK] at h; exact hins c a rfl trivial
      · rw [tinK] at h
        rw [toutK] at hk
        rw [overT, gpD, gpD, gpD, tinK, gone_keep]
        cases k with
        | zero => rfl
        | succ k => rw [List.getD_cons_succ, if_neg (by omega), Nat.add_sub_cancel]; exact ih _ (by simp at hn ⊢; omega) a s (by omega) k (by omega) rfl
      · rw [tinD] at h
        rw [toutK] at hk
        rw [overT, gpD, gpD, gpD, tinK, gone_keep]
        cases k with
        | zero => rfl
        | succ k => rw [List.getD_cons_succ, if_neg (by omega), Nat.add_sub_cancel]; exact ih _ (by simp at hn ⊢; omega) a s (by omega) k (by omega) rfl
    · rw [tinD] at h
      rw [toutD] at hk
      rcases a with _ | ⟨c | _ | _, a⟩
      · simp [tin] at h
      · rw [← tinD] at h; exact hins c a rfl trivial
      · rw [tinK] at h
        rw [overT, gpD, gpD, tinD, gone_del]
        exact ih _ (by simp at hn ⊢; omega) a s (by omega) k hk rfl
      · rw [tinD] at h
        rw [overT, gpD, gpD, tinD, gone_del]
        exact ih _ (by simp at hn ⊢; omega) a s (by omega) k hk rfl
/-- What is kept goes on. -/
theorem where_kept (s : List Tok) (g : Nat) (h : (gpD s).getD g true = false) : whereT s g + 1 ≤ whereT s (g + 1) := by
  induction s generalizing g with
  | nil => simp [gpD] at h
  | cons t s ih =>
    cases t with
    | ins c => rw [gpD] at h; have := ih g h; rw [whereT, whereT]; omega
    | keep =>
      cases g with
      | zero => rw [whereT, whereT]; omega
      | succ g => rw [gpD, List.getD_cons_succ] at h; have := ih g h; rw [whereT, whereT]; omega
    | del =>
      cases g with
      | zero => simp [gpD] at h
      | succ g => rw [gpD, List.getD_cons_succ] at h; have := ih g h; rw [whereT, whereT]; omega
theorem where_lt (s : List Tok) (i n : Nat) (hi : i < n) (h : (gpD s).getD i true = false) : whereT s i < whereT s n := by
  have h1 := where_kept s i h
  have h2 := whereT_mono s (i + 1) (n - (i + 1))
  rw [show i + 1 + (n - (i + 1)) = n by omega] at h2
  omega
/-- The loop's states. -/
def pS (s : List Tok) (P : List (List Nat)) (o n : Nat) : List (List Nat) := (List.range (o + 1)).map fun k => ovS s P k n
def dS (s : List Tok) (E D : List Bool) (o n : Nat) : List Bool := (List.range o).map fun k => ovD s E D k n
theorem pS_len (s : List Tok) (P : List (List Nat)) (o n : Nat) : (pS s P o n).length = o + 1 := by simp [pS]
theorem dS_len (s : List Tok) (E D : List Bool) (o n : Nat) : (dS s E D o n).length = o := by simp [dS]
theorem pS_at (s : List Tok) (P : List (List Nat)) (o n k : Nat) (hk : k ≤ o) : (pS s P o n).getD k [] = ovS s P k n := by
  have h : k < (pS s P o n).length := by rw [pS_len]; omega
  rw [List.getD_eq_getElem?_getD, List.getElem?_eq_getElem h, Option.getD_some]
  simp [pS]
theorem pS_zero (s : List Tok) (P : List (List Nat)) (o : Nat) : pS s P o 0 = List.replicate (o + 1) [] := by
  refine List.ext_getElem (by rw [pS_len, List.length_replicate]) fun k h1 h2 => ?_
  simp [pS, ovS]
theorem dS_zero (s : List Tok) (E D : List Bool) (o : Nat) : dS s E D o 0 = List.replicate o false := by
  refine List.ext_getElem (by rw [dS_len, List.length_replicate]) fun k h1 h2 => ?_
  simp [dS, ovD]
theorem pS_step (s : List Tok) (P : List (List Nat)) (o n : Nat) : (pS s P o n).set (whereT s n) (ovS s P (whereT s n) n ++ P.getD n []) = pS s P o (n + 1) := by
  refine List.ext_getElem (by rw [List.length_set, pS_len, pS_len]) fun k h1 h2 => ?_
  rw [List.getElem_set]
  have e1 : (pS s P o (n + 1))[k] = ovS s P k (n + 1) := by simp [pS]
  rw [e1, ovS_succ]
  by_cases e : whereT s n = k
  · rw [if_pos e, if_pos e, e]
  · rw [if_neg e, if_neg e, List.append_nil]; simp [pS]
theorem dS_kept (s : List Tok) (D : List Bool) (o n : Nat) (h : (gpD s).getD n true = false) : (dS s (gpD s) D o n).set (whereT s n) (D.getD n true) = dS s (gpD s) D o (n + 1) := by
  refine List.ext_getElem (by rw [List.length_set, dS_len, dS_len]) fun k h1 h2 => ?_
  rw [List.getElem_set]
  have e1 : (dS s (gpD s) D o (n + 1))[k] = ovD s (gpD s) D k (n + 1) := by simp [dS]
  rw [e1, ovD_succ, h]
  by_cases e : whereT s n = k
  · rw [if_pos e, e, beq_self_eq_true]
    have hz : ovD s (gpD s) D k n = false := by
      unfold ovD
      rw [List.any_eq_false]
      intro i hi
      rw [List.mem_range] at hi
      cases hd : (gpD s).getD i true with
      | true => simp
      | false =>
        have := where_lt s i n hi hd
        have e2 : (whereT s i == k) = false := by rw [beq_eq_false_iff_ne]; omega
        rw [e2]; simp
    rw [hz]; simp
  · rw [if_neg e, beq_eq_false_iff_ne.2 e]; simp [dS]
theorem dS_gone (s : List Tok) (D : List Bool) (o n : Nat) (h : (gpD s).getD n true = true) : dS s (gpD s) D o n = dS s (gpD s) D o (n + 1) := by
  refine List.ext_getElem (by rw [dS_len, dS_len]) fun k h1 h2 => ?_
  have e1 : (dS s (gpD s) D o (n + 1))[k] = ovD s (gpD s) D k (n + 1) := by simp [dS]
  have e2 : (dS s (gpD s) D o n)[k] = ovD s (gpD s) D k n := by simp [dS]
  rw [e1, e2, ovD_succ, h]; simp
theorem pS_end (a s : List Tok) (h : tin a = tin s) : pS s (gpP a) (tout s) (tin s + 1) = gpP (overT a s) := by
  have hl : (gpP (overT a s)).length = tout s + 1 := by rw [gpP_length, gpD_length, overT_len a s h]
  refine List.ext_getElem (by rw [pS_len, hl]) fun k h1 h2 => ?_
  have e := gap_over a s h k
  rw [List.getD_eq_getElem?_getD, List.getElem?_eq_getElem h2, Option.getD_some] at e
  rw [e]; simp [pS]
theorem dS_end (a s : List Tok) (h : tin a = tin s) : dS s (gpD s) (gpD a) (tout s) (tin s) = gpD (overT a s) := by
  have hl : (gpD (overT a s)).length = tout s := by rw [gpD_length, overT_len a s h]
  refine List.ext_getElem (by rw [dS_len, hl]) fun k h1 h2 => ?_
  have e := gone_over a s h k (by rw [dS_len] at h1; exact h1)
  rw [List.getD_eq_getElem?_getD, List.getElem?_eq_getElem h2, Option.getD_some] at e
  rw [e]; simp [dS]
theorem ovS_size (s : List Tok) (P : List (List Nat)) (k n B : Nat) (h : ∀ i, (encs (P.getD i [])).length ≤ B) : (encs (ovS s P k n)).length ≤ n * B := by
  induction n with
  | zero => simp [ovS, encs]
  | succ n ih =>
    rw [ovS_succ, encs_append, List.length_append, Nat.succ_mul]
    have := h n
    split
    · omega
    · have e : (encs []).length = 0 := rfl
      omega
end Go.Proofs.YtplbpddkmhmjiaaDoor
