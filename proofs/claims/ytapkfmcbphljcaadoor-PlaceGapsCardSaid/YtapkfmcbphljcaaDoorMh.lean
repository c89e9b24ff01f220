/- Operations as tokens: where and least, two as one, over, under: mathematics. -/
import Derived.Test.YtapkfmcbphljcaaDoorM7
namespace Go.Proofs.YtapkfmcbphljcaaDoor
set_option maxRecDepth 100000
set_option linter.unusedSimpArgs false

theorem tin_nil : tin [] = 0 := rfl
theorem tout_nil : tout [] = 0 := rfl

/-- Two operations as one. -/
def compT : List Tok → List Tok → List Tok
  | a, .ins c :: b => .ins c :: compT a b
  | .del :: a, [] => .del :: compT a []
  | .ins _ :: _, [] => []
  | .keep :: _, [] => []
  | [], [] => []
  | .del :: a, .keep :: b => .del :: compT a (.keep :: b)
  | .ins c :: a, .keep :: b => .ins c :: compT a b
  | .keep :: a, .keep :: b => .keep :: compT a b
  | [], .keep :: _ => []
  | .del :: a, .del :: b => .del :: compT a (.del :: b)
  | .ins _ :: a, .del :: b => compT a b
  | .keep :: a, .del :: b => .del :: compT a b
  | [], .del :: _ => []
termination_by a b => a.length + b.length
/-- The first one behind the second one, which came first. -/
def overT : List Tok → List Tok → List Tok
  | a, .ins _ :: s => .keep :: overT a s
  | .ins c :: a, [] => .ins c :: overT a []
  | .del :: _, [] => []
  | .keep :: _, [] => []
  | [], [] => []
  | .ins c :: a, .keep :: s => .ins c :: overT a (.keep :: s)
  | .keep :: a, .keep :: s => .keep :: overT a s
  | .del :: a, .keep :: s => .del :: overT a s
  | [], .keep :: _ => []
  | .ins c :: a, .del :: s => .ins c :: overT a (.del :: s)
  | .keep :: a, .del :: s => overT a s
  | .del :: a, .del :: s => overT a s
  | [], .del :: _ => []
termination_by a s => a.length + s.length
/-- The first one, which came first, behind the second one. -/
def underT : List Tok → List Tok → List Tok
  | .ins c :: s, a => .ins c :: underT s a
  | [], .ins _ :: a => .keep :: underT [] a
  | [], .del :: _ => []
  | [], .keep :: _ => []
  | [], [] => []
  | .keep :: s, .ins _ :: a => .keep :: underT (.keep :: s) a
  | .keep :: s, .keep :: a => .keep :: underT s a
  | .keep :: s, .del :: a => underT s a
  | .keep :: _, [] => []
  | .del :: s, .ins _ :: a => .keep :: underT (.del :: s) a
  | .del :: s, .keep :: a => .del :: underT s a
  | .del :: s, .del :: a => underT s a
  | .del :: _, [] => []
termination_by s a => s.length + a.length

theorem compT_ins (a b : List Tok) (c : Nat) : compT a (.ins c :: b) = .ins c :: compT a b := by rw [compT]
theorem overT_ins (a b : List Tok) (c : Nat) : overT a (.ins c :: b) = .keep :: overT a b := by rw [overT]
theorem underT_ins (a b : List Tok) (c : Nat) : underT (.ins c :: a) b = .ins c :: underT a b := by rw [underT]
theorem compT_len (x y : List Tok) : tout x = tin y → tin (compT x y) = tin x ∧ tout (compT x y) = tout y := by
  fun_induction compT x y <;> intro h <;> simp only [tin_ins, tin_keep, tin_del, tout_cins, tout_keep, tout_del, tin_nil, tout_nil, List.length_cons, List.length_nil] at * <;> first | omega | (rename_i ih; have := ih (by omega); omega) | trivial | simp

theorem compT_assoc : ∀ (n : Nat) (x y z : List Tok), x.length + y.length + z.length ≤ n → tout x = tin y → tout y = tin z → compT (compT x y) z = compT x (compT y z) := by
  intro n
  induction n with
  | zero =>
    intro x y z h _ _
    cases x <;> cases y <;> cases z <;> simp at h
    simp [compT]
  | succ n ih =>
    intro x y z h hf hg
    rcases z with _ | ⟨c | _ | _, z⟩
    case cons.ins => rw [compT_ins, compT_ins, compT_ins, ih _ _ _ (by simp only [List.length_cons] at h; omega) hf (by rw [tin_ins] at hg; exact hg)]
    all_goals
      rcases y with _ | ⟨_ | _ | _, y⟩ <;> rcases x with _ | ⟨_ | _ | _, x⟩ <;>
      (try simp only [compT]) <;> (try simp only [tin_ins, tin_keep, tin_del, tout_cins, tout_keep, tout_del, tin_nil, tout_nil, List.length_cons, List.length_nil] at *) <;>
      first
      | omega
      | rfl
      | (rw [ih] <;> (try simp only [compT]) <;> (try simp only [tin_ins, tin_keep, tin_del, tout_cins, tout_keep, tout_del, tin_nil, tout_nil, List.length_cons, List.length_nil]) <;> first | rfl | omega)
theorem overT_len (a s : List Tok) : tin a = tin s → tin (overT a s) = tout s := by
  fun_induction overT a s <;> intro h <;> simp only [tin_ins, tin_keep, tin_del, tout_cins, tout_keep, tout_del, tin_nil, tout_nil, List.length_cons, List.length_nil] at * <;> first | omega | (rename_i ih; have := ih (by omega); omega)
theorem underT_len (s a : List Tok) : tin s = tin a → tin (underT s a) = tout a := by
  fun_induction underT s a <;> intro h <;> simp only [tin_ins, tin_keep, tin_del, tout_cins, tout_keep, tout_del, tin_nil, tout_nil, List.length_cons, List.length_nil] at * <;> first | omega | (rename_i ih; have := ih (by omega); omega)
/-- Behind two, one by one, or behind the one that they come to. -/
theorem over_one : ∀ (n : Nat) (a s t : List Tok), a.length + s.length + t.length ≤ n → tin a = tin s → tout s = tin t → overT a (compT s t) = overT (overT a s) t := by
  intro n
  induction n with
  | zero =>
    intro x y z h _ _
    cases x <;> cases y <;> cases z <;> simp at h
    simp [compT, overT]
  | succ n ih =>
    intro x y z h hf hg
    rcases z with _ | ⟨c | _ | _, z⟩
    case cons.ins => rw [compT_ins, overT_ins, overT_ins, ih _ _ _ (by simp only [List.length_cons] at h; omega) hf (by rw [tin_ins] at hg; exact hg)]
    all_goals
      rcases y with _ | ⟨_ | _ | _, y⟩ <;> rcases x with _ | ⟨_ | _ | _, x⟩ <;>
      (try simp only [compT, overT]) <;> (try simp only [tin_ins, tin_keep, tin_del, tout_cins, tout_keep, tout_del, tin_nil, tout_nil, List.length_cons, List.length_nil] at *) <;>
      first
      | omega
      | rfl
      | (rw [← ih] <;> (try simp only [compT, overT]) <;> (try simp only [tin_ins, tin_keep, tin_del, tout_cins, tout_keep, tout_del, tin_nil, tout_nil, List.length_cons, List.length_nil]) <;> first | rfl | omega)
theorem apT_comp : ∀ (n : Nat) (x y : List Tok) (cs : List Nat), x.length + y.length ≤ n → tout x = tin y → tin x = cs.length → apT (compT x y) cs = apT y (apT x cs) := by
  intro n
  induction n with
  | zero =>
    intro x y cs h _ _
    cases x <;> cases y <;> simp at h
    simp [compT, apT]
  | succ n ih =>
    intro x y cs h hf hg
    rcases y with _ | ⟨c | _ | _, y⟩
    case cons.ins => rw [compT_ins, apT, apT, ih _ _ _ (by simp only [List.length_cons] at h; omega) (by rw [tin_ins] at hf; exact hf) hg]
    all_goals
      rcases x with _ | ⟨_ | _ | _, x⟩ <;> rcases cs with _ | ⟨d, cs⟩ <;>
      (try simp only [compT, apT, List.take_succ_cons, List.take_zero, List.drop_succ_cons, List.drop_zero, List.cons_append, List.nil_append]) <;> (try simp only [tin_ins, tin_keep, tin_del, tout_cins, tout_keep, tout_del, tin_nil, tout_nil, List.length_cons, List.length_nil] at *) <;>
      first
      | omega
      | rfl
      | (rw [ih] <;> (try simp only [compT, apT, List.take_succ_cons, List.take_zero, List.drop_succ_cons, List.drop_zero, List.cons_append, List.nil_append]) <;> (try simp only [tin_ins, tin_keep, tin_del, tout_cins, tout_keep, tout_del, tin_nil, tout_nil, List.length_cons, List.length_nil]) <;> first | rfl | omega)
/-- Both meet. -/
theorem meets : ∀ (n : Nat) (s a : List Tok) (cs : List Nat), s.length + a.length ≤ n → tin s = tin a → tin s = cs.length → apT (overT a s) (apT s cs) = apT (underT s a) (apT a cs) := by
  intro n
  induction n with
  | zero =>
    intro x y cs h _ _
    cases x <;> cases y <;> simp at h
    simp [underT, overT, apT]
  | succ n ih =>
    intro x y cs h hf hg
    rcases x with _ | ⟨c | _ | _, x⟩
    case cons.ins => simp only [overT_ins, underT_ins, apT, List.take_succ_cons, List.take_zero, List.drop_succ_cons, List.drop_zero, List.cons_append, List.nil_append]; rw [ih _ _ _ (by simp only [List.length_cons] at h; omega) (by rw [tin_ins] at hf; exact hf) (by rw [tin_ins] at hg; exact hg)]
    all_goals
      rcases y with _ | ⟨_ | _ | _, y⟩ <;> rcases cs with _ | ⟨d, cs⟩ <;>
      (try simp only [underT, overT, apT, List.take_succ_cons, List.take_zero, List.drop_succ_cons, List.drop_zero, List.cons_append, List.nil_append]) <;> (try simp only [tin_ins, tin_keep, tin_del, tout_cins, tout_keep, tout_del, tin_nil, tout_nil, List.length_cons, List.length_nil] at *) <;>
      first
      | omega
      | rfl
      | exact congrArg _ (ih [] y [] (by simp only [List.length_nil]; omega) (by simp only [tin_nil]; omega) rfl)
      | exact congrArg _ (ih (.keep :: x) y (d :: cs) (by simp only [List.length_cons]; omega) (by simp only [tin_keep]; omega) (by simp only [tin_keep, List.length_cons]; omega))
      | exact congrArg _ (ih (.del :: x) y (d :: cs) (by simp only [List.length_cons]; omega) (by simp only [tin_del]; omega) (by simp only [tin_del, List.length_cons]; omega))
      | (rw [ih] <;> (try simp only [underT, overT, apT, List.take_succ_cons, List.take_zero, List.drop_succ_cons, List.drop_zero, List.cons_append, List.nil_append]) <;> (try simp only [tin_ins, tin_keep, tin_del, tout_cins, tout_keep, tout_del, tin_nil, tout_nil, List.length_cons, List.length_nil]) <;> first | rfl | omega)
end Go.Proofs.YtapkfmcbphljcaaDoor
