/- Where a gap comes to be, and the least one: mathematics. -/
import Derived.Test.YtejgkhmpmnjgaaaDoorMg
import Derived.Test.YtejgkhmpmnjgaaaDoorC1a
namespace Go.Proofs.YtejgkhmpmnjgaaaDoor
set_option maxRecDepth 100000

/-- What is given, code point by code point. -/
def apT : List Tok → List Nat → List Nat
  | [], _ => []
  | .ins c :: r, cs => c :: apT r cs
  | .keep :: r, cs => cs.take 1 ++ apT r (cs.drop 1)
  | .del :: r, cs => apT r (cs.drop 1)
theorem tin_ins (c : Nat) (r : List Tok) : tin (.ins c :: r) = tin r := by simp [tin]
theorem tin_keep (r : List Tok) : tin (.keep :: r) = tin r + 1 := by simp [tin]
theorem tin_del (r : List Tok) : tin (.del :: r) = tin r + 1 := by simp [tin]
theorem tout_cins (c : Nat) (r : List Tok) : tout (.ins c :: r) = tout r + 1 := by simp [tout]
theorem tout_keep (r : List Tok) : tout (.keep :: r) = tout r + 1 := by simp [tout]
theorem tout_del (r : List Tok) : tout (.del :: r) = tout r := by simp [tout]
theorem apT_append (a b : List Tok) (cs : List Nat) : apT (a ++ b) cs = apT a cs ++ apT b (cs.drop (tin a)) := by
  induction a generalizing cs with
  | nil => rfl
  | cons t a ih =>
    cases t with
    | ins c => rw [List.cons_append, apT, apT, ih, tin_ins]; rfl
    | keep => rw [List.cons_append, apT, apT, ih, tin_keep, List.drop_drop, List.append_assoc, Nat.add_comm]
    | del => rw [List.cons_append, apT, apT, ih, tin_del, List.drop_drop, Nat.add_comm]
theorem apT_ins (us cs : List Nat) : apT (us.map Tok.ins) cs = us := by
  induction us with
  | nil => rfl
  | cons u us ih => rw [List.map_cons, apT, ih]
theorem apT_keep (n : Nat) (cs : List Nat) : apT (List.replicate n Tok.keep) cs = cs.take n := by
  induction n generalizing cs with
  | zero => rfl
  | succ n ih =>
    rw [List.replicate_succ, apT, ih]
    cases cs with
    | nil => simp
    | cons c cs => simp
theorem apT_del (n : Nat) (cs : List Nat) : apT (List.replicate n Tok.del) cs = [] := by
  induction n generalizing cs with
  | zero => rfl
  | succ n ih => rw [List.replicate_succ, apT, ih]
theorem apT_length (ts : List Tok) (cs : List Nat) (h : tin ts ≤ cs.length) : (apT ts cs).length = tout ts := by
  induction ts generalizing cs with
  | nil => rfl
  | cons t ts ih =>
    cases t with
    | ins c => rw [tin_ins] at h; rw [apT, List.length_cons, ih cs h, tout_cins]
    | keep =>
      rw [tin_keep] at h
      rw [apT, List.length_append, ih _ (by rw [List.length_drop]; omega), tout_keep, List.length_take]; omega
    | del =>
      rw [tin_del] at h
      rw [apT, ih _ (by rw [List.length_drop]; omega), tout_del]
theorem apT_cp (ts : List Tok) (cs : List Nat) (h : OkT ts) (hc : ∀ c ∈ cs, IsCp c) : ∀ c ∈ apT ts cs, IsCp c := by
  induction ts generalizing cs with
  | nil => intro c hc; cases hc
  | cons t ts ih =>
    obtain ⟨h1, h2⟩ := okT_cons h
    cases t with
    | ins c =>
      intro d hd
      rcases List.mem_cons.1 hd with rfl | hd
      · exact h1 d (List.mem_singleton.2 rfl)
      · exact ih cs h2 hc d hd
    | keep =>
      intro d hd
      rcases List.mem_append.1 hd with hd | hd
      · exact hc d (List.mem_of_mem_take hd)
      · exact ih _ h2 (fun x hx => hc x (List.mem_of_mem_drop hx)) d hd
    | del =>
      intro d hd
      exact ih _ h2 (fun x hx => hc x (List.mem_of_mem_drop hx)) d hd
theorem apT_size (ts : List Tok) (cs : List Nat) : (encs (apT ts cs)).length ≤ (encs (insT ts)).length + (encs cs).length := by
  induction ts generalizing cs with
  | nil => exact Nat.zero_le _
  | cons t ts ih =>
    have hd : (encs cs).length = (encs (cs.take 1)).length + (encs (cs.drop 1)).length := by rw [← List.length_append, ← encs_append, List.take_append_drop]
    cases t with
    | ins c =>
      have e : insT (Tok.ins c :: ts) = c :: insT ts := rfl
      have := ih cs
      rw [apT, e, encs_cons, encs_cons, List.length_append, List.length_append]; omega
    | keep =>
      have e : insT (Tok.keep :: ts) = insT ts := rfl
      have := ih (cs.drop 1)
      rw [apT, e, encs_append, List.length_append]; omega
    | del =>
      have e : insT (Tok.del :: ts) = insT ts := rfl
      have := ih (cs.drop 1)
      rw [apT, e]; omega
/-- What is told of an operation and a text. -/
def toE (l : List Sp) (s : ByteArray) : Int := if mayL l = 0 then (match dec (bs s) with | none => 3 | some cs => if (cs.length : Int) = inL l then 0 else 5) else mayL l
def toS (l : List Sp) (s : ByteArray) : ByteArray := if toE l s = 0 then mkS (encs (apT (tok l) ((dec (bs s)).getD []))) else ⟨#[]⟩
def toV (l : List Sp) (s : ByteArray) : Value := .tuple #[.string (toS l s), .int .i64 (toE l s)]
theorem to_may {l : List Sp} {s : ByteArray} (h : mayL l ≠ 0) : toV l s = .tuple #[.string ⟨#[]⟩, .int .i64 (mayL l)] := by
  have e : toE l s = mayL l := if_neg h
  unfold toV toS
  rw [e, if_neg h]
theorem to_none {l : List Sp} {s : ByteArray} (h : mayL l = 0) (hd : dec (bs s) = none) : toV l s = .tuple #[.string ⟨#[]⟩, .int .i64 3] := by
  have e : toE l s = 3 := by unfold toE; rw [if_pos h, hd]
  unfold toV toS
  rw [e, if_neg (by decide)]
theorem to_len {l : List Sp} {s : ByteArray} {cs : List Nat} (h : mayL l = 0) (hd : dec (bs s) = some cs) (hn : (cs.length : Int) ≠ inL l) : toV l s = .tuple #[.string ⟨#[]⟩, .int .i64 5] := by
  have e : toE l s = 5 := by unfold toE; rw [if_pos h, hd]; exact if_neg hn
  unfold toV toS
  rw [e, if_neg (by decide)]
theorem to_ok {l : List Sp} {s : ByteArray} {cs : List Nat} (h : mayL l = 0) (hd : dec (bs s) = some cs) (hn : (cs.length : Int) = inL l) : toE l s = 0 ∧ toS l s = mkS (encs (apT (tok l) cs)) := by
  have e : toE l s = 0 := by unfold toE; rw [if_pos h, hd]; exact if_pos hn
  refine ⟨e, ?_⟩
  unfold toS
  rw [if_pos e, hd]; rfl
/-- One span more. -/
theorem ap_text (X us : List Nat) (t : ByteArray) (hd : dec (bs t) = some us) : mkS (encs X) ++ t = mkS (encs (X ++ us)) := by
  apply bs_inj
  rw [bs_append, bs_mkS, bs_mkS, (dec_some hd).2, encs_append]
theorem tin_map_ins (us : List Nat) : tin (us.map Tok.ins) = 0 := by
  induction us with
  | nil => rfl
  | cons u us ih => rw [List.map_cons, tin_ins, ih]
theorem tin_rep (t : Tok) (ht : t = .keep ∨ t = .del) (n : Nat) : tin (List.replicate n t) = n := by
  induction n with
  | zero => rfl
  | succ n ih => rcases ht with rfl | rfl <;> simp [List.replicate_succ, tin_keep, tin_del, ih]
theorem tin_le_of_take (l : List Sp) (j : Nat) : tin (tok (l.take j)) ≤ tin (tok l) := by
  have e := congrArg tok (List.take_append_drop j l)
  rw [tok_append] at e
  have := congrArg tin e
  rw [tin_append] at this; omega
end Go.Proofs.YtejgkhmpmnjgaaaDoor
namespace Go.Proofs.YtejgkhmpmnjgaaaDoor
set_option maxRecDepth 100000
theorem tout_le (ts : List Tok) : tout ts ≤ tin ts + (encs (insT ts)).length := by
  induction ts with
  | nil => exact Nat.zero_le _
  | cons t ts ih =>
    cases t with
    | ins c =>
      have e : insT (Tok.ins c :: ts) = c :: insT ts := rfl
      have := wid_pos c
      rw [tout_cins, tin_ins, e, encs_cons, List.length_append, enc1_length]; omega
    | keep =>
      have e : insT (Tok.keep :: ts) = insT ts := rfl
      rw [tout_keep, tin_keep, e]; omega
    | del =>
      have e : insT (Tok.del :: ts) = insT ts := rfl
      rw [tout_del, tin_del, e]; omega
theorem outL_le (l : List Sp) (h : ∀ s ∈ l, OkW s) : 0 ≤ outL l ∧ outL l ≤ inL l + sumT l := by
  obtain ⟨h1, h2⟩ := tin_ok l h
  have h3 := tout_le (tok l)
  have h4 := insT_sum l h
  omega
/-- Operations that fit each other, as Chain makes them. -/
def chainL : List (List Sp) → Int → List (List Sp)
  | [], _ => []
  | l :: r, n => fitL l n :: chainL r (outL (fitL l n))
/-- How many code points the last one gives. -/
def endL : List (List Sp) → Int → Int
  | [], n => n
  | l :: r, n => endL r (outL (fitL l n))
theorem chainL_len (ls : List (List Sp)) (n : Int) : (chainL ls n).length = ls.length := by
  induction ls generalizing n with
  | nil => rfl
  | cons l r ih => rw [chainL, List.length_cons, ih, List.length_cons]
theorem chainL_snoc (ls : List (List Sp)) (l : List Sp) (n : Int) : chainL (ls ++ [l]) n = chainL ls n ++ [fitL l (endL ls n)] := by
  induction ls generalizing n with
  | nil => rfl
  | cons k r ih => rw [List.cons_append, chainL, chainL, ih]; rfl
theorem endL_snoc (ls : List (List Sp)) (l : List Sp) (n : Int) : endL (ls ++ [l]) n = outL (fitL l (endL ls n)) := by
  induction ls generalizing n with
  | nil => rfl
  | cons k r ih => rw [List.cons_append, endL, ih]; rfl
theorem fit_sumT (l : List Sp) (n : Int) : sumT (fitL l n) ≤ 312 := by
  have h1 : ∀ (k : List Sp), (∀ s ∈ k, s.2.2.size ≤ 24) → sumT k ≤ k.length * 24 := by
    intro k
    induction k with
    | nil => intro _; exact Nat.zero_le _
    | cons a t ih =>
      intro h
      have h2 := h a (List.mem_cons_self ..)
      have h3 := ih fun s hs => h s (List.mem_cons_of_mem _ hs)
      have e : sumT (a :: t) = a.2.2.size + sumT t := rfl
      rw [e, List.length_cons, Nat.add_mul]; omega
  have h2 := h1 (fitL l n) (fitL_text l n)
  have h3 := fitL_len l n
  omega
theorem fit_out (l : List Sp) (n : Int) (h0 : 0 ≤ n) (h1 : n ≤ 1048576) : 0 ≤ outL (fitL l n) ∧ outL (fitL l n) ≤ n + 312 := by
  obtain ⟨hm, hi⟩ := fitL_all l n h0 h1
  have h2 := outL_le (fitL l n) fun s hs => okW_of_may (hm s hs)
  have h3 := fit_sumT l n
  omega
theorem endL_le (ls : List (List Sp)) (n : Int) (h0 : 0 ≤ n) (h1 : n + 312 * ls.length ≤ 1048576) : 0 ≤ endL ls n ∧ endL ls n ≤ n + 312 * ls.length := by
  induction ls generalizing n with
  | nil => exact ⟨h0, by simp [endL]⟩
  | cons l r ih =>
    rw [List.length_cons] at h1 ⊢
    obtain ⟨g0, g1⟩ := fit_out l n h0 (by omega)
    obtain ⟨i0, i1⟩ := ih (outL (fitL l n)) g0 (by omega)
    exact ⟨i0, by show endL r (outL (fitL l n)) ≤ _; omega⟩
theorem chainL_mem (ls : List (List Sp)) (n : Int) : ∀ x ∈ chainL ls n, ∃ l m, x = fitL l m := by
  induction ls generalizing n with
  | nil => intro x hx; cases hx
  | cons l r ih =>
    intro x hx
    rcases List.mem_cons.1 hx with rfl | hx
    · exact ⟨l, n, rfl⟩
    · exact ih _ x hx
end Go.Proofs.YtejgkhmpmnjgaaaDoor
namespace Go.Proofs.YtejgkhmpmnjgaaaDoor
set_option maxRecDepth 100000
set_option linter.unusedSimpArgs false

theorem tin_nil : tin [] = 0 := rfl
theorem tout_nil : tout [] = 0 := rfl

/-- Two operations as one. -/
def compT : List Tok → List Tok → List Tok
  | a, .ins c :: b => .ins c :: compT a b
  | .del :: a, [] => .del :: compT a []
  | .ins _ :: _, [] => []
  | .keep :: _, [] => []
  | [], [] => []
  | .del :: a, .keep :: b => .del :: compT a (.keep :: b)
  | .ins c :: a, .keep :: b => .ins c :: compT a b
  | .keep :: a, .keep :: b => .keep :: compT a b
  | [], .keep :: _ => []
  | .del :: a, .del :: b => .del :: compT a (.del :: b)
  | .ins _ :: a, .del :: b => compT a b
  | .keep :: a, .del :: b => .del :: compT a b
  | [], .del :: _ => []
termination_by a b => a.length + b.length
/-- The first one behind the second one, which came first. -/
def overT : List Tok → List Tok → List Tok
  | a, .ins _ :: s => .keep :: overT a s
  | .ins c :: a, [] => .ins c :: overT a []
  | .del :: _, [] => []
  | .keep :: _, [] => []
  | [], [] => []
  | .ins c :: a, .keep :: s => .ins c :: overT a (.keep :: s)
  | .keep :: a, .keep :: s => .keep :: overT a s
  | .del :: a, .keep :: s => .del :: overT a s
  | [], .keep :: _ => []
  | .ins c :: a, .del :: s => .ins c :: overT a (.del :: s)
  | .keep :: a, .del :: s => overT a s
  | .del :: a, .del :: s => overT a s
  | [], .del :: _ => []
termination_by a s => a.length + s.length
/-- The first one, which came first, behind the second one. -/
def underT : List Tok → List Tok → List Tok
  | .ins c :: s, a => .ins c :: underT s a
  | [], .ins _ :: a => .keep :: underT [] a
  | [], .del :: _ => []
  | [], .keep :: _ => []
  | [], [] => []
  | .keep :: s, .ins _ :: a => .keep :: underT (.keep :: s) a
  | .keep :: s, .keep :: a => .keep :: underT s a
  | .keep :: s, .del :: a => underT s a
  | .keep :: _, [] => []
  | .del :: s, .ins _ :: a => .keep :: underT (.del :: s) a
  | .del :: s, .keep :: a => .del :: underT s a
  | .del :: s, .del :: a => underT s a
  | .del :: _, [] => []
termination_by s a => s.length + a.length

theorem compT_ins (a b : List Tok) (c : Nat) : compT a (.ins c :: b) = .ins c :: compT a b := by rw [compT]
theorem overT_ins (a b : List Tok) (c : Nat) : overT a (.ins c :: b) = .keep :: overT a b := by rw [overT]
theorem underT_ins (a b : List Tok) (c : Nat) : underT (.ins c :: a) b = .ins c :: underT a b := by rw [underT]
theorem compT_len (x y : List Tok) : tout x = tin y → tin (compT x y) = tin x ∧ tout (compT x y) = tout y := by
  fun_induction compT x y <;> intro h <;> simp only [tin_ins, tin_keep, tin_del, tout_cins, tout_keep, tout_del, tin_nil, tout_nil, List.length_cons, List.length_nil] at * <;> first | omega | (rename_i ih; have := ih (by omega); omega) | trivial | simp

theorem compT_assoc : ∀ (n : Nat) (x y z : List Tok), x.length + y.length + z.length ≤ n → tout x = tin y → tout y = tin z → compT (compT x y) z = compT x (compT y z) := by
  intro n
  induction n with
  | zero =>
    intro x y z h _ _
    cases x <;> cases y <;> cases z <;> simp at h
    simp [compT]
  | succ n ih =>
    intro x y z h hf hg
    rcases z with _ | ⟨c | _ | _, z⟩
    case cons.ins => rw [compT_ins, compT_ins, compT_ins, ih _ _ _ (by simp only [List.length_cons] at h; omega) hf (by rw [tin_ins] at hg; exact hg)]
    all_goals
      rcases y with _ | ⟨_ | _ | _, y⟩ <;> rcases x with _ | ⟨_ | _ | _, x⟩ <;>
      (try simp only [compT]) <;> (try simp only [tin_ins, tin_keep, tin_del, tout_cins, tout_keep, tout_del, tin_nil, tout_nil, List.length_cons, List.length_nil] at *) <;>
      first
      | omega
      | rfl
      | (rw [ih] <;> (try simp only [compT]) <;> (try simp only [tin_ins, tin_keep, tin_del, tout_cins, tout_keep, tout_del, tin_nil, tout_nil, List.length_cons, List.length_nil]) <;> first | rfl | omega)
theorem overT_len (a s : List Tok) : tin a = tin s → tin (overT a s) = tout s := by
  fun_induction overT a s <;> intro h <;> simp only [tin_ins, tin_keep, tin_del, tout_cins, tout_keep, tout_del, tin_nil, tout_nil, List.length_cons, List.length_nil] at * <;> first | omega | (rename_i ih; have := ih (by omega); omega)
theorem underT_len (s a : List Tok) : tin s = tin a → tin (underT s a) = tout a := by
  fun_induction underT s a <;> intro h <;> simp only [tin_ins, tin_keep, tin_del, tout_cins, tout_keep, tout_del, tin_nil, tout_nil, List.length_cons, List.length_nil] at * <;> first | omega | (rename_i ih; have := ih (by omega); omega)
/-- Behind two, one by one, or behind the one that they come to. -/
theorem over_one : ∀ (n : Nat) (a s t : List Tok), a.length + s.length + t.length ≤ n → tin a = tin s → tout s = tin t → overT a (compT s t) = overT (overT a s) t := by
  intro n
  induction n with
  | zero =>
    intro x y z h _ _
    cases x <;> cases y <;> cases z <;> simp at h
    simp [compT, overT]
  | succ n ih =>
    intro x y z h hf hg
    rcases z with _ | ⟨c | _ | _, z⟩
    case cons.ins => rw [compT_ins, overT_ins, overT_ins, ih _ _ _ (by simp only [List.length_cons] at h; omega) hf (by rw [tin_ins] at hg; exact hg)]
    all_goals
      rcases y with _ | ⟨_ | _ | _, y⟩ <;> rcases x with _ | ⟨_ | _ | _, x⟩ <;>
      (try simp only [compT, overT]) <;> (try simp only [tin_ins, tin_keep, tin_del, tout_cins, tout_keep, tout_del, tin_nil, tout_nil, List.length_cons, List.length_nil] at *) <;>
      first
      | omega
      | rfl
      | (rw [← ih] <;> (try simp only [compT, overT]) <;> (try simp only [tin_ins, tin_keep, tin_del, tout_cins, tout_keep, tout_del, tin_nil, tout_nil, List.length_cons, List.length_nil]) <;> first | rfl | omega)
theorem apT_comp : ∀ (n : Nat) (x y : List Tok) (cs : List Nat), x.length + y.length ≤ n → tout x = tin y → tin x = cs.length → apT (compT x y) cs = apT y (apT x cs) := by
  intro n
  induction n with
  | zero =>
    intro x y cs h _ _
    cases x <;> cases y <;> simp at h
    simp [compT, apT]
  | succ n ih =>
    intro x y cs h hf hg
    rcases y with _ | ⟨c | _ | _, y⟩
    case cons.ins => rw [compT_ins, apT, apT, ih _ _ _ (by simp only [List.length_cons] at h; omega) (by rw [tin_ins] at hf; exact hf) hg]
    all_goals
      rcases x with _ | ⟨_ | _ | _, x⟩ <;> rcases cs with _ | ⟨d, cs⟩ <;>
      (try simp only [compT, apT, List.take_succ_cons, List.take_zero, List.drop_succ_cons, List.drop_zero, List.cons_append, List.nil_append]) <;> (try simp only [tin_ins, tin_keep, tin_del, tout_cins, tout_keep, tout_del, tin_nil, tout_nil, List.length_cons, List.length_nil] at *) <;>
      first
      | omega
      | rfl
      | (rw [ih] <;> (try simp only [compT, apT, List.take_succ_cons, List.take_zero, List.drop_succ_cons, List.drop_zero, List.cons_append, List.nil_append]) <;> (try simp only [tin_ins, tin_keep, tin_del, tout_cins, tout_keep, tout_del, tin_nil, tout_nil, List.length_cons, List.length_nil]) <;> first | rfl | omega)
/-- Both meet. -/
theorem meets : ∀ (n : Nat) (s a : List Tok) (cs : List Nat), s.length + a.length ≤ n → tin s = tin a → tin s = cs.length → apT (overT a s) (apT s cs) = apT (underT s a) (apT a cs) := by
  intro n
  induction n with
  | zero =>
    intro x y cs h _ _
    cases x <;> cases y <;> simp at h
    simp [underT, overT, apT]
  | succ n ih =>
    intro x y cs h hf hg
    rcases x with _ | ⟨c | _ | _, x⟩
    case cons.ins => simp only [overT_ins, underT_ins, apT, List.take_succ_cons, List.take_zero, List.drop_succ_cons, List.drop_zero, List.cons_append, List.nil_append]; rw [ih _ _ _ (by simp only [List.length_cons] at h; omega) (by rw [tin_ins] at hf; exact hf) (by rw [tin_ins] at hg; exact hg)]
    all_goals
      rcases y with _ | ⟨_ | _ | _, y⟩ <;> rcases cs with _ | ⟨d, cs⟩ <;>
      (try simp only [underT, overT, apT, List.take_succ_cons, List.take_zero, List.drop_succ_cons, List.drop_zero, List.cons_append, List.nil_append]) <;> (try simp only [tin_ins, tin_keep, tin_del, tout_cins, tout_keep, tout_del, tin_nil, tout_nil, List.length_cons, List.length_nil] at *) <;>
      first
      | omega
      | rfl
      | exact congrArg _ (ih [] y [] (by simp only [List.length_nil]; omega) (by simp only [tin_nil]; omega) rfl)
      | exact congrArg _ (ih (.keep :: x) y (d :: cs) (by simp only [List.length_cons]; omega) (by simp only [tin_keep]; omega) (by simp only [tin_keep, List.length_cons]; omega))
      | exact congrArg _ (ih (.del :: x) y (d :: cs) (by simp only [List.length_cons]; omega) (by simp only [tin_del]; omega) (by simp only [tin_del, List.length_cons]; omega))
      | (rw [ih] <;> (try simp only [underT, overT, apT, List.take_succ_cons, List.take_zero, List.drop_succ_cons, List.drop_zero, List.cons_append, List.nil_append]) <;> (try simp only [tin_ins, tin_keep, tin_del, tout_cins, tout_keep, tout_del, tin_nil, tout_nil, List.length_cons, List.length_nil]) <;> first | rfl | omega)
end Go.Proofs.YtejgkhmpmnjgaaaDoor
namespace Go.Proofs.YtejgkhmpmnjgaaaDoor
set_option maxRecDepth 100000
set_option linter.unusedSimpArgs false

/-- Where a gap comes to be. -/
def whereT : List Tok → Nat → Nat
  | [], _ => 0
  | .ins _ :: r, g => whereT r g + 1
  | .keep :: _, 0 => 0
  | .keep :: r, g + 1 => whereT r g + 1
  | .del :: _, 0 => 0
  | .del :: r, g + 1 => whereT r g
/-- The least gap that comes to be at a place, or behind it. -/
def leastT : List Tok → Nat → Nat
  | [], _ => 0
  | .ins _ :: _, 0 => 0
  | .ins _ :: r, k + 1 => leastT r k
  | .keep :: _, 0 => 0
  | .keep :: r, k + 1 => leastT r k + 1
  | .del :: _, 0 => 0
  | .del :: r, k + 1 => leastT r (k + 1) + 1
theorem leastT_zero (ts : List Tok) : leastT ts 0 = 0 := by rcases ts with _ | ⟨_ | _ | _, ts⟩ <;> rfl
theorem whereT_le (ts : List Tok) (g : Nat) : whereT ts g ≤ tout ts := by
  fun_induction whereT ts g <;> simp only [tin_ins, tin_keep, tin_del, tout_cins, tout_keep, tout_del, tin_nil, tout_nil, List.length_cons, List.length_nil] <;> omega
theorem whereT_last (ts : List Tok) (g : Nat) (h : tin ts ≤ g) : whereT ts g = tout ts := by
  fun_induction whereT ts g <;> simp only [tin_ins, tin_keep, tin_del, tout_cins, tout_keep, tout_del, tin_nil, tout_nil, List.length_cons, List.length_nil] at * <;> first | omega | (rename_i ih; have := ih (by omega); omega)
theorem whereT_step (ts : List Tok) (g : Nat) : whereT ts g ≤ whereT ts (g + 1) := by
  fun_induction whereT ts g <;> simp only [whereT] <;> omega
theorem whereT_mono (ts : List Tok) (g d : Nat) : whereT ts g ≤ whereT ts (g + d) := by
  induction d with
  | zero => exact Nat.le_refl _
  | succ d ih => exact Nat.le_trans ih (whereT_step ts (g + d))
theorem leastT_le (ts : List Tok) (k : Nat) : leastT ts k ≤ tin ts := by
  fun_induction leastT ts k <;> simp only [tin_ins, tin_keep, tin_del, tout_cins, tout_keep, tout_del, tin_nil, tout_nil, List.length_cons, List.length_nil] <;> omega
/-- The two go together. -/
theorem galois (ts : List Tok) (k g : Nat) (hk : k ≤ tout ts) : leastT ts k ≤ g ↔ k ≤ whereT ts g := by
  induction ts generalizing k g with
  | nil => simp only [tout_nil] at hk; simp only [leastT, whereT]; omega
  | cons t ts ih =>
    rcases t with _ | _ | _ <;> rcases k with _ | k <;> rcases g with _ | g <;> simp only [leastT, whereT, tin_ins, tin_keep, tin_del, tout_cins, tout_keep, tout_del, tin_nil, tout_nil, List.length_cons, List.length_nil] at * <;> first
      | omega
      | (have := ih k 0 (by omega); omega)
      | (have := ih k g (by omega); omega)
      | (have := ih k (g + 1) (by omega); omega)
      | (have := ih (k + 1) g (by omega); omega)
/-- It is the least one. -/
theorem least_is (ts : List Tok) (k g : Nat) (hk : k ≤ tout ts) (h1 : k ≤ whereT ts g) (h2 : ∀ j, j < g → whereT ts j < k) : leastT ts k = g := by
  have h3 := (galois ts k g hk).2 h1
  rcases Nat.lt_or_ge (leastT ts k) g with h | h
  · have h4 := (galois ts k _ hk).1 (Nat.le_refl _)
    have := h2 _ h
    omega
  · omega
theorem where_comp : ∀ (n : Nat) (x y : List Tok) (g : Nat), x.length + y.length ≤ n → tout x = tin y → whereT (compT x y) g = whereT y (whereT x g) := by
  intro n
  induction n with
  | zero =>
    intro x y g h _
    cases x <;> cases y <;> simp at h
    simp [compT, whereT]
  | succ n ih =>
    intro x y g h hf
    rcases y with _ | ⟨c | _ | _, y⟩
    case cons.ins => rw [compT_ins, whereT, whereT, ih _ _ _ (by simp only [List.length_cons] at h; omega) (by rw [tin_ins] at hf; exact hf)]
    all_goals
      rcases x with _ | ⟨_ | _ | _, x⟩ <;> rcases g with _ | g <;>
      (try simp only [whereT, leastT, compT]) <;> (try simp only [tin_ins, tin_keep, tin_del, tout_cins, tout_keep, tout_del, tin_nil, tout_nil, List.length_cons, List.length_nil] at *) <;>
      first
      | omega
      | rfl
      | (rw [ih] <;> (try simp only [whereT, leastT, compT]) <;> (try simp only [tin_ins, tin_keep, tin_del, tout_cins, tout_keep, tout_del, tin_nil, tout_nil, List.length_cons, List.length_nil]) <;> first | rfl | omega)
theorem least_comp : ∀ (n : Nat) (x y : List Tok) (k : Nat), x.length + y.length ≤ n → tout x = tin y → k ≤ tout y → leastT (compT x y) k = leastT x (leastT y k) := by
  intro n
  induction n with
  | zero =>
    intro x y g h _ _
    cases x <;> cases y <;> simp at h
    simp [compT, leastT]
  | succ n ih =>
    intro x y g h hf hk
    rcases g with _ | g
    · rw [leastT_zero, leastT_zero, leastT_zero]
    rcases y with _ | ⟨c | _ | _, y⟩
    case cons.ins => rw [compT_ins, leastT, leastT, ih _ _ _ (by simp only [List.length_cons] at h; omega) (by rw [tin_ins] at hf; exact hf) (by rw [tout_cins] at hk; omega)]
    all_goals
      rcases x with _ | ⟨_ | _ | _, x⟩ <;>
      (try simp only [whereT, leastT, compT]) <;> (try simp only [tin_ins, tin_keep, tin_del, tout_cins, tout_keep, tout_del, tin_nil, tout_nil, List.length_cons, List.length_nil] at *) <;>
      first
      | omega
      | rfl
      | (rw [ih] <;> (try simp only [whereT, leastT, compT]) <;> (try simp only [tin_ins, tin_keep, tin_del, tout_cins, tout_keep, tout_del, tin_nil, tout_nil, List.length_cons, List.length_nil]) <;> first | rfl | omega)
/-- Span by span. -/
theorem whereT_inss (cs : List Nat) (r : List Tok) (g : Nat) : whereT (cs.map Tok.ins ++ r) g = cs.length + whereT r g := by
  induction cs with
  | nil => simp
  | cons c cs ih => rw [List.map_cons, List.cons_append, whereT, ih, List.length_cons]; omega
theorem whereT_keeps (N : Nat) (r : List Tok) (g : Nat) : whereT (List.replicate N Tok.keep ++ r) g = if g < N then g else N + whereT r (g - N) := by
  induction N generalizing g with
  | zero => simp
  | succ N ih =>
    rw [List.replicate_succ, List.cons_append]
    cases g with
    | zero => simp [whereT]
    | succ g =>
      rw [whereT, ih]
      by_cases h : g < N
      · rw [if_pos h, if_pos (by omega)]
      · rw [if_neg h, if_neg (by omega), show g + 1 - (N + 1) = g - N by omega]; omega
theorem whereT_dels (N : Nat) (r : List Tok) (g : Nat) : whereT (List.replicate N Tok.del ++ r) g = if g < N then 0 else whereT r (g - N) := by
  induction N generalizing g with
  | zero => simp
  | succ N ih =>
    rw [List.replicate_succ, List.cons_append]
    cases g with
    | zero => simp [whereT]
    | succ g =>
      rw [whereT, ih]
      by_cases h : g < N
      · rw [if_pos h, if_pos (by omega)]
      · rw [if_neg h, if_neg (by omega), show g + 1 - (N + 1) = g - N by omega]
theorem leastT_inss (cs : List Nat) (r : List Tok) (k : Nat) : leastT (cs.map Tok.ins ++ r) k = if k < cs.length then 0 else leastT r (k - cs.length) := by
  induction cs generalizing k with
  | nil => simp
  | cons c cs ih =>
    rw [List.map_cons, List.cons_append]
    cases k with
    | zero => simp [leastT]
    | succ k =>
      rw [leastT, ih, List.length_cons]
      by_cases h : k < cs.length
      · rw [if_pos h, if_pos (by omega)]
      · rw [if_neg h, if_neg (by omega), show k + 1 - (cs.length + 1) = k - cs.length by omega]
theorem leastT_keeps (N : Nat) (r : List Tok) (k : Nat) : leastT (List.replicate N Tok.keep ++ r) k = if k < N then k else if k = N then N + leastT r 0 else N + leastT r (k - N) := by
  induction N generalizing k with
  | zero => by_cases h : k = 0 <;> simp [h]
  | succ N ih =>
    rw [List.replicate_succ, List.cons_append]
    cases k with
    | zero => simp [leastT]
    | succ k =>
      rw [leastT, ih]
      by_cases h : k < N
      · rw [if_pos h, if_pos (by omega)]
      · rw [if_neg h, if_neg (show ¬ k + 1 < N + 1 by omega)]
        by_cases h2 : k = N
        · rw [if_pos h2, if_pos (by omega)]; omega
        · rw [if_neg h2, if_neg (by omega), show k + 1 - (N + 1) = k - N by omega]; omega
theorem leastT_dels (N : Nat) (r : List Tok) (k : Nat) : leastT (List.replicate N Tok.del ++ r) k = if k = 0 then 0 else N + leastT r k := by
  induction N with
  | zero =>
    by_cases h : k = 0
    · rw [if_pos h, h, leastT_zero]
    · simp [h]
  | succ N ih =>
    rw [List.replicate_succ, List.cons_append]
    cases k with
    | zero => simp [leastT]
    | succ k =>
      rw [leastT, ih, if_neg (by omega), if_neg (by omega)]; omega
end Go.Proofs.YtejgkhmpmnjgaaaDoor
