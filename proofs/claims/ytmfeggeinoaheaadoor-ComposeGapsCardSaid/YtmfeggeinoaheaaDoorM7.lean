/- Chains of operations: mathematics. -/
import Derived.Test.YtmfeggeinoaheaaDoorMg
import Derived.Test.YtmfeggeinoaheaaDoorC1a
namespace Go.Proofs.YtmfeggeinoaheaaDoor
set_option maxRecDepth 100000

/-- What is given, code point by code point. -/
def apT : List Tok → List Nat → List Nat
  | [], _ => []
  | .ins c :: r, cs => c :: apT r cs
  | .keep :: r, cs => cs.take 1 ++ apT r (cs.drop 1)
  | .del :: r, cs => apT r (cs.drop 1)
theorem tin_ins (c : Nat) (r : List Tok) : tin (.ins c :: r) = tin r := by simp [tin]
theorem tin_keep (r : List Tok) : tin (.keep :: r) = tin r + 1 := by simp [tin]
theorem tin_del (r : List Tok) : tin (.del :: r) = tin r + 1 := by simp [tin]
theorem tout_cins (c : Nat) (r : List Tok) : tout (.ins c :: r) = tout r + 1 := by simp [tout]
theorem tout_keep (r : List Tok) : tout (.keep :: r) = tout r + 1 := by simp [tout]
theorem tout_del (r : List Tok) : tout (.del :: r) = tout r := by simp [tout]
theorem apT_append (a b : List Tok) (cs : List Nat) : apT (a ++ b) cs = apT a cs ++ apT b (cs.drop (tin a)) := by
  induction a generalizing cs with
  | nil => rfl
  | cons t a ih =>
    cases t with
    | ins c => rw [List.cons_append, apT, apT, ih, tin_ins]; rfl
    | keep => rw [List.cons_append, apT, apT, ih, tin_keep, List.drop_drop, List.append_assoc, Nat.add_comm]
    | del => rw [List.cons_append, apT, apT, ih, tin_del, List.drop_drop, Nat.add_comm]
theorem apT_ins (us cs : List Nat) : apT (us.map Tok.ins) cs = us := by
  induction us with
  | nil => rfl
  | cons u us ih => rw [List.map_cons, apT, ih]
theorem apT_keep (n : Nat) (cs : List Nat) : apT (List.replicate n Tok.keep) cs = cs.take n := by
  induction n generalizing cs with
  | zero => rfl
  | succ n ih =>
    rw [List.replicate_succ, apT, ih]
    cases cs with
    | nil => simp
    | cons c cs => simp
theorem apT_del (n : Nat) (cs : List Nat) : apT (List.replicate n Tok.del) cs = [] := by
  induction n generalizing cs with
  | zero => rfl
  | succ n ih => rw [List.replicate_succ, apT, ih]
theorem apT_length (ts : List Tok) (cs : List Nat) (h : tin ts ≤ cs.length) : (apT ts cs).length = tout ts := by
  induction ts generalizing cs with
  | nil => rfl
  | cons t ts ih =>
    cases t with
    | ins c => rw [tin_ins] at h; rw [apT, List.length_cons, ih cs h, tout_cins]
    | keep =>
      rw [tin_keep] at h
      rw [apT, List.length_append, ih _ (by rw [List.length_drop]; omega), tout_keep, List.length_take]; omega
    | del =>
      rw [tin_del] at h
      rw [apT, ih _ (by rw [List.length_drop]; omega), tout_del]
theorem apT_cp (ts : List Tok) (cs : List Nat) (h : OkT ts) (hc : ∀ c ∈ cs, IsCp c) : ∀ c ∈ apT ts cs, IsCp c := by
  induction ts generalizing cs with
  | nil => intro c hc; cases hc
  | cons t ts ih =>
    obtain ⟨h1, h2⟩ := okT_cons h
    cases t with
    | ins c =>
      intro d hd
      rcases List.mem_cons.1 hd with rfl | hd
      · exact h1 d (List.mem_singleton.2 rfl)
      · exact ih cs h2 hc d hd
    | keep =>
      intro d hd
      rcases List.mem_append.1 hd with hd | hd
      · exact hc d (List.mem_of_mem_take hd)
      · exact ih _ h2 (fun x hx => hc x (List.mem_of_mem_drop hx)) d hd
    | del =>
      intro d hd
      exact ih _ h2 (fun x hx => hc x (List.mem_of_mem_drop hx)) d hd
theorem apT_size (ts : List Tok) (cs : List Nat) : (encs (apT ts cs)).length ≤ (encs (insT ts)).length + (encs cs).length := by
  induction ts generalizing cs with
  | nil => exact Nat.zero_le _
  | cons t ts ih =>
    have hd : (encs cs).length = (encs (cs.take 1)).length + (encs (cs.drop 1)).length := by rw [← List.length_append, ← encs_append, List.take_append_drop]
    cases t with
    | ins c =>
      have e : insT (Tok.ins c :: ts) = c :: insT ts := rfl
      have := ih cs
      rw [apT, e, encs_cons, encs_cons, List.length_append, List.length_append]; omega
    | keep =>
      have e : insT (Tok.keep :: ts) = insT ts := rfl
      have := ih (cs.drop 1)
      rw [apT, e, encs_append, List.length_append]; omega
    | del =>
      have e : insT (Tok.del :: ts) = insT ts := rfl
      have := ih (cs.drop 1)
      rw [apT, e]; omega
/-- What is told of an operation and a text. -/
def toE (l : List Sp) (s : ByteArray) : Int := if mayL l = 0 then (match dec (bs s) with | none => 3 | some cs => if (cs.length : Int) = inL l then 0 else 5) else mayL l
def toS (l : List Sp) (s : ByteArray) : ByteArray := if toE l s = 0 then mkS (encs (apT (tok l) ((dec (bs s)).getD []))) else ⟨#[]⟩
def toV (l : List Sp) (s : ByteArray) : Value := .tuple #[.string (toS l s), .int .i64 (toE l s)]
theorem to_may {l : List Sp} {s : ByteArray} (h : mayL l ≠ 0) : toV l s = .tuple #[.string ⟨#[]⟩, .int .i64 (mayL l)] := by
  have e : toE l s = mayL l := if_neg h
  unfold toV toS
  rw [e, if_neg h]
theorem to_none {l : List Sp} {s : ByteArray} (h : mayL l = 0) (hd : dec (bs s) = none) : toV l s = .tuple #[.string ⟨#[]⟩, .int .i64 3] := by
  have e : toE l s = 3 := by unfold toE; rw [if_pos h, hd]
  unfold toV toS
  rw [e, if_neg (by decide)]
theorem to_len {l : List Sp} {s : ByteArray} {cs : List Nat} (h : mayL l = 0) (hd : dec (bs s) = some cs) (hn : (cs.length : Int) ≠ inL l) : toV l s = .tuple #[.string ⟨#[]⟩, .int .i64 5] := by
  have e : toE l s = 5 := by unfold toE; rw [if_pos h, hd]; exact if_neg hn
  unfold toV toS
  rw [e, if_neg (by decide)]
theorem to_ok {l : List Sp} {s : ByteArray} {cs : List Nat} (h : mayL l = 0) (hd : dec (bs s) = some cs) (hn : (cs.length : Int) = inL l) : toE l s = 0 ∧ toS l s = mkS (encs (apT (tok l) cs)) := by
  have e : toE l s = 0 := by unfold toE; rw [if_pos h, hd]; exact if_pos hn
  refine ⟨e, ?_⟩
  unfold toS
  rw [if_pos e, hd]; rfl
/-- One span more. -/
theorem ap_text (X us : List Nat) (t : ByteArray) (hd : dec (bs t) = some us) : mkS (encs X) ++ t = mkS (encs (X ++ us)) := by
  apply bs_inj
  rw [bs_append, bs_mkS, bs_mkS, (dec_some hd).2, encs_append]
theorem tin_map_ins (us : List Nat) : tin (us.map Tok.ins) = 0 := by
  induction us with
  | nil => rfl
  | cons u us ih => rw [List.map_cons, tin_ins, ih]
theorem tin_rep (t : Tok) (ht : t = .keep ∨ t = .del) (n : Nat) : tin (List.replicate n t) = n := by
  induction n with
  | zero => rfl
  | succ n ih => rcases ht with rfl | rfl <;> simp [List.replicate_succ, tin_keep, tin_del, ih]
theorem tin_le_of_take (l : List Sp) (j : Nat) : tin (tok (l.take j)) ≤ tin (tok l) := by
  have e := congrArg tok (List.take_append_drop j l)
  rw [tok_append] at e
  have := congrArg tin e
  rw [tin_append] at this; omega
end Go.Proofs.YtmfeggeinoaheaaDoor
namespace Go.Proofs.YtmfeggeinoaheaaDoor
set_option maxRecDepth 100000
theorem tout_le (ts : List Tok) : tout ts ≤ tin ts + (encs (insT ts)).length := by
  induction ts with
  | nil => exact Nat.zero_le _
  | cons t ts ih =>
    cases t with
    | ins c =>
      have e : insT (Tok.ins c :: ts) = c :: insT ts := rfl
      have := wid_pos c
      rw [tout_cins, tin_ins, e, encs_cons, List.length_append, enc1_length]; omega
    | keep =>
      have e : insT (Tok.keep :: ts) = insT ts := rfl
      rw [tout_keep, tin_keep, e]; omega
    | del =>
      have e : insT (Tok.del :: ts) = insT ts := rfl
      rw [tout_del, tin_del, e]; omega
theorem outL_le (l : List Sp) (h : ∀ s ∈ l, OkW s) : 0 ≤ outL l ∧ outL l ≤ inL l + sumT l := by
  obtain ⟨h1, h2⟩ := tin_ok l h
  have h3 := tout_le (tok l)
  have h4 := insT_sum l h
  omega
/-- Operations that fit each other, as Chain makes them. -/
def chainL : List (List Sp) → Int → List (List Sp)
  | [], _ => []
  | l :: r, n => fitL l n :: chainL r (outL (fitL l n))
/-- How many code points the last one gives. -/
def endL : List (List Sp) → Int → Int
  | [], n => n
  | l :: r, n => endL r (outL (fitL l n))
theorem chainL_len (ls : List (List Sp)) (n : Int) : (chainL ls n).length = ls.length := by
  induction ls generalizing n with
  | nil => rfl
  | cons l r ih => rw [chainL, List.length_cons, ih, List.length_cons]
theorem chainL_snoc (ls : List (List Sp)) (l : List Sp) (n : Int) : chainL (ls ++ [l]) n = chainL ls n ++ [fitL l (endL ls n)] := by
  induction ls generalizing n with
  | nil => rfl
  | cons k r ih => rw [List.cons_append, chainL, chainL, ih]; rfl
theorem endL_snoc (ls : List (List Sp)) (l : List Sp) (n : Int) : endL (ls ++ [l]) n = outL (fitL l (endL ls n)) := by
  induction ls generalizing n with
  | nil => rfl
  | cons k r ih => rw [List.cons_append, endL, ih]; rfl
theorem fit_sumT (l : List Sp) (n : Int) : sumT (fitL l n) ≤ 312 := by
  have h1 : ∀ (k : List Sp), (∀ s ∈ k, s.2.2.size ≤ 24) → sumT k ≤ k.length * 24 := by
    intro k
    induction k with
    | nil => intro _; exact Nat.zero_le _
    | cons a t ih =>
      intro h
      have h2 := h a (List.mem_cons_self ..)
      have h3 := ih fun s hs => h s (List.mem_cons_of_mem _ hs)
      have e : sumT (a :: t) = a.2.2.size + sumT t := rfl
      rw [e, List.length_cons, Nat.add_mul]; omega
  have h2 := h1 (fitL l n) (fitL_text l n)
  have h3 := fitL_len l n
  omega
theorem fit_out (l : List Sp) (n : Int) (h0 : 0 ≤ n) (h1 : n ≤ 1048576) : 0 ≤ outL (fitL l n) ∧ outL (fitL l n) ≤ n + 312 := by
  obtain ⟨hm, hi⟩ := fitL_all l n h0 h1
  have h2 := outL_le (fitL l n) fun s hs => okW_of_may (hm s hs)
  have h3 := fit_sumT l n
  omega
theorem endL_le (ls : List (List Sp)) (n : Int) (h0 : 0 ≤ n) (h1 : n + 312 * ls.length ≤ 1048576) : 0 ≤ endL ls n ∧ endL ls n ≤ n + 312 * ls.length := by
  induction ls generalizing n with
  | nil => exact ⟨h0, by simp [endL]⟩
  | cons l r ih =>
    rw [List.length_cons] at h1 ⊢
    obtain ⟨g0, g1⟩ := fit_out l n h0 (by omega)
    obtain ⟨i0, i1⟩ := ih (outL (fitL l n)) g0 (by omega)
    exact ⟨i0, by show endL r (outL (fitL l n)) ≤ _; omega⟩
theorem chainL_mem (ls : List (List Sp)) (n : Int) : ∀ x ∈ chainL ls n, ∃ l m, x = fitL l m := by
  induction ls generalizing n with
  | nil => intro x hx; cases hx
  | cons l r ih =>
    intro x hx
    rcases List.mem_cons.1 hx with rfl | hx
    · exact ⟨l, n, rfl⟩
    · exact ih _ x hx
end Go.Proofs.YtmfeggeinoaheaaDoor
