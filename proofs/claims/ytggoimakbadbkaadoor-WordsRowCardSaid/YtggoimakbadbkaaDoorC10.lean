/- Layer 10, the reference: Chain, Of. -/
import Derived.Test.YtggoimakbadbkaaDoorG9
import Derived.Test.YtggoimakbadbkaaDoorC9b
namespace Go.Proofs.YtggoimakbadbkaaDoor
set_option maxRecDepth 100000
set_option linter.unusedSimpArgs false

theorem ck_l (m : Nat) (y : List Tok) (h : tin y = m) : compT (List.replicate m Tok.keep) y = y := by
  induction y generalizing m with
  | nil => rw [tin_nil] at h; subst h; rw [List.replicate_zero, compT]
  | cons t y ih =>
    rcases t with c | _ | _
    · rw [compT_ins, ih m (by rw [tin_ins] at h; exact h)]
    · rw [tin_keep] at h; subst h
      rw [List.replicate_succ, compT, ih _ rfl]
    · rw [tin_del] at h; subst h
      rw [List.replicate_succ, compT, ih _ rfl]
theorem ck_r (m : Nat) (x : List Tok) (h : tout x = m) : compT x (List.replicate m Tok.keep) = x := by
  induction x generalizing m with
  | nil => rw [tout_nil] at h; subst h; rw [List.replicate_zero, compT]
  | cons t x ih =>
    rcases t with c | _ | _
    · rw [tout_cins] at h; subst h
      rw [List.replicate_succ, compT, ih _ rfl]
    · rw [tout_keep] at h; subst h
      rw [List.replicate_succ, compT, ih _ rfl]
    · rw [tout_del] at h
      cases m with
      | zero => have e := ih 0 h; rw [List.replicate_zero] at *; rw [compT, e]
      | succ m => have e := ih (m + 1) h; rw [List.replicate_succ] at *; rw [compT, e]
theorem tin_keeps (n : Nat) : tin (List.replicate n Tok.keep) = n := tin_rep .keep (.inl rfl) n
theorem tout_keeps (n : Nat) : tout (List.replicate n Tok.keep) = n := by
  induction n with
  | zero => rfl
  | succ n ih => rw [List.replicate_succ, tout_keep, ih]
/-- A chain of operations that may be, from n to m. -/
def Thru : Int → List (List Sp) → Int → Prop
  | n, [], m => n = m ∧ 0 ≤ n
  | n, l :: r, m => (∀ s ∈ l, OkW s) ∧ inL l = n ∧ 0 ≤ n ∧ n ≤ 1048576 ∧ Thru (outL l) r m
theorem Thru.pos {n m : Int} {ls : List (List Sp)} (h : Thru n ls m) : 0 ≤ n := by
  cases ls with
  | nil => exact h.2
  | cons l r => exact h.2.2.1
theorem thru_append {a b : List (List Sp)} {n m : Int} : Thru n (a ++ b) m ↔ ∃ k, Thru n a k ∧ Thru k b m := by
  induction a generalizing n with
  | nil =>
    constructor
    · exact fun h => ⟨n, ⟨rfl, h.pos⟩, h⟩
    · rintro ⟨k, ⟨rfl, _⟩, h⟩; exact h
  | cons l a ih =>
    constructor
    · rintro ⟨h1, h2, h3, h4, h5⟩
      obtain ⟨k, g1, g2⟩ := ih.1 h5
      exact ⟨k, ⟨h1, h2, h3, h4, g1⟩, g2⟩
    · rintro ⟨k, ⟨h1, h2, h3, h4, h5⟩, g⟩
      exact ⟨h1, h2, h3, h4, ih.2 ⟨k, h5, g⟩⟩
/-- What a chain comes to. -/
def fR : Int → List (List Sp) → List Tok
  | n, [] => List.replicate n.toNat Tok.keep
  | _, l :: r => compT (tok l) (fR (outL l) r)
theorem fR_len {ls : List (List Sp)} {n m : Int} (h : Thru n ls m) : (tin (fR n ls) : Int) = n ∧ (tout (fR n ls) : Int) = m := by
  induction ls generalizing n with
  | nil =>
    obtain ⟨rfl, h0⟩ := h
    unfold fR
    rw [tin_keeps, tout_keeps]; omega
  | cons l r ih =>
    obtain ⟨h1, h2, h3, h4, h5⟩ := h
    obtain ⟨g1, g2⟩ := ih h5
    have t := tin_ok l h1
    have c := compT_len (tok l) (fR (outL l) r) (by omega)
    unfold fR
    omega
theorem fR_append {a b : List (List Sp)} {n k m : Int} (ha : Thru n a k) (hb : Thru k b m) : fR n (a ++ b) = compT (fR n a) (fR k b) := by
  induction a generalizing n with
  | nil =>
    obtain ⟨rfl, h0⟩ := ha
    have t := fR_len hb
    show fR n b = compT (List.replicate n.toNat Tok.keep) (fR n b)
    rw [ck_l _ _ (by omega)]
  | cons l a ih =>
    obtain ⟨h1, h2, h3, h4, h5⟩ := ha
    have e := ih h5
    show compT (tok l) (fR (outL l) (a ++ b)) = compT (compT (tok l) (fR (outL l) a)) (fR k b)
    have t := tin_ok l h1
    have t1 := fR_len h5
    have t2 := fR_len hb
    rw [e, compT_assoc _ _ _ _ (Nat.le_refl _) (by omega) (by omega)]
theorem fR_one {l : List Sp} (h : ∀ s ∈ l, OkW s) : fR (inL l) [l] = tok l := by
  have t := tin_ok l h
  show compT (tok l) (List.replicate (outL l).toNat Tok.keep) = tok l
  rw [ck_r _ _ (by omega)]
theorem fR_okT {ls : List (List Sp)} {n m : Int} (h : Thru n ls m) : OkT (fR n ls) := by
  induction ls generalizing n with
  | nil => exact fun c hc => by have := List.eq_of_mem_replicate hc; cases this
  | cons l r ih =>
    obtain ⟨h1, h2, h3, h4, h5⟩ := h
    exact compT_okT _ _ (tok_okT l h1) (ih h5)
/-- Sums over a row of operations. -/
def lenS (ls : List (List Sp)) : Nat := (ls.map List.length).sum
def nlenS (ls : List (List Sp)) : Nat := (ls.map fun l => (normL l).length).sum
theorem lenS_cons (l : List Sp) (r : List (List Sp)) : lenS (l :: r) = l.length + lenS r := by simp [lenS]
theorem lenS_append (a b : List (List Sp)) : lenS (a ++ b) = lenS a + lenS b := by simp [lenS]
theorem nlenS_cons (l : List Sp) (r : List (List Sp)) : nlenS (l :: r) = (normL l).length + nlenS r := by simp [nlenS]
theorem sumTT_cons (l : List Sp) (r : List (List Sp)) : sumTT (l :: r) = sumT l + sumTT r := by simp [sumTT]
theorem sumTT_append (a b : List (List Sp)) : sumTT (a ++ b) = sumTT a + sumTT b := by simp [sumTT]
theorem keepL_tok (n : Int) : tok (keepL n) = List.replicate n.toNat Tok.keep := by
  unfold keepL
  split
  · rename_i e; rw [e]; rfl
  · rw [tok_cons, tok_nil, tokS_num _ _ _ (by decide), List.append_nil]; rfl
theorem keepL_okW (n : Int) (h0 : 0 ≤ n) : ∀ s ∈ keepL n, OkW s := by
  unfold keepL
  split
  · intro s hs; cases hs
  · intro s hs
    rw [List.mem_singleton] at hs
    subst hs
    exact .inr ⟨.inl rfl, h0, rfl⟩
theorem keepL_isN (n : Int) : isN (keepL n) := by
  unfold keepL
  split
  · exact trivial
  · rename_i e
    exact fun h => e h.1
theorem keepL_len (n : Int) : (keepL n).length ≤ 1 := by unfold keepL; split <;> simp
/-- A row of spans that is what a chain comes to. -/
structure Seg (n : Int) (ls : List (List Sp)) (m : Int) (L : List Sp) : Prop where
  ok : ∀ s ∈ L, OkW s
  tk : tok L = fR n ls
  inb : inL L = n
  out : outL L = m
  len : L.length ≤ lenS ls
  txt : sumT L ≤ sumTT ls
theorem seg_one {l : List Sp} {n m : Int} (h : Thru n [l] m) : Seg n [l] m l := by
  obtain ⟨h1, rfl, h3, h4, h5, h6⟩ := h
  exact ⟨h1, (fR_one h1).symm, rfl, h5, by simp [lenS], by simp [sumTT]⟩
theorem seg_comp {a b : List (List Sp)} {n k m : Int} {X Y : List Sp} (ha : Thru n a k) (hb : Thru k b m) (hX : Seg n a k X) (hY : Seg k b m Y) (hn : n ≤ 1048576) :
    Seg n (a ++ b) m (compL X Y) ∧ isN (compL X Y) := by
  obtain ⟨h1, h2, h3, h4, h5, h6, h7, h8⟩ := compL_all X Y hX.ok hY.ok (by rw [hX.out, hY.inb]) (by rw [hX.inb]; exact hn)
  have e1 := norm_len X
  have e2 := norm_len Y
  have := hX.len; have := hY.len; have := hX.txt; have := hY.txt
  refine ⟨⟨h1, by rw [h2, hX.tk, hY.tk, fR_append ha hb], by rw [h4, hX.inb], by rw [h5, hY.out], ?_, ?_⟩, h3⟩
  · rw [lenS_append]; omega
  · rw [sumTT_append]; omega
theorem spT_isN {L : List Sp} (h : isN L) (ho : ∀ s ∈ L, OkW s) : L = spT (tok L) := by
  rw [← norm_tok L ho]
  exact (is_norm L h).symm
/-- The last one first: what the reference keeps. -/
theorem thru_snoc {a : List (List Sp)} {l : List Sp} {n m : Int} : Thru n (a ++ [l]) m ↔ Thru n a (inL l) ∧ (∀ s ∈ l, OkW s) ∧ 0 ≤ inL l ∧ inL l ≤ 1048576 ∧ outL l = m ∧ 0 ≤ outL l := by
  rw [thru_append]
  constructor
  · rintro ⟨k, h, h1, rfl, h3, h4, h5, h6⟩
    exact ⟨h, h1, h3, h4, h5, h6⟩
  · rintro ⟨h, h1, h3, h4, h5, h6⟩
    exact ⟨_, h, h1, rfl, h3, h4, h5, h6⟩
/-- Whether operations are a chain. -/
def chE : Int → List (List Sp) → Int
  | _, [] => 0
  | n, l :: r => if mayL l = 0 then (if inL l = n then chE (outL l) r else 5) else mayL l
def chN : Int → List (List Sp) → Int
  | n, [] => n
  | _, l :: r => chN (outL l) r
def chainE (n : Int) (ls : List (List Sp)) : Int := if 0 ≤ n ∧ n ≤ 1048576 then chE n ls else 2
def chainN (n : Int) (ls : List (List Sp)) : Int := if chainE n ls = 0 then chN n ls else 0
def fuseL (n : Int) (ls : List (List Sp)) : List Sp := if chainE n ls = 0 then spT (fR n ls) else []
theorem may_okW {l : List Sp} (h : mayL l = 0) (hl : l.length ≤ 1000) : (∀ s ∈ l, OkW s) ∧ 0 ≤ inL l ∧ inL l ≤ 1048576 := by
  obtain ⟨h1, h2, h3⟩ := mayL_all h (by omega)
  exact ⟨fun s hs => okW_of_may (h1 s hs), h2, h3⟩
theorem chE_thru {ls : List (List Sp)} {n : Int} (h : chE n ls = 0) (h0 : 0 ≤ n) (hl : ∀ l ∈ ls, l.length ≤ 1000) : Thru n ls (chN n ls) := by
  induction ls generalizing n with
  | nil => exact ⟨rfl, h0⟩
  | cons l r ih =>
    unfold chE at h
    by_cases hm : mayL l = 0
    · rw [if_pos hm] at h
      by_cases hi : inL l = n
      · rw [if_pos hi] at h
        obtain ⟨a1, a2, a3⟩ := may_okW hm (hl l (.head _))
        exact ⟨a1, hi, by omega, by omega, ih h (outL_le l a1).1 fun x hx => hl x (.tail _ hx)⟩
      · rw [if_neg hi] at h; omega
    · rw [if_neg hm] at h; exact absurd h hm
theorem thru_chE {ls : List (List Sp)} {n m : Int} (h : Thru n ls m) : chE n ls = 0 ∧ chN n ls = m := by
  induction ls generalizing n with
  | nil => exact ⟨rfl, h.1⟩
  | cons l r ih =>
    obtain ⟨h1, h2, h3, h4, h5⟩ := h
    have hm := (okW_mayL l h1 (by omega)).1
    unfold chE chN
    rw [if_pos hm, if_pos h2]
    exact ih h5
theorem thru_chainE {ls : List (List Sp)} {n m : Int} (h : Thru n ls m) (h1 : n ≤ 1048576) : chainE n ls = 0 ∧ chainN n ls = m ∧ fuseL n ls = spT (fR n ls) := by
  obtain ⟨a, b⟩ := thru_chE h
  have e : chainE n ls = 0 := by unfold chainE; rw [if_pos ⟨h.pos, h1⟩]; exact a
  refine ⟨e, ?_, ?_⟩
  · unfold chainN; rw [if_pos e]; exact b
  · unfold fuseL; rw [if_pos e]
/-- Step by step, for the loops. -/
theorem chE_drop {ls : List (List Sp)} {n : Int} {j : Nat} (hj : j < ls.length) : chE n (ls.drop j) = (if mayL ls[j] = 0 then (if inL ls[j] = n then chE (outL ls[j]) (ls.drop (j + 1)) else 5) else mayL ls[j]) ∧ chN n (ls.drop j) = chN (outL ls[j]) (ls.drop (j + 1)) := by
  rw [List.drop_eq_getElem_cons hj]
  exact ⟨rfl, rfl⟩
theorem fit_chain (ls : List (List Sp)) (n : Int) (h0 : 0 ≤ n) (h1 : n + 312 * ls.length ≤ 1048576) : Thru n (chainL ls n) (endL ls n) := by
  induction ls generalizing n with
  | nil => exact ⟨rfl, h0⟩
  | cons l r ih =>
    have hb : n + 312 ≤ 1048576 ∧ n + 312 + 312 * r.length ≤ 1048576 := by rw [List.length_cons] at h1; omega
    obtain ⟨a1, a2⟩ := fitL_all l n h0 (by omega)
    obtain ⟨b1, b2⟩ := fit_out l n h0 (by omega)
    exact ⟨fun s hs => okW_of_may (a1 s hs), a2, h0, by omega, ih _ b1 (by omega)⟩
theorem chainL_lenS (ls : List (List Sp)) (n : Int) : lenS (chainL ls n) ≤ 13 * ls.length ∧ sumTT (chainL ls n) ≤ 312 * ls.length := by
  induction ls generalizing n with
  | nil => exact ⟨Nat.le_refl _, Nat.le_refl _⟩
  | cons l r ih =>
    obtain ⟨g1, g2⟩ := ih (outL (fitL l n))
    have e1 := fitL_len l n
    have e2 := fit_sumT l n
    rw [List.length_cons]
    constructor
    · show lenS (fitL l n :: chainL r (outL (fitL l n))) ≤ _
      rw [lenS_cons]; omega
    · show sumTT (fitL l n :: chainL r (outL (fitL l n))) ≤ _
      rw [sumTT_cons]; omega
theorem le_lenS {ls : List (List Sp)} : ∀ l ∈ ls, l.length ≤ lenS ls ∧ sumT l ≤ sumTT ls := by
  induction ls with
  | nil => exact fun l hl => by cases hl
  | cons x r ih =>
    intro l hl
    rw [lenS_cons, sumTT_cons]
    rcases List.mem_cons.1 hl with rfl | hl
    · omega
    · have := ih l hl; omega
/-- What is told is small. -/
theorem fR_ins (f : Nat → Nat) {ls : List (List Sp)} {n m : Int} (h : Thru n ls m) : insW f (fR n ls) ≤ (ls.map fun l => insW f (tok l)).sum := by
  induction ls generalizing n with
  | nil =>
    show insW f (List.replicate n.toNat Tok.keep) ≤ 0
    generalize n.toNat = k
    induction k with
    | zero => exact Nat.le_refl _
    | succ k ih => rw [List.replicate_succ, insW_keep]; exact ih
  | cons l r ih =>
    obtain ⟨h1, h2, h3, h4, h5⟩ := h
    have g := ih h5
    have c := comp_insW f (tok l) (fR (outL l) r)
    rw [List.map_cons, List.sum_cons]
    show insW f (compT (tok l) (fR (outL l) r)) ≤ _
    omega
theorem fR_len2 {ls : List (List Sp)} {n m : Int} (h : Thru n ls m) (hne : ls ≠ []) : (spT (fR n ls)).length ≤ nlenS ls := by
  induction ls generalizing n with
  | nil => exact absurd rfl hne
  | cons l r ih =>
    have h' := h
    obtain ⟨h1, h2, h3, h4, h5⟩ := h
    have tl := tok_okT l h1
    have hl : (normL l).length = chg 0 (tok l) := by rw [norm_tok l h1, (spT_len _ tl).1]
    rw [nlenS_cons, hl]
    rw [(spT_len _ (fR_okT h')).1]
    cases r with
    | nil =>
      subst h2
      rw [fR_one h1]; omega
    | cons x r =>
      have g := ih h5 (by simp)
      rw [(spT_len _ (fR_okT h5)).1] at g
      have t := tin_ok l h1
      have t1 := fR_len h5
      have c := comp_chg _ (tok l) (fR (outL l) (x :: r)) 0 0 0 (Nat.le_refl _) (by omega) (fun e => by cases e) (fun e => by cases e) (fun e => by cases e) (fun e => by cases e) (fun e => by cases e)
      show chg 0 (compT (tok l) (fR (outL l) (x :: r))) ≤ _
      omega
theorem fR_small {ls : List (List Sp)} {n m : Int} (h : Thru n ls m) (_hn : n ≤ 1048576) : (∀ s ∈ spT (fR n ls), OkW s) ∧ tok (spT (fR n ls)) = fR n ls ∧ isN (spT (fR n ls)) ∧ inL (spT (fR n ls)) = n ∧ outL (spT (fR n ls)) = m ∧
    (spT (fR n ls)).length ≤ 1 + lenS ls ∧ sumT (spT (fR n ls)) ≤ sumTT ls := by
  have ht := fR_okT h
  have hz := spT_okW _ ht
  have e := tok_spT _ ht
  have t := tin_ok _ hz
  rw [e] at t
  have t1 := fR_len h
  refine ⟨hz, e, spT_is _ ht, by omega, by omega, ?_, ?_⟩
  · cases ls with
    | nil =>
      have hk : spT (fR n []) = keepL n := by
        show spT (List.replicate n.toNat Tok.keep) = keepL n
        have g := (keepL_tok n)
        rw [← g, ← spT_isN (keepL_isN n) (keepL_okW n h.pos)]
      rw [hk]
      have := keepL_len n
      omega
    | cons l r =>
      have g := fR_len2 h (by simp)
      have hb : ∀ ls : List (List Sp), nlenS ls ≤ lenS ls := by
        intro ls
        induction ls with
        | nil => exact Nat.le_refl _
        | cons l r ih => rw [nlenS_cons, lenS_cons]; have := norm_len l; omega
      have := hb (l :: r)
      omega
  · rw [sumT_spT, encs_insW]
    have g := fR_ins (fun c => (enc1 c).length) h
    refine Nat.le_trans g ?_
    clear ht hz e t t1 g _hn
    induction ls generalizing n with
    | nil => exact Nat.le_refl _
    | cons l r ih =>
      obtain ⟨h1, h2, h3, h4, h5⟩ := h
      have g := ih h5
      have hi := insT_sum l h1
      rw [encs_insW] at hi
      rw [List.map_cons, List.sum_cons, sumTT_cons]
      omega
structure Sm (ls : List (List Sp)) : Prop where
  len : lenS ls ≤ 900
  txt : sumTT ls ≤ 400000000
  num : ls.length ≤ 100001
/-- A row of operations that is small. -/
structure Small (ls : List (List Sp)) : Prop where
  len : lenS ls ≤ 800
  txt : sumTT ls ≤ 400000000
  num : ls.length ≤ 100000
theorem Small.each {ls : List (List Sp)} (h : Small ls) : ∀ l ∈ ls, l.length ≤ 1000 := fun l hl => by have := (le_lenS l hl).1; have := h.len; omega
theorem chain_thru {n : Int} {ls : List (List Sp)} (h : chainE n ls = 0) (hl : ∀ l ∈ ls, l.length ≤ 1000) : (0 ≤ n ∧ n ≤ 1048576) ∧ Thru n ls (chN n ls) := by
  unfold chainE at h
  by_cases hn : 0 ≤ n ∧ n ≤ 1048576
  · rw [if_pos hn] at h
    exact ⟨hn, chE_thru h hn.1 hl⟩
  · rw [if_neg hn] at h; omega
theorem fR_nil (n : Int) (h0 : 0 ≤ n) : spT (fR n []) = keepL n := by
  show spT (List.replicate n.toNat Tok.keep) = keepL n
  rw [← keepL_tok n, ← spT_isN (keepL_isN n) (keepL_okW n h0)]
theorem thru_take {ls : List (List Sp)} {n m : Int} (h : Thru n ls m) (j : Nat) : ∃ k, Thru n (ls.take j) k ∧ Thru k (ls.drop j) m := by
  rw [← List.take_append_drop j ls] at h
  exact thru_append.1 h
theorem lenS_take (ls : List (List Sp)) (j : Nat) : lenS (ls.take j) + lenS (ls.drop j) = lenS ls ∧ sumTT (ls.take j) + sumTT (ls.drop j) = sumTT ls := by
  have h := List.take_append_drop j ls
  constructor
  · rw [← lenS_append, h]
  · rw [← sumTT_append, h]
theorem take_snoc {ls : List (List Sp)} {j : Nat} (hj : j < ls.length) : ls.take (j + 1) = ls.take j ++ [ls[j]] := by
  rw [List.take_add_one, List.getElem?_eq_getElem hj]; rfl
theorem step10 {ls : List (List Sp)} {m k : Int} (h : Thru m ls k) (hm : m ≤ 1048576) (hS : Small ls) {j : Nat} (hj : j < ls.length) :
    (spT (fR m (ls.take j))).length ≤ 1000 ∧ ls[j].length ≤ 1000 ∧ (∀ s ∈ spT (fR m (ls.take j)), s.2.2.size ≤ 1000000000) ∧ (∀ s ∈ ls[j], s.2.2.size ≤ 1000000000) ∧
    sumT (spT (fR m (ls.take j))) + sumT ls[j] ≤ 900000000 ∧ compE (spT (fR m (ls.take j))) ls[j] = 0 ∧ compL (spT (fR m (ls.take j))) ls[j] = spT (fR m (ls.take (j + 1))) := by
  obtain ⟨k1, g1, _⟩ := thru_take h (j + 1)
  rw [take_snoc hj] at g1
  obtain ⟨g2, o1, o2, o3, o4, o5⟩ := thru_snoc.1 g1
  obtain ⟨a1, a2, a3, a4, a5, a6, a7⟩ := fR_small g2 hm
  have e1 := lenS_take ls j
  have hmem := List.getElem_mem hj
  have e2 := le_lenS _ hmem
  have h1 := hS.len
  have h2 := hS.txt
  have hs1 : ∀ s ∈ spT (fR m (ls.take j)), s.2.2.size ≤ 1000000000 := fun s hs => by have := le_sumT _ s hs; omega
  have hs2 : ∀ s ∈ ls[j], s.2.2.size ≤ 1000000000 := fun s hs => by have := le_sumT _ s hs; omega
  refine ⟨by omega, by omega, hs1, hs2, by omega, ?_, ?_⟩
  · unfold compE
    rw [if_pos (okW_mayL _ a1 (by omega)).1, if_pos (okW_mayL _ o1 (by omega)).1, if_pos a5]
  · unfold compL
    rw [take_snoc hj, a2]
    have hone : Thru (inL ls[j]) [ls[j]] k1 := ⟨o1, rfl, o2, o3, o4, o5⟩
    rw [fR_append g2 hone, fR_one o1]
/-- The same operations with what keeps all ahead. -/
theorem thru_keep {ls : List (List Sp)} {n m : Int} (h : Thru n ls m) (h1 : n ≤ 1048576) : Thru n (keepL n :: ls) m ∧ fR n (keepL n :: ls) = fR n ls := by
  have h0 := h.pos
  have ho : outL (keepL n) = n := by
    unfold keepL
    split
    · rename_i e; rw [e]; rfl
    · show n + 0 = n; omega
  have hi : inL (keepL n) = n := by
    unfold keepL
    split
    · rename_i e; rw [e]; rfl
    · show n + 0 = n; omega
  refine ⟨⟨keepL_okW n h0, hi, h0, h1, by rw [ho]; exact h⟩, ?_⟩
  show compT (tok (keepL n)) (fR (outL (keepL n)) ls) = fR n ls
  rw [ho, keepL_tok n, ck_l _ _ (by have := fR_len h; omega)]
theorem seg_isN {n m : Int} {ls : List (List Sp)} {L : List Sp} (h : Seg n ls m L) (hi : isN L) : L = spT (fR n ls) := by
  rw [← h.tk]; exact spT_isN hi h.ok
end Go.Proofs.YtggoimakbadbkaaDoor
namespace Go.Proofs.YtggoimakbadbkaaDoor
open Go.RowKit
set_option maxRecDepth 100000
set_option maxHeartbeats 4000000
end Go.Proofs.YtggoimakbadbkaaDoor
