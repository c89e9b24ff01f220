/- Packed: G9 C10 Nu C13. -/
import Derived.ArgAppend
import Derived.BigQuiet
import Derived.BigRegion
import Derived.ChangeAlike
import Derived.ChangeOld
import Derived.Deep.Cut
import Derived.Deep.CutRange
import Derived.Deep.DrawnRows
import Derived.Deep.MidRow
import Derived.Deep.QuietTactic
import Derived.Deep.RegionHeld3
import Derived.Deep.RegionWith
import Derived.Deep.Slices
import Derived.Deep.Upon
import Derived.Laws.AppendOwnNone
import Derived.Laws.BytesArg
import Derived.Laws.IdiomCopy
import Derived.Laws.MakeOwn
import Derived.Laws.ResultCell
import Derived.Laws.Rows
import Derived.Lib.AppendStr
import Derived.Lib.Builder
import Derived.Lib.DecodeN
import Derived.Lib.Hide
import Derived.Lib.Strings
import Derived.Lib.UnsafeStr
import Derived.LoopIn
import Derived.LoopNIn
import Derived.OpenShut
import Derived.OwnWalkIn
import Derived.ProofKit
import Derived.RangeFuncBound
import Derived.RangeFuncCalls
import Derived.RangeFuncLeaves
import Derived.RangeFuncNested
import Derived.RegionTactic
import Derived.Shelf.Abstract
import Derived.Shelf.RegionOpen
import Derived.ShutString
import Derived.Sort.CutIn
import Derived.StillTail
import Derived.StillTailTactics
import Derived.TacticsInMore
import Derived.Test.YtgcaphjjigpjlaaDoorProg
import Derived.Test.YtgcaphjjigpjlaaDoorShelf
import Derived.WalkKit
import Derived.WalkLawsBesides
import Derived.WalkSpells
import Derived.Test.YtgcaphjjigpjlaaDoorQ00
import Derived.Test.YtgcaphjjigpjlaaDoorQ01
import Derived.Test.YtgcaphjjigpjlaaDoorQ02
import Derived.Test.YtgcaphjjigpjlaaDoorQ03
import Derived.Test.YtgcaphjjigpjlaaDoorQ04
import Derived.Test.YtgcaphjjigpjlaaDoorQ05
import Derived.Test.YtgcaphjjigpjlaaDoorQ06
import Derived.Test.YtgcaphjjigpjlaaDoorQ07
import Derived.Test.YtgcaphjjigpjlaaDoorQ08
import Derived.Test.YtgcaphjjigpjlaaDoorQ10
import Derived.Test.YtgcaphjjigpjlaaDoorQ12
import Derived.Test.YtgcaphjjigpjlaaDoorQ13
import Derived.Test.YtgcaphjjigpjlaaDoorQ14
import Derived.Test.YtgcaphjjigpjlaaDoorQ19
import Derived.Test.YtgcaphjjigpjlaaDoorQ20
namespace Go.Proofs.YtgcaphjjigpjlaaDoor
open Go.RowKit
set_option maxRecDepth 100000
set_option maxHeartbeats 1000000
structure Good (X : List Sp) : Prop where
  ok : ∀ s ∈ X, OkW s
  len : X.length ≤ 300
  txt : sumT X ≤ 100000
  inb : inL X ≤ 100000
theorem Good.may {X : List Sp} (h : Good X) : mayL X = 0 := (okW_mayL X h.ok (by have := h.inb; omega)).1
theorem Good.in0 {X : List Sp} (h : Good X) : 0 ≤ inL X := (okW_mayL X h.ok (by have := h.inb; omega)).2
theorem Good.out0 {X : List Sp} (h : Good X) : 0 ≤ outL X := (outL_le X h.ok).1
theorem Good.size {X : List Sp} (h : Good X) : ∀ s ∈ X, s.2.2.size ≤ 1000000000 := fun s hs => by have := le_sumT X s hs; have := h.txt; omega
theorem Good.okn {X : List Sp} (h : Good X) : Ok X := ⟨fun s hs => (h.ok s hs).nonneg, by have := okW_N X h.ok; have := h.inb; omega, by have := h.txt; omega⟩
theorem Good.tin {X : List Sp} (h : Good X) : (tin (tok X) : Int) = inL X := (tin_ok X h.ok).1
theorem Good.tout {X : List Sp} (h : Good X) : (tout (tok X) : Int) = outL X := (tin_ok X h.ok).2
theorem good_fit (l : List Sp) (M : Int) (h0 : 0 ≤ M) (h1 : M ≤ 100000) : Good (fitL l M) ∧ inL (fitL l M) = M ∧ 0 ≤ outL (fitL l M) ∧ outL (fitL l M) ≤ M + 312 ∧ (fitL l M).length ≤ 13 ∧ sumT (fitL l M) ≤ 312 := by
  obtain ⟨hm, hi⟩ := fitL_all l M h0 (by omega)
  obtain ⟨o0, o1⟩ := fit_out l M h0 (by omega)
  have hl := fitL_len l M
  have ht := fit_sumT l M
  exact ⟨⟨fun s hs => okW_of_may (hm s hs), by omega, by omega, by omega⟩, hi, o0, o1, hl, ht⟩
def TellsL (w : World) (L : List Sp) (e : Ending) (w' : World) : Prop := Ext w w' ∧ ∃ A n c, e = .returned (.slice A n c) ∧ RdO w' A n c L
end Go.Proofs.YtgcaphjjigpjlaaDoor
namespace Go.Proofs.YtgcaphjjigpjlaaDoor
set_option maxRecDepth 100000
set_option linter.unusedSimpArgs false
theorem ck_l (m : Nat) (y : List Tok) (h : tin y = m) : compT (List.replicate m Tok.keep) y = y := by
  induction y generalizing m with
  | nil => rw [tin_nil] at h; subst h; rw [List.replicate_zero, compT]
  | cons t y ih =>
    rcases t with c | _ | _
    · rw [compT_ins, ih m (by rw [tin_ins] at h; exact h)]
    · rw [tin_keep] at h; subst h
      rw [List.replicate_succ, compT, ih _ rfl]
    · rw [tin_del] at h; subst h
      rw [List.replicate_succ, compT, ih _ rfl]
theorem ck_r (m : Nat) (x : List Tok) (h : tout x = m) : compT x (List.replicate m Tok.keep) = x := by
  induction x generalizing m with
  | nil => rw [tout_nil] at h; subst h; rw [List.replicate_zero, compT]
  | cons t x ih =>
    rcases t with c | _ | _
    · rw [tout_cins] at h; subst h
      rw [List.replicate_succ, compT, ih _ rfl]
    · rw [tout_keep] at h; subst h
      rw [List.replicate_succ, compT, ih _ rfl]
    · rw [tout_del] at h
      cases m with
      | zero => have e := ih 0 h; rw [List.replicate_zero] at *; rw [compT, e]
      | succ m => have e := ih (m + 1) h; rw [List.replicate_succ] at *; rw [compT, e]
theorem tin_keeps (n : Nat) : tin (List.replicate n Tok.keep) = n := tin_rep .keep (.inl rfl) n
theorem tout_keeps (n : Nat) : tout (List.replicate n Tok.keep) = n := by
  induction n with
  | zero => rfl
  | succ n ih => rw [List.replicate_succ, tout_keep, ih]
def Thru : Int → List (List Sp) → Int → Prop
  | n, [], m => n = m ∧ 0 ≤ n
  | n, l :: r, m => (∀ s ∈ l, OkW s) ∧ inL l = n ∧ 0 ≤ n ∧ n ≤ 1048576 ∧ Thru (outL l) r m
theorem Thru.pos {n m : Int} {ls : List (List Sp)} (h : Thru n ls m) : 0 ≤ n := by
  cases ls with
  | nil => exact h.2
  | cons l r => exact h.2.2.1
theorem thru_append {a b : List (List Sp)} {n m : Int} : Thru n (a ++ b) m ↔ ∃ k, Thru n a k ∧ Thru k b m := by
  induction a generalizing n with
  | nil =>
    constructor
    · exact fun h => ⟨n, ⟨rfl, h.pos⟩, h⟩
    · rintro ⟨k, ⟨rfl, _⟩, h⟩; exact h
  | cons l a ih =>
    constructor
    · rintro ⟨h1, h2, h3, h4, h5⟩
      obtain ⟨k, g1, g2⟩ := ih.1 h5
      exact ⟨k, ⟨h1, h2, h3, h4, g1⟩, g2⟩
    · rintro ⟨k, ⟨h1, h2, h3, h4, h5⟩, g⟩
      exact ⟨h1, h2, h3, h4, ih.2 ⟨k, h5, g⟩⟩
def fR : Int → List (List Sp) → List Tok
  | n, [] => List.replicate n.toNat Tok.keep
  | _, l :: r => compT (tok l) (fR (outL l) r)
theorem fR_len {ls : List (List Sp)} {n m : Int} (h : Thru n ls m) : (tin (fR n ls) : Int) = n ∧ (tout (fR n ls) : Int) = m := by
  induction ls generalizing n with
  | nil =>
    obtain ⟨rfl, h0⟩ := h
    unfold fR
    rw [tin_keeps, tout_keeps]; omega
  | cons l r ih =>
    obtain ⟨h1, h2, h3, h4, h5⟩ := h
    obtain ⟨g1, g2⟩ := ih h5
    have t := tin_ok l h1
    have c := compT_len (tok l) (fR (outL l) r) (by omega)
    unfold fR
    omega
theorem fR_append {a b : List (List Sp)} {n k m : Int} (ha : Thru n a k) (hb : Thru k b m) : fR n (a ++ b) = compT (fR n a) (fR k b) := by
  induction a generalizing n with
  | nil =>
    obtain ⟨rfl, h0⟩ := ha
    have t := fR_len hb
    show fR n b = compT (List.replicate n.toNat Tok.keep) (fR n b)
    rw [ck_l _ _ (by omega)]
  | cons l a ih =>
    obtain ⟨h1, h2, h3, h4, h5⟩ := ha
    have e := ih h5
    show compT (tok l) (fR (outL l) (a ++ b)) = compT (compT (tok l) (fR (outL l) a)) (fR k b)
    have t := tin_ok l h1
    have t1 := fR_len h5
    have t2 := fR_len hb
    rw [e, compT_assoc _ _ _ _ (Nat.le_refl _) (by omega) (by omega)]
theorem fR_one {l : List Sp} (h : ∀ s ∈ l, OkW s) : fR (inL l) [l] = tok l := by
  have t := tin_ok l h
  show compT (tok l) (List.replicate (outL l).toNat Tok.keep) = tok l
  rw [ck_r _ _ (by omega)]
theorem fR_okT {ls : List (List Sp)} {n m : Int} (h : Thru n ls m) : OkT (fR n ls) := by
  induction ls generalizing n with
  | nil => exact fun c hc => by have := List.eq_of_mem_replicate hc; cases this
  | cons l r ih =>
    obtain ⟨h1, h2, h3, h4, h5⟩ := h
    exact compT_okT _ _ (tok_okT l h1) (ih h5)
def lenS (ls : List (List Sp)) : Nat := (ls.map List.length).sum
def nlenS (ls : List (List Sp)) : Nat := (ls.map fun l => (normL l).length).sum
theorem lenS_cons (l : List Sp) (r : List (List Sp)) : lenS (l :: r) = l.length + lenS r := by simp [lenS]
theorem lenS_append (a b : List (List Sp)) : lenS (a ++ b) = lenS a + lenS b := by simp [lenS]
theorem nlenS_cons (l : List Sp) (r : List (List Sp)) : nlenS (l :: r) = (normL l).length + nlenS r := by simp [nlenS]
theorem sumTT_cons (l : List Sp) (r : List (List Sp)) : sumTT (l :: r) = sumT l + sumTT r := by simp [sumTT]
theorem sumTT_append (a b : List (List Sp)) : sumTT (a ++ b) = sumTT a + sumTT b := by simp [sumTT]
theorem keepL_tok (n : Int) : tok (keepL n) = List.replicate n.toNat Tok.keep := by
  unfold keepL
  split
  · rename_i e; rw [e]; rfl
  · rw [tok_cons, tok_nil, tokS_num _ _ _ (by decide), List.append_nil]; rfl
theorem keepL_okW (n : Int) (h0 : 0 ≤ n) : ∀ s ∈ keepL n, OkW s := by
  unfold keepL
  split
  · intro s hs; cases hs
  · intro s hs
    rw [List.mem_singleton] at hs
    subst hs
    exact .inr ⟨.inl rfl, h0, rfl⟩
theorem keepL_isN (n : Int) : isN (keepL n) := by
  unfold keepL
  split
  · exact trivial
  · rename_i e
    exact fun h => e h.1
theorem keepL_len (n : Int) : (keepL n).length ≤ 1 := by unfold keepL; split <;> simp
structure Seg (n : Int) (ls : List (List Sp)) (m : Int) (L : List Sp) : Prop where
  ok : ∀ s ∈ L, OkW s
  tk : tok L = fR n ls
  inb : inL L = n
  out : outL L = m
  len : L.length ≤ lenS ls
  txt : sumT L ≤ sumTT ls
theorem seg_one {l : List Sp} {n m : Int} (h : Thru n [l] m) : Seg n [l] m l := by
  obtain ⟨h1, rfl, h3, h4, h5, h6⟩ := h
  exact ⟨h1, (fR_one h1).symm, rfl, h5, by simp [lenS], by simp [sumTT]⟩
theorem seg_comp {a b : List (List Sp)} {n k m : Int} {X Y : List Sp} (ha : Thru n a k) (hb : Thru k b m) (hX : Seg n a k X) (hY : Seg k b m Y) (hn : n ≤ 1048576) :
    Seg n (a ++ b) m (compL X Y) ∧ isN (compL X Y) := by
  obtain ⟨h1, h2, h3, h4, h5, h6, h7, h8⟩ := compL_all X Y hX.ok hY.ok (by rw [hX.out, hY.inb]) (by rw [hX.inb]; exact hn)
  have e1 := norm_len X
  have e2 := norm_len Y
  have := hX.len; have := hY.len; have := hX.txt; have := hY.txt
  refine ⟨⟨h1, by rw [h2, hX.tk, hY.tk, fR_append ha hb], by rw [h4, hX.inb], by rw [h5, hY.out], ?_, ?_⟩, h3⟩
  · rw [lenS_append]; omega
  · rw [sumTT_append]; omega
theorem spT_isN {L : List Sp} (h : isN L) (ho : ∀ s ∈ L, OkW s) : L = spT (tok L) := by
  rw [← norm_tok L ho]
  exact (is_norm L h).symm
theorem thru_snoc {a : List (List Sp)} {l : List Sp} {n m : Int} : Thru n (a ++ [l]) m ↔ Thru n a (inL l) ∧ (∀ s ∈ l, OkW s) ∧ 0 ≤ inL l ∧ inL l ≤ 1048576 ∧ outL l = m ∧ 0 ≤ outL l := by
  rw [thru_append]
  constructor
  · rintro ⟨k, h, h1, rfl, h3, h4, h5, h6⟩
    exact ⟨h, h1, h3, h4, h5, h6⟩
  · rintro ⟨h, h1, h3, h4, h5, h6⟩
    exact ⟨_, h, h1, rfl, h3, h4, h5, h6⟩
def chE : Int → List (List Sp) → Int
  | _, [] => 0
  | n, l :: r => if mayL l = 0 then (if inL l = n then chE (outL l) r else 5) else mayL l
def chN : Int → List (List Sp) → Int
  | n, [] => n
  | _, l :: r => chN (outL l) r
def chainE (n : Int) (ls : List (List Sp)) : Int := if 0 ≤ n ∧ n ≤ 1048576 then chE n ls else 2
def chainN (n : Int) (ls : List (List Sp)) : Int := if chainE n ls = 0 then chN n ls else 0
def fuseL (n : Int) (ls : List (List Sp)) : List Sp := if chainE n ls = 0 then spT (fR n ls) else []
theorem may_okW {l : List Sp} (h : mayL l = 0) (hl : l.length ≤ 1000) : (∀ s ∈ l, OkW s) ∧ 0 ≤ inL l ∧ inL l ≤ 1048576 := by
  obtain ⟨h1, h2, h3⟩ := mayL_all h (by omega)
  exact ⟨fun s hs => okW_of_may (h1 s hs), h2, h3⟩
theorem chE_thru {ls : List (List Sp)} {n : Int} (h : chE n ls = 0) (h0 : 0 ≤ n) (hl : ∀ l ∈ ls, l.length ≤ 1000) : Thru n ls (chN n ls) := by
  induction ls generalizing n with
  | nil => exact ⟨rfl, h0⟩
  | cons l r ih =>
    unfold chE at h
    by_cases hm : mayL l = 0
    · rw [if_pos hm] at h
      by_cases hi : inL l = n
      · rw [if_pos hi] at h
        obtain ⟨a1, a2, a3⟩ := may_okW hm (hl l (.head _))
        exact ⟨a1, hi, by omega, by omega, ih h (outL_le l a1).1 fun x hx => hl x (.tail _ hx)⟩
      · rw [if_neg hi] at h; omega
    · rw [if_neg hm] at h; exact absurd h hm
theorem thru_chE {ls : List (List Sp)} {n m : Int} (h : Thru n ls m) : chE n ls = 0 ∧ chN n ls = m := by
  induction ls generalizing n with
  | nil => exact ⟨rfl, h.1⟩
  | cons l r ih =>
    obtain ⟨h1, h2, h3, h4, h5⟩ := h
    have hm := (okW_mayL l h1 (by omega)).1
    unfold chE chN
    rw [if_pos hm, if_pos h2]
    exact ih h5
theorem thru_chainE {ls : List (List Sp)} {n m : Int} (h : Thru n ls m) (h1 : n ≤ 1048576) : chainE n ls = 0 ∧ chainN n ls = m ∧ fuseL n ls = spT (fR n ls) := by
  obtain ⟨a, b⟩ := thru_chE h
  have e : chainE n ls = 0 := by unfold chainE; rw [if_pos ⟨h.pos, h1⟩]; exact a
  refine ⟨e, ?_, ?_⟩
  · unfold chainN; rw [if_pos e]; exact b
  · unfold fuseL; rw [if_pos e]
theorem chE_drop {ls : List (List Sp)} {n : Int} {j : Nat} (hj : j < ls.length) : chE n (ls.drop j) = (if mayL ls[j] = 0 then (if inL ls[j] = n then chE (outL ls[j]) (ls.drop (j + 1)) else 5) else mayL ls[j]) ∧ chN n (ls.drop j) = chN (outL ls[j]) (ls.drop (j + 1)) := by
  rw [List.drop_eq_getElem_cons hj]
  exact ⟨rfl, rfl⟩
theorem le_lenS {ls : List (List Sp)} : ∀ l ∈ ls, l.length ≤ lenS ls ∧ sumT l ≤ sumTT ls := by
  induction ls with
  | nil => exact fun l hl => by cases hl
  | cons x r ih =>
    intro l hl
    rw [lenS_cons, sumTT_cons]
    rcases List.mem_cons.1 hl with rfl | hl
    · omega
    · have := ih l hl; omega
theorem fR_ins (f : Nat → Nat) {ls : List (List Sp)} {n m : Int} (h : Thru n ls m) : insW f (fR n ls) ≤ (ls.map fun l => insW f (tok l)).sum := by
  induction ls generalizing n with
  | nil =>
    show insW f (List.replicate n.toNat Tok.keep) ≤ 0
    generalize n.toNat = k
    induction k with
    | zero => exact Nat.le_refl _
    | succ k ih => rw [List.replicate_succ, insW_keep]; exact ih
  | cons l r ih =>
    obtain ⟨h1, h2, h3, h4, h5⟩ := h
    have g := ih h5
    have c := comp_insW f (tok l) (fR (outL l) r)
    rw [List.map_cons, List.sum_cons]
    show insW f (compT (tok l) (fR (outL l) r)) ≤ _
    omega
theorem fR_len2 {ls : List (List Sp)} {n m : Int} (h : Thru n ls m) (hne : ls ≠ []) : (spT (fR n ls)).length ≤ nlenS ls := by
  induction ls generalizing n with
  | nil => exact absurd rfl hne
  | cons l r ih =>
    have h' := h
    obtain ⟨h1, h2, h3, h4, h5⟩ := h
    have tl := tok_okT l h1
    have hl : (normL l).length = chg 0 (tok l) := by rw [norm_tok l h1, (spT_len _ tl).1]
    rw [nlenS_cons, hl]
    rw [(spT_len _ (fR_okT h')).1]
    cases r with
    | nil =>
      subst h2
      rw [fR_one h1]; omega
    | cons x r =>
      have g := ih h5 (by simp)
      rw [(spT_len _ (fR_okT h5)).1] at g
      have t := tin_ok l h1
      have t1 := fR_len h5
      have c := comp_chg _ (tok l) (fR (outL l) (x :: r)) 0 0 0 (Nat.le_refl _) (by omega) (fun e => by cases e) (fun e => by cases e) (fun e => by cases e) (fun e => by cases e) (fun e => by cases e)
      show chg 0 (compT (tok l) (fR (outL l) (x :: r))) ≤ _
      omega
theorem fR_small {ls : List (List Sp)} {n m : Int} (h : Thru n ls m) (_hn : n ≤ 1048576) : (∀ s ∈ spT (fR n ls), OkW s) ∧ tok (spT (fR n ls)) = fR n ls ∧ isN (spT (fR n ls)) ∧ inL (spT (fR n ls)) = n ∧ outL (spT (fR n ls)) = m ∧
    (spT (fR n ls)).length ≤ 1 + lenS ls ∧ sumT (spT (fR n ls)) ≤ sumTT ls := by
  have ht := fR_okT h
  have hz := spT_okW _ ht
  have e := tok_spT _ ht
  have t := tin_ok _ hz
  rw [e] at t
  have t1 := fR_len h
  refine ⟨hz, e, spT_is _ ht, by omega, by omega, ?_, ?_⟩
  · cases ls with
    | nil =>
      have hk : spT (fR n []) = keepL n := by
        show spT (List.replicate n.toNat Tok.keep) = keepL n
        have g := (keepL_tok n)
        rw [← g, ← spT_isN (keepL_isN n) (keepL_okW n h.pos)]
      rw [hk]
      have := keepL_len n
      omega
    | cons l r =>
      have g := fR_len2 h (by simp)
      have hb : ∀ ls : List (List Sp), nlenS ls ≤ lenS ls := by
        intro ls
        induction ls with
        | nil => exact Nat.le_refl _
        | cons l r ih => rw [nlenS_cons, lenS_cons]; have := norm_len l; omega
      have := hb (l :: r)
      omega
  · rw [sumT_spT, encs_insW]
    have g := fR_ins (fun c => (enc1 c).length) h
    refine Nat.le_trans g ?_
    clear ht hz e t t1 g _hn
    induction ls generalizing n with
    | nil => exact Nat.le_refl _
    | cons l r ih =>
      obtain ⟨h1, h2, h3, h4, h5⟩ := h
      have g := ih h5
      have hi := insT_sum l h1
      rw [encs_insW] at hi
      rw [List.map_cons, List.sum_cons, sumTT_cons]
      omega
structure Sm (ls : List (List Sp)) : Prop where
  len : lenS ls ≤ 900
  txt : sumTT ls ≤ 400000000
  num : ls.length ≤ 100001
structure Small (ls : List (List Sp)) : Prop where
  len : lenS ls ≤ 800
  txt : sumTT ls ≤ 400000000
  num : ls.length ≤ 100000
theorem Small.each {ls : List (List Sp)} (h : Small ls) : ∀ l ∈ ls, l.length ≤ 1000 := fun l hl => by have := (le_lenS l hl).1; have := h.len; omega
theorem chain_thru {n : Int} {ls : List (List Sp)} (h : chainE n ls = 0) (hl : ∀ l ∈ ls, l.length ≤ 1000) : (0 ≤ n ∧ n ≤ 1048576) ∧ Thru n ls (chN n ls) := by
  unfold chainE at h
  by_cases hn : 0 ≤ n ∧ n ≤ 1048576
  · rw [if_pos hn] at h
    exact ⟨hn, chE_thru h hn.1 hl⟩
  · rw [if_neg hn] at h; omega
theorem fR_nil (n : Int) (h0 : 0 ≤ n) : spT (fR n []) = keepL n := by
  show spT (List.replicate n.toNat Tok.keep) = keepL n
  rw [← keepL_tok n, ← spT_isN (keepL_isN n) (keepL_okW n h0)]
theorem thru_take {ls : List (List Sp)} {n m : Int} (h : Thru n ls m) (j : Nat) : ∃ k, Thru n (ls.take j) k ∧ Thru k (ls.drop j) m := by
  rw [← List.take_append_drop j ls] at h
  exact thru_append.1 h
theorem lenS_take (ls : List (List Sp)) (j : Nat) : lenS (ls.take j) + lenS (ls.drop j) = lenS ls ∧ sumTT (ls.take j) + sumTT (ls.drop j) = sumTT ls := by
  have h := List.take_append_drop j ls
  constructor
  · rw [← lenS_append, h]
  · rw [← sumTT_append, h]
theorem take_snoc {ls : List (List Sp)} {j : Nat} (hj : j < ls.length) : ls.take (j + 1) = ls.take j ++ [ls[j]] := by
  rw [List.take_add_one, List.getElem?_eq_getElem hj]; rfl
theorem thru_keep {ls : List (List Sp)} {n m : Int} (h : Thru n ls m) (h1 : n ≤ 1048576) : Thru n (keepL n :: ls) m ∧ fR n (keepL n :: ls) = fR n ls := by
  have h0 := h.pos
  have ho : outL (keepL n) = n := by
    unfold keepL
    split
    · rename_i e; rw [e]; rfl
    · show n + 0 = n; omega
  have hi : inL (keepL n) = n := by
    unfold keepL
    split
    · rename_i e; rw [e]; rfl
    · show n + 0 = n; omega
  refine ⟨⟨keepL_okW n h0, hi, h0, h1, by rw [ho]; exact h⟩, ?_⟩
  show compT (tok (keepL n)) (fR (outL (keepL n)) ls) = fR n ls
  rw [ho, keepL_tok n, ck_l _ _ (by have := fR_len h; omega)]
theorem seg_isN {n m : Int} {ls : List (List Sp)} {L : List Sp} (h : Seg n ls m L) (hi : isN L) : L = spT (fR n ls) := by
  rw [← h.tk]; exact spT_isN hi h.ok
end Go.Proofs.YtgcaphjjigpjlaaDoor
namespace Go.Proofs.YtgcaphjjigpjlaaDoor
open Go.RowKit
set_option maxRecDepth 100000
set_option maxHeartbeats 4000000
end Go.Proofs.YtgcaphjjigpjlaaDoor
namespace Go.Proofs.YtgcaphjjigpjlaaDoor
set_option maxRecDepth 100000
set_option linter.unusedSimpArgs false
def overE (a s : List Sp) : Int := if mayL a = 0 then (if mayL s = 0 then (if inL a = inL s then 0 else 5) else mayL s) else mayL a
def overL (a s : List Sp) : List Sp := spT (overT (tok a) (tok s))
theorem overE_ok {a s : List Sp} (hE : overE a s = 0) : mayL a = 0 ∧ mayL s = 0 ∧ inL a = inL s := by
  unfold overE at hE
  by_cases hma : mayL a = 0
  · rw [if_pos hma] at hE
    by_cases hmb : mayL s = 0
    · rw [if_pos hmb] at hE
      by_cases hf : inL a = inL s
      · exact ⟨hma, hmb, hf⟩
      · rw [if_neg hf] at hE; exact absurd hE (by decide)
    · rw [if_neg hmb] at hE; exact absurd hE hmb
  · rw [if_neg hma] at hE; exact absurd hE hma
theorem over_inss (us : List Nat) (a b : List Tok) : overT a (us.map Tok.ins ++ b) = List.replicate us.length Tok.keep ++ overT a b := by
  induction us with
  | nil => rfl
  | cons u us ih => rw [List.map_cons, List.cons_append, overT_ins, ih]; rfl
theorem over_putT (us : List Nat) (a b : List Tok) (h : noIns b) : overT (us.map Tok.ins ++ a) b = us.map Tok.ins ++ overT a b := by
  induction us with
  | nil => rfl
  | cons u us ih =>
    rw [List.map_cons, List.cons_append, List.cons_append, ← ih]
    rcases b with _ | ⟨_ | _ | _, b⟩
    · rw [overT]
    · exact absurd h (by simp [noIns])
    · rw [overT]
    · rw [overT]
theorem over_kk (n : Nat) (a b : List Tok) : overT (List.replicate n Tok.keep ++ a) (List.replicate n Tok.keep ++ b) = List.replicate n Tok.keep ++ overT a b := by
  induction n with
  | zero => rfl
  | succ n ih => rw [List.replicate_succ, List.cons_append, List.cons_append, List.cons_append, ← ih, overT]
theorem over_dk (n : Nat) (a b : List Tok) : overT (List.replicate n Tok.del ++ a) (List.replicate n Tok.keep ++ b) = List.replicate n Tok.del ++ overT a b := by
  induction n with
  | zero => rfl
  | succ n ih => rw [List.replicate_succ, List.replicate_succ, List.cons_append, List.cons_append, List.cons_append, ← ih, overT]
theorem over_kd (n : Nat) (a b : List Tok) : overT (List.replicate n Tok.keep ++ a) (List.replicate n Tok.del ++ b) = overT a b := by
  induction n with
  | zero => rfl
  | succ n ih => rw [List.replicate_succ, List.replicate_succ, List.cons_append, List.cons_append, ← ih, overT]
theorem over_dd (n : Nat) (a b : List Tok) : overT (List.replicate n Tok.del ++ a) (List.replicate n Tok.del ++ b) = overT a b := by
  induction n with
  | zero => rfl
  | succ n ih => rw [List.replicate_succ, List.cons_append, List.cons_append, ← ih, overT]
structure RowO (K1 : Int) (K2 K3 : Nat) (xs ys os : List Sp) : Prop where
  x : ∀ s ∈ xs, OkW s ∧ ¬ emp s
  y : ∀ s ∈ ys, OkW s ∧ ¬ emp s
  o : ∀ s ∈ os, OkW s
  n : sumN os + sumN xs + sumN ys + (sumT ys : Int) ≤ K1
  t : sumT os + sumT xs ≤ K2
  l : os.length + xs.length + ys.length ≤ K3
theorem RowO.pops {K1 : Int} {K2 K3 : Nat} {xs ys os : List Sp} (h : RowO K1 K2 K3 xs ys os) : 0 ≤ sumN xs ∧ 0 ≤ sumN ys ∧ 0 ≤ sumN os :=
  ⟨sumN_pos _ fun s hs => (h.x s hs).1.nonneg, sumN_pos _ fun s hs => (h.y s hs).1.nonneg, sumN_pos _ fun s hs => (h.o s hs).nonneg⟩
theorem RowO.putY {K1 : Int} {K2 K3 : Nat} {s : Sp} {xs ys os : List Sp} (h : RowO K1 K2 K3 xs (s :: ys) os) (N : Nat) (hN : N ≤ s.2.2.size) : RowO K1 K2 K3 xs ys (os ++ [(1, (N : Int), ⟨#[]⟩)]) := by
  have h0 := (h.y s (List.mem_cons_self ..)).1.nonneg
  refine ⟨h.x, fun u hu => h.y u (List.mem_cons_of_mem _ hu), fun u hu => ?_, ?_, ?_, ?_⟩
  · rcases List.mem_append.1 hu with hu | hu
    · exact h.o u hu
    · rw [List.mem_singleton] at hu; subst hu; exact .inr ⟨.inl rfl, by simp only; omega, rfl⟩
  · have := h.n; rw [sumN_append, sumN_one]; rw [sumN_cons, sumT_cons] at this; simp only; omega
  · have := h.t; rw [sumT_append, sumT_sing]; have e : (⟨#[]⟩ : ByteArray).size = 0 := rfl; simp only; omega
  · have := h.l; simp only [List.length_append, List.length_cons, List.length_nil] at *; omega
theorem RowO.putX {K1 : Int} {K2 K3 : Nat} {s : Sp} {xs ys os : List Sp} (h : RowO K1 K2 K3 (s :: xs) ys os) : RowO K1 K2 K3 xs ys (os ++ [s]) := by
  refine ⟨fun u hu => h.x u (List.mem_cons_of_mem _ hu), h.y, fun u hu => ?_, ?_, ?_, ?_⟩
  · rcases List.mem_append.1 hu with hu | hu
    · exact h.o u hu
    · rw [List.mem_singleton] at hu; subst hu; exact (h.x _ (List.mem_cons_self ..)).1
  · have := h.n; rw [sumN_append, sumN_one]; rw [sumN_cons] at this; omega
  · have := h.t; rw [sumT_append, sumT_sing]; rw [sumT_cons] at this; omega
  · have := h.l; simp only [List.length_append, List.length_cons, List.length_nil] at *; omega
theorem RowO.both {K1 : Int} {K2 K3 : Nat} {s u : Sp} {xs ys os : List Sp} {n : Nat} (h : RowO K1 K2 K3 (s :: xs) (u :: ys) os) (hn : n = min (tokS s).length (tokS u).length) (ps : List Sp) (hp : ps = [] ∨ ps = [cutA s n] ∨ ps = [(1, 0, ⟨#[]⟩)]) : RowO K1 K2 K3 (left s n xs) (left u n ys) (os ++ ps) ∧ (left s n xs).length + (left u n ys).length < (s :: xs).length + (u :: ys).length := by
  have hs := (h.x s (List.mem_cons_self ..)).1
  have hu := (h.y u (List.mem_cons_self ..)).1
  obtain ⟨a1, a2, a3, a4⟩ := left_sum s n xs hs (by omega)
  obtain ⟨b1, b2, b3, b4⟩ := left_sum u n ys hu (by omega)
  have ca := (cutA_ok s n hs (by omega)).1
  have cb := (cutA_ok u n hu (by omega)).1
  have ca0 := ca.nonneg
  have cb0 := cb.nonneg
  have hn' := h.n; have ht' := h.t; have hl' := h.l
  have hlt : (left s n xs).length + (left u n ys).length < (s :: xs).length + (u :: ys).length := by
    simp only [List.length_cons]
    rcases (by omega : (tokS s).length = n ∨ (tokS u).length = n) with e | e
    · have := a4 e; omega
    · have := b4 e; omega
  refine ⟨⟨left_ok s n xs hs (by omega) fun v hv => h.x v (List.mem_cons_of_mem _ hv), left_ok u n ys hu (by omega) fun v hv => h.y v (List.mem_cons_of_mem _ hv), fun v hv => ?_, ?_, ?_, ?_⟩, hlt⟩
  · rcases List.mem_append.1 hv with hv | hv
    · exact h.o v hv
    · rcases hp with rfl | rfl | rfl
      · cases hv
      · rw [List.mem_singleton] at hv; subst hv; exact ca
      · rw [List.mem_singleton] at hv; subst hv; exact .inr ⟨.inl rfl, by decide, rfl⟩
  · rw [sumN_append]
    rcases hp with rfl | rfl | rfl
    · have e : sumN ([] : List Sp) = 0 := rfl
      omega
    · rw [sumN_one]; omega
    · rw [sumN_one]; simp only; omega
  · rw [sumT_append]
    rcases hp with rfl | rfl | rfl
    · have e : sumT ([] : List Sp) = 0 := rfl
      omega
    · rw [sumT_sing]; omega
    · rw [sumT_sing]; have e : (⟨#[]⟩ : ByteArray).size = 0 := rfl; simp only; omega
  · rw [List.length_append]
    have : ps.length ≤ 1 := by rcases hp with rfl | rfl | rfl <;> simp
    omega
theorem put_len (s : Sp) (h : OkW s) (hk : s.1 = 2) : (tokS s).length ≤ s.2.2.size ∧ outS s.1 s.2.1 s.2.2 = ((tokS s).length : Int) := by
  rcases tokS_kind s h with ⟨_, us, hu, e⟩ | ⟨k, _⟩ | ⟨k, _⟩
  · refine ⟨?_, ?_⟩
    · have h1 := (dec_some hu).2
      have h2 := length_le_encs us
      rw [← h1, bs_length] at h2
      rw [e, List.length_map]; exact h2
    · rw [← (tin_span s h).2, (sides s h).2, if_neg (by omega)]
  · omega
  · omega
theorem over_putY (xs ys os : List Sp) (s : Sp) (h : OkW s) (hk : s.1 = 2) : tok (os ++ [(1, ((tokS s).length : Int), ⟨#[]⟩)]) ++ overT (tok xs) (tok ys) = tok os ++ overT (tok xs) (tok (s :: ys)) := by
  rcases tokS_kind s h with ⟨_, us, _, e⟩ | ⟨k, _⟩ | ⟨k, _⟩
  · rw [tok_append, tok_cons, tok_nil, tok_cons, List.append_nil, e, over_inss, List.append_assoc, tokS_num _ _ _ (by decide), if_neg (by decide), Int.toNat_natCast, List.length_map]
  · omega
  · omega
theorem over_putX (xs ys os : List Sp) (s : Sp) (h : OkW s) (hk : s.1 = 2) (hy : noIns (tok ys)) : tok (os ++ [s]) ++ overT (tok xs) (tok ys) = tok os ++ overT (tok (s :: xs)) (tok ys) := by
  rcases tokS_kind s h with ⟨_, us, _, e⟩ | ⟨k, _⟩ | ⟨k, _⟩
  · rw [tok_append, tok_cons, tok_nil, tok_cons, List.append_nil, e, over_putT _ _ _ hy, List.append_assoc]
  · omega
  · omega
theorem over_both (xs ys os : List Sp) (s u : Sp) (n : Nat) (hs : OkW s) (hu : OkW u) (ks : s.1 ≠ 2) (ku : u.1 ≠ 2) (h1 : n ≤ (tokS s).length) (h2 : n ≤ (tokS u).length) :
    tok (os ++ (if u.1 = 1 then [cutA s n] else [])) ++ overT (tok (left s n xs)) (tok (left u n ys)) = tok os ++ overT (tok (s :: xs)) (tok (u :: ys)) := by
  rw [tok_append, left_tok s n xs hs h1, left_tok u n ys hu h2, tok_cons, tok_cons, List.append_assoc]
  congr 1
  have ca := (cutA_ok s n hs h1).2
  have es := tokS_split s n
  have eu := tokS_split u n
  generalize hS : (tokS s).drop n = S1 at *
  generalize hU : (tokS u).drop n = U1 at *
  have lu : ((tokS u).take n).length = n := by rw [List.length_take]; omega
  have ls : ((tokS s).take n).length = n := by rw [List.length_take]; omega
  rcases tokS_kind u hu with ⟨k, _⟩ | ⟨k, e⟩ | ⟨k, e⟩
  · exact absurd k ku
  · have e' : (tokS u).take n = List.replicate n Tok.keep := by rw [e, List.take_replicate, Nat.min_eq_left h2]
    rw [if_pos k, tok_cons, tok_nil, List.append_nil, ca]
    rw [es, eu, e', List.append_assoc, List.append_assoc]
    rcases tokS_kind s hs with ⟨k2, _⟩ | ⟨k2, f⟩ | ⟨k2, f⟩
    · exact absurd k2 ks
    · have f' : (tokS s).take n = List.replicate n Tok.keep := by rw [f, List.take_replicate, Nat.min_eq_left h1]
      rw [f', List.take_left' (by rw [List.length_replicate]), over_kk]
    · have f' : (tokS s).take n = List.replicate n Tok.del := by rw [f, List.take_replicate, Nat.min_eq_left h1]
      rw [f', List.take_left' (by rw [List.length_replicate]), over_dk]
  · have e' : (tokS u).take n = List.replicate n Tok.del := by rw [e, List.take_replicate, Nat.min_eq_left h2]
    rw [if_neg (by omega), tok_nil, List.nil_append]
    rw [es, eu, e', List.append_assoc, List.append_assoc]
    rcases tokS_kind s hs with ⟨k2, _⟩ | ⟨k2, f⟩ | ⟨k2, f⟩
    · exact absurd k2 ks
    · have f' : (tokS s).take n = List.replicate n Tok.keep := by rw [f, List.take_replicate, Nat.min_eq_left h1]
      rw [f', over_kd]
    · have f' : (tokS s).take n = List.replicate n Tok.del := by rw [f, List.take_replicate, Nat.min_eq_left h1]
      rw [f', over_dd]
theorem overC (xs ys : List Sp) (hx : ∀ s ∈ xs, OkW s ∧ ¬ emp s) (hy : ∀ s ∈ ys, OkW s ∧ ¬ emp s) (h : tin (tok xs) = tin (tok ys)) :
    (xs = [] ∧ ys = []) ∨ (∃ b1 b2 b3 r, ys = (b1, b2, b3) :: r ∧ b1 = 2) ∨ (∃ a1 a2 a3 r, xs = (a1, a2, a3) :: r ∧ a1 = 2 ∧ ∀ s q, ys = s :: q → s.1 ≠ 2) ∨
      (∃ a1 a2 a3 r b1 b2 b3 q, xs = (a1, a2, a3) :: r ∧ ys = (b1, b2, b3) :: q ∧ a1 ≠ 2 ∧ b1 ≠ 2) := by
  have Z : tin ([] : List Tok) = 0 := rfl
  rcases ys with _ | ⟨⟨b1, b2, b3⟩, q⟩
  · rcases xs with _ | ⟨⟨a1, a2, a3⟩, r⟩
    · exact .inl ⟨rfl, rfl⟩
    · right; right; left
      refine ⟨a1, a2, a3, r, rfl, ?_, fun s q hs => by cases hs⟩
      obtain ⟨h1, h2⟩ := hx _ (List.mem_cons_self ..)
      have h3 := tokS_pos _ h1 h2
      rw [tok_cons, tin_append, (sides _ h1).1, tok_nil] at h
      by_cases hk : a1 = 2
      · exact hk
      · exfalso
        rw [if_neg hk] at h
        omega
  · by_cases hb : b1 = 2
    · right; left; exact ⟨b1, b2, b3, q, rfl, hb⟩
    · rcases xs with _ | ⟨⟨a1, a2, a3⟩, r⟩
      · exfalso
        obtain ⟨h1, h2⟩ := hy _ (List.mem_cons_self ..)
        have h3 := tokS_pos _ h1 h2
        rw [tok_cons, tin_append, (sides _ h1).1, if_neg hb, tok_nil] at h
        omega
      · by_cases ha : a1 = 2
        · right; right; left
          exact ⟨a1, a2, a3, r, rfl, ha, fun s q' hs => by injection hs with e1 e2; subst e1; exact hb⟩
        · right; right; right
          exact ⟨a1, a2, a3, r, b1, b2, b3, q, rfl, rfl, ha, hb⟩
theorem over_step {K1 : Int} {K2 K3 : Nat} {TT : List Tok} {s u : Sp} {xs ys os : List Sp} {n : Nat} (h : RowO K1 K2 K3 (s :: xs) (u :: ys) os) (htt : tok os ++ overT (tok (s :: xs)) (tok (u :: ys)) = TT) (hsid : tin (tok (s :: xs)) = tin (tok (u :: ys))) (ks : s.1 ≠ 2) (ku : u.1 ≠ 2) (hn : n = min (tokS s).length (tokS u).length) :
    RowO K1 K2 K3 (left s n xs) (left u n ys) (os ++ (if u.1 = 1 then [cutA s n] else [])) ∧ tok (os ++ (if u.1 = 1 then [cutA s n] else [])) ++ overT (tok (left s n xs)) (tok (left u n ys)) = TT ∧ tin (tok (left s n xs)) = tin (tok (left u n ys)) := by
  have hs := (h.x s (List.mem_cons_self ..)).1
  have hu := (h.y u (List.mem_cons_self ..)).1
  have hp : (if u.1 = 1 then [cutA s n] else []) = [] ∨ (if u.1 = 1 then [cutA s n] else []) = [cutA s n] ∨ (if u.1 = 1 then [cutA s n] else []) = [(1, 0, ⟨#[]⟩)] := by
    by_cases h1 : u.1 = 1
    · rw [if_pos h1]; exact .inr (.inl rfl)
    · rw [if_neg h1]; exact .inl rfl
  refine ⟨(h.both hn _ hp).1, ?_, ?_⟩
  · rw [over_both xs ys os s u n hs hu ks ku (by omega) (by omega)]; exact htt
  · have d1 := (drop_tok s hs n (by omega)).1
    have d2 := (drop_tok u hu n (by omega)).1
    have s1 := (sides s hs).1
    have s2 := (sides u hu).1
    rw [if_neg ks] at d1 s1
    rw [if_neg ku] at d2 s2
    rw [tok_cons, tok_cons, tin_append, tin_append] at hsid
    rw [left_tok s n xs hs (by omega), left_tok u n ys hu (by omega), tin_append, tin_append]
    omega
theorem over_stepE {K1 : Int} {K2 K3 : Nat} {TT : List Tok} {s u : Sp} {xs ys os : List Sp} {n : Nat} (h : RowO K1 K2 K3 (s :: xs) (u :: ys) os) (htt : tok os ++ overT (tok (s :: xs)) (tok (u :: ys)) = TT) (hsid : tin (tok (s :: xs)) = tin (tok (u :: ys))) (ks : s.1 ≠ 2) (ku : u.1 ≠ 2) (hn : n = min (tokS s).length (tokS u).length) (m : Sp)
    (hm : m = if u.1 = 3 then (1, 0, ⟨#[]⟩) else cutA s n) :
    RowO K1 K2 K3 (left s n xs) (left u n ys) (os ++ [m]) ∧ tok (os ++ [m]) ++ overT (tok (left s n xs)) (tok (left u n ys)) = TT ∧ tin (tok (left s n xs)) = tin (tok (left u n ys)) ∧
      (left s n xs).length + (left u n ys).length < (s :: xs).length + (u :: ys).length := by
  have hu := (h.y u (List.mem_cons_self ..)).1
  have hlt := (h.both hn [] (.inl rfl)).2
  obtain ⟨h1, h2, h3⟩ := over_step h htt hsid ks ku hn
  have k13 : u.1 = 1 ∨ u.1 = 3 := by
    rcases hu with ⟨k1, _⟩ | ⟨k1, _⟩ <;> omega
  rcases k13 with k | k
  · rw [if_pos k] at h1 h2
    rw [if_neg (by omega)] at hm
    subst hm
    exact ⟨h1, h2, h3, hlt⟩
  · rw [if_neg (by omega), List.append_nil] at h2
    rw [if_pos k] at hm
    subst hm
    have hT : tokS (1, 0, (⟨#[]⟩ : ByteArray)) = [] := tokS_emp _ ⟨rfl, rfl⟩
    refine ⟨(h.both hn _ (.inr (.inr rfl))).1, ?_, h3, hlt⟩
    rw [tok_append, tok_cons, tok_nil, hT, List.append_nil, List.append_nil]; exact h2
end Go.Proofs.YtgcaphjjigpjlaaDoor
namespace Go.Proofs.YtgcaphjjigpjlaaDoor
set_option maxRecDepth 100000
set_option linter.unusedSimpArgs false
def underL (s a : List Sp) : List Sp := spT (underT (tok s) (tok a))
theorem underT_nil : underT [] [] = [] := by rw [underT]
theorem under_kept1 (c : Nat) (a b : List Tok) (h : noIns a) : underT a (.ins c :: b) = .keep :: underT a b := by
  rcases a with _ | ⟨_ | _ | _, a⟩
  · rw [underT]
  · exact absurd h (by simp [noIns])
  · rw [underT]
  · rw [underT]
end Go.Proofs.YtgcaphjjigpjlaaDoor
namespace Go.Proofs.YtgcaphjjigpjlaaDoor
set_option maxRecDepth 100000
set_option linter.unusedSimpArgs false
theorem over_mem (a s : List Tok) (c : Nat) : Tok.ins c ∈ overT a s → Tok.ins c ∈ a := by
  fun_induction overT a s <;> grind
theorem overT_okT (a s : List Tok) (h : OkT a) : OkT (overT a s) := fun c hc => h c (over_mem a s c hc)
theorem over_insT (a s : List Tok) : tin a = tin s → insT (overT a s) = insT a := by
  fun_induction overT a s <;> intro h <;> simp only [tin_ins, tin_keep, tin_del, tin_nil, List.length_cons, List.length_nil] at * <;> first | rfl | omega | (rename_i ih; have := ih (by omega); simpa [insT] using this)
theorem over_row {K1 : Int} {K2 K3 : Nat} {TT : List Tok} (n : Nat) : ∀ xs ys os : List Sp, xs.length + ys.length ≤ n → RowO K1 K2 K3 xs ys os → tok os ++ overT (tok xs) (tok ys) = TT → tin (tok xs) = tin (tok ys) → ∃ os', tok os' = TT ∧ (∀ s ∈ os', OkW s) ∧ os'.length ≤ K3 := by
  induction n with
  | zero =>
    intro xs ys os hn h ht _
    have hx : xs = [] := List.length_eq_zero_iff.1 (by omega)
    have hy : ys = [] := List.length_eq_zero_iff.1 (by omega)
    subst hx; subst hy
    refine ⟨os, ?_, h.o, ?_⟩
    · rw [← ht, tok_nil, overT, List.append_nil]
    · have := h.l; simp only [List.length_nil] at this; omega
  | succ n ih =>
    intro xs ys os hn h ht hs
    rcases overC xs ys h.x h.y hs with ⟨rfl, rfl⟩ | ⟨b1, b2, b3, ys, rfl, hk⟩ | ⟨a1, a2, a3, xs, rfl, hk, hnp⟩ | ⟨a1, a2, a3, xs, b1, b2, b3, ys, rfl, rfl, hka, hkb⟩
    · refine ⟨os, ?_, h.o, ?_⟩
      · rw [← ht, tok_nil, overT, List.append_nil]
      · have := h.l; simp only [List.length_nil] at this; omega
    · have huo := (h.y _ (List.mem_cons_self ..)).1
      have hpl := put_len _ huo hk
      have hs2 : tin (tok xs) = tin (tok ys) := by rw [tok_cons, tin_append, (sides _ huo).1, if_pos hk] at hs; omega
      rw [← over_putY xs ys os _ huo hk] at ht
      simp only [List.length_cons] at hn
      exact ih xs ys _ (by omega) (h.putY _ hpl.1) ht hs2
    · have huo := (h.x _ (List.mem_cons_self ..)).1
      have hs2 : tin (tok xs) = tin (tok ys) := by rw [tok_cons, tin_append, (sides _ huo).1, if_pos hk] at hs; omega
      rw [← over_putX xs ys os _ huo hk (noIns_tok ys h.y hnp)] at ht
      simp only [List.length_cons] at hn
      exact ih xs ys _ (by omega) h.putX ht hs2
    · obtain ⟨m, hm⟩ : ∃ m, m = if b1 = 3 then ((1, 0, ⟨#[]⟩) : Sp) else cutA (a1, a2, a3) (min (tokS (a1, a2, a3)).length (tokS (b1, b2, b3)).length) := ⟨_, rfl⟩
      obtain ⟨h1, h2, h3, h4⟩ := over_stepE h ht hs hka hkb rfl m hm
      exact ih _ _ _ (by omega) h1 h2 h3
theorem overL_len (X Y : List Sp) (hX : ∀ s ∈ X, OkW s) (hY : ∀ s ∈ Y, OkW s) (hf : inL X = inL Y) : (overL X Y).length ≤ (normL X).length + (normL Y).length := by
  have px := okW_pos X hX
  have py := okW_pos Y hY
  have hnx := norm_okW X hX
  have hny := norm_okW Y hY
  have hix := isN_ne _ (norm_is X px)
  have hiy := isN_ne _ (norm_is Y py)
  have h1 := (tin_ok X hX).1
  have h2 := (tin_ok Y hY).1
  have hrow : RowO (sumN (normL X) + sumN (normL Y) + (sumT (normL Y) : Int)) (sumT (normL X)) ((normL X).length + (normL Y).length) (normL X) (normL Y) [] := by
    have Z : sumN ([] : List Sp) = 0 ∧ sumT ([] : List Sp) = 0 := ⟨rfl, rfl⟩
    refine ⟨fun s hs => ⟨hnx.1 s hs, hix s hs⟩, fun s hs => ⟨hny.1 s hs, hiy s hs⟩, fun s hs => (by cases hs), by omega, by omega, ?_⟩
    simp only [List.length_nil]; omega
  have hs : tin (tok (normL X)) = tin (tok (normL Y)) := by rw [hnx.2, hny.2]; omega
  obtain ⟨os, o1, o2, o3⟩ := over_row (TT := overT (tok X) (tok Y)) _ (normL X) (normL Y) [] (Nat.le_refl _) hrow (by rw [hnx.2, hny.2, tok_nil, List.nil_append]) hs
  have e : overL X Y = normL os := by unfold overL; rw [norm_tok os o2, o1]
  rw [e]
  have := norm_len os
  omega
theorem overL_all (X Y : List Sp) (hX : ∀ s ∈ X, OkW s) (hY : ∀ s ∈ Y, OkW s) (hf : inL X = inL Y) :
    (∀ s ∈ overL X Y, OkW s) ∧ tok (overL X Y) = overT (tok X) (tok Y) ∧ isN (overL X Y) ∧ inL (overL X Y) = outL Y ∧
    (overL X Y).length ≤ (normL X).length + (normL Y).length ∧ sumT (overL X Y) ≤ sumT X := by
  have tz := overT_okT (tok X) (tok Y) (tok_okT X hX)
  obtain ⟨x1, x2⟩ := tin_ok X hX
  obtain ⟨y1, y2⟩ := tin_ok Y hY
  have hft : tin (tok X) = tin (tok Y) := by omega
  have hz : ∀ s ∈ overL X Y, OkW s := spT_okW _ tz
  have htz : tok (overL X Y) = overT (tok X) (tok Y) := tok_spT _ tz
  obtain ⟨z1, z2⟩ := tin_ok _ hz
  have l1 := overT_len _ _ hft
  rw [htz, l1] at z1
  refine ⟨hz, htz, spT_is _ tz, by omega, overL_len X Y hX hY hf, ?_⟩
  unfold overL
  rw [sumT_spT, over_insT _ _ hft]
  exact insT_sum X hX
theorem over_nil : overT [] [] = [] := by rw [overT]
theorem over_keepR (x : List Tok) : overT x (List.replicate (tin x) Tok.keep) = x := by
  induction x with
  | nil => exact over_nil
  | cons t x ih =>
    cases t with
    | ins c =>
      have e : tin (.ins c :: x) = tin x := by simp [tin]
      rw [e]
      have h := over_putT [c] x (List.replicate (tin x) Tok.keep) (by cases tin x <;> exact trivial)
      rw [ih] at h
      exact h
    | keep =>
      have e : tin (.keep :: x) = tin x + 1 := by simp [tin]
      rw [e, List.replicate_succ, overT, ih]
    | del =>
      have e : tin (.del :: x) = tin x + 1 := by simp [tin]
      rw [e, List.replicate_succ, overT, ih]
theorem keepL_spT (n : Int) (h0 : 0 ≤ n) : spT (List.replicate n.toNat Tok.keep) = keepL n := by
  have h := spT_isN (keepL_isN n) (keepL_okW n h0)
  rw [keepL_tok n] at h
  exact h.symm
theorem over_many {ls : List (List Sp)} {n m k : Int} {l : List Sp} (t : List Tok) (ht : (tin t : Int) = n) (hn : Thru n ls k) (hl : Thru k [l] m) : overT t (fR n (ls ++ [l])) = overT (overT t (fR n ls)) (tok l) := by
  have h1 := fR_len hn
  have hl2 := hl
  obtain ⟨g1, g2, g3, g4, g5⟩ := hl
  have h2 : (tin (tok l) : Int) = inL l := (tin_ok l g1).1
  have h3 := fR_one g1
  rw [g2] at h3
  rw [fR_append hn hl2, h3]
  exact over_one _ t (fR n ls) (tok l) (Nat.le_refl _) (by omega) (by omega)
end Go.Proofs.YtgcaphjjigpjlaaDoor
namespace Go.Proofs.YtgcaphjjigpjlaaDoor
set_option maxRecDepth 100000
set_option linter.unusedSimpArgs false
theorem under_keepL (y : List Tok) : underT (List.replicate (tin y) Tok.keep) y = List.replicate (tout y) Tok.keep := by
  induction y with
  | nil => exact underT_nil
  | cons t y ih =>
    cases t with
    | ins c =>
      have e : tin (.ins c :: y) = tin y := by simp [tin]
      have e2 : tout (.ins c :: y) = tout y + 1 := by simp [tout]
      rw [e, e2, under_kept1 _ _ _ (by cases tin y <;> exact trivial), ih, List.replicate_succ]
    | keep =>
      have e : tin (.keep :: y) = tin y + 1 := by simp [tin]
      have e2 : tout (.keep :: y) = tout y + 1 := by simp [tout]
      rw [e, e2, List.replicate_succ, underT, ih, List.replicate_succ]
    | del =>
      have e : tin (.del :: y) = tin y + 1 := by simp [tin]
      have e2 : tout (.del :: y) = tout y := by simp [tout]
      rw [e, e2, List.replicate_succ, underT, ih]
end Go.Proofs.YtgcaphjjigpjlaaDoor
namespace Go.Proofs.YtgcaphjjigpjlaaDoor
open Go.RowKit
set_option maxRecDepth 100000
set_option maxHeartbeats 4000000
set_option linter.unusedSimpArgs false
def thruE (a : List Sp) (ls : List (List Sp)) : Int := if mayL a = 0 then chainE (inL a) ls else mayL a
def thruJ (a : List Sp) (ls : List (List Sp)) (j : Nat) : List Sp := spT (overT (tok a) (fR (inL a) (ls.take j)))
def thruL (a : List Sp) (ls : List (List Sp)) : List Sp := spT (overT (tok a) (fR (inL a) ls))
def patL (a : List Sp) (ls : List (List Sp)) : List Sp := spT (underT (fR (inL a) ls) (tok a))
theorem thruE_ok {a : List Sp} {ls : List (List Sp)} (h : thruE a ls = 0) (ha : a.length ≤ 1000) (hl : ∀ l ∈ ls, l.length ≤ 1000) :
    mayL a = 0 ∧ (∀ s ∈ a, OkW s) ∧ (0 ≤ inL a ∧ inL a ≤ 1048576) ∧ chainE (inL a) ls = 0 ∧ Thru (inL a) ls (chN (inL a) ls) := by
  unfold thruE at h
  by_cases hm : mayL a = 0
  · rw [if_pos hm] at h
    obtain ⟨h1, h2⟩ := chain_thru h hl
    exact ⟨hm, (may_okW hm ha).1, h1, h, h2⟩
  · rw [if_neg hm] at h; exact absurd h hm
theorem thru_tin {a : List Sp} (ok : ∀ s ∈ a, OkW s) : (tin (tok a) : Int) = inL a := (tin_ok a ok).1
theorem thruJ_ok {a : List Sp} (ok : ∀ s ∈ a, OkW s) {ls : List (List Sp)} {k : Int} (hT : Thru (inL a) ls k) (j : Nat) :
    ∃ m, Thru (inL a) (ls.take j) m ∧ (∀ s ∈ thruJ a ls j, OkW s) ∧ tok (thruJ a ls j) = overT (tok a) (fR (inL a) (ls.take j)) ∧ inL (thruJ a ls j) = m ∧ sumT (thruJ a ls j) ≤ sumT a := by
  obtain ⟨m, h1, _⟩ := thru_take hT j
  obtain ⟨f1, f2⟩ := fR_len h1
  have ht := thru_tin ok
  have hok := overT_okT (tok a) (fR (inL a) (ls.take j)) (tok_okT a ok)
  have hz : ∀ s ∈ thruJ a ls j, OkW s := spT_okW _ hok
  have e : tok (thruJ a ls j) = overT (tok a) (fR (inL a) (ls.take j)) := tok_spT _ hok
  have z1 := (tin_ok _ hz).1
  rw [e, overT_len _ _ (by omega)] at z1
  refine ⟨m, h1, hz, e, by omega, ?_⟩
  unfold thruJ
  rw [sumT_spT, over_insT _ _ (by omega)]
  exact insT_sum a ok
theorem thruJ_zero {a : List Sp} (ok : ∀ s ∈ a, OkW s) (ls : List (List Sp)) : thruJ a ls 0 = normL a := by
  have ht := thru_tin ok
  unfold thruJ
  rw [List.take_zero, norm_tok a ok]
  show spT (overT (tok a) (List.replicate (inL a).toNat Tok.keep)) = _
  rw [show (inL a).toNat = tin (tok a) by omega, over_keepR]
theorem thruJ_all {a : List Sp} {ls : List (List Sp)} : thruJ a ls ls.length = thruL a ls := by unfold thruJ thruL; rw [List.take_length]
theorem thruJ_step {a : List Sp} (ok : ∀ s ∈ a, OkW s) {ls : List (List Sp)} {k : Int} (hT : Thru (inL a) ls k) {j : Nat} (hj : j < ls.length) :
    (∀ s ∈ ls[j], OkW s) ∧ inL (thruJ a ls j) = inL ls[j] ∧ overL (thruJ a ls j) ls[j] = thruJ a ls (j + 1) ∧ 0 ≤ inL ls[j] ∧ inL ls[j] ≤ 1048576 := by
  obtain ⟨k1, g1, _⟩ := thru_take hT (j + 1)
  rw [take_snoc hj] at g1
  obtain ⟨g2, o1, o2, o3, o4, o5⟩ := thru_snoc.1 g1
  obtain ⟨m, h1, h2, h3, h4, h5⟩ := thruJ_ok ok hT j
  have e1 := (thru_chE h1).2
  have e2 := (thru_chE g2).2
  refine ⟨o1, by omega, ?_, o2, o3⟩
  have ht := thru_tin ok
  have hone : Thru (inL ls[j]) [ls[j]] k1 := ⟨o1, rfl, o2, o3, o4, o5⟩
  have hm := over_many (tok a) ht g2 hone
  unfold overL
  rw [h3, ← hm, ← take_snoc hj]
  rfl
theorem thruJ_len {a : List Sp} (ok : ∀ s ∈ a, OkW s) {ls : List (List Sp)} {k : Int} (hT : Thru (inL a) ls k) (j : Nat) (hj : j ≤ ls.length) : (thruJ a ls j).length ≤ a.length + lenS (ls.take j) := by
  induction j with
  | zero => rw [thruJ_zero ok]; have := norm_len a; omega
  | succ j ih =>
    have ih := ih (by omega)
    have hj2 : j < ls.length := by omega
    obtain ⟨o1, o2, o3, o4, o5⟩ := thruJ_step ok hT hj2
    obtain ⟨m, g1, g2, g3, g4, g5⟩ := thruJ_ok ok hT j
    have h6 := overL_len _ _ g2 o1 o2
    have h7 := norm_len (thruJ a ls j)
    have h8 := norm_len ls[j]
    have e2 : lenS [ls[j]] = ls[j].length := by simp [lenS]
    rw [← o3, take_snoc hj2, lenS_append]
    omega
structure SmT (a : List Sp) (ls : List (List Sp)) : Prop where
  len : a.length + lenS ls ≤ 1000
  txt : sumT a ≤ 400000000
  row : Small ls
theorem SmT.each {a : List Sp} {ls : List (List Sp)} (h : SmT a ls) : ∀ s ∈ a, s.2.2.size ≤ 1000000000 := fun s hs => by have := le_sumT a s hs; have := h.txt; omega
end Go.Proofs.YtgcaphjjigpjlaaDoor
