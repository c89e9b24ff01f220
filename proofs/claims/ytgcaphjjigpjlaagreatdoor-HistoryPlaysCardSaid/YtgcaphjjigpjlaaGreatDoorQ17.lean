/- Packed: G9 C10 Nu C11 C13. -/
import Derived.ArgAppend
import Derived.BigQuiet
import Derived.BigRegion
import Derived.ChangeAlike
import Derived.ChangeOld
import Derived.Deep.Cut
import Derived.Deep.CutRange
import Derived.Deep.DrawnRows
import Derived.Deep.MidRow
import Derived.Deep.QuietTactic
import Derived.Deep.RegionHeld3
import Derived.Deep.RegionWith
import Derived.Deep.Slices
import Derived.Deep.Upon
import Derived.Laws.AppendOwnNone
import Derived.Laws.BytesArg
import Derived.Laws.IdiomCopy
import Derived.Laws.MakeOwn
import Derived.Laws.ResultCell
import Derived.Laws.Rows
import Derived.Lib.AppendStr
import Derived.Lib.Builder
import Derived.Lib.DecodeN
import Derived.Lib.Hide
import Derived.Lib.Strings
import Derived.Lib.UnsafeStr
import Derived.LoopIn
import Derived.LoopNIn
import Derived.OpenShut
import Derived.OwnWalkIn
import Derived.ProofKit
import Derived.RangeFuncBound
import Derived.RangeFuncCalls
import Derived.RangeFuncLeaves
import Derived.RangeFuncNested
import Derived.RegionTactic
import Derived.Shelf.Abstract
import Derived.Shelf.RegionOpen
import Derived.ShutString
import Derived.Sort.CutIn
import Derived.StillTail
import Derived.StillTailTactics
import Derived.TacticsInMore
import Derived.Test.YtgcaphjjigpjlaaGreatDoorProg
import Derived.Test.YtgcaphjjigpjlaaGreatDoorShelf
import Derived.WalkKit
import Derived.WalkLawsBesides
import Derived.WalkSpells
import Derived.Test.YtgcaphjjigpjlaaGreatDoorQ00
import Derived.Test.YtgcaphjjigpjlaaGreatDoorQ01
import Derived.Test.YtgcaphjjigpjlaaGreatDoorQ02
import Derived.Test.YtgcaphjjigpjlaaGreatDoorQ03
import Derived.Test.YtgcaphjjigpjlaaGreatDoorQ04
import Derived.Test.YtgcaphjjigpjlaaGreatDoorQ05
import Derived.Test.YtgcaphjjigpjlaaGreatDoorQ06
import Derived.Test.YtgcaphjjigpjlaaGreatDoorQ07
import Derived.Test.YtgcaphjjigpjlaaGreatDoorQ08
import Derived.Test.YtgcaphjjigpjlaaGreatDoorQ09
import Derived.Test.YtgcaphjjigpjlaaGreatDoorQ10
import Derived.Test.YtgcaphjjigpjlaaGreatDoorQ11
import Derived.Test.YtgcaphjjigpjlaaGreatDoorQ12
import Derived.Test.YtgcaphjjigpjlaaGreatDoorQ15
import Derived.Test.YtgcaphjjigpjlaaGreatDoorQ16
namespace Go.Proofs.YtgcaphjjigpjlaaGreatDoor
open Go.RowKit
set_option maxRecDepth 100000
set_option maxHeartbeats 1000000
structure Good (X : List Sp) : Prop where
  ok : ∀ s ∈ X, OkW s
  len : X.length ≤ 300
  txt : sumT X ≤ 100000
  inb : inL X ≤ 100000
theorem Good.may {X : List Sp} (h : Good X) : mayL X = 0 := (okW_mayL X h.ok (by have := h.inb; omega)).1
theorem Good.in0 {X : List Sp} (h : Good X) : 0 ≤ inL X := (okW_mayL X h.ok (by have := h.inb; omega)).2
theorem Good.size {X : List Sp} (h : Good X) : ∀ s ∈ X, s.2.2.size ≤ 1000000000 := fun s hs => by have := le_sumT X s hs; have := h.txt; omega
theorem Good.tin {X : List Sp} (h : Good X) : (tin (tok X) : Int) = inL X := (tin_ok X h.ok).1
theorem Good.tout {X : List Sp} (h : Good X) : (tout (tok X) : Int) = outL X := (tin_ok X h.ok).2
theorem good_fit (l : List Sp) (M : Int) (h0 : 0 ≤ M) (h1 : M ≤ 100000) : Good (fitL l M) ∧ inL (fitL l M) = M ∧ 0 ≤ outL (fitL l M) ∧ outL (fitL l M) ≤ M + 312 ∧ (fitL l M).length ≤ 13 ∧ sumT (fitL l M) ≤ 312 := by
  obtain ⟨hm, hi⟩ := fitL_all l M h0 (by omega)
  obtain ⟨o0, o1⟩ := fit_out l M h0 (by omega)
  have hl := fitL_len l M
  have ht := fit_sumT l M
  exact ⟨⟨fun s hs => okW_of_may (hm s hs), by omega, by omega, by omega⟩, hi, o0, o1, hl, ht⟩
def TellsL (w : World) (L : List Sp) (e : Ending) (w' : World) : Prop := Ext w w' ∧ ∃ A n c, e = .returned (.slice A n c) ∧ RdO w' A n c L
end Go.Proofs.YtgcaphjjigpjlaaGreatDoor
namespace Go.Proofs.YtgcaphjjigpjlaaGreatDoor
set_option maxRecDepth 100000
set_option linter.unusedSimpArgs false
theorem ck_l (m : Nat) (y : List Tok) (h : tin y = m) : compT (List.replicate m Tok.keep) y = y := by
  induction y generalizing m with
  | nil => rw [tin_nil] at h; subst h; rw [List.replicate_zero, compT]
  | cons t y ih =>
    rcases t with c | _ | _
    · rw [compT_ins, ih m (by rw [tin_ins] at h; exact h)]
    · rw [tin_keep] at h; subst h
      rw [List.replicate_succ, compT, ih _ rfl]
    · rw [tin_del] at h; subst h
      rw [List.replicate_succ, compT, ih _ rfl]
theorem ck_r (m : Nat) (x : List Tok) (h : tout x = m) : compT x (List.replicate m Tok.keep) = x := by
  induction x generalizing m with
  | nil => rw [tout_nil] at h; subst h; rw [List.replicate_zero, compT]
  | cons t x ih =>
    rcases t with c | _ | _
    · rw [tout_cins] at h; subst h
      rw [List.replicate_succ, compT, ih _ rfl]
    · rw [tout_keep] at h; subst h
      rw [List.replicate_succ, compT, ih _ rfl]
    · rw [tout_del] at h
      cases m with
      | zero => have e := ih 0 h; rw [List.replicate_zero] at *; rw [compT, e]
      | succ m => have e := ih (m + 1) h; rw [List.replicate_succ] at *; rw [compT, e]
theorem tin_keeps (n : Nat) : tin (List.replicate n Tok.keep) = n := tin_rep .keep (.inl rfl) n
theorem tout_keeps (n : Nat) : tout (List.replicate n Tok.keep) = n := by
  induction n with
  | zero => rfl
  | succ n ih => rw [List.replicate_succ, tout_keep, ih]
def Thru : Int → List (List Sp) → Int → Prop
  | n, [], m => n = m ∧ 0 ≤ n
  | n, l :: r, m => (∀ s ∈ l, OkW s) ∧ inL l = n ∧ 0 ≤ n ∧ n ≤ 1048576 ∧ Thru (outL l) r m
theorem Thru.pos {n m : Int} {ls : List (List Sp)} (h : Thru n ls m) : 0 ≤ n := by
  cases ls with
  | nil => exact h.2
  | cons l r => exact h.2.2.1
theorem thru_append {a b : List (List Sp)} {n m : Int} : Thru n (a ++ b) m ↔ ∃ k, Thru n a k ∧ Thru k b m := by
  induction a generalizing n with
  | nil =>
    constructor
    · exact fun h => ⟨n, ⟨rfl, h.pos⟩, h⟩
    · rintro ⟨k, ⟨rfl, _⟩, h⟩; exact h
  | cons l a ih =>
    constructor
    · rintro ⟨h1, h2, h3, h4, h5⟩
      obtain ⟨k, g1, g2⟩ := ih.1 h5
      exact ⟨k, ⟨h1, h2, h3, h4, g1⟩, g2⟩
    · rintro ⟨k, ⟨h1, h2, h3, h4, h5⟩, g⟩
      exact ⟨h1, h2, h3, h4, ih.2 ⟨k, h5, g⟩⟩
def fR : Int → List (List Sp) → List Tok
  | n, [] => List.replicate n.toNat Tok.keep
  | _, l :: r => compT (tok l) (fR (outL l) r)
theorem fR_len {ls : List (List Sp)} {n m : Int} (h : Thru n ls m) : (tin (fR n ls) : Int) = n ∧ (tout (fR n ls) : Int) = m := by
  induction ls generalizing n with
  | nil =>
    obtain ⟨rfl, h0⟩ := h
    unfold fR
    rw [tin_keeps, tout_keeps]; omega
  | cons l r ih =>
    obtain ⟨h1, h2, h3, h4, h5⟩ := h
    obtain ⟨g1, g2⟩ := ih h5
    have t := tin_ok l h1
    have c := compT_len (tok l) (fR (outL l) r) (by omega)
    unfold fR
    omega
theorem fR_append {a b : List (List Sp)} {n k m : Int} (ha : Thru n a k) (hb : Thru k b m) : fR n (a ++ b) = compT (fR n a) (fR k b) := by
  induction a generalizing n with
  | nil =>
    obtain ⟨rfl, h0⟩ := ha
    have t := fR_len hb
    show fR n b = compT (List.replicate n.toNat Tok.keep) (fR n b)
    rw [ck_l _ _ (by omega)]
  | cons l a ih =>
    obtain ⟨h1, h2, h3, h4, h5⟩ := ha
    have e := ih h5
    show compT (tok l) (fR (outL l) (a ++ b)) = compT (compT (tok l) (fR (outL l) a)) (fR k b)
    have t := tin_ok l h1
    have t1 := fR_len h5
    have t2 := fR_len hb
    rw [e, compT_assoc _ _ _ _ (Nat.le_refl _) (by omega) (by omega)]
theorem fR_one {l : List Sp} (h : ∀ s ∈ l, OkW s) : fR (inL l) [l] = tok l := by
  have t := tin_ok l h
  show compT (tok l) (List.replicate (outL l).toNat Tok.keep) = tok l
  rw [ck_r _ _ (by omega)]
theorem fR_okT {ls : List (List Sp)} {n m : Int} (h : Thru n ls m) : OkT (fR n ls) := by
  induction ls generalizing n with
  | nil => exact fun c hc => by have := List.eq_of_mem_replicate hc; cases this
  | cons l r ih =>
    obtain ⟨h1, h2, h3, h4, h5⟩ := h
    exact compT_okT _ _ (tok_okT l h1) (ih h5)
def lenS (ls : List (List Sp)) : Nat := (ls.map List.length).sum
def nlenS (ls : List (List Sp)) : Nat := (ls.map fun l => (normL l).length).sum
theorem lenS_cons (l : List Sp) (r : List (List Sp)) : lenS (l :: r) = l.length + lenS r := by simp [lenS]
theorem lenS_append (a b : List (List Sp)) : lenS (a ++ b) = lenS a + lenS b := by simp [lenS]
theorem nlenS_cons (l : List Sp) (r : List (List Sp)) : nlenS (l :: r) = (normL l).length + nlenS r := by simp [nlenS]
theorem sumTT_cons (l : List Sp) (r : List (List Sp)) : sumTT (l :: r) = sumT l + sumTT r := by simp [sumTT]
theorem sumTT_append (a b : List (List Sp)) : sumTT (a ++ b) = sumTT a + sumTT b := by simp [sumTT]
theorem keepL_tok (n : Int) : tok (keepL n) = List.replicate n.toNat Tok.keep := by
  unfold keepL
  split
  · rename_i e; rw [e]; rfl
  · rw [tok_cons, tok_nil, tokS_num _ _ _ (by decide), List.append_nil]; rfl
theorem keepL_okW (n : Int) (h0 : 0 ≤ n) : ∀ s ∈ keepL n, OkW s := by
  unfold keepL
  split
  · intro s hs; cases hs
  · intro s hs
    rw [List.mem_singleton] at hs
    subst hs
    exact .inr ⟨.inl rfl, h0, rfl⟩
theorem keepL_isN (n : Int) : isN (keepL n) := by
  unfold keepL
  split
  · exact trivial
  · rename_i e
    exact fun h => e h.1
theorem keepL_len (n : Int) : (keepL n).length ≤ 1 := by unfold keepL; split <;> simp
structure Seg (n : Int) (ls : List (List Sp)) (m : Int) (L : List Sp) : Prop where
  ok : ∀ s ∈ L, OkW s
  tk : tok L = fR n ls
  inb : inL L = n
  out : outL L = m
  len : L.length ≤ lenS ls
  txt : sumT L ≤ sumTT ls
theorem seg_one {l : List Sp} {n m : Int} (h : Thru n [l] m) : Seg n [l] m l := by
  obtain ⟨h1, rfl, h3, h4, h5, h6⟩ := h
  exact ⟨h1, (fR_one h1).symm, rfl, h5, by simp [lenS], by simp [sumTT]⟩
theorem seg_comp {a b : List (List Sp)} {n k m : Int} {X Y : List Sp} (ha : Thru n a k) (hb : Thru k b m) (hX : Seg n a k X) (hY : Seg k b m Y) (hn : n ≤ 1048576) :
    Seg n (a ++ b) m (compL X Y) ∧ isN (compL X Y) := by
  obtain ⟨h1, h2, h3, h4, h5, h6, h7, h8⟩ := compL_all X Y hX.ok hY.ok (by rw [hX.out, hY.inb]) (by rw [hX.inb]; exact hn)
  have e1 := norm_len X
  have e2 := norm_len Y
  have := hX.len; have := hY.len; have := hX.txt; have := hY.txt
  refine ⟨⟨h1, by rw [h2, hX.tk, hY.tk, fR_append ha hb], by rw [h4, hX.inb], by rw [h5, hY.out], ?_, ?_⟩, h3⟩
  · rw [lenS_append]; omega
  · rw [sumTT_append]; omega
theorem spT_isN {L : List Sp} (h : isN L) (ho : ∀ s ∈ L, OkW s) : L = spT (tok L) := by
  rw [← norm_tok L ho]
  exact (is_norm L h).symm
theorem thru_snoc {a : List (List Sp)} {l : List Sp} {n m : Int} : Thru n (a ++ [l]) m ↔ Thru n a (inL l) ∧ (∀ s ∈ l, OkW s) ∧ 0 ≤ inL l ∧ inL l ≤ 1048576 ∧ outL l = m ∧ 0 ≤ outL l := by
  rw [thru_append]
  constructor
  · rintro ⟨k, h, h1, rfl, h3, h4, h5, h6⟩
    exact ⟨h, h1, h3, h4, h5, h6⟩
  · rintro ⟨h, h1, h3, h4, h5, h6⟩
    exact ⟨_, h, h1, rfl, h3, h4, h5, h6⟩
def chE : Int → List (List Sp) → Int
  | _, [] => 0
  | n, l :: r => if mayL l = 0 then (if inL l = n then chE (outL l) r else 5) else mayL l
def chN : Int → List (List Sp) → Int
  | n, [] => n
  | _, l :: r => chN (outL l) r
def chainE (n : Int) (ls : List (List Sp)) : Int := if 0 ≤ n ∧ n ≤ 1048576 then chE n ls else 2
def chainN (n : Int) (ls : List (List Sp)) : Int := if chainE n ls = 0 then chN n ls else 0
def fuseL (n : Int) (ls : List (List Sp)) : List Sp := if chainE n ls = 0 then spT (fR n ls) else []
theorem may_okW {l : List Sp} (h : mayL l = 0) (hl : l.length ≤ 1000) : (∀ s ∈ l, OkW s) ∧ 0 ≤ inL l ∧ inL l ≤ 1048576 := by
  obtain ⟨h1, h2, h3⟩ := mayL_all h (by omega)
  exact ⟨fun s hs => okW_of_may (h1 s hs), h2, h3⟩
theorem chE_thru {ls : List (List Sp)} {n : Int} (h : chE n ls = 0) (h0 : 0 ≤ n) (hl : ∀ l ∈ ls, l.length ≤ 1000) : Thru n ls (chN n ls) := by
  induction ls generalizing n with
  | nil => exact ⟨rfl, h0⟩
  | cons l r ih =>
    unfold chE at h
    by_cases hm : mayL l = 0
    · rw [if_pos hm] at h
      by_cases hi : inL l = n
      · rw [if_pos hi] at h
        obtain ⟨a1, a2, a3⟩ := may_okW hm (hl l (.head _))
        exact ⟨a1, hi, by omega, by omega, ih h (outL_le l a1).1 fun x hx => hl x (.tail _ hx)⟩
      · rw [if_neg hi] at h; omega
    · rw [if_neg hm] at h; exact absurd h hm
theorem thru_chE {ls : List (List Sp)} {n m : Int} (h : Thru n ls m) : chE n ls = 0 ∧ chN n ls = m := by
  induction ls generalizing n with
  | nil => exact ⟨rfl, h.1⟩
  | cons l r ih =>
    obtain ⟨h1, h2, h3, h4, h5⟩ := h
    have hm := (okW_mayL l h1 (by omega)).1
    unfold chE chN
    rw [if_pos hm, if_pos h2]
    exact ih h5
theorem thru_chainE {ls : List (List Sp)} {n m : Int} (h : Thru n ls m) (h1 : n ≤ 1048576) : chainE n ls = 0 ∧ chainN n ls = m ∧ fuseL n ls = spT (fR n ls) := by
  obtain ⟨a, b⟩ := thru_chE h
  have e : chainE n ls = 0 := by unfold chainE; rw [if_pos ⟨h.pos, h1⟩]; exact a
  refine ⟨e, ?_, ?_⟩
  · unfold chainN; rw [if_pos e]; exact b
  · unfold fuseL; rw [if_pos e]
theorem chE_drop {ls : List (List Sp)} {n : Int} {j : Nat} (hj : j < ls.length) : chE n (ls.drop j) = (if mayL ls[j] = 0 then (if inL ls[j] = n then chE (outL ls[j]) (ls.drop (j + 1)) else 5) else mayL ls[j]) ∧ chN n (ls.drop j) = chN (outL ls[j]) (ls.drop (j + 1)) := by
  rw [List.drop_eq_getElem_cons hj]
  exact ⟨rfl, rfl⟩
theorem le_lenS {ls : List (List Sp)} : ∀ l ∈ ls, l.length ≤ lenS ls ∧ sumT l ≤ sumTT ls := by
  induction ls with
  | nil => exact fun l hl => by cases hl
  | cons x r ih =>
    intro l hl
    rw [lenS_cons, sumTT_cons]
    rcases List.mem_cons.1 hl with rfl | hl
    · omega
    · have := ih l hl; omega
theorem fR_ins (f : Nat → Nat) {ls : List (List Sp)} {n m : Int} (h : Thru n ls m) : insW f (fR n ls) ≤ (ls.map fun l => insW f (tok l)).sum := by
  induction ls generalizing n with
  | nil =>
    show insW f (List.replicate n.toNat Tok.keep) ≤ 0
    generalize n.toNat = k
    induction k with
    | zero => exact Nat.le_refl _
    | succ k ih => rw [List.replicate_succ, insW_keep]; exact ih
  | cons l r ih =>
    obtain ⟨h1, h2, h3, h4, h5⟩ := h
    have g := ih h5
    have c := comp_insW f (tok l) (fR (outL l) r)
    rw [List.map_cons, List.sum_cons]
    show insW f (compT (tok l) (fR (outL l) r)) ≤ _
    omega
theorem fR_len2 {ls : List (List Sp)} {n m : Int} (h : Thru n ls m) (hne : ls ≠ []) : (spT (fR n ls)).length ≤ nlenS ls := by
  induction ls generalizing n with
  | nil => exact absurd rfl hne
  | cons l r ih =>
    have h' := h
    obtain ⟨h1, h2, h3, h4, h5⟩ := h
    have tl := tok_okT l h1
    have hl : (normL l).length = chg 0 (tok l) := by rw [norm_tok l h1, (spT_len _ tl).1]
    rw [nlenS_cons, hl]
    rw [(spT_len _ (fR_okT h')).1]
    cases r with
    | nil =>
      subst h2
      rw [fR_one h1]; omega
    | cons x r =>
      have g := ih h5 (by simp)
      rw [(spT_len _ (fR_okT h5)).1] at g
      have t := tin_ok l h1
      have t1 := fR_len h5
      have c := comp_chg _ (tok l) (fR (outL l) (x :: r)) 0 0 0 (Nat.le_refl _) (by omega) (fun e => by cases e) (fun e => by cases e) (fun e => by cases e) (fun e => by cases e) (fun e => by cases e)
      show chg 0 (compT (tok l) (fR (outL l) (x :: r))) ≤ _
      omega
theorem fR_small {ls : List (List Sp)} {n m : Int} (h : Thru n ls m) (_hn : n ≤ 1048576) : (∀ s ∈ spT (fR n ls), OkW s) ∧ tok (spT (fR n ls)) = fR n ls ∧ isN (spT (fR n ls)) ∧ inL (spT (fR n ls)) = n ∧ outL (spT (fR n ls)) = m ∧
    (spT (fR n ls)).length ≤ 1 + lenS ls ∧ sumT (spT (fR n ls)) ≤ sumTT ls := by
  have ht := fR_okT h
  have hz := spT_okW _ ht
  have e := tok_spT _ ht
  have t := tin_ok _ hz
  rw [e] at t
  have t1 := fR_len h
  refine ⟨hz, e, spT_is _ ht, by omega, by omega, ?_, ?_⟩
  · cases ls with
    | nil =>
      have hk : spT (fR n []) = keepL n := by
        show spT (List.replicate n.toNat Tok.keep) = keepL n
        have g := (keepL_tok n)
        rw [← g, ← spT_isN (keepL_isN n) (keepL_okW n h.pos)]
      rw [hk]
      have := keepL_len n
      omega
    | cons l r =>
      have g := fR_len2 h (by simp)
      have hb : ∀ ls : List (List Sp), nlenS ls ≤ lenS ls := by
        intro ls
        induction ls with
        | nil => exact Nat.le_refl _
        | cons l r ih => rw [nlenS_cons, lenS_cons]; have := norm_len l; omega
      have := hb (l :: r)
      omega
  · rw [sumT_spT, encs_insW]
    have g := fR_ins (fun c => (enc1 c).length) h
    refine Nat.le_trans g ?_
    clear ht hz e t t1 g _hn
    induction ls generalizing n with
    | nil => exact Nat.le_refl _
    | cons l r ih =>
      obtain ⟨h1, h2, h3, h4, h5⟩ := h
      have g := ih h5
      have hi := insT_sum l h1
      rw [encs_insW] at hi
      rw [List.map_cons, List.sum_cons, sumTT_cons]
      omega
structure Sm (ls : List (List Sp)) : Prop where
  len : lenS ls ≤ 900
  txt : sumTT ls ≤ 400000000
  num : ls.length ≤ 100001
structure Small (ls : List (List Sp)) : Prop where
  len : lenS ls ≤ 800
  txt : sumTT ls ≤ 400000000
  num : ls.length ≤ 100000
theorem Small.each {ls : List (List Sp)} (h : Small ls) : ∀ l ∈ ls, l.length ≤ 1000 := fun l hl => by have := (le_lenS l hl).1; have := h.len; omega
theorem chain_thru {n : Int} {ls : List (List Sp)} (h : chainE n ls = 0) (hl : ∀ l ∈ ls, l.length ≤ 1000) : (0 ≤ n ∧ n ≤ 1048576) ∧ Thru n ls (chN n ls) := by
  unfold chainE at h
  by_cases hn : 0 ≤ n ∧ n ≤ 1048576
  · rw [if_pos hn] at h
    exact ⟨hn, chE_thru h hn.1 hl⟩
  · rw [if_neg hn] at h; omega
theorem fR_nil (n : Int) (h0 : 0 ≤ n) : spT (fR n []) = keepL n := by
  show spT (List.replicate n.toNat Tok.keep) = keepL n
  rw [← keepL_tok n, ← spT_isN (keepL_isN n) (keepL_okW n h0)]
theorem thru_take {ls : List (List Sp)} {n m : Int} (h : Thru n ls m) (j : Nat) : ∃ k, Thru n (ls.take j) k ∧ Thru k (ls.drop j) m := by
  rw [← List.take_append_drop j ls] at h
  exact thru_append.1 h
theorem lenS_take (ls : List (List Sp)) (j : Nat) : lenS (ls.take j) + lenS (ls.drop j) = lenS ls ∧ sumTT (ls.take j) + sumTT (ls.drop j) = sumTT ls := by
  have h := List.take_append_drop j ls
  constructor
  · rw [← lenS_append, h]
  · rw [← sumTT_append, h]
theorem take_snoc {ls : List (List Sp)} {j : Nat} (hj : j < ls.length) : ls.take (j + 1) = ls.take j ++ [ls[j]] := by
  rw [List.take_add_one, List.getElem?_eq_getElem hj]; rfl
theorem step10 {ls : List (List Sp)} {m k : Int} (h : Thru m ls k) (hm : m ≤ 1048576) (hS : Small ls) {j : Nat} (hj : j < ls.length) :
    (spT (fR m (ls.take j))).length ≤ 1000 ∧ ls[j].length ≤ 1000 ∧ (∀ s ∈ spT (fR m (ls.take j)), s.2.2.size ≤ 1000000000) ∧ (∀ s ∈ ls[j], s.2.2.size ≤ 1000000000) ∧
    sumT (spT (fR m (ls.take j))) + sumT ls[j] ≤ 900000000 ∧ compE (spT (fR m (ls.take j))) ls[j] = 0 ∧ compL (spT (fR m (ls.take j))) ls[j] = spT (fR m (ls.take (j + 1))) := by
  obtain ⟨k1, g1, _⟩ := thru_take h (j + 1)
  rw [take_snoc hj] at g1
  obtain ⟨g2, o1, o2, o3, o4, o5⟩ := thru_snoc.1 g1
  obtain ⟨a1, a2, a3, a4, a5, a6, a7⟩ := fR_small g2 hm
  have e1 := lenS_take ls j
  have hmem := List.getElem_mem hj
  have e2 := le_lenS _ hmem
  have h1 := hS.len
  have h2 := hS.txt
  have hs1 : ∀ s ∈ spT (fR m (ls.take j)), s.2.2.size ≤ 1000000000 := fun s hs => by have := le_sumT _ s hs; omega
  have hs2 : ∀ s ∈ ls[j], s.2.2.size ≤ 1000000000 := fun s hs => by have := le_sumT _ s hs; omega
  refine ⟨by omega, by omega, hs1, hs2, by omega, ?_, ?_⟩
  · unfold compE
    rw [if_pos (okW_mayL _ a1 (by omega)).1, if_pos (okW_mayL _ o1 (by omega)).1, if_pos a5]
  · unfold compL
    rw [take_snoc hj, a2]
    have hone : Thru (inL ls[j]) [ls[j]] k1 := ⟨o1, rfl, o2, o3, o4, o5⟩
    rw [fR_append g2 hone, fR_one o1]
theorem thru_keep {ls : List (List Sp)} {n m : Int} (h : Thru n ls m) (h1 : n ≤ 1048576) : Thru n (keepL n :: ls) m ∧ fR n (keepL n :: ls) = fR n ls := by
  have h0 := h.pos
  have ho : outL (keepL n) = n := by
    unfold keepL
    split
    · rename_i e; rw [e]; rfl
    · show n + 0 = n; omega
  have hi : inL (keepL n) = n := by
    unfold keepL
    split
    · rename_i e; rw [e]; rfl
    · show n + 0 = n; omega
  refine ⟨⟨keepL_okW n h0, hi, h0, h1, by rw [ho]; exact h⟩, ?_⟩
  show compT (tok (keepL n)) (fR (outL (keepL n)) ls) = fR n ls
  rw [ho, keepL_tok n, ck_l _ _ (by have := fR_len h; omega)]
theorem seg_isN {n m : Int} {ls : List (List Sp)} {L : List Sp} (h : Seg n ls m L) (hi : isN L) : L = spT (fR n ls) := by
  rw [← h.tk]; exact spT_isN hi h.ok
end Go.Proofs.YtgcaphjjigpjlaaGreatDoor
namespace Go.Proofs.YtgcaphjjigpjlaaGreatDoor
open Go.RowKit
set_option maxRecDepth 100000
set_option maxHeartbeats 4000000
theorem chainR10_c (A : Option Addr) (n c : Nat) (ls : List (List Sp)) (m : Int) (w : World) (h : RdSS w A n c ls) (hq : ∀ l ∈ ls, l.length ≤ 1000) (hT : sumTT ls ≤ 400000000) (hn1 : n ≤ 1000000) :
    Calls Tryz.prog 72 #[.int .i64 m, .slice A n c] w fun e w' => e = .returned (.tuple #[.int .i64 (chainN m ls), .int .i64 (chainE m ls)]) ∧ Ext w w' := by
  have HK := Lib.hid (keepR4_c m w)
  have HM : Hid (∀ (l : List Sp) a k c' w', Ext w w' → l ∈ ls → l.length = k → Rd w' 3 (.slice a k c') k (spCells l) → _) := Lib.hid fun l a k c' w' hx hl hk hr => mayR4_c a k c' l w' hr hk (by have := hq l hl; omega) (fun s hs => by have := le_sumT l s hs; have := (le_lenS l hl).2; omega)
  have HI : Hid (∀ (l : List Sp) a k c' w', Ext w w' → l ∈ ls → l.length = k → Rd w' 3 (.slice a k c') k (spCells l) → _) := Lib.hid fun l a k c' w' hx hl hk hr => inR4_c a k c' l w' hr hk (by have := hq l hl; omega)
  have HO : Hid (∀ (l : List Sp) a k c' w', Ext w w' → l ∈ ls → l.length = k → Rd w' 3 (.slice a k c') k (spCells l) → _) := Lib.hid fun l a k c' w' hx hl hk hr => outR4_c a k c' l w' hr hk (by have := hq l hl; omega) (fun s hs => by have := le_sumT l s hs; have := (le_lenS l hl).2; omega)
  have HB : Hid (∀ l ∈ ls, mayL l = 0 → 0 ≤ inL l ∧ inL l ≤ 1048576 ∧ wrap64 (inL l) = inL l ∧ wrap64 (outL l) = outL l) := Lib.hid fun l hl hm => by
    obtain ⟨o1, o2, o3⟩ := may_okW hm (hq l hl)
    have := outL_le l o1
    have := (le_lenS l hl).2
    refine ⟨o2, o3, ?_, ?_⟩ <;> unfold wrap64 <;> omega
  have hln := h.1
  have H := Lib.hid h; have HLN := Lib.hid hln
  by_cases hm : 0 ≤ m ∧ m ≤ 1048576
  · have hE : chainE m ls = chE m (ls.drop 0) ∧ chN m ls = chN m (ls.drop 0) := by rw [List.drop_zero]; exact ⟨by unfold chainE; rw [if_pos hm], rfl⟩
    have HE := Lib.hid hE
    clear h hln hq hT hE
    go_enter Tryz.func72, Tryz.ntmps72
    go_wp2_with fail
    refine HK.out.mono ?_; rintro e w1 ⟨hx1, ⟨hk, _⟩ | ⟨_, _, v, rfl, _⟩⟩
    · omega
    go_wp2_with fail
    go_loopw [0, 8] (fun y z wr => ∃ (j : Nat) (x : Int), j ≤ n ∧ z = .int .i64 j ∧ y = .int .i64 x ∧ (chainE m ls = chE x (ls.drop j) ∧ chN m ls = chN x (ls.drop j)) ∧ Ext w wr) (fun _ z _ => n - (intOf z).toNat)
    case atStart => exact ⟨0, m, by omega, rfl, rfl, HE.out, hx1⟩
    case round =>
      clear HE
      obtain ⟨j, x, hj, rfl, rfl, he, hxr⟩ := hrel
      skip
      have HE := Lib.hid he
      clear he
      by_cases hlt : j < n
      · have hjl : j < ls.length := by have := HLN.out; omega
        obtain ⟨b, off, a, kc, rfl, hb, q0, hr⟩ := (H.out.ext hxr).at_ hlt hjl
        have dn : decide (j < n) = true := by rw [decide_eq_true_eq]; exact hlt
        have i0 : (0 : Int) ≤ (j : Int) := by omega
        have i1 : (j : Int) < (n : Int) := by omega
        obtain ⟨d1, d2⟩ := chE_drop (n := x) hjl
        have hmem := List.getElem_mem hjl
        have CM := Lib.hid (fun w' hx => HM.out ls[j] a _ kc w' (hxr.trans hx) hmem rfl (hr.ext hx))
        have CI := Lib.hid (fun w' hx => HI.out ls[j] a _ kc w' (hxr.trans hx) hmem rfl (hr.ext hx))
        have CO := Lib.hid (fun w' hx => HO.out ls[j] a _ kc w' (hxr.trans hx) hmem rfl (hr.ext hx))
        have hB := HB.out ls[j] hmem
        obtain ⟨k, hk⟩ : ∃ k, ls[j].length = k := ⟨_, rfl⟩
        rw [hk] at q0 CM CI CO
        clear hk hr hmem
        generalize ls[j] = l at *
        by_cases hml : mayL l = 0
        · obtain ⟨b0, b1, b2, b3⟩ := hB hml
          rw [hml] at CM; rw [b2] at CI; rw [b3] at CO
          rw [if_pos hml] at d1
          clear hB hml b2 b3
          by_cases hi : inL l = x
          · rw [if_pos hi] at d1
            have HE2 : Hid (chainE m ls = chE (outL l) (ls.drop (j + 1)) ∧ chN m ls = chN (outL l) (ls.drop (j + 1))) := Lib.hid ⟨by rw [HE.out.1, d1], by rw [HE.out.2, d2]⟩
            have t1 : (inL l != x) = false := by rw [hi]; simp
            have t2 : (inL l == x) = true := by rw [beq_iff_eq]; exact hi
            clear d1 d2 hi
            generalize inL l = il at *
            generalize outL l = ol at *
            go_wp2_with fail
            refine (CM.out _ (Ext.refl _)).mono ?_; rintro e w2 ⟨rfl, hx2⟩; have p2 := ext_cell hx2 q0
            go_wp2_with fail
            refine (CI.out _ hx2).mono ?_; rintro e w3 ⟨rfl, hx3⟩; have p3 := ext_cell hx3 p2
            go_wp2_with fail
            refine (CO.out _ (hx2.trans hx3)).mono ?_; rintro e w4 ⟨rfl, hx4⟩; have p4 := ext_cell hx4 p3
            go_wp2_with fail
            go_roundw
            case rel => exact ⟨j + 1, ol, by omega, by go_num, rfl, HE2.out, hxr.trans ((hx2.trans hx3).trans hx4)⟩
            case measure => simp [intOf]; omega
          · rw [if_neg hi] at d1
            have HR : Hid (chainE m ls = 5 ∧ chainN m ls = 0) := Lib.hid (by
              have e : chainE m ls = 5 := by rw [HE.out.1, d1]
              exact ⟨e, by unfold chainN; rw [e]; rfl⟩)
            have t1 : (inL l != x) = true := by rw [bne_iff_ne]; exact hi
            have t2 : (inL l == x) = false := by rw [beq_eq_false_iff_ne]; exact hi
            clear d1 d2 hi
            generalize inL l = il at *
            go_wp2_with fail
            refine (CM.out _ (Ext.refl _)).mono ?_; rintro e w2 ⟨rfl, hx2⟩; have p2 := ext_cell hx2 q0
            go_wp2_with fail
            refine (CI.out _ hx2).mono ?_; rintro e w3 ⟨rfl, hx3⟩; have p3 := ext_cell hx3 p2
            go_wp2_with fail
            go_ret2
            rw [HR.out.1, HR.out.2]
            exact ⟨rfl, hxr.trans (hx2.trans hx3)⟩
        · rw [if_neg hml] at d1
          have HR : Hid (chainE m ls = mayL l ∧ chainN m ls = 0) := Lib.hid (by
            have e : chainE m ls = mayL l := by rw [HE.out.1, d1]
            exact ⟨e, by unfold chainN; rw [e, if_neg hml]⟩)
          have t1 : (mayL l != 0) = true := by rw [bne_iff_ne]; exact hml
          have t2 : (mayL l == 0) = false := by rw [beq_eq_false_iff_ne]; exact hml
          clear d1 d2 hml hB
          generalize mayL l = ml at *
          go_wp2_with fail
          refine (CM.out _ (Ext.refl _)).mono ?_; rintro e w2 ⟨rfl, hx2⟩; have p2 := ext_cell hx2 q0
          go_wp2_with fail
          go_ret2
          rw [HR.out.1, HR.out.2]
          exact ⟨rfl, hxr.trans hx2⟩
      · obtain rfl : j = n := by omega
        have hall : ls.drop j = [] := List.drop_eq_nil_of_le (by have := HLN.out; omega)
        have HR : Hid (chainE m ls = 0 ∧ chainN m ls = x) := Lib.hid (by
          have h1 := HE.out
          rw [hall] at h1
          have e : chainE m ls = 0 := h1.1
          exact ⟨e, by unfold chainN; rw [if_pos e, h1.2]; rfl⟩)
        have dn : decide (j < j) = false := by rw [decide_eq_false_iff_not]; omega
        clear hall hlt hj
        go_wp2_with fail
        go_ret2
        rw [HR.out.1, HR.out.2]
        exact ⟨rfl, hxr⟩
  · have HR : Hid (chainE m ls = 2 ∧ chainN m ls = 0) := Lib.hid (by
      have e : chainE m ls = 2 := by unfold chainE; rw [if_neg hm]
      exact ⟨e, by unfold chainN; rw [e]; rfl⟩)
    clear h hln hq hT HM HI HO HB
    go_enter Tryz.func72, Tryz.ntmps72
    go_wp2_with fail
    refine HK.out.mono ?_; rintro e w1 ⟨hx1, ⟨_, rfl⟩ | ⟨h0, h1, _⟩⟩
    · go_wp2_with fail
      go_ret2
      rw [HR.out.1, HR.out.2]
      exact ⟨rfl, hx1⟩
    · exact absurd ⟨h0, h1⟩ hm
theorem ofR10_c (A : Option Addr) (n c : Nat) (ls : List (List Sp)) (m : Int) (w : World) (h : RdSS w A n c ls) (hS : Small ls) :
    Calls Tryz.prog 42 #[.int .i64 m, .slice A n c] w (OpR w (chainE m ls) (fuseL m ls)) := by
  have HC := Lib.hid (chainR10_c A n c ls m w h hS.each hS.txt (by have := h.1; have := hS.num; omega))
  have HK : Hid (∀ w', Calls Tryz.prog 73 #[.int .i64 m] w' (KeepR w' m)) := Lib.hid fun w' => keepR4_c m w'
  have hln := h.1
  have hn1 : n ≤ 100000 := by have := hS.num; omega
  have H := Lib.hid h; have HLN := Lib.hid hln
  by_cases he : chainE m ls = 0
  · obtain ⟨hm, hth⟩ := chain_thru he hS.each
    have hST := fun j (hj : j < ls.length) => step10 hth hm.2 hS hj
    have HST := Lib.hid hST
    have HF : Hid (fuseL m ls = spT (fR m ls)) := Lib.hid (thru_chainE hth hm.2).2.2
    have H0 : Hid (keepL m = spT (fR m (ls.take 0))) := Lib.hid (by rw [List.take_zero]; exact (fR_nil m hm.1).symm)
    rw [he] at HC
    have hm0 := hm.1
    have hm1 := hm.2
    rw [he]
    clear h hln hS hth hST he hm
    generalize chainN m ls = cn at *
    go_enter Tryz.func42, Tryz.ntmps42
    go_wp2_with fail
    refine HC.out.mono ?_; rintro e w1 ⟨rfl, hx1⟩
    go_wp2_with fail
    refine (HK.out w1).mono ?_; rintro e w2 ⟨hx2, ⟨hk, _⟩ | ⟨_, _, v, rfl, hr2⟩⟩
    · omega
    obtain ⟨a0, q0, c0, rfl, r0⟩ := rdO_rd hr2
    have R0 := Lib.hid r0
    have hx12 := hx1.trans hx2
    clear hr2 r0
    go_wp2_with fail
    go_loopw [8, 10] (fun y z wr => ∃ (j : Nat) (a : Option Addr) (q k : Nat), j ≤ n ∧ z = .int .i64 j ∧ y = .slice a q k ∧ RdO wr a q k (spT (fR m (ls.take j))) ∧ Ext w wr) (fun _ z _ => n - (intOf z).toNat)
    case atStart => exact ⟨0, a0, q0, c0, by omega, rfl, rfl, by rw [← H0.out]; exact R0.out, hx12⟩
    case round =>
      clear R0
      obtain ⟨j, a0, q0, c0, hj, rfl, rfl, r0, hxr⟩ := hrel
      by_cases hlt : j < n
      · have hjl : j < ls.length := by have := HLN.out; omega
        obtain ⟨b, off, a, kc, rfl, hb, q0', hr⟩ := (H.out.ext hxr).at_ hlt hjl
        have dn : decide (j < n) = true := by rw [decide_eq_true_eq]; exact hlt
        have i0 : (0 : Int) ≤ (j : Int) := by omega
        have i1 : (j : Int) < (n : Int) := by omega
        obtain ⟨s1, s2, s3, s4, s5, s6, s7⟩ := HST.out j hjl
        have hq0 := r0.1
        have CC := Lib.hid (compR9_c a0 q0 c0 _ a _ kc ls[j] wr r0 ⟨rfl, hr⟩ (by omega) s2 s3 s4 s5)
        rw [s6, s7] at CC
        obtain ⟨k, hk⟩ : ∃ k, ls[j].length = k := ⟨_, rfl⟩
        rw [hk] at q0' CC
        clear hk hr r0 s1 s2 s3 s4 s5 s6 s7 hq0
        go_wp2_with fail
        refine CC.out.mono ?_; rintro e w3 ⟨hx3, a3, q3, c3, rfl, r3⟩
        rw [if_pos rfl] at r3
        have R3 := Lib.hid r3
        clear r3
        go_wp2_with fail
        go_roundw
        case rel => exact ⟨j + 1, a3, q3, c3, by omega, by go_num, rfl, R3.out, hxr.trans hx3⟩
        case measure => simp [intOf]; omega
      · obtain rfl : j = n := by omega
        have hall : ls.take j = ls := by rw [← HLN.out]; exact List.take_length
        rw [hall] at r0
        have R0 := Lib.hid r0
        have dn : decide (j < j) = false := by rw [decide_eq_false_iff_not]; omega
        clear hall hlt hj r0
        go_wp2_with fail
        go_ret2
        exact ⟨hxr, a0, q0, c0, rfl, by rw [if_pos rfl, HF.out]; exact R0.out⟩
  · have HN := Lib.hid he
    have t1 : (chainE m ls != 0) = true := by rw [bne_iff_ne]; exact he
    have t2 : (chainE m ls == 0) = false := by rw [beq_eq_false_iff_ne]; exact he
    clear h hln hS he HK
    generalize chainN m ls = cn at *
    generalize chainE m ls = ce at *
    go_enter Tryz.func42, Tryz.ntmps42
    go_wp2_with fail
    refine HC.out.mono ?_; rintro e w1 ⟨rfl, hx1⟩
    go_wp2_with fail
    go_ret2
    refine ⟨hx1, none, 0, 0, rfl, ?_⟩
    rw [if_neg HN.out]; exact ⟨rfl, Rd.nil _ _⟩
end Go.Proofs.YtgcaphjjigpjlaaGreatDoor
namespace Go.Proofs.YtgcaphjjigpjlaaGreatDoor
set_option maxRecDepth 100000
set_option linter.unusedSimpArgs false
def overE (a s : List Sp) : Int := if mayL a = 0 then (if mayL s = 0 then (if inL a = inL s then 0 else 5) else mayL s) else mayL a
def overL (a s : List Sp) : List Sp := spT (overT (tok a) (tok s))
theorem overE_ok {a s : List Sp} (hE : overE a s = 0) : mayL a = 0 ∧ mayL s = 0 ∧ inL a = inL s := by
  unfold overE at hE
  by_cases hma : mayL a = 0
  · rw [if_pos hma] at hE
    by_cases hmb : mayL s = 0
    · rw [if_pos hmb] at hE
      by_cases hf : inL a = inL s
      · exact ⟨hma, hmb, hf⟩
      · rw [if_neg hf] at hE; exact absurd hE (by decide)
    · rw [if_neg hmb] at hE; exact absurd hE hmb
  · rw [if_neg hma] at hE; exact absurd hE hma
theorem cutB_num (k n : Int) (t : ByteArray) (m : Nat) (hk : k ≠ 2) : (cutB (k, n, t) m).2.1 = n - m := by unfold cutB; rw [if_neg hk]
theorem over_inss (us : List Nat) (a b : List Tok) : overT a (us.map Tok.ins ++ b) = List.replicate us.length Tok.keep ++ overT a b := by
  induction us with
  | nil => rfl
  | cons u us ih => rw [List.map_cons, List.cons_append, overT_ins, ih]; rfl
theorem over_putT (us : List Nat) (a b : List Tok) (h : noIns b) : overT (us.map Tok.ins ++ a) b = us.map Tok.ins ++ overT a b := by
  induction us with
  | nil => rfl
  | cons u us ih =>
    rw [List.map_cons, List.cons_append, List.cons_append, ← ih]
    rcases b with _ | ⟨_ | _ | _, b⟩
    · rw [overT]
    · exact absurd h (by simp [noIns])
    · rw [overT]
    · rw [overT]
theorem over_kk (n : Nat) (a b : List Tok) : overT (List.replicate n Tok.keep ++ a) (List.replicate n Tok.keep ++ b) = List.replicate n Tok.keep ++ overT a b := by
  induction n with
  | zero => rfl
  | succ n ih => rw [List.replicate_succ, List.cons_append, List.cons_append, List.cons_append, ← ih, overT]
theorem over_dk (n : Nat) (a b : List Tok) : overT (List.replicate n Tok.del ++ a) (List.replicate n Tok.keep ++ b) = List.replicate n Tok.del ++ overT a b := by
  induction n with
  | zero => rfl
  | succ n ih => rw [List.replicate_succ, List.replicate_succ, List.cons_append, List.cons_append, List.cons_append, ← ih, overT]
theorem over_kd (n : Nat) (a b : List Tok) : overT (List.replicate n Tok.keep ++ a) (List.replicate n Tok.del ++ b) = overT a b := by
  induction n with
  | zero => rfl
  | succ n ih => rw [List.replicate_succ, List.replicate_succ, List.cons_append, List.cons_append, ← ih, overT]
theorem over_dd (n : Nat) (a b : List Tok) : overT (List.replicate n Tok.del ++ a) (List.replicate n Tok.del ++ b) = overT a b := by
  induction n with
  | zero => rfl
  | succ n ih => rw [List.replicate_succ, List.cons_append, List.cons_append, ← ih, overT]
structure RowO (K1 : Int) (K2 K3 : Nat) (xs ys os : List Sp) : Prop where
  x : ∀ s ∈ xs, OkW s ∧ ¬ emp s
  y : ∀ s ∈ ys, OkW s ∧ ¬ emp s
  o : ∀ s ∈ os, OkW s
  n : sumN os + sumN xs + sumN ys + (sumT ys : Int) ≤ K1
  t : sumT os + sumT xs ≤ K2
  l : os.length + xs.length + ys.length ≤ K3
theorem RowO.pops {K1 : Int} {K2 K3 : Nat} {xs ys os : List Sp} (h : RowO K1 K2 K3 xs ys os) : 0 ≤ sumN xs ∧ 0 ≤ sumN ys ∧ 0 ≤ sumN os :=
  ⟨sumN_pos _ fun s hs => (h.x s hs).1.nonneg, sumN_pos _ fun s hs => (h.y s hs).1.nonneg, sumN_pos _ fun s hs => (h.o s hs).nonneg⟩
theorem RowO.putY {K1 : Int} {K2 K3 : Nat} {s : Sp} {xs ys os : List Sp} (h : RowO K1 K2 K3 xs (s :: ys) os) (N : Nat) (hN : N ≤ s.2.2.size) : RowO K1 K2 K3 xs ys (os ++ [(1, (N : Int), ⟨#[]⟩)]) := by
  have h0 := (h.y s (List.mem_cons_self ..)).1.nonneg
  refine ⟨h.x, fun u hu => h.y u (List.mem_cons_of_mem _ hu), fun u hu => ?_, ?_, ?_, ?_⟩
  · rcases List.mem_append.1 hu with hu | hu
    · exact h.o u hu
    · rw [List.mem_singleton] at hu; subst hu; exact .inr ⟨.inl rfl, by simp only; omega, rfl⟩
  · have := h.n; rw [sumN_append, sumN_one]; rw [sumN_cons, sumT_cons] at this; simp only; omega
  · have := h.t; rw [sumT_append, sumT_sing]; have e : (⟨#[]⟩ : ByteArray).size = 0 := rfl; simp only; omega
  · have := h.l; simp only [List.length_append, List.length_cons, List.length_nil] at *; omega
theorem RowO.putX {K1 : Int} {K2 K3 : Nat} {s : Sp} {xs ys os : List Sp} (h : RowO K1 K2 K3 (s :: xs) ys os) : RowO K1 K2 K3 xs ys (os ++ [s]) := by
  refine ⟨fun u hu => h.x u (List.mem_cons_of_mem _ hu), h.y, fun u hu => ?_, ?_, ?_, ?_⟩
  · rcases List.mem_append.1 hu with hu | hu
    · exact h.o u hu
    · rw [List.mem_singleton] at hu; subst hu; exact (h.x _ (List.mem_cons_self ..)).1
  · have := h.n; rw [sumN_append, sumN_one]; rw [sumN_cons] at this; omega
  · have := h.t; rw [sumT_append, sumT_sing]; rw [sumT_cons] at this; omega
  · have := h.l; simp only [List.length_append, List.length_cons, List.length_nil] at *; omega
theorem RowO.both {K1 : Int} {K2 K3 : Nat} {s u : Sp} {xs ys os : List Sp} {n : Nat} (h : RowO K1 K2 K3 (s :: xs) (u :: ys) os) (hn : n = min (tokS s).length (tokS u).length) (ps : List Sp) (hp : ps = [] ∨ ps = [cutA s n] ∨ ps = [(1, 0, ⟨#[]⟩)]) : RowO K1 K2 K3 (left s n xs) (left u n ys) (os ++ ps) ∧ (left s n xs).length + (left u n ys).length < (s :: xs).length + (u :: ys).length := by
  have hs := (h.x s (List.mem_cons_self ..)).1
  have hu := (h.y u (List.mem_cons_self ..)).1
  obtain ⟨a1, a2, a3, a4⟩ := left_sum s n xs hs (by omega)
  obtain ⟨b1, b2, b3, b4⟩ := left_sum u n ys hu (by omega)
  have ca := (cutA_ok s n hs (by omega)).1
  have cb := (cutA_ok u n hu (by omega)).1
  have ca0 := ca.nonneg
  have cb0 := cb.nonneg
  have hn' := h.n; have ht' := h.t; have hl' := h.l
  have hlt : (left s n xs).length + (left u n ys).length < (s :: xs).length + (u :: ys).length := by
    simp only [List.length_cons]
    rcases (by omega : (tokS s).length = n ∨ (tokS u).length = n) with e | e
    · have := a4 e; omega
    · have := b4 e; omega
  refine ⟨⟨left_ok s n xs hs (by omega) fun v hv => h.x v (List.mem_cons_of_mem _ hv), left_ok u n ys hu (by omega) fun v hv => h.y v (List.mem_cons_of_mem _ hv), fun v hv => ?_, ?_, ?_, ?_⟩, hlt⟩
  · rcases List.mem_append.1 hv with hv | hv
    · exact h.o v hv
    · rcases hp with rfl | rfl | rfl
      · cases hv
      · rw [List.mem_singleton] at hv; subst hv; exact ca
      · rw [List.mem_singleton] at hv; subst hv; exact .inr ⟨.inl rfl, by decide, rfl⟩
  · rw [sumN_append]
    rcases hp with rfl | rfl | rfl
    · have e : sumN ([] : List Sp) = 0 := rfl
      omega
    · rw [sumN_one]; omega
    · rw [sumN_one]; simp only; omega
  · rw [sumT_append]
    rcases hp with rfl | rfl | rfl
    · have e : sumT ([] : List Sp) = 0 := rfl
      omega
    · rw [sumT_sing]; omega
    · rw [sumT_sing]; have e : (⟨#[]⟩ : ByteArray).size = 0 := rfl; simp only; omega
  · rw [List.length_append]
    have : ps.length ≤ 1 := by rcases hp with rfl | rfl | rfl <;> simp
    omega
theorem put_len (s : Sp) (h : OkW s) (hk : s.1 = 2) : (tokS s).length ≤ s.2.2.size ∧ outS s.1 s.2.1 s.2.2 = ((tokS s).length : Int) := by
  rcases tokS_kind s h with ⟨_, us, hu, e⟩ | ⟨k, _⟩ | ⟨k, _⟩
  · refine ⟨?_, ?_⟩
    · have h1 := (dec_some hu).2
      have h2 := length_le_encs us
      rw [← h1, bs_length] at h2
      rw [e, List.length_map]; exact h2
    · rw [← (tin_span s h).2, (sides s h).2, if_neg (by omega)]
  · omega
  · omega
theorem over_putY (xs ys os : List Sp) (s : Sp) (h : OkW s) (hk : s.1 = 2) : tok (os ++ [(1, ((tokS s).length : Int), ⟨#[]⟩)]) ++ overT (tok xs) (tok ys) = tok os ++ overT (tok xs) (tok (s :: ys)) := by
  rcases tokS_kind s h with ⟨_, us, _, e⟩ | ⟨k, _⟩ | ⟨k, _⟩
  · rw [tok_append, tok_cons, tok_nil, tok_cons, List.append_nil, e, over_inss, List.append_assoc, tokS_num _ _ _ (by decide), if_neg (by decide), Int.toNat_natCast, List.length_map]
  · omega
  · omega
theorem over_putX (xs ys os : List Sp) (s : Sp) (h : OkW s) (hk : s.1 = 2) (hy : noIns (tok ys)) : tok (os ++ [s]) ++ overT (tok xs) (tok ys) = tok os ++ overT (tok (s :: xs)) (tok ys) := by
  rcases tokS_kind s h with ⟨_, us, _, e⟩ | ⟨k, _⟩ | ⟨k, _⟩
  · rw [tok_append, tok_cons, tok_nil, tok_cons, List.append_nil, e, over_putT _ _ _ hy, List.append_assoc]
  · omega
  · omega
theorem over_both (xs ys os : List Sp) (s u : Sp) (n : Nat) (hs : OkW s) (hu : OkW u) (ks : s.1 ≠ 2) (ku : u.1 ≠ 2) (h1 : n ≤ (tokS s).length) (h2 : n ≤ (tokS u).length) :
    tok (os ++ (if u.1 = 1 then [cutA s n] else [])) ++ overT (tok (left s n xs)) (tok (left u n ys)) = tok os ++ overT (tok (s :: xs)) (tok (u :: ys)) := by
  rw [tok_append, left_tok s n xs hs h1, left_tok u n ys hu h2, tok_cons, tok_cons, List.append_assoc]
  congr 1
  have ca := (cutA_ok s n hs h1).2
  have es := tokS_split s n
  have eu := tokS_split u n
  generalize hS : (tokS s).drop n = S1 at *
  generalize hU : (tokS u).drop n = U1 at *
  have lu : ((tokS u).take n).length = n := by rw [List.length_take]; omega
  have ls : ((tokS s).take n).length = n := by rw [List.length_take]; omega
  rcases tokS_kind u hu with ⟨k, _⟩ | ⟨k, e⟩ | ⟨k, e⟩
  · exact absurd k ku
  · have e' : (tokS u).take n = List.replicate n Tok.keep := by rw [e, List.take_replicate, Nat.min_eq_left h2]
    rw [if_pos k, tok_cons, tok_nil, List.append_nil, ca]
    rw [es, eu, e', List.append_assoc, List.append_assoc]
    rcases tokS_kind s hs with ⟨k2, _⟩ | ⟨k2, f⟩ | ⟨k2, f⟩
    · exact absurd k2 ks
    · have f' : (tokS s).take n = List.replicate n Tok.keep := by rw [f, List.take_replicate, Nat.min_eq_left h1]
      rw [f', List.take_left' (by rw [List.length_replicate]), over_kk]
    · have f' : (tokS s).take n = List.replicate n Tok.del := by rw [f, List.take_replicate, Nat.min_eq_left h1]
      rw [f', List.take_left' (by rw [List.length_replicate]), over_dk]
  · have e' : (tokS u).take n = List.replicate n Tok.del := by rw [e, List.take_replicate, Nat.min_eq_left h2]
    rw [if_neg (by omega), tok_nil, List.nil_append]
    rw [es, eu, e', List.append_assoc, List.append_assoc]
    rcases tokS_kind s hs with ⟨k2, _⟩ | ⟨k2, f⟩ | ⟨k2, f⟩
    · exact absurd k2 ks
    · have f' : (tokS s).take n = List.replicate n Tok.keep := by rw [f, List.take_replicate, Nat.min_eq_left h1]
      rw [f', over_kd]
    · have f' : (tokS s).take n = List.replicate n Tok.del := by rw [f, List.take_replicate, Nat.min_eq_left h1]
      rw [f', over_dd]
theorem overC (xs ys : List Sp) (hx : ∀ s ∈ xs, OkW s ∧ ¬ emp s) (hy : ∀ s ∈ ys, OkW s ∧ ¬ emp s) (h : tin (tok xs) = tin (tok ys)) :
    (xs = [] ∧ ys = []) ∨ (∃ b1 b2 b3 r, ys = (b1, b2, b3) :: r ∧ b1 = 2) ∨ (∃ a1 a2 a3 r, xs = (a1, a2, a3) :: r ∧ a1 = 2 ∧ ∀ s q, ys = s :: q → s.1 ≠ 2) ∨
      (∃ a1 a2 a3 r b1 b2 b3 q, xs = (a1, a2, a3) :: r ∧ ys = (b1, b2, b3) :: q ∧ a1 ≠ 2 ∧ b1 ≠ 2) := by
  have Z : tin ([] : List Tok) = 0 := rfl
  rcases ys with _ | ⟨⟨b1, b2, b3⟩, q⟩
  · rcases xs with _ | ⟨⟨a1, a2, a3⟩, r⟩
    · exact .inl ⟨rfl, rfl⟩
    · right; right; left
      refine ⟨a1, a2, a3, r, rfl, ?_, fun s q hs => by cases hs⟩
      obtain ⟨h1, h2⟩ := hx _ (List.mem_cons_self ..)
      have h3 := tokS_pos _ h1 h2
      rw [tok_cons, tin_append, (sides _ h1).1, tok_nil] at h
      by_cases hk : a1 = 2
      · exact hk
      · exfalso
        rw [if_neg hk] at h
        omega
  · by_cases hb : b1 = 2
    · right; left; exact ⟨b1, b2, b3, q, rfl, hb⟩
    · rcases xs with _ | ⟨⟨a1, a2, a3⟩, r⟩
      · exfalso
        obtain ⟨h1, h2⟩ := hy _ (List.mem_cons_self ..)
        have h3 := tokS_pos _ h1 h2
        rw [tok_cons, tin_append, (sides _ h1).1, if_neg hb, tok_nil] at h
        omega
      · by_cases ha : a1 = 2
        · right; right; left
          exact ⟨a1, a2, a3, r, rfl, ha, fun s q' hs => by injection hs with e1 e2; subst e1; exact hb⟩
        · right; right; right
          exact ⟨a1, a2, a3, r, b1, b2, b3, q, rfl, rfl, ha, hb⟩
theorem over_step {K1 : Int} {K2 K3 : Nat} {TT : List Tok} {s u : Sp} {xs ys os : List Sp} {n : Nat} (h : RowO K1 K2 K3 (s :: xs) (u :: ys) os) (htt : tok os ++ overT (tok (s :: xs)) (tok (u :: ys)) = TT) (hsid : tin (tok (s :: xs)) = tin (tok (u :: ys))) (ks : s.1 ≠ 2) (ku : u.1 ≠ 2) (hn : n = min (tokS s).length (tokS u).length) :
    RowO K1 K2 K3 (left s n xs) (left u n ys) (os ++ (if u.1 = 1 then [cutA s n] else [])) ∧ tok (os ++ (if u.1 = 1 then [cutA s n] else [])) ++ overT (tok (left s n xs)) (tok (left u n ys)) = TT ∧ tin (tok (left s n xs)) = tin (tok (left u n ys)) := by
  have hs := (h.x s (List.mem_cons_self ..)).1
  have hu := (h.y u (List.mem_cons_self ..)).1
  have hp : (if u.1 = 1 then [cutA s n] else []) = [] ∨ (if u.1 = 1 then [cutA s n] else []) = [cutA s n] ∨ (if u.1 = 1 then [cutA s n] else []) = [(1, 0, ⟨#[]⟩)] := by
    by_cases h1 : u.1 = 1
    · rw [if_pos h1]; exact .inr (.inl rfl)
    · rw [if_neg h1]; exact .inl rfl
  refine ⟨(h.both hn _ hp).1, ?_, ?_⟩
  · rw [over_both xs ys os s u n hs hu ks ku (by omega) (by omega)]; exact htt
  · have d1 := (drop_tok s hs n (by omega)).1
    have d2 := (drop_tok u hu n (by omega)).1
    have s1 := (sides s hs).1
    have s2 := (sides u hu).1
    rw [if_neg ks] at d1 s1
    rw [if_neg ku] at d2 s2
    rw [tok_cons, tok_cons, tin_append, tin_append] at hsid
    rw [left_tok s n xs hs (by omega), left_tok u n ys hu (by omega), tin_append, tin_append]
    omega
theorem over_stepE {K1 : Int} {K2 K3 : Nat} {TT : List Tok} {s u : Sp} {xs ys os : List Sp} {n : Nat} (h : RowO K1 K2 K3 (s :: xs) (u :: ys) os) (htt : tok os ++ overT (tok (s :: xs)) (tok (u :: ys)) = TT) (hsid : tin (tok (s :: xs)) = tin (tok (u :: ys))) (ks : s.1 ≠ 2) (ku : u.1 ≠ 2) (hn : n = min (tokS s).length (tokS u).length) (m : Sp)
    (hm : m = if u.1 = 3 then (1, 0, ⟨#[]⟩) else cutA s n) :
    RowO K1 K2 K3 (left s n xs) (left u n ys) (os ++ [m]) ∧ tok (os ++ [m]) ++ overT (tok (left s n xs)) (tok (left u n ys)) = TT ∧ tin (tok (left s n xs)) = tin (tok (left u n ys)) ∧
      (left s n xs).length + (left u n ys).length < (s :: xs).length + (u :: ys).length := by
  have hu := (h.y u (List.mem_cons_self ..)).1
  have hlt := (h.both hn [] (.inl rfl)).2
  obtain ⟨h1, h2, h3⟩ := over_step h htt hsid ks ku hn
  have k13 : u.1 = 1 ∨ u.1 = 3 := by
    rcases hu with ⟨k1, _⟩ | ⟨k1, _⟩ <;> omega
  rcases k13 with k | k
  · rw [if_pos k] at h1 h2
    rw [if_neg (by omega)] at hm
    subst hm
    exact ⟨h1, h2, h3, hlt⟩
  · rw [if_neg (by omega), List.append_nil] at h2
    rw [if_pos k] at hm
    subst hm
    have hT : tokS (1, 0, (⟨#[]⟩ : ByteArray)) = [] := tokS_emp _ ⟨rfl, rfl⟩
    refine ⟨(h.both hn _ (.inr (.inr rfl))).1, ?_, h3, hlt⟩
    rw [tok_append, tok_cons, tok_nil, hT, List.append_nil, List.append_nil]; exact h2
end Go.Proofs.YtgcaphjjigpjlaaGreatDoor
namespace Go.Proofs.YtgcaphjjigpjlaaGreatDoor
set_option maxRecDepth 100000
set_option linter.unusedSimpArgs false
end Go.Proofs.YtgcaphjjigpjlaaGreatDoor
namespace Go.Proofs.YtgcaphjjigpjlaaGreatDoor
set_option maxRecDepth 100000
set_option linter.unusedSimpArgs false
theorem over_mem (a s : List Tok) (c : Nat) : Tok.ins c ∈ overT a s → Tok.ins c ∈ a := by
  fun_induction overT a s <;> grind
theorem overT_okT (a s : List Tok) (h : OkT a) : OkT (overT a s) := fun c hc => h c (over_mem a s c hc)
theorem over_insT (a s : List Tok) : tin a = tin s → insT (overT a s) = insT a := by
  fun_induction overT a s <;> intro h <;> simp only [tin_ins, tin_keep, tin_del, tin_nil, List.length_cons, List.length_nil] at * <;> first | rfl | omega | (rename_i ih; have := ih (by omega); simpa [insT] using this)
theorem over_row {K1 : Int} {K2 K3 : Nat} {TT : List Tok} (n : Nat) : ∀ xs ys os : List Sp, xs.length + ys.length ≤ n → RowO K1 K2 K3 xs ys os → tok os ++ overT (tok xs) (tok ys) = TT → tin (tok xs) = tin (tok ys) → ∃ os', tok os' = TT ∧ (∀ s ∈ os', OkW s) ∧ os'.length ≤ K3 := by
  induction n with
  | zero =>
    intro xs ys os hn h ht _
    have hx : xs = [] := List.length_eq_zero_iff.1 (by omega)
    have hy : ys = [] := List.length_eq_zero_iff.1 (by omega)
    subst hx; subst hy
    refine ⟨os, ?_, h.o, ?_⟩
    · rw [← ht, tok_nil, overT, List.append_nil]
    · have := h.l; simp only [List.length_nil] at this; omega
  | succ n ih =>
    intro xs ys os hn h ht hs
    rcases overC xs ys h.x h.y hs with ⟨rfl, rfl⟩ | ⟨b1, b2, b3, ys, rfl, hk⟩ | ⟨a1, a2, a3, xs, rfl, hk, hnp⟩ | ⟨a1, a2, a3, xs, b1, b2, b3, ys, rfl, rfl, hka, hkb⟩
    · refine ⟨os, ?_, h.o, ?_⟩
      · rw [← ht, tok_nil, overT, List.append_nil]
      · have := h.l; simp only [List.length_nil] at this; omega
    · have huo := (h.y _ (List.mem_cons_self ..)).1
      have hpl := put_len _ huo hk
      have hs2 : tin (tok xs) = tin (tok ys) := by rw [tok_cons, tin_append, (sides _ huo).1, if_pos hk] at hs; omega
      rw [← over_putY xs ys os _ huo hk] at ht
      simp only [List.length_cons] at hn
      exact ih xs ys _ (by omega) (h.putY _ hpl.1) ht hs2
    · have huo := (h.x _ (List.mem_cons_self ..)).1
      have hs2 : tin (tok xs) = tin (tok ys) := by rw [tok_cons, tin_append, (sides _ huo).1, if_pos hk] at hs; omega
      rw [← over_putX xs ys os _ huo hk (noIns_tok ys h.y hnp)] at ht
      simp only [List.length_cons] at hn
      exact ih xs ys _ (by omega) h.putX ht hs2
    · obtain ⟨m, hm⟩ : ∃ m, m = if b1 = 3 then ((1, 0, ⟨#[]⟩) : Sp) else cutA (a1, a2, a3) (min (tokS (a1, a2, a3)).length (tokS (b1, b2, b3)).length) := ⟨_, rfl⟩
      obtain ⟨h1, h2, h3, h4⟩ := over_stepE h ht hs hka hkb rfl m hm
      exact ih _ _ _ (by omega) h1 h2 h3
theorem overL_len (X Y : List Sp) (hX : ∀ s ∈ X, OkW s) (hY : ∀ s ∈ Y, OkW s) (hf : inL X = inL Y) : (overL X Y).length ≤ (normL X).length + (normL Y).length := by
  have px := okW_pos X hX
  have py := okW_pos Y hY
  have hnx := norm_okW X hX
  have hny := norm_okW Y hY
  have hix := isN_ne _ (norm_is X px)
  have hiy := isN_ne _ (norm_is Y py)
  have h1 := (tin_ok X hX).1
  have h2 := (tin_ok Y hY).1
  have hrow : RowO (sumN (normL X) + sumN (normL Y) + (sumT (normL Y) : Int)) (sumT (normL X)) ((normL X).length + (normL Y).length) (normL X) (normL Y) [] := by
    have Z : sumN ([] : List Sp) = 0 ∧ sumT ([] : List Sp) = 0 := ⟨rfl, rfl⟩
    refine ⟨fun s hs => ⟨hnx.1 s hs, hix s hs⟩, fun s hs => ⟨hny.1 s hs, hiy s hs⟩, fun s hs => (by cases hs), by omega, by omega, ?_⟩
    simp only [List.length_nil]; omega
  have hs : tin (tok (normL X)) = tin (tok (normL Y)) := by rw [hnx.2, hny.2]; omega
  obtain ⟨os, o1, o2, o3⟩ := over_row (TT := overT (tok X) (tok Y)) _ (normL X) (normL Y) [] (Nat.le_refl _) hrow (by rw [hnx.2, hny.2, tok_nil, List.nil_append]) hs
  have e : overL X Y = normL os := by unfold overL; rw [norm_tok os o2, o1]
  rw [e]
  have := norm_len os
  omega
theorem over_nil : overT [] [] = [] := by rw [overT]
theorem over_keepR (x : List Tok) : overT x (List.replicate (tin x) Tok.keep) = x := by
  induction x with
  | nil => exact over_nil
  | cons t x ih =>
    cases t with
    | ins c =>
      have e : tin (.ins c :: x) = tin x := by simp [tin]
      rw [e]
      have h := over_putT [c] x (List.replicate (tin x) Tok.keep) (by cases tin x <;> exact trivial)
      rw [ih] at h
      exact h
    | keep =>
      have e : tin (.keep :: x) = tin x + 1 := by simp [tin]
      rw [e, List.replicate_succ, overT, ih]
    | del =>
      have e : tin (.del :: x) = tin x + 1 := by simp [tin]
      rw [e, List.replicate_succ, overT, ih]
theorem over_many {ls : List (List Sp)} {n m k : Int} {l : List Sp} (t : List Tok) (ht : (tin t : Int) = n) (hn : Thru n ls k) (hl : Thru k [l] m) : overT t (fR n (ls ++ [l])) = overT (overT t (fR n ls)) (tok l) := by
  have h1 := fR_len hn
  have hl2 := hl
  obtain ⟨g1, g2, g3, g4, g5⟩ := hl
  have h2 : (tin (tok l) : Int) = inL l := (tin_ok l g1).1
  have h3 := fR_one g1
  rw [g2] at h3
  rw [fR_append hn hl2, h3]
  exact over_one _ t (fR n ls) (tok l) (Nat.le_refl _) (by omega) (by omega)
end Go.Proofs.YtgcaphjjigpjlaaGreatDoor
namespace Go.Proofs.YtgcaphjjigpjlaaGreatDoor
set_option maxRecDepth 100000
set_option linter.unusedSimpArgs false
end Go.Proofs.YtgcaphjjigpjlaaGreatDoor
namespace Go.Proofs.YtgcaphjjigpjlaaGreatDoor
open Go.RowKit
set_option maxRecDepth 100000
set_option maxHeartbeats 6000000
set_option linter.unusedSimpArgs false
theorem both11R_c (A : Option Addr) (q c : Nat) (a : List Sp) (B : Option Addr) (q' c' : Nat) (b : List Sp) (w : World) (h : RdO w A q c a) (h' : RdO w B q' c' b) (hq : q ≤ 1000) (hq' : q' ≤ 1000)
    (hta : ∀ s ∈ a, s.2.2.size ≤ 1000000000) (htb : ∀ s ∈ b, s.2.2.size ≤ 1000000000) :
    Calls Tryz.prog 85 #[.slice A q c, .slice B q' c'] w fun e w' => e = .returned (.int .i64 (overE a b)) ∧ Ext w w' := by
  have HMA : Hid (∀ w', Ext w w' → _) := Lib.hid fun w' hx => mayR4_c A q c a w' (h.2.ext hx) h.1 hq hta
  have HMB : Hid (∀ w', Ext w w' → _) := Lib.hid fun w' hx => mayR4_c B q' c' b w' (h'.2.ext hx) h'.1 hq' htb
  have HIA : Hid (∀ w', Ext w w' → _) := Lib.hid fun w' hx => inR4_c A q c a w' (h.2.ext hx) h.1 hq
  have HIB : Hid (∀ w', Ext w w' → _) := Lib.hid fun w' hx => inR4_c B q' c' b w' (h'.2.ext hx) h'.1 hq'
  by_cases hma : mayL a = 0
  · by_cases hmb : mayL b = 0
    · obtain ⟨alla, ai0, ai1⟩ := mayL_all hma (by have := h.1; omega)
      obtain ⟨allb, bi0, bi1⟩ := mayL_all hmb (by have := h'.1; omega)
      have hwo : wrap64 (inL a) = inL a := by unfold wrap64; omega
      have hwi : wrap64 (inL b) = inL b := by unfold wrap64; omega
      rw [hma] at HMA; rw [hmb] at HMB; rw [hwo] at HIA; rw [hwi] at HIB
      obtain ⟨E, hE⟩ : ∃ E, overE a b = E := ⟨_, rfl⟩
      rw [hE]
      have hcase : (inL a = inL b ∧ E = 0 ∧ (inL a != inL b) = false) ∨ (inL a ≠ inL b ∧ E = 5 ∧ (inL a != inL b) = true) := by
        rw [← hE]; unfold overE; rw [if_pos hma, if_pos hmb]
        by_cases hf : inL a = inL b
        · exact .inl ⟨hf, if_pos hf, by rw [hf]; simp⟩
        · exact .inr ⟨hf, if_neg hf, by rw [bne_iff_ne]; exact hf⟩
      clear h h' hta htb hma hmb alla allb hwo hwi hE ai0 ai1 bi0 bi1
      generalize inL b = IB at *
      generalize inL a = OA at *
      rcases hcase with ⟨hf, rfl, hbq⟩ | ⟨hf, rfl, hbq⟩
      · subst hf
        go_enter Tryz.func85, Tryz.ntmps85
        go_wp2_with fail
        refine (HMA.out _ (Ext.refl _)).mono ?_; rintro e w1 ⟨rfl, hx1⟩
        go_wp2_with fail
        refine (HMB.out _ hx1).mono ?_; rintro e w2 ⟨rfl, hx2⟩
        go_wp2_with fail
        refine (HIA.out _ (hx1.trans hx2)).mono ?_; rintro e w3 ⟨rfl, hx3⟩
        go_wp2_with fail
        refine (HIB.out _ ((hx1.trans hx2).trans hx3)).mono ?_; rintro e w4 ⟨rfl, hx4⟩
        go_wp2_with fail
        go_ret
        exact ⟨rfl, ((hx1.trans hx2).trans hx3).trans hx4⟩
      · have hb2 : (OA == IB) = false := by rw [beq_eq_false_iff_ne]; exact hf
        go_enter Tryz.func85, Tryz.ntmps85
        go_wp2_with fail
        refine (HMA.out _ (Ext.refl _)).mono ?_; rintro e w1 ⟨rfl, hx1⟩
        go_wp2_with fail
        refine (HMB.out _ hx1).mono ?_; rintro e w2 ⟨rfl, hx2⟩
        go_wp2_with fail
        refine (HIA.out _ (hx1.trans hx2)).mono ?_; rintro e w3 ⟨rfl, hx3⟩
        go_wp2_with fail
        refine (HIB.out _ ((hx1.trans hx2).trans hx3)).mono ?_; rintro e w4 ⟨rfl, hx4⟩
        go_wp2_with fail
        go_ret
        exact ⟨rfl, ((hx1.trans hx2).trans hx3).trans hx4⟩
    · have hE : overE a b = mayL b := by unfold overE; rw [if_pos hma, if_neg hmb]
      rw [hma] at HMA
      have hb : (mayL b != 0) = true := by rw [bne_iff_ne]; exact hmb
      have hb2 : (mayL b == 0) = false := by rw [beq_eq_false_iff_ne]; exact hmb
      rw [hE]
      clear h h' hta htb hma hmb hE
      generalize mayL b = MB at *
      go_enter Tryz.func85, Tryz.ntmps85
      go_wp2_with fail
      refine (HMA.out _ (Ext.refl _)).mono ?_; rintro e w1 ⟨rfl, hx1⟩
      go_wp2_with fail
      refine (HMB.out _ hx1).mono ?_; rintro e w2 ⟨rfl, hx2⟩
      go_wp2_with fail
      go_ret
      exact ⟨rfl, hx1.trans hx2⟩
  · have hE : overE a b = mayL a := by unfold overE; rw [if_neg hma]
    have hb : (mayL a != 0) = true := by rw [bne_iff_ne]; exact hma
    have hb2 : (mayL a == 0) = false := by rw [beq_eq_false_iff_ne]; exact hma
    rw [hE]
    clear h h' hta htb hma hE
    generalize mayL a = MA at *
    go_enter Tryz.func85, Tryz.ntmps85
    go_wp2_with fail
    refine (HMA.out _ (Ext.refl _)).mono ?_; rintro e w1 ⟨rfl, hx1⟩
    go_wp2_with fail
    go_ret
    exact ⟨rfl, hx1⟩
theorem overW_c (A : Option Addr) (q c : Nat) (a : List Sp) (B : Option Addr) (q' c' : Nat) (b : List Sp) (w : World) (h : RdO w A q c a) (h' : RdO w B q' c' b) (hq : q ≤ 1000) (hq' : q' ≤ 1000)
    (hta : ∀ s ∈ a, s.2.2.size ≤ 1000000000) (htb : ∀ s ∈ b, s.2.2.size ≤ 1000000000) (hT : sumT a + sumT b ≤ 900000000) (hma : mayL a = 0) (hmb : mayL b = 0) (hf : inL a = inL b) :
    Calls Tryz.prog 64 #[.slice A q c, .slice B q' c'] w fun e w' => Ext w w' ∧ ∃ A n c, e = .returned (.tuple #[.slice A n c, .int .i64 0]) ∧ RdO w' A n c (overL a b) := by
  obtain ⟨i, hi, hz0, hz1, hz2⟩ := info_parts info_sp5
  have hBO := both11R_c A q c a B q' c' b w h h' hq hq' hta htb
  have hE : overE a b = 0 := by unfold overE; rw [if_pos hma, if_pos hmb, if_pos hf]
  rw [hE] at hBO
  have HBO := Lib.hid hBO
  obtain ⟨hl, h⟩ := h
  obtain ⟨hl', h'⟩ := h'
  obtain ⟨alla, ai0, ai1⟩ := mayL_all hma (by omega)
  obtain ⟨allb, bi0, bi1⟩ := mayL_all hmb (by omega)
  have oka : ∀ s ∈ a, OkW s := fun s hs => okW_of_may (alla s hs)
  have okb : ∀ s ∈ b, OkW s := fun s hs => okW_of_may (allb s hs)
  have hna : sumN a = inL a := (may_sum a alla).2
  have hnb : sumN b = inL b := (may_sum b allb).2
  have Oka : Ok a := ⟨(may_sum a alla).1, by omega, by omega⟩
  have Okb : Ok b := ⟨(may_sum b allb).1, by omega, by omega⟩
  have HNA : Hid (∀ w', Ext w w' → _) := Lib.hid fun w' hx => ofR5_c A q c a w' (h.ext hx) hl (by omega) Oka
  have HNB : Hid (∀ w', Ext w w' → _) := Lib.hid fun w' hx => ofR5_c B q' c' b w' (h'.ext hx) hl' (by omega) Okb
  have hnx := norm_okW a oka
  have hny := norm_okW b okb
  have hix := isN_ne _ (norm_is a Oka.pos)
  have hiy := isN_ne _ (norm_is b Okb.pos)
  have hlx := norm_len a
  have hly := norm_len b
  have hti := (tin_ok b okb).1
  have hto := (tin_ok a oka).1
  have hrow : RowO 1000000000 900000000 2000 (normL a) (normL b) [] := by
    have Z : sumN ([] : List Sp) = 0 ∧ sumT ([] : List Sp) = 0 := ⟨rfl, rfl⟩
    refine ⟨fun s hs => ⟨hnx.1 s hs, hix s hs⟩, fun s hs => ⟨hny.1 s hs, hiy s hs⟩, fun s hs => (by cases hs), ?_, ?_, ?_⟩
    · rw [sumN_norm, sumN_norm, sumT_norm]; omega
    · rw [sumT_norm]; omega
    · simp only [List.length_nil]; omega
  have hsid : tin (tok (normL a)) = tin (tok (normL b)) := by rw [hnx.2, hny.2]; omega
  have htt : tok [] ++ overT (tok (normL a)) (tok (normL b)) = overT (tok a) (tok b) := by rw [hnx.2, hny.2, tok_nil, List.nil_append]
  have HROW := Lib.hid hrow; have HSID := Lib.hid hsid; have HTT := Lib.hid htt
  clear h hl h' hl' hta htb hT hma hmb hf alla allb oka okb hna hnb Oka Okb hnx hny hix hiy hlx hly hti hto hrow hsid htt hE hBO ai0 ai1 bi0 bi1
  generalize normL a = X0 at *
  generalize normL b = Y0 at *
  unfold overL
  obtain ⟨TT, hTT⟩ : ∃ TT, overT (tok a) (tok b) = TT := ⟨_, rfl⟩
  rw [hTT] at HTT ⊢
  clear hTT
  go_enter Tryz.func64, Tryz.ntmps64
  go_wp2_with fail
  refine HBO.out.mono ?_; rintro e w4 ⟨rfl, e4⟩
  clear HBO
  go_wp2_with fail
  refine (HNA.out _ e4).mono ?_; rintro e w5 ⟨v5, rfl, hx5, o5⟩
  obtain ⟨aX, nX, cX, rfl, rX⟩ := rdO_own o5
  have e5 := e4.trans hx5
  clear hx5 e4 o5
  go_wp2_with fail
  refine (HNB.out _ e5).mono ?_; rintro e w6 ⟨v6, rfl, hx6, o6⟩
  obtain ⟨aY, nY, cY, rfl, rY⟩ := rdO_own o6
  have RX := Lib.hid (rX.ext hx6)
  have RY := Lib.hid rY
  have e6 := e5.trans hx6
  have HE6 := Lib.hid e6
  clear hx6 e5 o6 rX rY e6
  have hrel0 : Own (w6.alloc (.cells #[] 60)) w6.heap.size 60 3 (.slice (some ⟨w6.heap.size, 0, none⟩) 0 0) 0 (spCells []) ∧ Below w6.heap.size w6 (w6.alloc (.cells #[] 60)) :=
    ⟨Own.made w6 w6.heap.size 60 3 0 #[] (Nat.le_refl _) (by omega) rfl, (Below.refl _ _).alloc (Nat.le_refl _) _⟩
  have HR0 := Lib.hid hrel0
  clear hrel0
  go_wp2_with fail
  have hv0 : (Value.slice (some ⟨w6.heap.size, 0, none⟩) 0 0).ownBlock = some w6.heap.size := rfl
  have HOX0 : Hid (Off nX aX (.slice (some ⟨w6.heap.size, 0, none⟩) 0 0) ∧ Off nY aY (.slice (some ⟨w6.heap.size, 0, none⟩) 0 0)) := Lib.hid ⟨off_old RX.out, off_old RY.out⟩
  clear hv0
  go_loopw [7, 8, 9] (fun vx vy vo wr => ∃ (xs ys os : List Sp) (ax ay : Option Addr) (nx ny cx cy : Nat), vx = .slice ax nx cx ∧ vy = .slice ay ny cy ∧ RdO wr ax nx cx xs ∧ RdO wr ay ny cy ys ∧ Own wr w6.heap.size 60 3 vo os.length (spCells os) ∧
    (Off nx ax vo ∧ Off ny ay vo) ∧ RowO 1000000000 900000000 2000 xs ys os ∧ tok os ++ overT (tok xs) (tok ys) = TT ∧ tin (tok xs) = tin (tok ys) ∧ Below w6.heap.size w6 wr) (fun vx vy _ _ => slen vx + slen vy)
  case atStart => exact ⟨X0, Y0, [], aX, aY, nX, nY, cX, cY, rfl, rfl, RX.out.ext HR0.out.2, RY.out.ext HR0.out.2, HR0.out.1, HOX0.out, HROW.out, HTT.out, HSID.out, HR0.out.2⟩
  case round =>
    obtain ⟨xs, ys, os, ax, ay, nx, ny, cx, cy, rfl, rfl, rx, ry, ho, ⟨ofx, ofy⟩, hrow, htt, hsid, hxr⟩ := hrel
    have HROW := Lib.hid hrow; have HTT := Lib.hid htt; have HSID := Lib.hid hsid
    clear hrow htt hsid RX RY HNA HNB HR0 HOX0
    have hco := HROW.out.l
    rcases overC xs ys HROW.out.x HROW.out.y HSID.out with ⟨rfl, rfl⟩ | ⟨b1, b2, b3, ys, rfl, hk⟩ | ⟨a1, a2, a3, xs, rfl, hk, hnp⟩ | ⟨a1, a2, a3, xs, b1, b2, b3, ys, rfl, rfl, hka, hkb⟩
    · have hnx := rx.1
      have hny := ry.1
      simp only [List.length_nil] at hnx hny
      subst hnx; subst hny
      have hok := okW_pos os HROW.out.o
      have hOk : Ok os := ⟨hok, by have := HROW.out.n; have e : sumN ([] : List Sp) = 0 := rfl; have e2 : sumT ([] : List Sp) = 0 := rfl; omega, by have := HROW.out.t; have e : sumT ([] : List Sp) = 0 := rfl; omega⟩
      have hres : normL os = spT TT := by rw [← HTT.out, norm_tok os HROW.out.o, tok_nil, overT, List.append_nil]
      obtain ⟨Z, hZ⟩ : ∃ Z, spT TT = Z := ⟨_, rfl⟩
      rw [hZ] at hres
      have HZ := Lib.hid hZ
      obtain ⟨ao, co, rfl, hoc⟩ := ho.len
      have HOF := Lib.hid (ofR5_c ao os.length co os wr ho.rd rfl (by simp only [List.length_nil] at hco; omega) hOk)
      rw [hres] at HOF
      have HX := Lib.hid hxr
      clear hok hOk hres hZ ho rx ry ofx ofy hxr
      go_wp2_with fail
      refine HOF.out.mono ?_; rintro e w7 ⟨v7, rfl, hx7, o7⟩
      obtain ⟨a7, n7, c7, rfl, r7⟩ := rdO_own o7
      go_wp2_with fail
      go_ret2
      rw [HZ.out]
      exact ⟨HE6.out.trans (Ext.trans HX.out hx7), _, _, _, rfl, r7⟩
    · subst hk
      have hyl := ry.1
      simp only [List.length_cons] at hyl hco
      obtain ⟨m, hm⟩ : ∃ m, ys.length = m := ⟨_, rfl⟩
      rw [hm] at hyl hco
      subst hyl
      clear hm
      obtain ⟨bY, oY, rfl, hbY, q0, q1, q2⟩ := sp_at ry.2 ry.1 (show 0 < m + 1 by omega)
      simp only [List.getElem_cons_zero, Nat.zero_mul, Nat.add_zero] at q0 q1 q2
      have hcY : m + 1 ≤ cy := by obtain ⟨_, _, hv, hc⟩ := ry.2.len; injection hv with _ _ e; omega
      have huo := (HROW.out.y _ (List.mem_cons_self ..)).1
      have hpl := put_len _ huo rfl
      simp only at hpl
      have hbt := HROW.out.n
      obtain ⟨n1, n2, n3⟩ := HROW.out.pops
      have hyn0 := sumN_pos ys fun s hs => (HROW.out.y s (List.mem_cons_of_mem _ hs)).1.nonneg
      have hy0 := huo.nonneg
      rw [sumN_cons, sumT_cons] at hbt
      simp only at hbt hy0
      have hOU := fun w' => outR_c 2 b2 b3 w' (by omega)
      rw [hpl.2] at hOU
      have hpl1 := hpl.1
      have hHTT0 := HTT.out
      rw [← over_putY xs ys os _ huo rfl] at hHTT0
      have hHROW0 := HROW.out.putY _ hpl1
      obtain ⟨N, hN⟩ : ∃ N, (tokS (2, b2, b3)).length = N := ⟨_, rfl⟩
      rw [hN] at hOU hHTT0 hHROW0 hpl1
      have HROW2 := Lib.hid hHROW0
      have HTT2 := Lib.hid hHTT0
      unfold spanV at hOU
      have HOU := Lib.hid hOU
      clear hOU hHTT0 hHROW0 hpl hN hbt n1 n2 n3 hyn0 hy0
      have HSID2 : Hid (tin (tok xs) = tin (tok ys)) := Lib.hid (by have h1 := HSID.out; rw [tok_cons, tin_append, (sides _ huo).1, if_pos rfl] at h1; omega)
      have hnx := rx.1
      have hl1 : os.length + 1 ≤ 2000 := by omega
      have y0 : (1 : Int) ≤ (m : Int) + 1 := by omega
      have y1 : (m : Int) + 1 ≤ (cy : Int) := by omega
      have y2 : (0 : Int) < (m : Int) + 1 := by omega
      have HO := Lib.hid ho; have RX := Lib.hid rx; have RY := Lib.hid ry; have OFX := Lib.hid ofx; have OFY := Lib.hid ofy; have HXR := Lib.hid hxr
      clear ho rx ry ofx ofy hxr
      obtain ⟨AD, hAD⟩ : ∃ AD : Option Addr, (if cy = 1 then some ⟨bY, oY, none⟩ else some ⟨bY, oY + 1 * 3, none⟩) = AD := ⟨_, rfl⟩
      have HAD := Lib.hid hAD
      simp only [Nat.one_mul] at hAD
      rcases Nat.eq_zero_or_pos nx with hz | hz
      · subst hz
        go_wp2_with fail
        refine (HOU.out _).mono ?_; rintro e wk ⟨rfl, hxk⟩
        have ho := HO.out.ext hxk; have rx := RX.out.ext hxk; have ry := RY.out.ext hxk
        have ofx := OFX.out; have ofy := OFY.out
        have hxr := Below.trans HXR.out (Below.mono hxk HXR.out.size)
        obtain ⟨v', w', happ, hown', hbel', hkp, hsz', hwh⟩ := app_newg (P := Tryz.prog) 23 23 60 i _ 3 32 Tryz.underlying23 hi hz0 hz1 hz2 rfl (by omega) (by omega)
          ho (by omega) 1 #[.int .i64 1, .int .i64 (N : Int), .string ⟨#[]⟩] rfl (by omega) (by simp [Value.oneCell']) 60
        have HAP := Lib.hid happ
        have HO2 : Hid (Own w' w6.heap.size 60 3 v' (os ++ [(1, (N : Int), (⟨#[]⟩ : ByteArray))]).length (spCells (os ++ [(1, (N : Int), (⟨#[]⟩ : ByteArray))]))) := Lib.hid (by rw [spCells_append, List.length_append]; exact hown')
        have HX2 := Lib.hid (ofx.rd rx hkp hsz')
        have HY2 := Lib.hid (rdO_behind (ofy.rd ry hkp hsz'))
        have HOX := Lib.hid (ofx.next rx hwh)
        have HOY := Lib.hid ((ofy.next ry hwh).behind (c := cy) (k := 1) (by omega))
        have HB2 := Lib.hid (hbel' hxr)
        rw [HAD.out] at HY2 HOY
        clear happ hown' hbel' hkp hsz' hwh ho rx ry ofx ofy hxr huo HO RX RY OFX OFY HXR HAD HOU hxk
        go_wp2_with (at_builtin; refine wpList_append_run rfl rfl HAP.out rfl rfl ?_)
        go_roundw
        case rel => exact ⟨xs, ys, os ++ [(1, (N : Int), (⟨#[]⟩ : ByteArray))], ax, AD, 0, m, cx, cy - 1, rfl, rfl, HX2.out, HY2.out, HO2.out, ⟨HOX.out, HOY.out⟩, HROW2.out, HTT2.out, HSID2.out, HB2.out⟩
        case measure => simp [slen]; try omega
      · have x0 : (0 : Int) < (nx : Int) := by omega
        have x1 : decide (0 < nx) = true := by rw [decide_eq_true_eq]; exact hz
        go_wp2_with fail
        refine (HOU.out _).mono ?_; rintro e wk ⟨rfl, hxk⟩
        have ho := HO.out.ext hxk; have rx := RX.out.ext hxk; have ry := RY.out.ext hxk
        have ofx := OFX.out; have ofy := OFY.out
        have hxr := Below.trans HXR.out (Below.mono hxk HXR.out.size)
        obtain ⟨v', w', happ, hown', hbel', hkp, hsz', hwh⟩ := app_newg (P := Tryz.prog) 23 23 60 i _ 3 32 Tryz.underlying23 hi hz0 hz1 hz2 rfl (by omega) (by omega)
          ho (by omega) 1 #[.int .i64 1, .int .i64 (N : Int), .string ⟨#[]⟩] rfl (by omega) (by simp [Value.oneCell']) 60
        have HAP := Lib.hid happ
        have HO2 : Hid (Own w' w6.heap.size 60 3 v' (os ++ [(1, (N : Int), (⟨#[]⟩ : ByteArray))]).length (spCells (os ++ [(1, (N : Int), (⟨#[]⟩ : ByteArray))]))) := Lib.hid (by rw [spCells_append, List.length_append]; exact hown')
        have HX2 := Lib.hid (ofx.rd rx hkp hsz')
        have HY2 := Lib.hid (rdO_behind (ofy.rd ry hkp hsz'))
        have HOX := Lib.hid (ofx.next rx hwh)
        have HOY := Lib.hid ((ofy.next ry hwh).behind (c := cy) (k := 1) (by omega))
        have HB2 := Lib.hid (hbel' hxr)
        rw [HAD.out] at HY2 HOY
        clear happ hown' hbel' hkp hsz' hwh ho rx ry ofx ofy hxr huo HO RX RY OFX OFY HXR HAD HOU hxk
        go_wp2_with (at_builtin; refine wpList_append_run rfl rfl HAP.out rfl rfl ?_)
        go_roundw
        case rel => exact ⟨xs, ys, os ++ [(1, (N : Int), (⟨#[]⟩ : ByteArray))], ax, AD, nx, m, cx, cy - 1, rfl, rfl, HX2.out, HY2.out, HO2.out, ⟨HOX.out, HOY.out⟩, HROW2.out, HTT2.out, HSID2.out, HB2.out⟩
        case measure => simp [slen]; try omega
    · subst hk
      have hxl := rx.1
      simp only [List.length_cons] at hxl hco
      obtain ⟨m, hm⟩ : ∃ m, xs.length = m := ⟨_, rfl⟩
      rw [hm] at hxl hco
      subst hxl
      clear hm
      obtain ⟨bX, oX, rfl, hbX, p0, p1, p2⟩ := sp_at rx.2 rx.1 (show 0 < m + 1 by omega)
      simp only [List.getElem_cons_zero, Nat.zero_mul, Nat.add_zero] at p0 p1 p2
      have hcX : m + 1 ≤ cx := by obtain ⟨_, _, hv, hc⟩ := rx.2.len; injection hv with _ _ e; omega
      have huo := (HROW.out.x _ (List.mem_cons_self ..)).1
      have HROW2 := Lib.hid HROW.out.putX
      have HTT2 : Hid (tok (os ++ [(2, a2, a3)]) ++ overT (tok xs) (tok ys) = TT) := Lib.hid (by rw [over_putX xs ys os _ huo rfl (noIns_tok ys HROW.out.y hnp)]; exact HTT.out)
      have HSID2 : Hid (tin (tok xs) = tin (tok ys)) := Lib.hid (by have h1 := HSID.out; rw [tok_cons, tin_append, (sides _ huo).1, if_pos rfl] at h1; omega)
      obtain ⟨v', w', happ, hown', hbel', hkp, hsz', hwh⟩ := app_newg (P := Tryz.prog) 23 23 60 i _ 3 32 Tryz.underlying23 hi hz0 hz1 hz2 rfl (by omega) (by omega)
        ho (by omega) 1 #[.int .i64 2, .int .i64 a2, .string a3] rfl (by omega) (by simp [Value.oneCell']) 60
      have HAP := Lib.hid happ
      have HO2 : Hid (Own w' w6.heap.size 60 3 v' (os ++ [(2, a2, a3)]).length (spCells (os ++ [(2, a2, a3)]))) := Lib.hid (by rw [spCells_append, List.length_append]; exact hown')
      have HY2 := Lib.hid (ofy.rd ry hkp hsz')
      have HX2 := Lib.hid (rdO_behind (ofx.rd rx hkp hsz'))
      have HOY := Lib.hid (ofy.next ry hwh)
      have HOX := Lib.hid ((ofx.next rx hwh).behind (c := cx) (k := 1) (by omega))
      have HB2 := Lib.hid (hbel' hxr)
      obtain ⟨AD, hAD⟩ : ∃ AD : Option Addr, (if cx = 1 then some ⟨bX, oX, none⟩ else some ⟨bX, oX + 1 * 3, none⟩) = AD := ⟨_, rfl⟩
      rw [hAD] at HX2 HOX
      simp only [Nat.one_mul] at hAD
      have hl1 : os.length + 1 ≤ 2000 := by omega
      have y0 : (1 : Int) ≤ (m : Int) + 1 := by omega
      have y1 : (m : Int) + 1 ≤ (cx : Int) := by omega
      have y2 : (0 : Int) < (m : Int) + 1 := by omega
      have hny := ry.1
      rcases ys with _ | ⟨⟨b1, b2, b3⟩, ys⟩
      · simp only [List.length_nil] at hny
        subst hny
        clear happ hown' hbel' hkp hsz' hwh ho rx ry ofx ofy hxr huo hnp
        go_wp2_with (at_builtin; refine wpList_append_run rfl rfl HAP.out rfl rfl ?_)
        go_roundw
        case rel => exact ⟨xs, [], os ++ [(2, a2, a3)], AD, ay, m, 0, cx - 1, cy, rfl, rfl, HX2.out, HY2.out, HO2.out, ⟨HOX.out, HOY.out⟩, HROW2.out, HTT2.out, HSID2.out, HB2.out⟩
        case measure => simp [slen]; try omega
      · have hb := hnp _ _ rfl
        simp only at hb
        have hbk : (b1 == 2) = false := by rw [beq_eq_false_iff_ne]; exact hb
        simp only [List.length_cons] at hny
        obtain ⟨k, hk⟩ : ∃ k, ys.length = k := ⟨_, rfl⟩
        rw [hk] at hny
        subst hny
        clear hk
        obtain ⟨bY, oY, rfl, hbY, q0, q1, q2⟩ := sp_at ry.2 ry.1 (show 0 < k + 1 by omega)
        simp only [List.getElem_cons_zero, Nat.zero_mul, Nat.add_zero] at q0 q1 q2
        have y3 : (0 : Int) < (k : Int) + 1 := by omega
        clear happ hown' hbel' hkp hsz' hwh ho rx ry ofx ofy hxr huo hnp hb
        go_wp2_with (at_builtin; refine wpList_append_run rfl rfl HAP.out rfl rfl ?_)
        go_roundw
        case rel => exact ⟨xs, (b1, b2, b3) :: ys, os ++ [(2, a2, a3)], AD, _, m, k + 1, cx - 1, cy, rfl, rfl, HX2.out, HY2.out, HO2.out, ⟨HOX.out, HOY.out⟩, HROW2.out, HTT2.out, HSID2.out, HB2.out⟩
        case measure => simp [slen]; try omega
    · have hxl := rx.1
      have hyl := ry.1
      simp only [List.length_cons] at hxl hyl hco
      obtain ⟨m, hm⟩ : ∃ m, xs.length = m := ⟨_, rfl⟩
      obtain ⟨k, hk⟩ : ∃ k, ys.length = k := ⟨_, rfl⟩
      rw [hm] at hxl hco
      rw [hk] at hyl hco
      subst hxl; subst hyl
      clear hm hk
      obtain ⟨bX, oX, rfl, hbX, p0, p1, p2⟩ := sp_at rx.2 rx.1 (show 0 < m + 1 by omega)
      obtain ⟨bY, oY, rfl, hbY, q0, q1, q2⟩ := sp_at ry.2 ry.1 (show 0 < k + 1 by omega)
      simp only [List.getElem_cons_zero, Nat.zero_mul, Nat.add_zero] at p0 p1 p2 q0 q1 q2
      have hcX : m + 1 ≤ cx := by obtain ⟨_, _, hv, hc⟩ := rx.2.len; injection hv with _ _ e; omega
      have hcY : k + 1 ≤ cy := by obtain ⟨_, _, hv, hc⟩ := ry.2.len; injection hv with _ _ e; omega
      have hso := (HROW.out.x _ (List.mem_cons_self ..)).1
      have huo := (HROW.out.y _ (List.mem_cons_self ..)).1
      obtain ⟨n1, n2, n3⟩ := HROW.out.pops
      have hbn := HROW.out.n
      have hbt := HROW.out.t
      have hx0 := hso.nonneg
      have hy0 := huo.nonneg
      have hxn0 := sumN_pos xs fun s hs => (HROW.out.x s (List.mem_cons_of_mem _ hs)).1.nonneg
      have hyn0 := sumN_pos ys fun s hs => (HROW.out.y s (List.mem_cons_of_mem _ hs)).1.nonneg
      rw [sumN_cons, sumN_cons, sumT_cons] at hbn
      rw [sumT_cons] at hbt
      simp only at hbn hbt hx0 hy0 hka hkb
      obtain ⟨L1, rfl⟩ := Int.eq_ofNat_of_zero_le hx0
      obtain ⟨L2, rfl⟩ := Int.eq_ofNat_of_zero_le hy0
      have hL1 : (tokS (a1, (L1 : Int), a3)).length = L1 := by rw [tokS_num _ _ _ hka, List.length_replicate, Int.toNat_natCast]
      have hL2 : (tokS (b1, (L2 : Int), b3)).length = L2 := by rw [tokS_num _ _ _ hkb, List.length_replicate, Int.toNat_natCast]
      have hst := fun n hn => over_step (n := n) HROW.out HTT.out HSID.out hka hkb hn
      have hF1 := fun n w' hn => firstR_c a1 (L1 : Int) a3 n w' hso (by omega) (by omega) hn
      have hF2 := fun n w' hn => firstR_c b1 (L2 : Int) b3 n w' huo (by omega) (by omega) hn
      have hcB1 := fun n hn => cutB_ok (a1, (L1 : Int), a3) n hso hn
      have hcB2 := fun n hn => cutB_ok (b1, (L2 : Int), b3) n huo hn
      have hsm1 := fun n hn => cut_sum (a1, (L1 : Int), a3) n hso hn
      have hsm2 := fun n hn => cut_sum (b1, (L2 : Int), b3) n huo hn
      have hA1 := fun n hn => (cutA_ok (a1, (L1 : Int), a3) n hso hn).1.nonneg
      have hA2 := fun n hn => (cutA_ok (b1, (L2 : Int), b3) n huo hn).1.nonneg
      rw [hL1] at hF1 hcB1 hsm1 hA1
      rw [hL2] at hF2 hcB2 hsm2 hA2
      rw [hL1, hL2] at hst
      have hLb : L1 ≤ 1000000000 ∧ L2 ≤ 1000000000 := ⟨by omega, by omega⟩
      obtain ⟨hLb1, hLb2⟩ := hLb
      have hl1 : os.length + 1 ≤ 2000 := by omega
      have hlt0 := fun b h => (ho.1.lt b h).2
      have HO := Lib.hid ho; have RX := Lib.hid rx; have RY := Lib.hid ry; have OFX := Lib.hid ofx; have OFY := Lib.hid ofy; have HBR := Lib.hid hxr; have HLT := Lib.hid hlt0
      clear ho rx ry ofx ofy hxr hlt0
      have hrr := Ext.refl wr
      obtain ⟨N, hN⟩ : ∃ N, N = min L1 L2 := ⟨_, rfl⟩
      have hn1 : N ≤ L1 := by omega
      have hn2 : N ≤ L2 := by omega
      have hmin : min (L1 : Int) (L2 : Int) = (N : Int) := by omega
      have hmin2 : (if (L1 : Int) ≤ (L2 : Int) then (L1 : Int) else (L2 : Int)) = (N : Int) := by split <;> omega
      obtain ⟨HROW2, HTT2, HSID2⟩ := hst N hN
      have hf1 := fun w' => hF1 N w' hn1; have hf2 := fun w' => hF2 N w' hn2; have hb1 := hcB1 N hn1; have hb2 := hcB2 N hn2; have hs1 := hsm1 N hn1; have hs2 := hsm2 N hn2; have ha1 := hA1 N hn1; have ha2 := hA2 N hn2
      obtain ⟨px2, px3, eP⟩ : ∃ x y, cutA (a1, (L1 : Int), a3) N = (a1, x, y) := ⟨(cutA (a1, (L1 : Int), a3) N).2.1, (cutA (a1, (L1 : Int), a3) N).2.2, Prod.ext (cutA_kind (a1, (L1 : Int), a3) N) rfl⟩
      obtain ⟨ax2, ax3, eA⟩ : ∃ x y, cutB (a1, (L1 : Int), a3) N = (a1, x, y) := ⟨(cutB (a1, (L1 : Int), a3) N).2.1, (cutB (a1, (L1 : Int), a3) N).2.2, Prod.ext (cutB_kind (a1, (L1 : Int), a3) N) rfl⟩
      obtain ⟨qx2, qx3, eQ⟩ : ∃ x y, cutA (b1, (L2 : Int), b3) N = (b1, x, y) := ⟨(cutA (b1, (L2 : Int), b3) N).2.1, (cutA (b1, (L2 : Int), b3) N).2.2, Prod.ext (cutA_kind (b1, (L2 : Int), b3) N) rfl⟩
      obtain ⟨bx2, bx3, eB⟩ : ∃ x y, cutB (b1, (L2 : Int), b3) N = (b1, x, y) := ⟨(cutB (b1, (L2 : Int), b3) N).2.1, (cutB (b1, (L2 : Int), b3) N).2.2, Prod.ext (cutB_kind (b1, (L2 : Int), b3) N) rfl⟩
      rw [eP] at hs1 ha1 hf1; rw [eA] at hs1 hb1 hf1; rw [eQ] at hs2 ha2 hf2; rw [eB] at hs2 hb2 hf2
      unfold spanV at hf1 hf2
      simp only at hf1 hf2 hs1 hs2 ha1 ha2
      have hb1n := hb1.1.nonneg; have hb2n := hb2.1.nonneg
      simp only at hb1n hb2n
      have HF1 := Lib.hid hf1; have HF2 := Lib.hid hf2
      have hd1 : (L1 : Int) - (N : Nat) = ax2 := by have h := cutB_num a1 (L1 : Int) a3 N hka; rw [eA] at h; exact h.symm
      have hd2 : (L2 : Int) - (N : Nat) = bx2 := by have h := cutB_num b1 (L2 : Int) b3 N hkb; rw [eB] at h; exact h.symm
      obtain ⟨X', hX'⟩ : ∃ X', left (a1, (L1 : Int), a3) N xs = X' := ⟨_, rfl⟩
      obtain ⟨Y', hY'⟩ : ∃ Y', left (b1, (L2 : Int), b3) N ys = Y' := ⟨_, rfl⟩
      rw [hX', hY'] at HROW2 HTT2 HSID2
      simp only at HROW2 HTT2
      unfold left at hX' hY'
      rw [hL1, eA] at hX'; rw [hL2, eB] at hY'
      rw [eP] at HROW2 HTT2
      have HDD : Hid ((ax2 = 0 ∧ bx2 = 0 ∧ X' = xs ∧ Y' = ys) ∨ (ax2 = 0 ∧ (bx2 == 0) = false ∧ X' = xs ∧ Y' = (b1, bx2, bx3) :: ys) ∨ ((ax2 == 0) = false ∧ bx2 = 0 ∧ X' = (a1, ax2, ax3) :: xs ∧ Y' = ys)) := Lib.hid (by
        rcases Nat.lt_trichotomy L1 L2 with hc | hc | hc
        · exact .inr (.inl ⟨by omega, by rw [beq_eq_false_iff_ne]; omega, by rw [← hX', if_pos (by omega)], by rw [← hY', if_neg (by omega)]⟩)
        · exact .inl ⟨by omega, by omega, by rw [← hX', if_pos (by omega)], by rw [← hY', if_pos (by omega)]⟩
        · exact .inr (.inr ⟨by rw [beq_eq_false_iff_ne]; omega, by omega, by rw [← hX', if_neg (by omega)], by rw [← hY', if_pos (by omega)]⟩))
      replace HROW2 := Lib.hid HROW2; replace HTT2 := Lib.hid HTT2; replace HSID2 := Lib.hid HSID2
      clear hst hF1 hF2 hcB1 hcB2 hsm1 hsm2 hA1 hA2 hf1 hf2 eP eA eQ eB hL1 hL2 hb1 hb2 HROW HTT HSID hs1 hs2 ha1 ha2 hb1n hb2n hX' hY' hd1 hd2 hN
      have ka : (a1 == 2) = false := by rw [beq_eq_false_iff_ne]; exact hka
      have kb : (b1 == 2) = false := by rw [beq_eq_false_iff_ne]; exact hkb
      have y2 : (0 : Int) < (k : Int) + 1 := by omega
      have x2 : (0 : Int) < (m : Int) + 1 := by omega
      go_wp2_with fail
      go_region_held3 (fun W => Ext wr W ∧ W.cell? ⟨bX, oX + 1, none⟩ = some (.int .i64 (L1 : Int)) ∧ W.cell? ⟨bY, oY + 1, none⟩ = some (.int .i64 (L2 : Int))) ((go_split_ands; refine ⟨?_, ?_, ?_⟩ <;> first | (exact Ext.drew ‹_›) | go_keep)) (fail)
      go_split_ands
      have e1 : Ext wr wr.drew := by assumption
      obtain ⟨w', hw'⟩ : ∃ x, wr.drew = x := ⟨_, rfl⟩
      rw [hw'] at e1 ⊢
      clear hw'
      have r0 := ext_cell e1 p0; have r1 := ext_cell e1 p1; have r2 := ext_cell e1 p2
      clear hmin hmin2
      go_wp2_with fail
      refine (HF1.out _).mono ?_; rintro e w7 ⟨rfl, hx7⟩
      have e7 := e1.trans hx7
      have t0 := ext_cell e7 q0; have t1 := ext_cell e7 q1; have t2 := ext_cell e7 q2
      have hba := BoxG.made (w7.alloc (.cells #[.int .i64 a1, .int .i64 px2, .string px3] 60)) #[.int .i64 a1, .int .i64 ax2, .string ax3] 60
      rw [size_alloc] at hba
      have HBP := Lib.hid (BoxG.made w7 #[.int .i64 a1, .int .i64 px2, .string px3] 60); have HBA := Lib.hid hba
      have E7 : Hid (Ext wr ((w7.alloc (.cells #[.int .i64 a1, .int .i64 px2, .string px3] 60)).alloc (.cells #[.int .i64 a1, .int .i64 ax2, .string ax3] 60))) := Lib.hid ((e7.alloc _).alloc _)
      have u0 := ext_cell E7.out q0; have u1 := ext_cell E7.out q1; have u2 := ext_cell E7.out q2
      clear hba r0 r1 r2
      go_wp2_with fail
      refine (HF2.out _).mono ?_; rintro e w8 ⟨rfl, hx8⟩
      have hsz8 := hx8.size
      rw [size_alloc, size_alloc] at hsz8
      obtain ⟨G, hG⟩ : ∃ x, w7.heap.size = x := ⟨_, rfl⟩
      obtain ⟨H, hH⟩ : ∃ x, w8.heap.size = x := ⟨_, rfl⟩
      have HBP8 := Lib.hid (HBP.out.ext (((Ext.refl _).alloc _).trans hx8)); have HBA8 := Lib.hid (HBA.out.ext hx8)
      rw [hG] at HBP8 HBA8 hsz8 ⊢
      rw [hH] at hsz8
      have hsz7 : wr.heap.size ≤ G := by rw [← hG]; exact e7.size
      have c0 := HBP8.out.2 0 _ rfl; have c1 := HBP8.out.2 1 _ rfl; have c2 := HBP8.out.2 2 _ rfl
      have E8 := Lib.hid (E7.out.trans hx8)
      have hbb := BoxG.made (w8.alloc (.cells #[.int .i64 b1, .int .i64 qx2, .string qx3] 60)) #[.int .i64 b1, .int .i64 bx2, .string bx3] 60
      rw [size_alloc, hH] at hbb
      have HBB := Lib.hid hbb
      have E9 : Hid (Ext wr ((w8.alloc (.cells #[.int .i64 b1, .int .i64 qx2, .string qx3] 60)).alloc (.cells #[.int .i64 b1, .int .i64 bx2, .string bx3] 60))) := Lib.hid ((E8.out.alloc _).alloc _)
      have HBA9 : Hid (BoxG ((w8.alloc (.cells #[.int .i64 b1, .int .i64 qx2, .string qx3] 60)).alloc (.cells #[.int .i64 b1, .int .i64 bx2, .string bx3] 60)) (G + 1) #[.int .i64 a1, .int .i64 ax2, .string ax3]) := Lib.hid (HBA8.out.ext (((Ext.refl _).alloc _).alloc _))
      have HBP9 : Hid (BoxG ((w8.alloc (.cells #[.int .i64 b1, .int .i64 qx2, .string qx3] 60)).alloc (.cells #[.int .i64 b1, .int .i64 bx2, .string bx3] 60)) G #[.int .i64 a1, .int .i64 px2, .string px3]) := Lib.hid (HBP8.out.ext (((Ext.refl _).alloc _).alloc _))
      have d0 := HBP9.out.2 0 _ rfl; have d1 := HBP9.out.2 1 _ rfl; have d2 := HBP9.out.2 2 _ rfl
      clear hbb t0 t1 t2 u0 u1 u2 hx7 hx8 E7 HBP HBA e7 hG
      have HH := Lib.hid hH
      go_upto_if 99 with fail
      go_cut [9] from 26 to 123 (fun vo wx => ∃ os' : List Sp, Hid (Own wx w6.heap.size 60 3 vo os'.length (spCells os')) ∧ Hid (RdO wx (some ⟨bX, oX, none⟩) (m + 1) cx ((a1, (L1 : Int), a3) :: xs)) ∧ Hid (RdO wx (some ⟨bY, oY, none⟩) (k + 1) cy ((b1, (L2 : Int), b3) :: ys)) ∧ Hid (Off (m + 1) (some ⟨bX, oX, none⟩) vo) ∧ Hid (Off (k + 1) (some ⟨bY, oY, none⟩) vo) ∧ Hid (BoxG wx (G + 1) #[.int .i64 a1, .int .i64 ax2, .string ax3]) ∧ Hid (BoxG wx (H + 1) #[.int .i64 b1, .int .i64 bx2, .string bx3]) ∧ Hid (Below w6.heap.size w6 wx) ∧ Hid (RowO 1000000000 900000000 2000 X' Y' os' ∧ tok os' ++ overT (tok X') (tok Y') = TT))
      case first =>
        by_cases hk1 : b1 = 1
        · have kk : (b1 == 1) = true := by rw [beq_iff_eq]; exact hk1
          have hr2 := HROW2.out; have ht2 := HTT2.out
          rw [if_pos hk1] at hr2 ht2
          have HR := Lib.hid hr2; have HT := Lib.hid ht2
          clear hr2 ht2 HROW2 HTT2
          clear hk1
          obtain ⟨vn, w10, happ, hown', hbel', hkp, hsz', hwh⟩ := app_newg (P := Tryz.prog) 23 23 60 i _ 3 32 Tryz.underlying23 hi hz0 hz1 hz2 rfl (by omega) (by omega)
            (HO.out.ext E9.out) (by omega) 1 #[.int .i64 a1, .int .i64 px2, .string px3] rfl (by omega) (by simp [Value.oneCell']) 60
          rw [size_alloc, size_alloc, HH.out] at happ
          have HAP := Lib.hid happ
          have hx9 := RX.out.ext E9.out; have hy9 := RY.out.ext E9.out
          have HRES := Lib.hid (And.intro (show Own w10 w6.heap.size 60 3 vn (os ++ [(a1, px2, px3)]).length (spCells (os ++ [(a1, px2, px3)])) by rw [spCells_append, List.length_append]; exact hown') (And.intro (OFX.out.rd hx9 hkp hsz') (And.intro (OFY.out.rd hy9 hkp hsz') (And.intro (OFX.out.next hx9 hwh) (And.intro (OFY.out.next hy9 hwh) (And.intro (HBA9.out.kept (fun h => by have := HLT.out _ h; omega) hkp hsz') (And.intro (HBB.out.kept (fun h => by have := HLT.out _ h; omega) hkp hsz') (hbel' (Below.trans HBR.out (Below.mono E9.out HBR.out.size))))))))))
          clear happ hown' hbel' hkp hsz' hwh hx9 hy9
          go_wp2_with (at_builtin; refine wpList_append_run rfl rfl HAP.out rfl rfl ?_)
          go_meet
          case rel => obtain ⟨g1, g2, g3, g4, g5, g6, g7, g8⟩ := HRES.out; exact ⟨os ++ [(a1, px2, px3)], Lib.hid g1, Lib.hid g2, Lib.hid g3, Lib.hid g4, Lib.hid g5, Lib.hid g6, Lib.hid g7, Lib.hid g8, Lib.hid ⟨HR.out, HT.out⟩⟩
        · have kk : (b1 == 1) = false := by rw [beq_eq_false_iff_ne]; exact hk1
          have hr2 := HROW2.out; have ht2 := HTT2.out
          rw [if_neg hk1, List.append_nil] at hr2 ht2
          have HR := Lib.hid hr2; have HT := Lib.hid ht2
          clear hr2 ht2 HROW2 HTT2
          clear hk1
          have hxr := Below.trans HBR.out (Below.mono E9.out HBR.out.size)
          go_wp2_with fail
          go_meet
          case rel => exact ⟨os, Lib.hid (HO.out.ext E9.out), Lib.hid (RX.out.ext E9.out), Lib.hid (RY.out.ext E9.out), OFX, OFY, HBA9, HBB, Lib.hid hxr, Lib.hid ⟨HR.out, HT.out⟩⟩
      case rest =>
        obtain ⟨os', HO10, RX10, RY10, OX10, OY10, BA10, BB10, HB10, HRT⟩ := hcut
        clear HROW2 HTT2 HO RX RY OFX OFY HBR HLT HBP8 HBA8 HBA9 HBP9 HBB E8 E9 HH
        have x3 : (1 : Int) ≤ (m : Int) + 1 := by omega
        have x4 : (m : Int) + 1 ≤ (cx : Int) := by omega
        have y3 : (1 : Int) ≤ (k : Int) + 1 := by omega
        have y4 : (k : Int) + 1 ≤ (cy : Int) := by omega
        go_wp2_with fail
        obtain ⟨AX, hAX⟩ : ∃ x : Option Addr, (if cx = 1 then some ⟨bX, oX, none⟩ else some ⟨bX, oX + 1 * 3, none⟩) = x := ⟨_, rfl⟩
        have hrbX := rdO_behind RX10.out
        rw [hAX] at hrbX
        simp only [Nat.one_mul] at hAX
        have HRBX := Lib.hid hrbX
        clear hrbX
        have HAPX : Hid (∀ W, Ext wc W → ∃ v' w', (Builtin.append_ #[23, 23] 23 #[.slice (some ⟨W.heap.size, 0, none⟩) 1 1, .slice AX m (cx - 1)]).run Tryz.prog (W.alloc (.cells #[.int .i64 a1, .int .i64 ax2, .string ax3] 60)) = .ok v' w' ∧ ((∃ aR cR, v' = .slice aR (m + 1) cR ∧ RdO w' aR (m + 1) cR ((a1, ax2, ax3) :: xs) ∧ Off (m + 1) aR u9) ∧ Ext W w')) := Lib.hid fun W hx =>
          app_rest Tryz.underlying23 hi hz0 hz1 hz2 rfl HRBX.out (by omega) HO10.out hx
        refine region_T (fun W => Ext wc W ∧ W.cell? ⟨G + 1, 0, none⟩ = some (.int .i64 a1) ∧ W.cell? ⟨G + 1, 1, none⟩ = some (.int .i64 ax2) ∧ W.cell? ⟨G + 1, 2, none⟩ = some (.string ax3)) 5 (by kernel_rfl) (⟨(Ext.refl _).drew, (BA10.out.ext (Ext.refl _).drew).2 0 _ rfl, (BA10.out.ext (Ext.refl _).drew).2 1 _ rfl, (BA10.out.ext (Ext.refl _).drew).2 2 _ rfl⟩) (fun hHeld => ?_)
        obtain ⟨Wd, hWd⟩ : ∃ x, wc.drew = x := ⟨_, rfl⟩
        rw [hWd] at hHeld ⊢
        have hdx : Ext wc Wd := by rw [← hWd]; exact (Ext.refl _).drew
        have HS0 := Lib.hid hHeld
        clear hWd
        refine wpAnyT_take (i := 0) (v := ?_) rfl (by kernel_rfl) (fun _ _ _ h => h) (Or.inl ⟨by rfl, ?_⟩) (by assumption) ?_
        rotate_left
        · (intro W hSw; (try dsimp only at hSw); go_simp; (try with_reducible rfl))
        try simp only [Act.put, List.getElem_toArray, List.getElem_cons_succ, List.getElem_cons_zero, List.setIfInBounds_toArray, List.set_cons_zero, List.set_cons_succ]
        refine wpAnyT_take (i := 2) (v := ?_) rfl (by kernel_rfl) (fun _ _ _ h => h) (Or.inl ⟨by rfl, ?_⟩) (by assumption) ?_
        rotate_left
        · (intro W hSw; (try dsimp only at hSw); go_simp; (try with_reducible rfl))
        try simp only [Act.put, List.getElem_toArray, List.getElem_cons_succ, List.getElem_cons_zero, List.setIfInBounds_toArray, List.set_cons_zero, List.set_cons_succ]
        refine wpAnyT_take (i := 3) (v := ?_) rfl (by kernel_rfl) (fun _ _ _ h => h) (Or.inl ⟨by rfl, ?_⟩) (by assumption) ?_
        rotate_left
        · (intro W hSw; (try dsimp only at hSw); go_simp; (try with_reducible rfl))
        try simp only [Act.put, List.getElem_toArray, List.getElem_cons_succ, List.getElem_cons_zero, List.setIfInBounds_toArray, List.set_cons_zero, List.set_cons_succ]
        refine wpAnyT_one (i := 1) rfl (by kernel_rfl) (fun K hK => ?_)
        go_simp
        refine hK.out _ _ (fun _ => ⟨hdx.alloc _, ext_cell ((Ext.refl _).alloc _) HS0.out.2.1, ext_cell ((Ext.refl _).alloc _) HS0.out.2.2.1, ext_cell ((Ext.refl _).alloc _) HS0.out.2.2.2⟩) (fun hH => ?_)
        replace hHeld := hH (by decide)
        clear hK K hH
        try simp only [Act.put, List.getElem_toArray, List.getElem_cons_succ, List.getElem_cons_zero, List.setIfInBounds_toArray, List.set_cons_zero, List.set_cons_succ]
        refine wpAnyT_one (i := 4) rfl (by kernel_rfl) (fun K hK => ?_)
        (refine step_append_ex (by rfl) _ _ _ (by rfl) (by rfl) (by rfl) (HAPX.out Wd hdx) ?_)
        rintro v' w11 ⟨⟨aRX, cRX, rfl, rRX, oRX⟩, hxk⟩
        refine hK.out _ _ (fun _ => ⟨hdx.trans hxk, ext_cell hxk HS0.out.2.1, ext_cell hxk HS0.out.2.2.1, ext_cell hxk HS0.out.2.2.2⟩) (fun hH => ?_)
        replace hHeld := hH (by decide)
        clear hK K hH
        try simp only [Act.put, List.getElem_toArray, List.getElem_cons_succ, List.getElem_cons_zero, List.setIfInBounds_toArray, List.set_cons_zero, List.set_cons_succ]
        refine wpAnyT_one (i := 5) rfl (by kernel_rfl) (fun K hK => ?_)
        go_simp
        refine hK.out _ _ (fun h => absurd rfl h) (fun _ => ?_)
        clear hK K hHeld
        try simp only [Act.put, List.getElem_toArray, List.getElem_cons_succ, List.getElem_cons_zero, List.setIfInBounds_toArray, List.set_cons_zero, List.set_cons_succ]
        refine wpAnyT_done (by kernel_rfl) ?_ _
        have EX := hdx.trans hxk
        clear hdx hxk HS0 HAPX HRBX
        have HO11 := Lib.hid (HO10.out.ext EX); have RY11 := Lib.hid (RY10.out.ext EX); have BA11 := Lib.hid (BA10.out.ext EX); have BB11 := Lib.hid (BB10.out.ext EX); have HB11 := Lib.hid (Below.trans HB10.out (Below.mono EX HB10.out.size)); have RX11 := Lib.hid rRX; have OX11 := Lib.hid oRX
        clear HO10 RY10 RX10 BA10 BB10 HB10 OX10 rRX oRX EX
        go_wp2_with fail
        obtain ⟨AY, hAY⟩ : ∃ x : Option Addr, (if cy = 1 then some ⟨bY, oY, none⟩ else some ⟨bY, oY + 1 * 3, none⟩) = x := ⟨_, rfl⟩
        have hrbY := rdO_behind RY11.out
        rw [hAY] at hrbY
        simp only [Nat.one_mul] at hAY
        have HRBY := Lib.hid hrbY
        clear hrbY
        have HAPY : Hid (∀ W, Ext w11 W → ∃ v' w', (Builtin.append_ #[23, 23] 23 #[.slice (some ⟨W.heap.size, 0, none⟩) 1 1, .slice AY k (cy - 1)]).run Tryz.prog (W.alloc (.cells #[.int .i64 b1, .int .i64 bx2, .string bx3] 60)) = .ok v' w' ∧ ((∃ aR cR, v' = .slice aR (k + 1) cR ∧ RdO w' aR (k + 1) cR ((b1, bx2, bx3) :: ys) ∧ Off (k + 1) aR u9) ∧ Ext W w')) := Lib.hid fun W hx =>
          app_rest Tryz.underlying23 hi hz0 hz1 hz2 rfl HRBY.out (by omega) HO11.out hx
        refine region_T (fun W => Ext w11 W ∧ W.cell? ⟨H + 1, 0, none⟩ = some (.int .i64 b1) ∧ W.cell? ⟨H + 1, 1, none⟩ = some (.int .i64 bx2) ∧ W.cell? ⟨H + 1, 2, none⟩ = some (.string bx3)) 5 (by kernel_rfl) (⟨(Ext.refl _).drew, (BB11.out.ext (Ext.refl _).drew).2 0 _ rfl, (BB11.out.ext (Ext.refl _).drew).2 1 _ rfl, (BB11.out.ext (Ext.refl _).drew).2 2 _ rfl⟩) (fun hHeld => ?_)
        obtain ⟨Wd, hWd⟩ : ∃ x, w11.drew = x := ⟨_, rfl⟩
        rw [hWd] at hHeld ⊢
        have hdx : Ext w11 Wd := by rw [← hWd]; exact (Ext.refl _).drew
        have HS0 := Lib.hid hHeld
        clear hWd
        refine wpAnyT_take (i := 0) (v := ?_) rfl (by kernel_rfl) (fun _ _ _ h => h) (Or.inl ⟨by rfl, ?_⟩) (by assumption) ?_
        rotate_left
        · (intro W hSw; (try dsimp only at hSw); go_simp; (try with_reducible rfl))
        try simp only [Act.put, List.getElem_toArray, List.getElem_cons_succ, List.getElem_cons_zero, List.setIfInBounds_toArray, List.set_cons_zero, List.set_cons_succ]
        refine wpAnyT_take (i := 2) (v := ?_) rfl (by kernel_rfl) (fun _ _ _ h => h) (Or.inl ⟨by rfl, ?_⟩) (by assumption) ?_
        rotate_left
        · (intro W hSw; (try dsimp only at hSw); go_simp; (try with_reducible rfl))
        try simp only [Act.put, List.getElem_toArray, List.getElem_cons_succ, List.getElem_cons_zero, List.setIfInBounds_toArray, List.set_cons_zero, List.set_cons_succ]
        refine wpAnyT_take (i := 3) (v := ?_) rfl (by kernel_rfl) (fun _ _ _ h => h) (Or.inl ⟨by rfl, ?_⟩) (by assumption) ?_
        rotate_left
        · (intro W hSw; (try dsimp only at hSw); go_simp; (try with_reducible rfl))
        try simp only [Act.put, List.getElem_toArray, List.getElem_cons_succ, List.getElem_cons_zero, List.setIfInBounds_toArray, List.set_cons_zero, List.set_cons_succ]
        refine wpAnyT_one (i := 1) rfl (by kernel_rfl) (fun K hK => ?_)
        go_simp
        refine hK.out _ _ (fun _ => ⟨hdx.alloc _, ext_cell ((Ext.refl _).alloc _) HS0.out.2.1, ext_cell ((Ext.refl _).alloc _) HS0.out.2.2.1, ext_cell ((Ext.refl _).alloc _) HS0.out.2.2.2⟩) (fun hH => ?_)
        replace hHeld := hH (by decide)
        clear hK K hH
        try simp only [Act.put, List.getElem_toArray, List.getElem_cons_succ, List.getElem_cons_zero, List.setIfInBounds_toArray, List.set_cons_zero, List.set_cons_succ]
        refine wpAnyT_one (i := 4) rfl (by kernel_rfl) (fun K hK => ?_)
        (refine step_append_ex (by rfl) _ _ _ (by rfl) (by rfl) (by rfl) (HAPY.out Wd hdx) ?_)
        rintro v' w12 ⟨⟨aRY, cRY, rfl, rRY, oRY⟩, hxk⟩
        refine hK.out _ _ (fun _ => ⟨hdx.trans hxk, ext_cell hxk HS0.out.2.1, ext_cell hxk HS0.out.2.2.1, ext_cell hxk HS0.out.2.2.2⟩) (fun hH => ?_)
        replace hHeld := hH (by decide)
        clear hK K hH
        try simp only [Act.put, List.getElem_toArray, List.getElem_cons_succ, List.getElem_cons_zero, List.setIfInBounds_toArray, List.set_cons_zero, List.set_cons_succ]
        refine wpAnyT_one (i := 5) rfl (by kernel_rfl) (fun K hK => ?_)
        go_simp
        refine hK.out _ _ (fun h => absurd rfl h) (fun _ => ?_)
        clear hK K hHeld
        try simp only [Act.put, List.getElem_toArray, List.getElem_cons_succ, List.getElem_cons_zero, List.setIfInBounds_toArray, List.set_cons_zero, List.set_cons_succ]
        refine wpAnyT_done (by kernel_rfl) ?_ _
        have EY := hdx.trans hxk
        clear hdx hxk HS0 HAPY HRBY
        have HO12 := Lib.hid (HO11.out.ext EY); have RX12 := Lib.hid (RX11.out.ext EY); have BA12 := Lib.hid (BA11.out.ext EY); have BB12 := Lib.hid (BB11.out.ext EY); have HB12 := Lib.hid (Below.trans HB11.out (Below.mono EY HB11.out.size)); have RY12 := Lib.hid rRY; have OY12 := Lib.hid oRY
        clear HO11 RX11 RY11 BA11 BB11 HB11 OY10 rRY oRY EY
        have k0 := BA12.out.2 0 _ rfl; have k1 := BA12.out.2 1 _ rfl; have k2 := BA12.out.2 2 _ rfl
        have j0 := BB12.out.2 0 _ rfl; have j1 := BB12.out.2 1 _ rfl; have j2 := BB12.out.2 2 _ rfl
        rcases HDD.out with ⟨e1, e2, eX, eY⟩ | ⟨e1, e2, eX, eY⟩ | ⟨e1, e2, eX, eY⟩
        · have hrt := HRT.out; have hsd := HSID2.out
          rw [eX, eY] at hrt hsd
          have HRT2 := Lib.hid hrt; have HSD2 := Lib.hid hsd
          rw [e1] at k1
          rw [e2] at j1
          clear hrt hsd eX eY HRT HSID2 HDD e1 e2
          obtain ⟨gX, fX, hgX, _, _, _, _⟩ := sp_at RX12.out.2 RX12.out.1 (Nat.succ_pos _)
          subst hgX
          have hcX : m + 1 ≤ cRX := by obtain ⟨_, _, hv, hc⟩ := RX12.out.2.len; injection hv with _ _ e; omega
          obtain ⟨DX, hDX⟩ : ∃ x : Option Addr, (if cRX = 1 then some ⟨gX, fX, none⟩ else some ⟨gX, fX + 1 * 3, none⟩) = x := ⟨_, rfl⟩
          have rdX := rdO_behind RX12.out; have odX := Off.behind (c := cRX) (k := 1) OX11.out (Nat.succ_pos _)
          rw [hDX] at rdX odX
          simp only [Nat.one_mul] at hDX
          have x5X : (m : Int) + 1 ≤ (cRX : Int) := by omega
          have RDX := Lib.hid rdX; have ODX := Lib.hid odX
          clear rdX odX hcX
          obtain ⟨gY, fY, hgY, _, _, _, _⟩ := sp_at RY12.out.2 RY12.out.1 (Nat.succ_pos _)
          subst hgY
          have hcY : k + 1 ≤ cRY := by obtain ⟨_, _, hv, hc⟩ := RY12.out.2.len; injection hv with _ _ e; omega
          obtain ⟨DY, hDY⟩ : ∃ x : Option Addr, (if cRY = 1 then some ⟨gY, fY, none⟩ else some ⟨gY, fY + 1 * 3, none⟩) = x := ⟨_, rfl⟩
          have rdY := rdO_behind RY12.out; have odY := Off.behind (c := cRY) (k := 1) OY12.out (Nat.succ_pos _)
          rw [hDY] at rdY odY
          simp only [Nat.one_mul] at hDY
          have x5Y : (k : Int) + 1 ≤ (cRY : Int) := by omega
          have RDY := Lib.hid rdY; have ODY := Lib.hid odY
          clear rdY odY hcY
          go_wp2_with fail
          go_roundw
          case rel => exact ⟨xs, ys, os', DX, DY, m, k, cRX - 1, cRY - 1, rfl, rfl, RDX.out, RDY.out, HO12.out, ⟨ODX.out, ODY.out⟩, HRT2.out.1, HRT2.out.2, HSD2.out, HB12.out⟩
          case measure => simp [slen]; try omega
        · have hrt := HRT.out; have hsd := HSID2.out
          rw [eX, eY] at hrt hsd
          have HRT2 := Lib.hid hrt; have HSD2 := Lib.hid hsd
          rw [e1] at k1
          clear hrt hsd eX eY HRT HSID2 HDD e1
          obtain ⟨gX, fX, hgX, _, _, _, _⟩ := sp_at RX12.out.2 RX12.out.1 (Nat.succ_pos _)
          subst hgX
          have hcX : m + 1 ≤ cRX := by obtain ⟨_, _, hv, hc⟩ := RX12.out.2.len; injection hv with _ _ e; omega
          obtain ⟨DX, hDX⟩ : ∃ x : Option Addr, (if cRX = 1 then some ⟨gX, fX, none⟩ else some ⟨gX, fX + 1 * 3, none⟩) = x := ⟨_, rfl⟩
          have rdX := rdO_behind RX12.out; have odX := Off.behind (c := cRX) (k := 1) OX11.out (Nat.succ_pos _)
          rw [hDX] at rdX odX
          simp only [Nat.one_mul] at hDX
          have x5X : (m : Int) + 1 ≤ (cRX : Int) := by omega
          have RDX := Lib.hid rdX; have ODX := Lib.hid odX
          clear rdX odX hcX
          go_wp2_with fail
          go_roundw
          case rel => exact ⟨xs, ((b1, bx2, bx3) :: ys), os', DX, aRY, m, k + 1, cRX - 1, cRY, rfl, rfl, RDX.out, RY12.out, HO12.out, ⟨ODX.out, OY12.out⟩, HRT2.out.1, HRT2.out.2, HSD2.out, HB12.out⟩
          case measure => simp [slen]; try omega
        · have hrt := HRT.out; have hsd := HSID2.out
          rw [eX, eY] at hrt hsd
          have HRT2 := Lib.hid hrt; have HSD2 := Lib.hid hsd
          rw [e2] at j1
          clear hrt hsd eX eY HRT HSID2 HDD e2
          obtain ⟨gY, fY, hgY, _, _, _, _⟩ := sp_at RY12.out.2 RY12.out.1 (Nat.succ_pos _)
          subst hgY
          have hcY : k + 1 ≤ cRY := by obtain ⟨_, _, hv, hc⟩ := RY12.out.2.len; injection hv with _ _ e; omega
          obtain ⟨DY, hDY⟩ : ∃ x : Option Addr, (if cRY = 1 then some ⟨gY, fY, none⟩ else some ⟨gY, fY + 1 * 3, none⟩) = x := ⟨_, rfl⟩
          have rdY := rdO_behind RY12.out; have odY := Off.behind (c := cRY) (k := 1) OY12.out (Nat.succ_pos _)
          rw [hDY] at rdY odY
          simp only [Nat.one_mul] at hDY
          have x5Y : (k : Int) + 1 ≤ (cRY : Int) := by omega
          have RDY := Lib.hid rdY; have ODY := Lib.hid odY
          clear rdY odY hcY
          go_wp2_with fail
          go_roundw
          case rel => exact ⟨((a1, ax2, ax3) :: xs), ys, os', aRX, DY, m + 1, k, cRX, cRY - 1, rfl, rfl, RX12.out, RDY.out, HO12.out, ⟨OX11.out, ODY.out⟩, HRT2.out.1, HRT2.out.2, HSD2.out, HB12.out⟩
          case measure => simp [slen]; try omega
theorem overR_c (A : Option Addr) (q c : Nat) (a : List Sp) (B : Option Addr) (q' c' : Nat) (b : List Sp) (w : World) (h : RdO w A q c a) (h' : RdO w B q' c' b) (hq : q ≤ 1000) (hq' : q' ≤ 1000)
    (hta : ∀ s ∈ a, s.2.2.size ≤ 1000000000) (htb : ∀ s ∈ b, s.2.2.size ≤ 1000000000) (hT : sumT a + sumT b ≤ 900000000) :
    Calls Tryz.prog 64 #[.slice A q c, .slice B q' c'] w (OpR w (overE a b) (overL a b)) := by
  by_cases hE : overE a b = 0
  · have hall := overE_ok hE
    refine (overW_c A q c a B q' c' b w h h' hq hq' hta htb hT hall.1 hall.2.1 hall.2.2).mono ?_
    rintro e w' ⟨hx, A', n', c'', rfl, hr⟩
    refine ⟨hx, A', n', c'', by rw [hE], ?_⟩
    rw [hE, if_pos rfl]; exact hr
  · have HM := Lib.hid (both11R_c A q c a B q' c' b w h h' hq hq' hta htb)
    have HN := Lib.hid hE
    have hb : (overE a b != 0) = true := by rw [bne_iff_ne]; exact hE
    have hb2 : (overE a b == 0) = false := by rw [beq_eq_false_iff_ne]; exact hE
    clear h h' hta htb hT hE
    generalize overE a b = EE at *
    generalize overL a b = CL at *
    go_enter Tryz.func64, Tryz.ntmps64
    go_wp2_with fail
    refine HM.out.mono ?_; rintro e w1 ⟨rfl, hx1⟩
    go_wp2_with fail
    go_ret2
    refine ⟨hx1, none, 0, 0, rfl, ?_⟩
    rw [if_neg HN.out]; exact ⟨rfl, Rd.nil _ _⟩
end Go.Proofs.YtgcaphjjigpjlaaGreatDoor
namespace Go.Proofs.YtgcaphjjigpjlaaGreatDoor
open Go.RowKit
set_option maxRecDepth 100000
set_option maxHeartbeats 4000000
set_option linter.unusedSimpArgs false
def thruE (a : List Sp) (ls : List (List Sp)) : Int := if mayL a = 0 then chainE (inL a) ls else mayL a
def thruJ (a : List Sp) (ls : List (List Sp)) (j : Nat) : List Sp := spT (overT (tok a) (fR (inL a) (ls.take j)))
def thruL (a : List Sp) (ls : List (List Sp)) : List Sp := spT (overT (tok a) (fR (inL a) ls))
theorem thruE_ok {a : List Sp} {ls : List (List Sp)} (h : thruE a ls = 0) (ha : a.length ≤ 1000) (hl : ∀ l ∈ ls, l.length ≤ 1000) :
    mayL a = 0 ∧ (∀ s ∈ a, OkW s) ∧ (0 ≤ inL a ∧ inL a ≤ 1048576) ∧ chainE (inL a) ls = 0 ∧ Thru (inL a) ls (chN (inL a) ls) := by
  unfold thruE at h
  by_cases hm : mayL a = 0
  · rw [if_pos hm] at h
    obtain ⟨h1, h2⟩ := chain_thru h hl
    exact ⟨hm, (may_okW hm ha).1, h1, h, h2⟩
  · rw [if_neg hm] at h; exact absurd h hm
theorem thru_tin {a : List Sp} (ok : ∀ s ∈ a, OkW s) : (tin (tok a) : Int) = inL a := (tin_ok a ok).1
theorem thruJ_ok {a : List Sp} (ok : ∀ s ∈ a, OkW s) {ls : List (List Sp)} {k : Int} (hT : Thru (inL a) ls k) (j : Nat) :
    ∃ m, Thru (inL a) (ls.take j) m ∧ (∀ s ∈ thruJ a ls j, OkW s) ∧ tok (thruJ a ls j) = overT (tok a) (fR (inL a) (ls.take j)) ∧ inL (thruJ a ls j) = m ∧ sumT (thruJ a ls j) ≤ sumT a := by
  obtain ⟨m, h1, _⟩ := thru_take hT j
  obtain ⟨f1, f2⟩ := fR_len h1
  have ht := thru_tin ok
  have hok := overT_okT (tok a) (fR (inL a) (ls.take j)) (tok_okT a ok)
  have hz : ∀ s ∈ thruJ a ls j, OkW s := spT_okW _ hok
  have e : tok (thruJ a ls j) = overT (tok a) (fR (inL a) (ls.take j)) := tok_spT _ hok
  have z1 := (tin_ok _ hz).1
  rw [e, overT_len _ _ (by omega)] at z1
  refine ⟨m, h1, hz, e, by omega, ?_⟩
  unfold thruJ
  rw [sumT_spT, over_insT _ _ (by omega)]
  exact insT_sum a ok
theorem thruJ_zero {a : List Sp} (ok : ∀ s ∈ a, OkW s) (ls : List (List Sp)) : thruJ a ls 0 = normL a := by
  have ht := thru_tin ok
  unfold thruJ
  rw [List.take_zero, norm_tok a ok]
  show spT (overT (tok a) (List.replicate (inL a).toNat Tok.keep)) = _
  rw [show (inL a).toNat = tin (tok a) by omega, over_keepR]
theorem thruJ_all {a : List Sp} {ls : List (List Sp)} : thruJ a ls ls.length = thruL a ls := by unfold thruJ thruL; rw [List.take_length]
theorem thruJ_step {a : List Sp} (ok : ∀ s ∈ a, OkW s) {ls : List (List Sp)} {k : Int} (hT : Thru (inL a) ls k) {j : Nat} (hj : j < ls.length) :
    (∀ s ∈ ls[j], OkW s) ∧ inL (thruJ a ls j) = inL ls[j] ∧ overL (thruJ a ls j) ls[j] = thruJ a ls (j + 1) ∧ 0 ≤ inL ls[j] ∧ inL ls[j] ≤ 1048576 := by
  obtain ⟨k1, g1, _⟩ := thru_take hT (j + 1)
  rw [take_snoc hj] at g1
  obtain ⟨g2, o1, o2, o3, o4, o5⟩ := thru_snoc.1 g1
  obtain ⟨m, h1, h2, h3, h4, h5⟩ := thruJ_ok ok hT j
  have e1 := (thru_chE h1).2
  have e2 := (thru_chE g2).2
  refine ⟨o1, by omega, ?_, o2, o3⟩
  have ht := thru_tin ok
  have hone : Thru (inL ls[j]) [ls[j]] k1 := ⟨o1, rfl, o2, o3, o4, o5⟩
  have hm := over_many (tok a) ht g2 hone
  unfold overL
  rw [h3, ← hm, ← take_snoc hj]
  rfl
theorem thruJ_len {a : List Sp} (ok : ∀ s ∈ a, OkW s) {ls : List (List Sp)} {k : Int} (hT : Thru (inL a) ls k) (j : Nat) (hj : j ≤ ls.length) : (thruJ a ls j).length ≤ a.length + lenS (ls.take j) := by
  induction j with
  | zero => rw [thruJ_zero ok]; have := norm_len a; omega
  | succ j ih =>
    have ih := ih (by omega)
    have hj2 : j < ls.length := by omega
    obtain ⟨o1, o2, o3, o4, o5⟩ := thruJ_step ok hT hj2
    obtain ⟨m, g1, g2, g3, g4, g5⟩ := thruJ_ok ok hT j
    have h6 := overL_len _ _ g2 o1 o2
    have h7 := norm_len (thruJ a ls j)
    have h8 := norm_len ls[j]
    have e2 : lenS [ls[j]] = ls[j].length := by simp [lenS]
    rw [← o3, take_snoc hj2, lenS_append]
    omega
structure SmT (a : List Sp) (ls : List (List Sp)) : Prop where
  len : a.length + lenS ls ≤ 1000
  txt : sumT a ≤ 400000000
  row : Small ls
theorem SmT.each {a : List Sp} {ls : List (List Sp)} (h : SmT a ls) : ∀ s ∈ a, s.2.2.size ≤ 1000000000 := fun s hs => by have := le_sumT a s hs; have := h.txt; omega
theorem thru_step {a : List Sp} {ls : List (List Sp)} {k : Int} (ok : ∀ s ∈ a, OkW s) (hT : Thru (inL a) ls k) (hS : SmT a ls) {j : Nat} (hj : j < ls.length) :
    (thruJ a ls j).length ≤ 1000 ∧ ls[j].length ≤ 1000 ∧ (∀ s ∈ thruJ a ls j, s.2.2.size ≤ 1000000000) ∧ (∀ s ∈ ls[j], s.2.2.size ≤ 1000000000) ∧ sumT (thruJ a ls j) + sumT ls[j] ≤ 900000000 ∧
    overE (thruJ a ls j) ls[j] = 0 ∧ overL (thruJ a ls j) ls[j] = thruJ a ls (j + 1) := by
  obtain ⟨o1, o2, o3, o4, o5⟩ := thruJ_step ok hT hj
  obtain ⟨m, g1, g2, g3, g4, g5⟩ := thruJ_ok ok hT j
  have h1 := thruJ_len ok hT j (by omega)
  have h2 := lenS_take ls j
  have h3 := le_lenS ls[j] (List.getElem_mem hj)
  have h4 := hS.len; have h5 := hS.txt; have h6 := hS.row.len; have h7 := hS.row.txt
  refine ⟨by omega, by omega, fun s hs => by have := le_sumT _ s hs; omega, fun s hs => by have := le_sumT _ s hs; omega, by omega, ?_, o3⟩
  unfold overE
  rw [if_pos (okW_mayL _ g2 (by omega)).1, if_pos (okW_mayL _ o1 (by omega)).1, if_pos o2]
theorem mayTR_c (A : Option Addr) (q c : Nat) (a : List Sp) (B : Option Addr) (n d : Nat) (ls : List (List Sp)) (w : World) (h : RdO w A q c a) (h' : RdSS w B n d ls) (hS : SmT a ls) :
    Calls Tryz.prog 63 #[.slice A q c, .slice B n d] w fun e w' => e = .returned (.int .i64 (thruE a ls)) ∧ Ext w w' := by
  have hq : q ≤ 1000 := by have := h.1; have := hS.len; omega
  have HM : Hid (∀ w', Ext w w' → _) := Lib.hid fun w' hx => mayR4_c A q c a w' (h.2.ext hx) h.1 hq hS.each
  have HI : Hid (∀ w', Ext w w' → _) := Lib.hid fun w' hx => inR4_c A q c a w' (h.2.ext hx) h.1 hq
  by_cases hma : mayL a = 0
  · obtain ⟨_, ai0, ai1⟩ := may_okW hma (by have := h.1; omega)
    have hwo : wrap64 (inL a) = inL a := by unfold wrap64; omega
    have HC : Hid (∀ w', Ext w w' → _) := Lib.hid fun w' hx => chainR10_c B n d ls (inL a) w' (h'.ext hx) hS.row.each hS.row.txt (by have := h'.1; have := hS.row.num; omega)
    have hE : thruE a ls = chainE (inL a) ls := if_pos hma
    rw [hma] at HM; rw [hwo] at HI; rw [hE]
    clear h h' hS hma hwo hE
    generalize chainN (inL a) ls = cn at *
    generalize chainE (inL a) ls = ce at *
    generalize inL a = IA at *
    go_enter Tryz.func63, Tryz.ntmps63
    go_wp2_with fail
    refine (HM.out _ (Ext.refl _)).mono ?_; rintro e w1 ⟨rfl, hx1⟩
    go_wp2_with fail
    refine (HI.out _ hx1).mono ?_; rintro e w2 ⟨rfl, hx2⟩
    go_wp2_with fail
    refine (HC.out _ (hx1.trans hx2)).mono ?_; rintro e w3 ⟨rfl, hx3⟩
    go_wp2_with fail
    go_ret
    exact ⟨rfl, (hx1.trans hx2).trans hx3⟩
  · have hE : thruE a ls = mayL a := if_neg hma
    have hb : (mayL a != 0) = true := by rw [bne_iff_ne]; exact hma
    have hb2 : (mayL a == 0) = false := by rw [beq_eq_false_iff_ne]; exact hma
    rw [hE]
    clear h h' hS hma hE
    generalize mayL a = MA at *
    go_enter Tryz.func63, Tryz.ntmps63
    go_wp2_with fail
    refine (HM.out _ (Ext.refl _)).mono ?_; rintro e w1 ⟨rfl, hx1⟩
    go_wp2_with fail
    go_ret
    exact ⟨rfl, hx1⟩
theorem thruR_c (A : Option Addr) (q c : Nat) (a : List Sp) (B : Option Addr) (n d : Nat) (ls : List (List Sp)) (w : World) (h : RdO w A q c a) (h' : RdSS w B n d ls) (hS : SmT a ls) :
    Calls Tryz.prog 38 #[.slice A q c, .slice B n d] w (OpR w (thruE a ls) (thruL a ls)) := by
  have HM := Lib.hid (mayTR_c A q c a B n d ls w h h' hS)
  by_cases he : thruE a ls = 0
  · obtain ⟨hma, ok, hi, hce, hth⟩ := thruE_ok he (by have := hS.len; omega) hS.row.each
    have hpos : Ok a := ⟨okW_pos a ok, by have := okW_N a ok; omega, by have := hS.txt; omega⟩
    have HN : Hid (∀ w', Ext w w' → _) := Lib.hid fun w' hx => ofR5_c A q c a w' (h.2.ext hx) h.1 (by have := h.1; have := hS.len; omega) hpos
    have HST := Lib.hid fun j (hj : j < ls.length) => thru_step ok hth hS hj
    have H0 : Hid (normL a = thruJ a ls 0) := Lib.hid (thruJ_zero ok ls).symm
    have HLN := Lib.hid h'.1
    have H := Lib.hid h'
    have hn1 : n ≤ 100000 := by have := h'.1; have := hS.row.num; omega
    rw [he] at HM ⊢
    clear h h' hS he hma ok hi hce hth hpos
    go_enter Tryz.func38, Tryz.ntmps38
    go_wp2_with fail
    refine HM.out.mono ?_; rintro e w1 ⟨rfl, hx1⟩
    go_wp2_with fail
    refine (HN.out _ hx1).mono ?_; rintro e w2 ⟨v, rfl, hx2, hr2⟩
    obtain ⟨a0, q0, c0, rfl, r0⟩ := rdO_own hr2
    have R0 := Lib.hid r0
    have hx12 := hx1.trans hx2
    clear hr2 r0
    go_wp2_with fail
    go_loopw [7, 8] (fun y z wr => ∃ (j : Nat) (a0 : Option Addr) (q0 k : Nat), j ≤ n ∧ z = .int .i64 j ∧ y = .slice a0 q0 k ∧ RdO wr a0 q0 k (thruJ a ls j) ∧ Ext w wr) (fun _ z _ => n - (intOf z).toNat)
    case atStart => exact ⟨0, a0, q0, c0, by omega, rfl, rfl, by rw [← H0.out]; exact R0.out, hx12⟩
    case round =>
      clear R0
      obtain ⟨j, a0, q0, c0, hj, rfl, rfl, r0, hxr⟩ := hrel
      by_cases hlt : j < n
      · have hjl : j < ls.length := by have := HLN.out; omega
        obtain ⟨b, off, a1, kc, rfl, hb, q0', hr⟩ := (H.out.ext hxr).at_ hlt hjl
        have dn : decide (j < n) = true := by rw [decide_eq_true_eq]; exact hlt
        have i0 : (0 : Int) ≤ (j : Int) := by omega
        have i1 : (j : Int) < (n : Int) := by omega
        obtain ⟨s1, s2, s3, s4, s5, s6, s7⟩ := HST.out j hjl
        have hq0 := r0.1
        have CC := Lib.hid (overR_c a0 q0 c0 _ a1 _ kc ls[j] wr r0 ⟨rfl, hr⟩ (by omega) s2 s3 s4 s5)
        rw [s6, s7] at CC
        obtain ⟨k, hk⟩ : ∃ k, ls[j].length = k := ⟨_, rfl⟩
        rw [hk] at q0' CC
        clear hk hr r0 s1 s2 s3 s4 s5 s6 s7 hq0
        go_wp2_with fail
        refine CC.out.mono ?_; rintro e w3 ⟨hx3, a3, q3, c3, rfl, r3⟩
        rw [if_pos rfl] at r3
        have R3 := Lib.hid r3
        clear r3
        go_wp2_with fail
        go_roundw
        case rel => exact ⟨j + 1, a3, q3, c3, by omega, by go_num, rfl, R3.out, hxr.trans hx3⟩
        case measure => simp [intOf]; omega
      · obtain rfl : j = n := by omega
        have hall : thruJ a ls j = thruL a ls := by rw [← HLN.out]; exact thruJ_all
        rw [hall] at r0
        have R0 := Lib.hid r0
        have dn : decide (j < j) = false := by rw [decide_eq_false_iff_not]; omega
        clear hall hlt hj r0
        go_wp2_with fail
        go_ret2
        exact ⟨hxr, a0, q0, c0, rfl, by rw [if_pos rfl]; exact R0.out⟩
  · have HN := Lib.hid he
    have t1 : (thruE a ls != 0) = true := by rw [bne_iff_ne]; exact he
    have t2 : (thruE a ls == 0) = false := by rw [beq_eq_false_iff_ne]; exact he
    clear h h' hS he
    generalize thruE a ls = E at *
    go_enter Tryz.func38, Tryz.ntmps38
    go_wp2_with fail
    refine HM.out.mono ?_; rintro e w1 ⟨rfl, hx1⟩
    go_wp2_with fail
    go_ret2
    refine ⟨hx1, none, 0, 0, rfl, ?_⟩
    rw [if_neg HN.out]; exact ⟨rfl, Rd.nil _ _⟩
end Go.Proofs.YtgcaphjjigpjlaaGreatDoor
