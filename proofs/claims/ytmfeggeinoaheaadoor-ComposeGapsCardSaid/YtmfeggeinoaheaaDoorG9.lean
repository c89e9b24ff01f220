/- Operations that are small and may be: what each function answers of them (layers 4 to 9). -/
import Derived.Test.YtmfeggeinoaheaaDoorMd
import Derived.Test.YtmfeggeinoaheaaDoorP4
import Derived.Test.YtmfeggeinoaheaaDoorP5
import Derived.Test.YtmfeggeinoaheaaDoorP6
import Derived.Test.YtmfeggeinoaheaaDoorP7
import Derived.Test.YtmfeggeinoaheaaDoorP8
import Derived.Test.YtmfeggeinoaheaaDoorC4d
import Derived.Test.YtmfeggeinoaheaaDoorBs
import Derived.Test.YtmfeggeinoaheaaDoorL4a
import Derived.Test.YtmfeggeinoaheaaDoorL6b
import Derived.Test.YtmfeggeinoaheaaDoorP9
namespace Go.Proofs.YtmfeggeinoaheaaDoor
open Go.RowKit
set_option maxRecDepth 100000
set_option maxHeartbeats 1000000

/-- An operation that may be, and is small. -/
structure Good (X : List Sp) : Prop where
  ok : ∀ s ∈ X, OkW s
  len : X.length ≤ 300
  txt : sumT X ≤ 100000
  inb : inL X ≤ 100000
theorem Good.may {X : List Sp} (h : Good X) : mayL X = 0 := (okW_mayL X h.ok (by have := h.inb; omega)).1
theorem Good.in0 {X : List Sp} (h : Good X) : 0 ≤ inL X := (okW_mayL X h.ok (by have := h.inb; omega)).2
theorem Good.out0 {X : List Sp} (h : Good X) : 0 ≤ outL X := (outL_le X h.ok).1
theorem Good.outb {X : List Sp} (h : Good X) : outL X ≤ inL X + sumT X := (outL_le X h.ok).2
theorem Good.size {X : List Sp} (h : Good X) : ∀ s ∈ X, s.2.2.size ≤ 1000000000 := fun s hs => by have := le_sumT X s hs; have := h.txt; omega
theorem Good.mays {X : List Sp} (h : Good X) : ∀ s ∈ X, mayS s.1 s.2.1 s.2.2 = 0 := (mayL_all h.may (by have := h.len; omega)).1
theorem Good.okn {X : List Sp} (h : Good X) : Ok X := ⟨fun s hs => (h.ok s hs).nonneg, by have := okW_N X h.ok; have := h.inb; omega, by have := h.txt; omega⟩
theorem Good.tin {X : List Sp} (h : Good X) : (tin (tok X) : Int) = inL X := (tin_ok X h.ok).1
theorem Good.tout {X : List Sp} (h : Good X) : (tout (tok X) : Int) = outL X := (tin_ok X h.ok).2
theorem good_fit (l : List Sp) (M : Int) (h0 : 0 ≤ M) (h1 : M ≤ 100000) : Good (fitL l M) ∧ inL (fitL l M) = M ∧ 0 ≤ outL (fitL l M) ∧ outL (fitL l M) ≤ M + 312 ∧ (fitL l M).length ≤ 13 ∧ sumT (fitL l M) ≤ 312 := by
  obtain ⟨hm, hi⟩ := fitL_all l M h0 (by omega)
  obtain ⟨o0, o1⟩ := fit_out l M h0 (by omega)
  have hl := fitL_len l M
  have ht := fit_sumT l M
  exact ⟨⟨fun s hs => okW_of_may (hm s hs), by omega, by omega, by omega⟩, hi, o0, o1, hl, ht⟩
theorem good_comp {X Y : List Sp} (hX : Good X) (hY : Good Y) (hf : outL X = inL Y) (hl : X.length + Y.length ≤ 300) (ht : sumT X + sumT Y ≤ 100000) :
    Good (compL X Y) ∧ tok (compL X Y) = compT (tok X) (tok Y) ∧ isN (compL X Y) ∧ inL (compL X Y) = inL X ∧ outL (compL X Y) = outL Y ∧ (compL X Y).length ≤ X.length + Y.length ∧ sumT (compL X Y) ≤ sumT X + sumT Y := by
  obtain ⟨h1, h2, h3, h4, h5, h6, h7, h8⟩ := compL_all X Y hX.ok hY.ok hf (by have := hX.inb; omega)
  have e1 := norm_len X
  have e2 := norm_len Y
  exact ⟨⟨h1, by omega, by omega, by rw [h4]; exact hX.inb⟩, h2, h3, h4, h5, by omega, h8⟩
theorem good_norm {X : List Sp} (hX : Good X) : Good (normL X) ∧ tok (normL X) = tok X ∧ isN (normL X) ∧ inL (normL X) = inL X ∧ outL (normL X) = outL X ∧ (normL X).length ≤ X.length ∧ sumT (normL X) = sumT X := by
  have e1 := norm_len X
  have hm := norm_may X hX.mays (by have := okW_N X hX.ok; have := hX.inb; omega)
  exact ⟨⟨fun s hs => okW_of_may (hm s hs), by have := hX.len; omega, by rw [sumT_norm]; exact hX.txt, by rw [inL_norm]; exact hX.inb⟩, tok_norm X hX.ok, norm_is X hX.okn.pos, inL_norm X, outL_norm X hX.mays (by have := okW_N X hX.ok; have := hX.inb; omega), by omega, sumT_norm X⟩
theorem good_keep (M : Int) (h0 : 0 ≤ M) (h1 : M ≤ 100000) : Good (keepL M) ∧ inL (keepL M) = M ∧ outL (keepL M) = M ∧ tok (keepL M) = List.replicate M.toNat Tok.keep ∧ (keepL M).length ≤ 1 ∧ sumT (keepL M) = 0 := by
  by_cases h : M = 0
  · subst h
    exact ⟨⟨fun s hs => (by cases hs), by decide, by decide, by decide⟩, rfl, rfl, rfl, by decide, rfl⟩
  · have e : keepL M = [(1, M, ⟨#[]⟩)] := by unfold keepL; rw [if_neg h]
    have hi : inL (keepL M) = M := by
      rw [e, inL_cons]
      show M + 0 = M
      omega
    have ho : outL (keepL M) = M := by
      rw [e]
      show M + 0 = M
      omega
    have ht : tok (keepL M) = List.replicate M.toNat Tok.keep := by
      rw [e, tok_cons, tok_nil, tokS_num _ _ _ (by decide), List.append_nil]; rfl
    have hs : sumT (keepL M) = 0 := by rw [e]; rfl
    have hl : (keepL M).length = 1 := by rw [e]; rfl
    refine ⟨⟨fun s hs => ?_, by omega, by omega, by omega⟩, hi, ho, ht, by omega, hs⟩
    rw [e, List.mem_singleton] at hs
    subst hs
    exact .inr ⟨.inl rfl, h0, rfl⟩
/-- What a function answers that tells an operation. -/
def TellsL (w : World) (L : List Sp) (e : Ending) (w' : World) : Prop := Ext w w' ∧ ∃ A n c, e = .returned (.slice A n c) ∧ RdO w' A n c L
def TellsE (w : World) (L : List Sp) (e : Ending) (w' : World) : Prop := Ext w w' ∧ ∃ A n c, e = .returned (.tuple #[.slice A n c, .int .i64 0]) ∧ RdO w' A n c L
theorem fitG (A : Option Addr) (q c : Nat) (l : List Sp) (M : Int) {w w' : World} (h : Rd w 3 (.slice A q c) q (spCells l)) (hl : l.length = q) (hs : ∀ s ∈ l, s.2.2.size ≤ maxLen) (h0 : 0 ≤ M) (h1 : M ≤ 100000) (hx : Ext w w') :
    Calls Tryd.prog 5 #[.slice A q c, .int .i64 M] w' (TellsL w' (fitL l M)) := by
  refine (fitR4_c A q c l M w' (h.ext hx) hl hs h0 (by omega)).mono ?_
  rintro e w'' ⟨v, rfl, hx, ho⟩
  obtain ⟨A, n, c, rfl, hr⟩ := rdO_own ho
  exact ⟨hx, A, n, c, rfl, hr⟩
theorem compG {X Y : List Sp} (gX : Good X) (gY : Good Y) (hf : outL X = inL Y) {w w' : World} [Tab w] (hx : Ext w w') {A B : Option Addr} {n c k d : Nat} (hX : RdO w' A n c X) (hY : RdO w' B k d Y) :
    Calls Tryd.prog 7 #[.slice A n c, .slice B k d] w' (TellsE w' (compL X Y)) := by
  have hTb := tab_ext hx
  have hE : compE X Y = 0 := by unfold compE; rw [if_pos gX.may, if_pos gY.may, if_pos hf]
  have h1 := hX.1; have h2 := hY.1; have h3 := gX.len; have h4 := gY.len; have h5 := gX.txt; have h6 := gY.txt
  refine (comp9_c A n c X B k d Y w' hX hY (by omega) (by omega) gX.size gY.size (by omega)).mono ?_
  rintro e w'' ⟨hx, A', n', c', rfl, hr⟩
  rw [hE, if_pos rfl] at hr
  rw [hE]
  exact ⟨hx, A', n', c', rfl, hr⟩
theorem outG {X : List Sp} (gX : Good X) {w w' : World} [Tab w] (hx : Ext w w') {A : Option Addr} {n c : Nat} (hX : RdO w' A n c X) :
    Calls Tryd.prog 6 #[.slice A n c] w' fun e w'' => e = .returned (.int .i64 (outL X)) ∧ Ext w' w'' := by
  have hTb := tab_ext hx
  have h := out4_c A n c X w' hX.2 hX.1 (by have := hX.1; have := gX.len; omega) gX.size
  have e : wrap64 (outL X) = outL X := by have := gX.out0; have := gX.outb; have := gX.inb; have := gX.txt; unfold wrap64; omega
  rw [e] at h; exact h
theorem inG {X : List Sp} (gX : Good X) {w w' : World} [Tab w] (hx : Ext w w') {A : Option Addr} {n c : Nat} (hX : RdO w' A n c X) :
    Calls Tryd.prog 23 #[.slice A n c] w' fun e w'' => e = .returned (.int .i64 (inL X)) ∧ Ext w' w'' := by
  have hTb := tab_ext hx
  have h := in4_c A n c X w' hX.2 hX.1 (by have := hX.1; have := gX.len; omega)
  have e : wrap64 (inL X) = inL X := by have := gX.in0; have := gX.inb; unfold wrap64; omega
  rw [e] at h; exact h
theorem normG {X : List Sp} (gX : Good X) {w' : World} {A : Option Addr} {n c : Nat} (hX : RdO w' A n c X) :
    Calls Tryd.prog 19 #[.slice A n c] w' (TellsL w' (normL X)) := by
  refine (of5_c A n c X w' hX.2 hX.1 (by have := hX.1; have := gX.len; omega) gX.okn).mono ?_
  rintro e w'' ⟨v, rfl, hx, ho⟩
  obtain ⟨A, n, c, rfl, hr⟩ := rdO_own ho
  exact ⟨hx, A, n, c, rfl, hr⟩
theorem leastG {X : List Sp} (gX : Good X) (g : Nat) (hg : (g : Int) ≤ outL X) {w w' : World} [Tab w] (hx : Ext w w') {A : Option Addr} {n c : Nat} (hX : RdO w' A n c X) :
    Calls Tryd.prog 10 #[.slice A n c, .int .i64 (g : Int)] w' fun e w'' => e = .returned (.tuple #[.int .i64 ((leastT (tok X) g : Nat) : Int), .int .i64 0]) ∧ Ext w' w'' := by
  have hTb := tab_ext hx
  have h1 := gX.txt; have h2 := gX.inb; have h3 := gX.outb
  have h := leastP_c A n c X (g : Int) w' hX.2 hX.1 (by have := hX.1; have := gX.len; omega) gX.size (by omega) (by omega) (by omega)
  rw [least_ok gX.may (by omega) hg, Int.toNat_natCast] at h
  exact h
theorem gapsG {X : List Sp} (gX : Good X) (M : Nat) (hM : inL X = M) (h512 : M ≤ 512) {w w' : World} [Tab w] (hx : Ext w w') {A : Option Addr} {n c : Nat} (hX : RdO w' A n c X) :
    Calls Tryd.prog 8 #[.slice A n c] w' fun e w'' => ∃ gA gc gB gd, e = .returned (.tuple #[.agg #[.slice gA (M + 1) gc, .slice gB M gd], .int .i64 0]) ∧ Ext w' w'' ∧ Rd w'' 1 (.slice gA (M + 1) gc) (M + 1) ((putC (gpP (tok X))).map Value.string) ∧ Rd w'' 1 (.slice gB M gd) M ((gpD (tok X)).map Value.bool) := by
  have hTb := tab_ext hx
  have h1 := gX.txt
  have hE : gapsE X = 0 := by unfold gapsE; rw [if_pos gX.may, if_neg (by omega)]
  exact (gaps_c A n c X w' hX.2 hX.1 (by have := hX.1; have := gX.len; omega) gX.size (by omega)).mono fun e w'' h => h.ok hE hM
theorem sameG {X Y : List Sp} (hl : X.length ≤ 300) {w' : World} {A B : Option Addr} {n c k d : Nat} (hX : RdO w' A n c X) (hY : RdO w' B k d Y) :
    Calls Tryd.prog 14 #[.slice A n c, .slice B k d] w' fun e w'' => e = .returned (.bool (decide (X = Y))) ∧ Ext w' w'' :=
  sameG_c A B n c k d X Y w' hX.2 hY.2 hX.1 hY.1 (by have := hX.1; omega)
theorem sameTrueG {X Y : List Sp} (he : X = Y) (hl : X.length ≤ 300) {w' : World} {A B : Option Addr} {n c k d : Nat} (hX : RdO w' A n c X) (hY : RdO w' B k d Y) :
    Calls Tryd.prog 14 #[.slice A n c, .slice B k d] w' fun e w'' => e = .returned (.bool true) ∧ Ext w' w'' := by
  have h := sameG hl hX hY
  rw [decide_eq_true he] at h
  exact h
end Go.Proofs.YtmfeggeinoaheaaDoor
