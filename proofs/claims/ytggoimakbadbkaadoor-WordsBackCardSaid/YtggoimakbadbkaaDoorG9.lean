/- Operations that are small and may be: what each function answers of them (layers 4 to 9). -/
import Derived.Test.YtggoimakbadbkaaDoorMd
import Derived.Test.YtggoimakbadbkaaDoorP4
import Derived.Test.YtggoimakbadbkaaDoorP5
import Derived.Test.YtggoimakbadbkaaDoorP6
import Derived.Test.YtggoimakbadbkaaDoorP7
import Derived.Test.YtggoimakbadbkaaDoorP8
import Derived.Test.YtggoimakbadbkaaDoorC4d
import Derived.Test.YtggoimakbadbkaaDoorBs
import Derived.Test.YtggoimakbadbkaaDoorL4a
import Derived.Test.YtggoimakbadbkaaDoorL6b
import Derived.Test.YtggoimakbadbkaaDoorP9
namespace Go.Proofs.YtggoimakbadbkaaDoor
open Go.RowKit
set_option maxRecDepth 100000
set_option maxHeartbeats 1000000

/-- An operation that may be, and is small. -/
structure Good (X : List Sp) : Prop where
  ok : ∀ s ∈ X, OkW s
  len : X.length ≤ 300
  txt : sumT X ≤ 100000
  inb : inL X ≤ 100000
theorem Good.may {X : List Sp} (h : Good X) : mayL X = 0 := (okW_mayL X h.ok (by have := h.inb; omega)).1
theorem Good.in0 {X : List Sp} (h : Good X) : 0 ≤ inL X := (okW_mayL X h.ok (by have := h.inb; omega)).2
theorem Good.out0 {X : List Sp} (h : Good X) : 0 ≤ outL X := (outL_le X h.ok).1
theorem Good.outb {X : List Sp} (h : Good X) : outL X ≤ inL X + sumT X := (outL_le X h.ok).2
theorem Good.size {X : List Sp} (h : Good X) : ∀ s ∈ X, s.2.2.size ≤ 1000000000 := fun s hs => by have := le_sumT X s hs; have := h.txt; omega
theorem Good.mays {X : List Sp} (h : Good X) : ∀ s ∈ X, mayS s.1 s.2.1 s.2.2 = 0 := (mayL_all h.may (by have := h.len; omega)).1
theorem Good.okn {X : List Sp} (h : Good X) : Ok X := ⟨fun s hs => (h.ok s hs).nonneg, by have := okW_N X h.ok; have := h.inb; omega, by have := h.txt; omega⟩
theorem Good.tin {X : List Sp} (h : Good X) : (tin (tok X) : Int) = inL X := (tin_ok X h.ok).1
theorem Good.tout {X : List Sp} (h : Good X) : (tout (tok X) : Int) = outL X := (tin_ok X h.ok).2
theorem good_fit (l : List Sp) (M : Int) (h0 : 0 ≤ M) (h1 : M ≤ 100000) : Good (fitL l M) ∧ inL (fitL l M) = M ∧ 0 ≤ outL (fitL l M) ∧ outL (fitL l M) ≤ M + 312 ∧ (fitL l M).length ≤ 13 ∧ sumT (fitL l M) ≤ 312 := by
  obtain ⟨hm, hi⟩ := fitL_all l M h0 (by omega)
  obtain ⟨o0, o1⟩ := fit_out l M h0 (by omega)
  have hl := fitL_len l M
  have ht := fit_sumT l M
  exact ⟨⟨fun s hs => okW_of_may (hm s hs), by omega, by omega, by omega⟩, hi, o0, o1, hl, ht⟩
theorem good_comp {X Y : List Sp} (hX : Good X) (hY : Good Y) (hf : outL X = inL Y) (hl : X.length + Y.length ≤ 300) (ht : sumT X + sumT Y ≤ 100000) :
    Good (compL X Y) ∧ tok (compL X Y) = compT (tok X) (tok Y) ∧ isN (compL X Y) ∧ inL (compL X Y) = inL X ∧ outL (compL X Y) = outL Y ∧ (compL X Y).length ≤ X.length + Y.length ∧ sumT (compL X Y) ≤ sumT X + sumT Y := by
  obtain ⟨h1, h2, h3, h4, h5, h6, h7, h8⟩ := compL_all X Y hX.ok hY.ok hf (by have := hX.inb; omega)
  have e1 := norm_len X
  have e2 := norm_len Y
  exact ⟨⟨h1, by omega, by omega, by rw [h4]; exact hX.inb⟩, h2, h3, h4, h5, by omega, h8⟩
theorem good_norm {X : List Sp} (hX : Good X) : Good (normL X) ∧ tok (normL X) = tok X ∧ isN (normL X) ∧ inL (normL X) = inL X ∧ outL (normL X) = outL X ∧ (normL X).length ≤ X.length ∧ sumT (normL X) = sumT X := by
  have e1 := norm_len X
  have hm := norm_may X hX.mays (by have := okW_N X hX.ok; have := hX.inb; omega)
  exact ⟨⟨fun s hs => okW_of_may (hm s hs), by have := hX.len; omega, by rw [sumT_norm]; exact hX.txt, by rw [inL_norm]; exact hX.inb⟩, tok_norm X hX.ok, norm_is X hX.okn.pos, inL_norm X, outL_norm X hX.mays (by have := okW_N X hX.ok; have := hX.inb; omega), by omega, sumT_norm X⟩
theorem good_keep (M : Int) (h0 : 0 ≤ M) (h1 : M ≤ 100000) : Good (keepL M) ∧ inL (keepL M) = M ∧ outL (keepL M) = M ∧ tok (keepL M) = List.replicate M.toNat Tok.keep ∧ (keepL M).length ≤ 1 ∧ sumT (keepL M) = 0 := by
  by_cases h : M = 0
  · subst h
    exact ⟨⟨fun s hs => (by cases hs), by decide, by decide, by decide⟩, rfl, rfl, rfl, by decide, rfl⟩
  · have e : keepL M = [(1, M, ⟨#[]⟩)] := by unfold keepL; rw [if_neg h]
    have hi : inL (keepL M) = M := by
      rw [e, inL_cons]
      show M + 0 = M
      omega
    have ho : outL (keepL M) = M := by
      rw [e]
      show M + 0 = M
      omega
    have ht : tok (keepL M) = List.replicate M.toNat Tok.keep := by
      rw [e, tok_cons, tok_nil, tokS_num _ _ _ (by decide), List.append_nil]; rfl
    have hs : sumT (keepL M) = 0 := by rw [e]; rfl
    have hl : (keepL M).length = 1 := by rw [e]; rfl
    refine ⟨⟨fun s hs => ?_, by omega, by omega, by omega⟩, hi, ho, ht, by omega, hs⟩
    rw [e, List.mem_singleton] at hs
    subst hs
    exact .inr ⟨.inl rfl, h0, rfl⟩
/-- What a function answers that tells an operation. -/
def TellsL (w : World) (L : List Sp) (e : Ending) (w' : World) : Prop := Ext w w' ∧ ∃ A n c, e = .returned (.slice A n c) ∧ RdO w' A n c L
def TellsE (w : World) (L : List Sp) (e : Ending) (w' : World) : Prop := Ext w w' ∧ ∃ A n c, e = .returned (.tuple #[.slice A n c, .int .i64 0]) ∧ RdO w' A n c L
theorem fitG (A : Option Addr) (q c : Nat) (l : List Sp) (M : Int) {w w' : World} (h : Rd w 3 (.slice A q c) q (spCells l)) (hl : l.length = q) (hs : ∀ s ∈ l, s.2.2.size ≤ maxLen) (h0 : 0 ≤ M) (h1 : M ≤ 100000) (hx : Ext w w') :
    Calls Tryd.prog 14 #[.slice A q c, .int .i64 M] w' (TellsL w' (fitL l M)) := by
  refine (fitR4_c A q c l M w' (h.ext hx) hl hs h0 (by omega)).mono ?_
  rintro e w'' ⟨v, rfl, hx, ho⟩
  obtain ⟨A, n, c, rfl, hr⟩ := rdO_own ho
  exact ⟨hx, A, n, c, rfl, hr⟩
theorem inG {X : List Sp} (gX : Good X) {w w' : World} [Tab w] (hx : Ext w w') {A : Option Addr} {n c : Nat} (hX : RdO w' A n c X) :
    Calls Tryd.prog 48 #[.slice A n c] w' fun e w'' => e = .returned (.int .i64 (inL X)) ∧ Ext w' w'' := by
  have hTb := tab_ext hx
  have h := in4_c A n c X w' hX.2 hX.1 (by have := hX.1; have := gX.len; omega)
  have e : wrap64 (inL X) = inL X := by have := gX.in0; have := gX.inb; unfold wrap64; omega
  rw [e] at h; exact h
theorem normG {X : List Sp} (gX : Good X) {w' : World} {A : Option Addr} {n c : Nat} (hX : RdO w' A n c X) :
    Calls Tryd.prog 13 #[.slice A n c] w' (TellsL w' (normL X)) := by
  refine (of5_c A n c X w' hX.2 hX.1 (by have := hX.1; have := gX.len; omega) gX.okn).mono ?_
  rintro e w'' ⟨v, rfl, hx, ho⟩
  obtain ⟨A, n, c, rfl, hr⟩ := rdO_own ho
  exact ⟨hx, A, n, c, rfl, hr⟩
theorem isG {X : List Sp} (hi : isN X) (hl : X.length ≤ 300) {w' : World} {A : Option Addr} {n c : Nat} (hX : RdO w' A n c X) :
    Calls Tryd.prog 19 #[.slice A n c] w' fun e w'' => e = .returned (.bool true) ∧ Ext w' w'' :=
  (is5_c A n c X w' hX.2 hX.1 (by have := hX.1; omega)).mono fun _ _ ⟨b, he, hx, hb⟩ => by obtain rfl := hb.2 hi; exact ⟨he, hx⟩
theorem sameG {X Y : List Sp} (hl : X.length ≤ 300) {w' : World} {A B : Option Addr} {n c k d : Nat} (hX : RdO w' A n c X) (hY : RdO w' B k d Y) :
    Calls Tryd.prog 18 #[.slice A n c, .slice B k d] w' fun e w'' => e = .returned (.bool (decide (X = Y))) ∧ Ext w' w'' :=
  sameG_c A B n c k d X Y w' hX.2 hY.2 hX.1 hY.1 (by have := hX.1; omega)
theorem sameTrueG {X Y : List Sp} (he : X = Y) (hl : X.length ≤ 300) {w' : World} {A B : Option Addr} {n c k d : Nat} (hX : RdO w' A n c X) (hY : RdO w' B k d Y) :
    Calls Tryd.prog 18 #[.slice A n c, .slice B k d] w' fun e w'' => e = .returned (.bool true) ∧ Ext w' w'' := by
  have h := sameG hl hX hY
  rw [decide_eq_true he] at h
  exact h
theorem rdSS_two {w : World} {a b : Option Addr} {n c m d : Nat} {X Y : List Sp} (hX : RdO w a n c X) (hY : RdO w b m d Y) (T : TypeId) :
    RdSS (w.alloc (.cells #[.slice a n c, .slice b m d] T)) (some ⟨w.heap.size, 0, none⟩) 2 2 [X, Y] := by
  refine ⟨rfl, [.slice a n c, .slice b m d], (Own.made w w.heap.size T 1 2 #[.slice a n c, .slice b m d] (Nat.le_refl _) (by omega) rfl).rd, fun i l hl => ?_⟩
  have hx : Ext w (w.alloc (.cells #[.slice a n c, .slice b m d] T)) := (Ext.refl w).alloc _
  rcases i with _ | _ | i
  · injection hl with hl
    subst hl
    have e := hX.1
    subst e
    exact ⟨a, c, rfl, (hX.ext hx).2⟩
  · injection hl with hl
    subst hl
    have e := hY.1
    subst e
    exact ⟨b, d, rfl, (hY.ext hx).2⟩
  · cases hl
theorem toE_good {X : List Sp} (gX : Good X) (cs : List Nat) (hcp : ∀ c ∈ cs, IsCp c) (hl : (cs.length : Int) = inL X) : toE X (mkS (encs cs)) = 0 ∧ toS X (mkS (encs cs)) = mkS (encs (apT (tok X) cs)) := by
  have hd : dec (bs (mkS (encs cs))) = some cs := by rw [bs_mkS]; exact dec_encs hcp
  have hE : toE X (mkS (encs cs)) = 0 := by unfold toE; rw [if_pos gX.may, hd]; exact if_pos hl
  refine ⟨hE, ?_⟩
  unfold toS
  rw [hE, if_pos rfl, hd]
  rfl
end Go.Proofs.YtggoimakbadbkaaDoor
