/- Layer 10, FuseAll. -/
import Derived.Test.YtggoimakbadbkaaDoorC10
import Derived.Test.YtggoimakbadbkaaDoorP10
import Derived.Test.YtggoimakbadbkaaDoorL7a
import Derived.Test.YtggoimakbadbkaaDoorFr
import Derived.Test.YtggoimakbadbkaaDoorC5
import Derived.Test.YtggoimakbadbkaaDoorL6b
namespace Go.Proofs.YtggoimakbadbkaaDoor
open Go.RowKit
set_option maxRecDepth 100000
set_option maxHeartbeats 4000000
/-- Rows of operations that were just made. -/
theorem rdSS_made {w : World} (cur : Array Value) (T : TypeId) {n : Nat} {ls : List (List Sp)} (hc : cur.size = n) (hl : ls.length = n) (hn : n ≤ 1000)
    (hvs : ∀ (i : Nat) (l : List Sp), ls[i]? = some l → ∃ a k, cur.toList[i]? = some (.slice a l.length k) ∧ Rd w 3 (.slice a l.length k) l.length (spCells l)) : RdSS (w.alloc (.cells cur T)) (some ⟨w.heap.size, 0, none⟩) n n ls := by
  refine ⟨hl, cur.toList, (Own.made w w.heap.size T 1 n cur (Nat.le_refl _) (by omega) (by omega)).rd, fun i l h => ?_⟩
  obtain ⟨a, k, g1, g2⟩ := hvs i l h
  exact ⟨a, k, g1, g2.ext ((Ext.refl w).alloc _)⟩
theorem rdSS1 {w : World} {a : Option Addr} {n c : Nat} {X : List Sp} (T : TypeId) (h : RdO w a n c X) : RdSS (w.alloc (.cells #[.slice a n c] T)) (some ⟨w.heap.size, 0, none⟩) 1 1 [X] := by
  obtain ⟨rfl, h⟩ := h
  refine rdSS_made _ T rfl rfl (by omega) fun i l hl => ?_
  match i, hl with
  | 0, hl => injection hl with hl; subst hl; exact ⟨a, c, rfl, h⟩
  | i + 1, hl => simp at hl
theorem rdSS2 {w : World} {a b : Option Addr} {n c k d : Nat} {X Y : List Sp} (T : TypeId) (h : RdO w a n c X) (h' : RdO w b k d Y) : RdSS (w.alloc (.cells #[.slice a n c, .slice b k d] T)) (some ⟨w.heap.size, 0, none⟩) 2 2 [X, Y] := by
  obtain ⟨rfl, h⟩ := h
  obtain ⟨rfl, h'⟩ := h'
  refine rdSS_made _ T rfl rfl (by omega) fun i l hl => ?_
  match i, hl with
  | 0, hl => injection hl with hl; subst hl; exact ⟨a, c, rfl, h⟩
  | 1, hl => injection hl with hl; subst hl; exact ⟨b, d, rfl, h'⟩
  | i + 2, hl => simp at hl
theorem rdSS4 {w : World} {a b a' b' : Option Addr} {n c k d n' c' k' d' : Nat} {X Y X' Y' : List Sp} (T : TypeId) (h : RdO w a n c X) (h' : RdO w b k d Y) (g : RdO w a' n' c' X') (g' : RdO w b' k' d' Y') : RdSS (w.alloc (.cells #[.slice a n c, .slice b k d, .slice a' n' c', .slice b' k' d'] T)) (some ⟨w.heap.size, 0, none⟩) 4 4 [X, Y, X', Y'] := by
  obtain ⟨rfl, h⟩ := h
  obtain ⟨rfl, h'⟩ := h'
  obtain ⟨rfl, g⟩ := g
  obtain ⟨rfl, g'⟩ := g'
  refine rdSS_made _ T rfl rfl (by omega) fun i l hl => ?_
  match i, hl with
  | 0, hl => injection hl with hl; subst hl; exact ⟨a, c, rfl, h⟩
  | 1, hl => injection hl with hl; subst hl; exact ⟨b, d, rfl, h'⟩
  | 2, hl => injection hl with hl; subst hl; exact ⟨a', c', rfl, g⟩
  | 3, hl => injection hl with hl; subst hl; exact ⟨b', d', rfl, g'⟩
  | i + 4, hl => simp at hl
/-- What Of and Chain answer of a chain. -/
theorem small_chain (ls : List (List Sp)) (m : Int) (hl : ls.length ≤ 20) : Small (chainL ls m) := by
  obtain ⟨h1, h2⟩ := chainL_lenS ls m
  exact ⟨by omega, by omega, by rw [chainL_len]; omega⟩
end Go.Proofs.YtggoimakbadbkaaDoor
namespace Go.Proofs.YtggoimakbadbkaaDoor
open Go.RowKit
set_option maxRecDepth 100000
set_option maxHeartbeats 4000000
/-- What a function answers that tells a row of operations. -/
def TellsSS (w : World) (L : List (List Sp)) (e : Ending) (w' : World) : Prop := Ext w w' ∧ ∃ A n c, e = .returned (.slice A n c) ∧ RdSS w' A n c L
def TellsX (w : World) (E : Int) (L : List Sp) (e : Ending) (w' : World) : Prop := Ext w w' ∧ ∃ A n c, e = .returned (.tuple #[.slice A n c, .int .i64 E]) ∧ RdO w' A n c L
theorem OpR.fuse {w w' : World} {e : Ending} {m : Int} {ls : List (List Sp)} (h : OpR w (chainE m ls) (fuseL m ls) e w') : TellsX w (chainE m ls) (fuseL m ls) e w' := by
  obtain ⟨hx, A, n, c, rfl, hr⟩ := h
  refine ⟨hx, A, n, c, rfl, ?_⟩
  have e : (if chainE m ls = 0 then fuseL m ls else []) = fuseL m ls := by
    by_cases h : chainE m ls = 0
    · rw [if_pos h]
    · rw [if_neg h]; unfold fuseL; rw [if_neg h]
  rw [e] at hr
  exact hr
theorem lenS_le (ls : List (List Sp)) (k : Nat) (h : ∀ l ∈ ls, l.length ≤ k) : lenS ls ≤ ls.length * k := by
  induction ls with
  | nil => exact Nat.zero_le _
  | cons l r ih =>
    have h1 := h l (List.mem_cons_self ..)
    have h2 := ih fun x hx => h x (List.mem_cons_of_mem _ hx)
    rw [lenS_cons, List.length_cons, Nat.add_mul]; omega
theorem chainRG {A : Option Addr} {q c : Nat} {ls : List (List Sp)} {M : Int} {w' : World} (h : RdSS w' A q c ls) (hs : ∀ l ∈ ls, ∀ s ∈ l, s.2.2.size ≤ maxLen) (h0 : 0 ≤ M) (h1 : M ≤ 1000) :
    Calls Tryd.prog 20 #[.slice A q c, .int .i64 M] w' (TellsSS w' (chainL (ls.take 20) M)) := by
  refine (chainR4_c A q c ls M w' h hs h0 h1).mono ?_
  rintro e w'' ⟨v, rfl, hx, ho⟩
  obtain ⟨A', c', rfl, _, hr⟩ := ho.rd
  exact ⟨hx, A', _, c', rfl, hr⟩
/-- A chain that was made, and what it comes to. -/
theorem made_chain (ls : List (List Sp)) (M : Int) (h0 : 0 ≤ M) (h1 : M ≤ 1000) : ∃ k, Small (chainL (ls.take 20) M) ∧ Thru M (chainL (ls.take 20) M) k ∧ lenS (chainL (ls.take 20) M) ≤ 260 ∧ sumTT (chainL (ls.take 20) M) ≤ 6240 ∧ (chainL (ls.take 20) M).length ≤ 20 := by
  have hl : (ls.take 20).length ≤ 20 := by rw [List.length_take]; omega
  obtain ⟨a1, a2⟩ := chainL_lenS (ls.take 20) M
  exact ⟨_, small_chain _ M hl, fit_chain _ M h0 (by omega), by omega, by omega, by rw [chainL_len]; exact hl⟩
end Go.Proofs.YtggoimakbadbkaaDoor
