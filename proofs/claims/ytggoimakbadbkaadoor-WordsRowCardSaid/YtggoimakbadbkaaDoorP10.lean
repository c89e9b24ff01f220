/- Layer 10, the program: Chain, both, slices.Grow, slices.Concat, one, Of. -/
import Derived.Test.YtggoimakbadbkaaDoorC10
import Derived.Lib.AppendZerosOnto
namespace Go.Proofs.YtggoimakbadbkaaDoor
open Go.RowKit
set_option maxRecDepth 100000
set_option maxHeartbeats 4000000
theorem RdSS.take {w : World} {A : Option Addr} {n c : Nat} {ls : List (List Sp)} (h : RdSS w A n c ls) {k : Nat} (hk : k ≤ n) : RdSS w A k c (ls.take k) := by
  obtain ⟨h1, vs, h2, h3⟩ := h
  refine ⟨by rw [List.length_take, h1]; omega, vs.take (k * 1), h2.take hk, fun i l hl => ?_⟩
  rw [List.getElem?_take] at hl
  split at hl
  · rename_i hik
    obtain ⟨a, q, g1, g2⟩ := h3 i l hl
    exact ⟨a, q, by rw [List.getElem?_take, if_pos (by omega)]; exact g1, g2⟩
  · cases hl
theorem RdSS.drop {w : World} {b o n c : Nat} {ls : List (List Sp)} (h : RdSS w (some ⟨b, o, none⟩) n c ls) {k : Nat} (hk : k < n) : RdSS w (some ⟨b, o + k, none⟩) (n - k) (c - k) (ls.drop k) := by
  obtain ⟨h1, vs, h2, h3⟩ := h
  have h4 := h2.drop (m := k) (by omega)
  rw [Nat.mul_one] at h4
  refine ⟨by rw [List.length_drop, h1], _, h4, fun i l hl => ?_⟩
  rw [List.getElem?_drop] at hl
  obtain ⟨a, q, g1, g2⟩ := h3 _ l hl
  exact ⟨a, q, by rw [List.getElem?_drop]; exact g1, g2⟩
theorem RdSS.addr {w : World} {A : Option Addr} {n c : Nat} {ls : List (List Sp)} (h : RdSS w A n c ls) (hn : 0 < n) : ∃ b o, A = some ⟨b, o, none⟩ ∧ b < w.heap.size ∧ n ≤ c := by
  obtain ⟨h1, vs, ⟨_, A', c', hv, hc, h2⟩, h3⟩ := h
  injection hv with e1 e2 e3
  subst e1; subst e3
  obtain ⟨b, o, hA, hb, _⟩ := h2 hn
  exact ⟨b, o, hA, hb, hc⟩
/-- What a row of operations comes to, half by half. -/
def OneR (w : World) (n : Int) (ls : List (List Sp)) (m : Int) (e : Ending) (w' : World) : Prop :=
  Ext w w' ∧ ∃ A q c L, e = .returned (.slice A q c) ∧ RdO w' A q c L ∧ Seg n ls m L ∧ (ls = [L] ∨ isN L)
theorem seg_fit {n k m : Int} {a b : List (List Sp)} {X Y : List Sp} (hls : lenS a + lenS b ≤ 900 ∧ sumTT a + sumTT b ≤ 400000000) (hX : Seg n a k X) (hY : Seg k b m Y) (hn : n ≤ 1048576) (hk : k ≤ 1048576) (h0 : 0 ≤ n) (h0' : 0 ≤ k) :
    X.length ≤ 1000 ∧ Y.length ≤ 1000 ∧ (∀ s ∈ X, s.2.2.size ≤ 1000000000) ∧ (∀ s ∈ Y, s.2.2.size ≤ 1000000000) ∧ sumT X + sumT Y ≤ 900000000 ∧ compE X Y = 0 := by
  have h1 := hX.len; have h2 := hX.txt; have h3 := hY.len; have h4 := hY.txt
  have i1 := hX.inb; have i2 := hY.inb; have i3 := hX.out
  refine ⟨by omega, by omega, fun s hs => by have := le_sumT _ s hs; omega, fun s hs => by have := le_sumT _ s hs; omega, by omega, ?_⟩
  unfold compE
  rw [if_pos (okW_mayL _ hX.ok (by omega)).1, if_pos (okW_mayL _ hY.ok (by omega)).1, if_pos (by omega)]
theorem thru_head {ls : List (List Sp)} {n m : Int} (h : Thru n ls m) (hne : 0 < ls.length) : n ≤ 1048576 := by
  cases ls with
  | nil => simp at hne
  | cons l r => exact h.2.2.2.1

theorem rdSS_cons {w : World} {A a : Option Addr} {n c q k : Nat} {X : List Sp} {vs : List Value} {ls : List (List Sp)} (hv : Rd w 1 (.slice A (1 + n) c) (1 + n) ([.slice a q k] ++ vs)) (r0 : RdO w a q k X)
    (hvs : ∀ (i : Nat) (l : List Sp), ls[i]? = some l → ∃ a k, vs[i]? = some (.slice a l.length k) ∧ Rd w 3 (.slice a l.length k) l.length (spCells l)) (hl : ls.length = n) : RdSS w A (1 + n) c (X :: ls) := by
  refine ⟨by rw [List.length_cons]; omega, _, hv, fun i l h => ?_⟩
  cases i with
  | zero =>
    rw [List.getElem?_cons_zero] at h
    injection h with h
    subst h
    obtain ⟨rfl, hr⟩ := r0
    exact ⟨a, k, rfl, hr⟩
  | succ i =>
    rw [List.getElem?_cons_succ] at h
    obtain ⟨a', k', g1, g2⟩ := hvs i l h
    exact ⟨a', k', by simpa using g1, g2⟩
theorem rdSS_one {w : World} {n : Nat} {vs : List Value} {ls : List (List Sp)} (hlen : vs.length = n * 1) (hl : ls.length = n)
    (hvs : ∀ (i : Nat) (l : List Sp), ls[i]? = some l → ∃ a k, vs[i]? = some (.slice a l.length k) ∧ Rd w 3 (.slice a l.length k) l.length (spCells l)) : ∀ u ∈ vs, u.oneCell' = true := by
  intro u hu
  obtain ⟨i, hi, rfl⟩ := List.mem_iff_getElem.1 hu
  have hil : i < ls.length := by omega
  obtain ⟨a, k, g1, _⟩ := hvs i _ (List.getElem?_eq_getElem hil)
  rw [List.getElem?_eq_getElem hi] at g1
  injection g1 with g1
  rw [g1]
  rfl
end Go.Proofs.YtggoimakbadbkaaDoor
