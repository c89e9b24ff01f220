/- Layer 9, the reference: size, First. -/
import Derived.Test.YtggoimakbadbkaaDoorMc
import Derived.Test.YtggoimakbadbkaaDoorC6
import Derived.Test.YtggoimakbadbkaaDoorC4d
import Derived.Test.YtggoimakbadbkaaDoorBs
import Derived.RegionTactic
import Derived.ChangeAlike
import Derived.BigRegion
namespace Go.Proofs.YtggoimakbadbkaaDoor
open Go.RowKit
set_option maxRecDepth 100000
set_option maxHeartbeats 400000
set_option linter.unusedSimpArgs false
/-- How many code points a span takes or puts, as the functions tell it. -/
theorem size_of (k n : Int) (t : ByteArray) (h : OkW (k, n, t)) : inS k n + cntF (bs t) = ((tokS (k, n, t)).length : Int) := by
  rcases h with ⟨k1, n1, us, hu⟩ | ⟨k1, n1, t1⟩
  · simp only at k1 n1 hu
    subst k1; subst n1
    rw [tokS_text _ _ hu, List.length_map, cntF_some hu]
    show (0 : Int) + _ = _
    omega
  · simp only at k1 n1 t1
    obtain ⟨N, rfl⟩ := Int.eq_ofNat_of_zero_le n1
    subst t1
    have hc : cntF (bs ⟨#[]⟩) = 0 := by decide +kernel
    have hk : k ≠ 2 := by omega
    rw [tokS_num _ _ _ hk, List.length_replicate, Int.toNat_natCast, hc]
    have e : inS k (N : Int) = (N : Int) := by unfold inS; rw [if_pos (by omega)]
    rw [e]; omega
theorem tokS_le (k n : Int) (t : ByteArray) (h : OkW (k, n, t)) (ht : t.size ≤ 1000000000) (hn : n ≤ 1000000000) : (tokS (k, n, t)).length ≤ 1000000000 := by
  rcases h with ⟨k1, n1, us, hu⟩ | ⟨k1, n1, t1⟩
  · simp only at k1 n1 hu
    subst k1; subst n1
    rw [tokS_text _ _ hu, List.length_map]
    have h1 := length_le_encs us
    rw [← (dec_some hu).2, bs_length] at h1; omega
  · simp only at k1 n1 t1
    have hk : k ≠ 2 := by omega
    rw [tokS_num _ _ _ hk, List.length_replicate]; omega
theorem results_box_box {P : Program} {fn : Func} {p u : Tmp} {ty : TypeId} (h : fn.results = #[.cell p ty, .cell u ty]) (tmps : Array Value) (w : World) (g k : Nat) (t t' : TypeId) (cs ds : Array Value) (fr fr' : Nat × Nat) (d : TypeDesc)
    (hp : tmps.getD p undef = .pointer (some ⟨g, 0, none⟩)) (hg : w.heap[g]? = some (.cells cs t fr)) (hp' : tmps.getD u undef = .pointer (some ⟨k, 0, none⟩)) (hk : w.heap[k]? = some (.cells ds t' fr'))
    (hu : P.underlying ty = some d) (hd : (match d with | .struct _ | .array _ _ => true | _ => false) = true) (hi : (P.info? ty).map (·.size) = some cs.size) (hi' : (P.info? ty).map (·.size) = some ds.size) :
    (results fn tmps).run P w = .ok (.tuple #[.agg cs, .agg ds]) w := by
  have q1 : tmps[p]?.getD undef = .pointer (some ⟨g, 0, none⟩) := by simpa using hp
  have q2 : tmps[u]?.getD undef = .pointer (some ⟨k, 0, none⟩) := by simpa using hp'
  simp [results, h, q1, q2, asAddr, run_loadVar_row w g t ty cs fr d hg hu hd hi, run_loadVar_row w k t' ty ds fr' d hk hu hd hi']
/-- Five boxes in a row. -/
def Five (W : World) (G : Nat) (T : TypeId) (c0 c1 c2 c3 c4 : Array Value) : Prop :=
  W.heap[G]? = some (.cells c0 T (0, 0)) ∧ W.heap[G + 1]? = some (.cells c1 T (0, 0)) ∧ W.heap[G + 1 + 1]? = some (.cells c2 T (0, 0)) ∧ W.heap[G + 1 + 1 + 1]? = some (.cells c3 T (0, 0)) ∧ W.heap[G + 1 + 1 + 1 + 1]? = some (.cells c4 T (0, 0))
theorem Five.made (w : World) (T : TypeId) (c0 c1 c2 c3 c4 : Array Value) : Five (((((w.alloc (.cells c0 T)).alloc (.cells c1 T)).alloc (.cells c2 T)).alloc (.cells c3 T)).alloc (.cells c4 T)) w.heap.size T c0 c1 c2 c3 c4 := by
  refine ⟨?_, ?_, ?_, ?_, ?_⟩ <;> simp only [World.alloc, Array.getElem?_push, Array.size_push]
  · rw [if_neg (by omega), if_neg (by omega), if_neg (by omega), if_neg (by omega), if_pos trivial]
  · rw [if_neg (by omega), if_neg (by omega), if_neg (by omega), if_pos trivial]
  · rw [if_neg (by omega), if_neg (by omega), if_pos trivial]
  · rw [if_neg (by omega), if_pos trivial]
  · rw [if_pos trivial]
theorem Five.ext {W W' : World} {G : Nat} {T : TypeId} {c0 c1 c2 c3 c4 : Array Value} (h : Five W G T c0 c1 c2 c3 c4) (x : Ext W W') : Five W' G T c0 c1 c2 c3 c4 := by
  obtain ⟨h0, h1, h2, h3, h4⟩ := h
  have l0 := (Array.getElem?_eq_some_iff.1 h0).1
  have l1 := (Array.getElem?_eq_some_iff.1 h1).1
  have l2 := (Array.getElem?_eq_some_iff.1 h2).1
  have l3 := (Array.getElem?_eq_some_iff.1 h3).1
  have l4 := (Array.getElem?_eq_some_iff.1 h4).1
  exact ⟨(x.block _ l0).trans h0, (x.block _ l1).trans h1, (x.block _ l2).trans h2, (x.block _ l3).trans h3, (x.block _ l4).trans h4⟩
theorem Five.set {W : World} {G : Nat} {T : TypeId} {c0 c1 c2 c3 c4 : Array Value} (h : Five W G T c0 c1 c2 c3 c4) (j : Nat) (u : Value) :
    Five (W.setCell ⟨G + 1, j, none⟩ u) G T c0 (c1.setIfInBounds j u) c2 c3 c4 ∧ Five (W.setCell ⟨G + 1 + 1, j, none⟩ u) G T c0 c1 (c2.setIfInBounds j u) c3 c4 ∧ Five (W.setCell ⟨G + 1 + 1 + 1, j, none⟩ u) G T c0 c1 c2 (c3.setIfInBounds j u) c4 ∧ Five (W.setCell ⟨G + 1 + 1 + 1 + 1, j, none⟩ u) G T c0 c1 c2 c3 (c4.setIfInBounds j u) := by
  obtain ⟨h0, h1, h2, h3, h4⟩ := h
  have d : ∀ a b : Nat, a ≠ b → (W.setCell ⟨b, j, none⟩ u).heap[a]? = W.heap[a]? := fun a b hab => heap_setCell_other _ _ _ _ hab
  refine ⟨⟨?_, ?_, ?_, ?_, ?_⟩, ⟨?_, ?_, ?_, ?_, ?_⟩, ⟨?_, ?_, ?_, ?_, ?_⟩, ⟨?_, ?_, ?_, ?_, ?_⟩⟩ <;> first
    | (rw [d _ _ (by omega)]; assumption)
    | exact heap_setCell_same W _ j _ T u (by assumption)
theorem Five.drew {W : World} {G : Nat} {T : TypeId} {c0 c1 c2 c3 c4 : Array Value} (h : Five W G T c0 c1 c2 c3 c4) : Five W.drew G T c0 c1 c2 c3 c4 := h
theorem Five.cell {W : World} {G : Nat} {T : TypeId} {c0 c1 c2 c3 c4 : Array Value} (h : Five W G T c0 c1 c2 c3 c4) (j : Nat) :
    (∀ u, c0[j]? = some u → W.cell? ⟨G, j, none⟩ = some u) ∧ (∀ u, c3[j]? = some u → W.cell? ⟨G + 1 + 1 + 1, j, none⟩ = some u) ∧ (∀ u, c4[j]? = some u → W.cell? ⟨G + 1 + 1 + 1 + 1, j, none⟩ = some u) ∧ (∀ u, c1[j]? = some u → W.cell? ⟨G + 1, j, none⟩ = some u) ∧ (∀ u, c2[j]? = some u → W.cell? ⟨G + 1 + 1, j, none⟩ = some u) :=
  ⟨fun u hu => by rw [Lib.cell_of_heap h.1]; exact hu, fun u hu => by rw [Lib.cell_of_heap h.2.2.2.1]; exact hu, fun u hu => by rw [Lib.cell_of_heap h.2.2.2.2]; exact hu, fun u hu => by rw [Lib.cell_of_heap h.2.1]; exact hu, fun u hu => by rw [Lib.cell_of_heap h.2.2.1]; exact hu⟩
theorem Five.free {W : World} {G : Nat} {T : TypeId} {c0 c1 c2 c3 c4 : Array Value} (h : Five W G T c0 c1 c2 c3 c4) (j : Nat) :
    W.frozen? ⟨G, j, none⟩ = false ∧ W.frozen? ⟨G + 1, j, none⟩ = false ∧ W.frozen? ⟨G + 1 + 1, j, none⟩ = false ∧ W.frozen? ⟨G + 1 + 1 + 1, j, none⟩ = false ∧ W.frozen? ⟨G + 1 + 1 + 1 + 1, j, none⟩ = false :=
  ⟨Lib.frozen_of_heap h.1 j, Lib.frozen_of_heap h.2.1 j, Lib.frozen_of_heap h.2.2.1 j, Lib.frozen_of_heap h.2.2.2.1 j, Lib.frozen_of_heap h.2.2.2.2 j⟩
/-- The text of the last box, whatever it is. -/
def strAt (W : World) (a : Addr) : ByteArray := match W.cell? a with
  | some (.string s) => s
  | _ => ⟨#[]⟩
theorem strAt_of {W : World} {a : Addr} {s : ByteArray} (h : W.cell? a = some (.string s)) : strAt W a = s := by unfold strAt; rw [h]
/-- What the region keeps that turns the last box's text. -/
def SP (w W : World) (G : Nat) (T : TypeId) (t S1 : ByteArray) : Prop :=
  Ext w W ∧ w.heap.size ≤ G ∧ ∃ x : ByteArray, Five W G T #[.int .i64 2, .int .i64 0, .string t] #[.int .i64 0, .int .i64 0, .string ⟨#[]⟩] #[.int .i64 0, .int .i64 0, .string ⟨#[]⟩] #[.int .i64 2, .int .i64 0, .string S1] #[.int .i64 2, .int .i64 0, .string x]
theorem SP.drew {w W : World} {G : Nat} {T : TypeId} {t S1 : ByteArray} (h : SP w W G T t S1) : SP w W.drew G T t S1 := ⟨h.1.drew, h.2.1, h.2.2⟩
theorem SP.ext {w W W' : World} {G : Nat} {T : TypeId} {t S1 : ByteArray} (h : SP w W G T t S1) (x : Ext W W') : SP w W' G T t S1 := by
  obtain ⟨h1, h2, y, h3⟩ := h
  exact ⟨h1.trans x, h2, y, h3.ext x⟩
theorem SP.set {w W : World} {G : Nat} {T : TypeId} {t S1 : ByteArray} (h : SP w W G T t S1) (u : ByteArray) : SP w (W.setCell ⟨G + 1 + 1 + 1 + 1, 2, none⟩ (.string u)) G T t S1 := by
  obtain ⟨h1, h2, y, h3⟩ := h
  exact ⟨Below.setCell h1 (p := ⟨G + 1 + 1 + 1 + 1, 2, none⟩) (by simp only; omega) _, h2, u, (h3.set 2 (.string u)).2.2.2⟩
theorem SP.all {w W : World} {G : Nat} {T : TypeId} {t S1 : ByteArray} (h : SP w W G T t S1) : SP w W G T t S1 ∧ W.cell? ⟨G, 2, none⟩ = some (.string t) ∧ W.cell? ⟨G + 1 + 1 + 1 + 1, 2, none⟩ = some (.string (strAt W ⟨G + 1 + 1 + 1 + 1, 2, none⟩)) ∧ W.frozen? ⟨G + 1 + 1 + 1 + 1, 2, none⟩ = false := by
  refine ⟨h, ?_⟩
  obtain ⟨h1, h2, y, h3⟩ := h
  have e := (h3.cell 2).2.2.1 _ rfl
  exact ⟨(h3.cell 2).1 _ rfl, by rw [strAt_of e]; exact e, (h3.free 2).2.2.2.2⟩
/-- Behind it the last box holds that text. -/
theorem SP.after {w W : World} {G : Nat} {T : TypeId} {t S1 : ByteArray} (h : SP w W G T t S1) (u : ByteArray) : Five (W.setCell ⟨G + 1 + 1 + 1 + 1, 2, none⟩ (.string u)) G T #[.int .i64 2, .int .i64 0, .string t] #[.int .i64 0, .int .i64 0, .string ⟨#[]⟩] #[.int .i64 0, .int .i64 0, .string ⟨#[]⟩] #[.int .i64 2, .int .i64 0, .string S1] #[.int .i64 2, .int .i64 0, .string u] ∧ Ext w (W.setCell ⟨G + 1 + 1 + 1 + 1, 2, none⟩ (.string u)) := by
  obtain ⟨h1, h2, y, h3⟩ := h
  exact ⟨(h3.set 2 (.string u)).2.2.2, Below.setCell h1 (p := ⟨G + 1 + 1 + 1 + 1, 2, none⟩) (by simp only; omega) _⟩
end Go.Proofs.YtggoimakbadbkaaDoor
