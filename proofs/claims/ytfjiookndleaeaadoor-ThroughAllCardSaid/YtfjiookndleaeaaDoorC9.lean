/- Layer 9, the reference: size, First. -/
import Derived.Test.YtfjiookndleaeaaDoorMc
import Derived.Test.YtfjiookndleaeaaDoorC6
import Derived.Test.YtfjiookndleaeaaDoorC4d
import Derived.Test.YtfjiookndleaeaaDoorBs
import Derived.RegionTactic
import Derived.ChangeAlike
import Derived.BigRegion
namespace Go.Proofs.YtfjiookndleaeaaDoor
open Go.RowKit
set_option maxRecDepth 100000
set_option maxHeartbeats 400000
set_option linter.unusedSimpArgs false
/-- How many code points a span takes or puts, as the functions tell it. -/
theorem size_of (k n : Int) (t : ByteArray) (h : OkW (k, n, t)) : inS k n + cntF (bs t) = ((tokS (k, n, t)).length : Int) := by
  rcases h with ⟨k1, n1, us, hu⟩ | ⟨k1, n1, t1⟩
  · simp only at k1 n1 hu
    subst k1; subst n1
    rw [tokS_text _ _ hu, List.length_map, cntF_some hu]
    show (0 : Int) + _ = _
    omega
  · simp only at k1 n1 t1
    obtain ⟨N, rfl⟩ := Int.eq_ofNat_of_zero_le n1
    subst t1
    have hc : cntF (bs ⟨#[]⟩) = 0 := by decide +kernel
    have hk : k ≠ 2 := by omega
    rw [tokS_num _ _ _ hk, List.length_replicate, Int.toNat_natCast, hc]
    have e : inS k (N : Int) = (N : Int) := by unfold inS; rw [if_pos (by omega)]
    rw [e]; omega
theorem tokS_le (k n : Int) (t : ByteArray) (h : OkW (k, n, t)) (ht : t.size ≤ 1000000000) (hn : n ≤ 1000000000) : (tokS (k, n, t)).length ≤ 1000000000 := by
  rcases h with ⟨k1, n1, us, hu⟩ | ⟨k1, n1, t1⟩
  · simp only at k1 n1 hu
    subst k1; subst n1
    rw [tokS_text _ _ hu, List.length_map]
    have h1 := length_le_encs us
    rw [← (dec_some hu).2, bs_length] at h1; omega
  · simp only at k1 n1 t1
    have hk : k ≠ 2 := by omega
    rw [tokS_num _ _ _ hk, List.length_replicate]; omega
theorem results_box_box {P : Program} {fn : Func} {p u : Tmp} {ty : TypeId} (h : fn.results = #[.cell p ty, .cell u ty]) (tmps : Array Value) (w : World) (g k : Nat) (t t' : TypeId) (cs ds : Array Value) (fr fr' : Nat × Nat) (d : TypeDesc)
    (hp : tmps.getD p undef = .pointer (some ⟨g, 0, none⟩)) (hg : w.heap[g]? = some (.cells cs t fr)) (hp' : tmps.getD u undef = .pointer (some ⟨k, 0, none⟩)) (hk : w.heap[k]? = some (.cells ds t' fr'))
    (hu : P.underlying ty = some d) (hd : (match d with | .struct _ | .array _ _ => true | _ => false) = true) (hi : (P.info? ty).map (·.size) = some cs.size) (hi' : (P.info? ty).map (·.size) = some ds.size) :
    (results fn tmps).run P w = .ok (.tuple #[.agg cs, .agg ds]) w := by
  have q1 : tmps[p]?.getD undef = .pointer (some ⟨g, 0, none⟩) := by simpa using hp
  have q2 : tmps[u]?.getD undef = .pointer (some ⟨k, 0, none⟩) := by simpa using hp'
  simp [results, h, q1, q2, asAddr, run_loadVar_row w g t ty cs fr d hg hu hd hi, run_loadVar_row w k t' ty ds fr' d hk hu hd hi']
/-- Five boxes in a row. -/
def Five (W : World) (G : Nat) (T : TypeId) (c0 c1 c2 c3 c4 : Array Value) : Prop :=
  W.heap[G]? = some (.cells c0 T (0, 0)) ∧ W.heap[G + 1]? = some (.cells c1 T (0, 0)) ∧ W.heap[G + 1 + 1]? = some (.cells c2 T (0, 0)) ∧ W.heap[G + 1 + 1 + 1]? = some (.cells c3 T (0, 0)) ∧ W.heap[G + 1 + 1 + 1 + 1]? = some (.cells c4 T (0, 0))
theorem Five.made (w : World) (T : TypeId) (c0 c1 c2 c3 c4 : Array Value) : Five (((((w.alloc (.cells c0 T)).alloc (.cells c1 T)).alloc (.cells c2 T)).alloc (.cells c3 T)).alloc (.cells c4 T)) w.heap.size T c0 c1 c2 c3 c4 := by
  refine ⟨?_, ?_, ?_, ?_, ?_⟩ <;> simp only [World.alloc, Array.getElem?_push, Array.size_push]
  · rw [if_neg (by omega), if_neg (by omega), if_neg (by omega), if_neg (by omega), if_pos trivial]
  · rw [if_neg (by omega), if_neg (by omega), if_neg (by omega), if_pos trivial]
  · rw [if_neg (by omega), if_neg (by omega), if_pos trivial]
  · rw [if_neg (by omega), if_pos trivial]
  · rw [if_pos trivial]
theorem Five.ext {W W' : World} {G : Nat} {T : TypeId} {c0 c1 c2 c3 c4 : Array Value} (h : Five W G T c0 c1 c2 c3 c4) (x : Ext W W') : Five W' G T c0 c1 c2 c3 c4 := by
  obtain ⟨h0, h1, h2, h3, h4⟩ := h
  have l0 := (Array.getElem?_eq_some_iff.1 h0).1
  have l1 := (Array.getElem?_eq_some_iff.1 h1).1
  have l2 := (Array.getElem?_eq_some_iff.1 h2).1
  have l3 := (Array.getElem?_eq_some_iff.1 h3).1
  have l4 := (Array.getElem?_eq_some_iff.1 h4).1
  exact ⟨(x.block _ l0).trans h0, (x.block _ l1).trans h1, (x.block _ l2).trans h2, (x.block _ l3).trans h3, (x.block _ l4).trans h4⟩
theorem Five.set {W : World} {G : Nat} {T : TypeId} {c0 c1 c2 c3 c4 : Array Value} (h : Five W G T c0 c1 c2 c3 c4) (j : Nat) (u : Value) :
    Five (W.setCell ⟨G + 1, j, none⟩ u) G T c0 (c1.setIfInBounds j u) c2 c3 c4 ∧ Five (W.setCell ⟨G + 1 + 1, j, none⟩ u) G T c0 c1 (c2.setIfInBounds j u) c3 c4 ∧ Five (W.setCell ⟨G + 1 + 1 + 1, j, none⟩ u) G T c0 c1 c2 (c3.setIfInBounds j u) c4 ∧ Five (W.setCell ⟨G + 1 + 1 + 1 + 1, j, none⟩ u) G T c0 c1 c2 c3 (c4.setIfInBounds j u) := by
  obtain ⟨h0, h1, h2, h3, h4⟩ := h
  have d : ∀ a b : Nat, a ≠ b → (W.setCell ⟨b, j, none⟩ u).heap[a]? = W.heap[a]? := fun a b hab => heap_setCell_other _ _ _ _ hab
  refine ⟨⟨?_, ?_, ?_, ?_, ?_⟩, ⟨?_, ?_, ?_, ?_, ?_⟩, ⟨?_, ?_, ?_, ?_, ?_⟩, ⟨?_, ?_, ?_, ?_, ?_⟩⟩ <;> first
    | (rw [d _ _ (by omega)]; assumption)
    | exact heap_setCell_same W _ j _ T u (by assumption)
theorem Five.drew {W : World} {G : Nat} {T : TypeId} {c0 c1 c2 c3 c4 : Array Value} (h : Five W G T c0 c1 c2 c3 c4) : Five W.drew G T c0 c1 c2 c3 c4 := h
theorem Five.cell {W : World} {G : Nat} {T : TypeId} {c0 c1 c2 c3 c4 : Array Value} (h : Five W G T c0 c1 c2 c3 c4) (j : Nat) :
    (∀ u, c0[j]? = some u → W.cell? ⟨G, j, none⟩ = some u) ∧ (∀ u, c3[j]? = some u → W.cell? ⟨G + 1 + 1 + 1, j, none⟩ = some u) ∧ (∀ u, c4[j]? = some u → W.cell? ⟨G + 1 + 1 + 1 + 1, j, none⟩ = some u) ∧ (∀ u, c1[j]? = some u → W.cell? ⟨G + 1, j, none⟩ = some u) ∧ (∀ u, c2[j]? = some u → W.cell? ⟨G + 1 + 1, j, none⟩ = some u) :=
  ⟨fun u hu => by rw [Lib.cell_of_heap h.1]; exact hu, fun u hu => by rw [Lib.cell_of_heap h.2.2.2.1]; exact hu, fun u hu => by rw [Lib.cell_of_heap h.2.2.2.2]; exact hu, fun u hu => by rw [Lib.cell_of_heap h.2.1]; exact hu, fun u hu => by rw [Lib.cell_of_heap h.2.2.1]; exact hu⟩
theorem Five.free {W : World} {G : Nat} {T : TypeId} {c0 c1 c2 c3 c4 : Array Value} (h : Five W G T c0 c1 c2 c3 c4) (j : Nat) :
    W.frozen? ⟨G, j, none⟩ = false ∧ W.frozen? ⟨G + 1, j, none⟩ = false ∧ W.frozen? ⟨G + 1 + 1, j, none⟩ = false ∧ W.frozen? ⟨G + 1 + 1 + 1, j, none⟩ = false ∧ W.frozen? ⟨G + 1 + 1 + 1 + 1, j, none⟩ = false :=
  ⟨Lib.frozen_of_heap h.1 j, Lib.frozen_of_heap h.2.1 j, Lib.frozen_of_heap h.2.2.1 j, Lib.frozen_of_heap h.2.2.2.1 j, Lib.frozen_of_heap h.2.2.2.2 j⟩
/-- The text of the last box, whatever it is. -/
def strAt (W : World) (a : Addr) : ByteArray := match W.cell? a with
  | some (.string s) => s
  | _ => ⟨#[]⟩
theorem strAt_of {W : World} {a : Addr} {s : ByteArray} (h : W.cell? a = some (.string s)) : strAt W a = s := by unfold strAt; rw [h]
/-- What the region keeps that turns the last box's text. -/
def SP (w W : World) (G : Nat) (T : TypeId) (t S1 : ByteArray) : Prop :=
  Ext w W ∧ w.heap.size ≤ G ∧ ∃ x : ByteArray, Five W G T #[.int .i64 2, .int .i64 0, .string t] #[.int .i64 0, .int .i64 0, .string ⟨#[]⟩] #[.int .i64 0, .int .i64 0, .string ⟨#[]⟩] #[.int .i64 2, .int .i64 0, .string S1] #[.int .i64 2, .int .i64 0, .string x]
theorem SP.drew {w W : World} {G : Nat} {T : TypeId} {t S1 : ByteArray} (h : SP w W G T t S1) : SP w W.drew G T t S1 := ⟨h.1.drew, h.2.1, h.2.2⟩
theorem SP.ext {w W W' : World} {G : Nat} {T : TypeId} {t S1 : ByteArray} (h : SP w W G T t S1) (x : Ext W W') : SP w W' G T t S1 := by
  obtain ⟨h1, h2, y, h3⟩ := h
  exact ⟨h1.trans x, h2, y, h3.ext x⟩
theorem SP.set {w W : World} {G : Nat} {T : TypeId} {t S1 : ByteArray} (h : SP w W G T t S1) (u : ByteArray) : SP w (W.setCell ⟨G + 1 + 1 + 1 + 1, 2, none⟩ (.string u)) G T t S1 := by
  obtain ⟨h1, h2, y, h3⟩ := h
  exact ⟨Below.setCell h1 (p := ⟨G + 1 + 1 + 1 + 1, 2, none⟩) (by simp only; omega) _, h2, u, (h3.set 2 (.string u)).2.2.2⟩
theorem SP.all {w W : World} {G : Nat} {T : TypeId} {t S1 : ByteArray} (h : SP w W G T t S1) : SP w W G T t S1 ∧ W.cell? ⟨G, 2, none⟩ = some (.string t) ∧ W.cell? ⟨G + 1 + 1 + 1 + 1, 2, none⟩ = some (.string (strAt W ⟨G + 1 + 1 + 1 + 1, 2, none⟩)) ∧ W.frozen? ⟨G + 1 + 1 + 1 + 1, 2, none⟩ = false := by
  refine ⟨h, ?_⟩
  obtain ⟨h1, h2, y, h3⟩ := h
  have e := (h3.cell 2).2.2.1 _ rfl
  exact ⟨(h3.cell 2).1 _ rfl, by rw [strAt_of e]; exact e, (h3.free 2).2.2.2.2⟩
/-- Behind it the last box holds that text. -/
theorem SP.after {w W : World} {G : Nat} {T : TypeId} {t S1 : ByteArray} (h : SP w W G T t S1) (u : ByteArray) : Five (W.setCell ⟨G + 1 + 1 + 1 + 1, 2, none⟩ (.string u)) G T #[.int .i64 2, .int .i64 0, .string t] #[.int .i64 0, .int .i64 0, .string ⟨#[]⟩] #[.int .i64 0, .int .i64 0, .string ⟨#[]⟩] #[.int .i64 2, .int .i64 0, .string S1] #[.int .i64 2, .int .i64 0, .string u] ∧ Ext w (W.setCell ⟨G + 1 + 1 + 1 + 1, 2, none⟩ (.string u)) := by
  obtain ⟨h1, h2, y, h3⟩ := h
  exact ⟨(h3.set 2 (.string u)).2.2.2, Below.setCell h1 (p := ⟨G + 1 + 1 + 1 + 1, 2, none⟩) (by simp only; omega) _⟩
theorem sizeR_c (k n : Int) (t : ByteArray) (w : World) (h : OkW (k, n, t)) (ht : t.size ≤ 1000000000) (hn : n ≤ 1000000000) :
    Calls Tryd.prog 94 #[spanV k n t] w fun e w' => e = .returned (.int .i64 ((tokS (k, n, t)).length : Nat)) ∧ Ext w w' := by
  have HI := Lib.hid (fun w' => inR_c k n t w')
  have HC := Lib.hid (fun w' => countR_c t w' ht)
  have hs := size_of k n t h
  unfold spanV at HI
  have HX := Lib.hid ((Ext.refl w).alloc (.cells #[.int .i64 k, .int .i64 n, .string t] 48))
  unfold spanV
  have hL9 := tokS_le k n t h ht hn
  obtain ⟨L, hL⟩ : ∃ L, (tokS (k, n, t)).length = L := ⟨_, rfl⟩
  rw [hL] at hs hL9 ⊢
  clear hL h
  generalize inS k n = I at *
  generalize cntF (bs t) = C at *
  have hw : IntKind.i64.wrap (I + C) = (L : Int) := by rw [IntKind.wrap_i64]; omega
  clear hs
  go_enter Tryd.func94, Tryd.ntmps94
  go_wp2_with fail
  have hmade := BoxG.made w #[.int .i64 k, .int .i64 n, .string t] 48
  have q0 := hmade.2 0 (.int .i64 k) rfl
  have q1 := hmade.2 1 (.int .i64 n) rfl
  have q2 := hmade.2 2 (.string t) rfl
  obtain ⟨HB, hHB⟩ : ∃ x, w.heap.size = x := ⟨_, rfl⟩
  obtain ⟨W0, hW0⟩ : ∃ x, w.alloc (.cells #[.int .i64 k, .int .i64 n, .string t] 48) = x := ⟨_, rfl⟩
  rw [hW0] at HX q0 q1 q2 ⊢
  rw [hHB] at q0 q1 q2 ⊢
  clear hmade hW0 hHB
  have hrr := Ext.refl W0
  go_region_held3 (fun W => Ext W0 W ∧ W.cell? ⟨HB, 0, none⟩ = some (.int .i64 k) ∧ W.cell? ⟨HB, 1, none⟩ = some (.int .i64 n) ∧ W.cell? ⟨HB, 2, none⟩ = some (.string t))
    ((go_split_ands; refine ⟨?_, ?_, ?_, ?_⟩ <;> first | (exact Ext.drew ‹_›) | (exact Ext.trans ‹_› hxk) | (exact ext_cell hxk ‹_›) | go_keep))
    (first
    | (go_at_call 68; go_split_ands; refine (HI.out _).mono ?_; rintro e w' ⟨rfl, hxk⟩)
    | (go_at_call 89; go_split_ands; refine (HC.out _).mono ?_; rintro e w' ⟨rfl, hxk⟩)
    | fail)
  go_split_ands
  go_wp2_with fail
  go_ret
  exact ⟨rfl, HX.out.trans ‹Ext W0 _›⟩
theorem firstR_c (k n : Int) (t : ByteArray) (m : Nat) (w : World) (h : OkW (k, n, t)) (ht : t.size ≤ 1000000000) (hn : n ≤ 1000000000) (hm : m ≤ (tokS (k, n, t)).length) :
    Calls Tryd.prog 65 #[spanV k n t, .int .i64 m] w fun e w' => e = .returned (.tuple #[spanV (cutA (k, n, t) m).1 (cutA (k, n, t) m).2.1 (cutA (k, n, t) m).2.2, spanV (cutB (k, n, t) m).1 (cutB (k, n, t) m).2.1 (cutB (k, n, t) m).2.2]) ∧ Ext w w' := by
  by_cases hk : k = 2
  · subst hk
    obtain ⟨us, hu, rfl⟩ : ∃ us, dec (bs t) = some us ∧ n = 0 := by
      rcases h with ⟨_, n1, us, hu⟩ | ⟨k1, _⟩
      · exact ⟨us, hu, n1⟩
      · simp only at k1; omega
    rw [tokS_text _ _ hu, List.length_map] at hm
    have hcA : cutA (2, 0, t) m = (2, 0, mkS (encs (us.take m))) := by unfold cutA; rw [if_pos rfl]; simp [hu]
    have hcB : cutB (2, 0, t) m = (2, 0, mkS (encs (us.drop m))) := by unfold cutB; rw [if_pos rfl]; simp [hu]
    rw [hcA, hcB]
    simp only
    have hlu : us.length ≤ 1000000000 := by
      have h1 := length_le_encs us
      rw [← (dec_some hu).2, bs_length] at h1; omega
    have HC1 : Hid (∀ w', Calls Tryd.prog 93 #[.string t, .int .i64 0, .int .i64 m] w' fun e w'' => e = .returned (.tuple #[.string (mkS (encs (us.take m))), .int .i64 0]) ∧ Ext w' w'') := Lib.hid fun w' => by
      have h := cutR_c t 0 m w' ht
      have e : cutF (bs t) 0 (m : Int) = (encs (us.take m), 0) := by
        unfold cutF; rw [hu]; simp only; rw [if_pos (by omega)]; simp
      rw [e] at h; exact h
    have HC2 : Hid (∀ w', Calls Tryd.prog 93 #[.string t, .int .i64 m, .int .i64 (us.length : Int)] w' fun e w'' => e = .returned (.tuple #[.string (mkS (encs (us.drop m))), .int .i64 0]) ∧ Ext w' w'') := Lib.hid fun w' => by
      have h := cutR_c t m us.length w' ht
      have e : cutF (bs t) (m : Int) (us.length : Int) = (encs (us.drop m), 0) := by
        unfold cutF; rw [hu]; simp only; rw [if_pos (by omega)]; simp
      rw [e] at h; exact h
    have HCN : Hid (∀ w', Calls Tryd.prog 89 #[.string t] w' fun e w'' => e = .returned (.int .i64 (us.length : Int)) ∧ Ext w' w'') := Lib.hid fun w' => by
      have h := countR_c t w' ht; rw [cntF_some hu] at h; exact h
    clear hcA hcB h hu
    unfold spanV
    generalize mkS (encs (us.take m)) = S1 at *
    generalize mkS (encs (us.drop m)) = S2 at *
    generalize us.length = U at *
    go_enter Tryd.func65, Tryd.ntmps65
    go_wp2_with fail
    refine (HC1.out _).mono ?_; rintro e w1 ⟨rfl, hx1⟩
    have F := (Five.made w 48 #[.int .i64 2, .int .i64 0, .string t] #[.int .i64 0, .int .i64 0, .string ⟨#[]⟩] #[.int .i64 0, .int .i64 0, .string ⟨#[]⟩] #[.int .i64 2, .int .i64 0, .string t] #[.int .i64 2, .int .i64 0, .string t]).ext hx1
    have HX1 : Hid (Ext w w1) := Lib.hid ((((((Ext.refl w).alloc _).alloc _).alloc _).alloc _).alloc _ |>.trans hx1)
    obtain ⟨HG, hHG⟩ : ∃ x, w.heap.size = x := ⟨_, rfl⟩
    rw [hHG] at F ⊢
    have HHG := Lib.hid hHG
    clear hHG hx1
    have y0 := (F.cell 0).2.1 _ rfl
    have y1 := (F.cell 1).2.1 _ rfl
    have y2 := (F.cell 2).2.1 _ rfl
    have z2 := (F.cell 2).1 _ rfl
    have f2 := (F.free 2).2.2.2.1
    have HF := Lib.hid F
    clear F
    go_wp2_with fail
    obtain ⟨W2, hW2⟩ : ∃ x, w1.setCell ⟨HG + 1 + 1 + 1, 2, none⟩ (.string S1) = x := ⟨_, rfl⟩
    have HF2 : Hid (Five W2 HG 48 #[.int .i64 2, .int .i64 0, .string t] #[.int .i64 0, .int .i64 0, .string ⟨#[]⟩] #[.int .i64 0, .int .i64 0, .string ⟨#[]⟩] #[.int .i64 2, .int .i64 0, .string S1] #[.int .i64 2, .int .i64 0, .string t]) := Lib.hid (by rw [← hW2]; exact (HF.out.set 2 (.string S1)).2.2.1)
    have HX2 : Hid (Ext w W2) := Lib.hid (by rw [← hW2]; exact Below.setCell HX1.out (p := ⟨HG + 1 + 1 + 1, 2, none⟩) (by have := HHG.out; simp only; omega) _)
    have hsp : SP w W2 HG 48 t S1 := ⟨HX2.out, by have := HHG.out; omega, _, HF2.out⟩
    obtain ⟨hsp, c1, c2, c3⟩ := hsp.all
    rw [hW2]
    clear hW2 y0 y1 y2 z2 f2 HF HX1 HF2 HX2
    go_region_held3 (fun W => SP w W HG 48 t S1 ∧ W.cell? ⟨HG, 2, none⟩ = some (.string t) ∧ W.cell? ⟨HG + 1 + 1 + 1 + 1, 2, none⟩ = some (.string (strAt W ⟨HG + 1 + 1 + 1 + 1, 2, none⟩)) ∧ W.frozen? ⟨HG + 1 + 1 + 1 + 1, 2, none⟩ = false)
      ((go_split_ands; first | exact SP.all (SP.drew ‹SP w _ HG _ t S1›) | exact SP.all (SP.ext ‹SP w _ HG _ t S1› hxk) | exact SP.all (SP.set ‹SP w _ HG _ t S1› _)))
      (first
      | (go_at_call 89; go_split_ands; refine (HCN.out _).mono ?_; rintro e w' ⟨rfl, hxk⟩)
      | (go_at_call 93; go_split_ands; refine (HC2.out _).mono ?_; rintro e w' ⟨rfl, hxk⟩)
      | fail)
    have hsp2 := (SP.ext (by assumption) hxk).after S2
    obtain ⟨W0, hW0⟩ : ∃ x, w'.setCell ⟨HG + 1 + 1 + 1 + 1, 2, none⟩ (.string S2) = x := ⟨_, rfl⟩
    rw [hW0] at hsp2 ⊢
    have HF := Lib.hid hsp2.1
    have HX0 := Lib.hid hsp2.2
    go_wp2_with fail
    have a0 := (HF.out.cell 0).2.1 _ rfl
    have a1 := (HF.out.cell 1).2.1 _ rfl
    have a2 := (HF.out.cell 2).2.1 _ rfl
    have b0 := (HF.out.cell 0).2.2.1 _ rfl
    have b1 := (HF.out.cell 1).2.2.1 _ rfl
    have b2 := (HF.out.cell 2).2.2.1 _ rfl
    have r0 := (HF.out.cell 0).2.2.2.1 _ rfl
    have r1 := (HF.out.cell 1).2.2.2.1 _ rfl
    have r2 := (HF.out.cell 2).2.2.2.1 _ rfl
    have t0 := (HF.out.cell 0).2.2.2.2 _ rfl
    have t1 := (HF.out.cell 1).2.2.2.2 _ rfl
    have t2 := (HF.out.cell 2).2.2.2.2 _ rfl
    obtain ⟨f0, f1, f2, f3, f4⟩ := And.intro (HF.out.free 0).2.1 (And.intro (HF.out.free 1).2.1 (And.intro (HF.out.free 2).2.1 (And.intro (HF.out.free 0).2.2.1 (HF.out.free 1).2.2.1)))
    have f5 := (HF.out.free 2).2.2.1
    go_region
    have hg := HHG.out
    have HXN : Hid (Ext w (((((((W0.setCell ⟨HG + 1, 0, none⟩ (.int .i64 2)).setCell ⟨HG + 1, 1, none⟩ (.int .i64 0)).setCell ⟨HG + 1, 2, none⟩ (.string S1)).setCell ⟨HG + 1 + 1, 0, none⟩ (.int .i64 2)).setCell ⟨HG + 1 + 1, 1, none⟩ (.int .i64 0)).setCell ⟨HG + 1 + 1, 2, none⟩ (.string S2)).drew)) :=
      Lib.hid (Ext.drew (Below.setCell (Below.setCell (Below.setCell (Below.setCell (Below.setCell (Below.setCell HX0.out (p := ⟨HG + 1, 0, none⟩) (by simp only; omega) _) (p := ⟨HG + 1, 1, none⟩) (by simp only; omega) _) (p := ⟨HG + 1, 2, none⟩) (by simp only; omega) _) (p := ⟨HG + 1 + 1, 0, none⟩) (by simp only; omega) _) (p := ⟨HG + 1 + 1, 1, none⟩) (by simp only; omega) _) (p := ⟨HG + 1 + 1, 2, none⟩) (by simp only; omega) _))
    have F6 := Five.drew ((((((((((((HF.out.set 0 (.int .i64 2)).1).set 1 (.int .i64 0)).1).set 2 (.string S1)).1).set 0 (.int .i64 2)).2.1).set 1 (.int .i64 0)).2.1).set 2 (.string S2)).2.1)
    unfold Five at F6
    obtain ⟨_, g1, g2, _, _⟩ := F6
    have G1 := Lib.hid g1; have G2 := Lib.hid g2
    clear g1 g2 hg a0 a1 a2 b0 b1 b2 r0 r1 r2 t0 t1 t2 f0 f1 f2 f3 f4 f5
    go_wp2_with fail
    refine bodyPost_ret (results_box_box rfl _ _ (HG + 1) (HG + 1 + 1) _ _ _ _ (0, 0) (0, 0) _ rfl G1.out rfl G2.out Tryd.underlying48 rfl (by kernel_rfl) (by kernel_rfl)) rfl ?_
    exact ⟨rfl, HXN.out⟩
  · have hb : (k == 2) = false := by rw [beq_eq_false_iff_ne]; exact hk
    obtain ⟨N, rfl⟩ := Int.eq_ofNat_of_zero_le (OkW.nonneg h)
    rw [tokS_num _ _ _ hk, List.length_replicate] at hm
    rw [Int.toNat_natCast] at hm
    have hcA : cutA (k, (N : Int), t) m = (k, (m : Int), t) := by unfold cutA; rw [if_neg hk]
    have hcB : cutB (k, (N : Int), t) m = (k, (N : Int) - m, t) := by unfold cutB; rw [if_neg hk]
    rw [hcA, hcB]
    simp only
    have hws : wrap64 ((N : Int) - (m : Int)) = (N : Int) - m := by unfold wrap64; omega
    clear hcA hcB h hk
    unfold spanV
    go_enter Tryd.func65, Tryd.ntmps65
    go_wp2_with fail
    have F := Five.made w 48 #[.int .i64 k, .int .i64 (N : Int), .string t] #[.int .i64 0, .int .i64 0, .string ⟨#[]⟩] #[.int .i64 0, .int .i64 0, .string ⟨#[]⟩] #[.int .i64 k, .int .i64 (m : Int), .string t] #[.int .i64 k, .int .i64 ((N : Int) - m), .string t]
    obtain ⟨HG, hHG⟩ : ∃ x, w.heap.size = x := ⟨_, rfl⟩
    obtain ⟨W0, hW0⟩ : ∃ x, ((((w.alloc (.cells #[.int .i64 k, .int .i64 (N : Int), .string t] 48)).alloc (.cells #[.int .i64 0, .int .i64 0, .string ⟨#[]⟩] 48)).alloc (.cells #[.int .i64 0, .int .i64 0, .string ⟨#[]⟩] 48)).alloc (.cells #[.int .i64 k, .int .i64 (m : Int), .string t] 48)).alloc (.cells #[.int .i64 k, .int .i64 ((N : Int) - m), .string t] 48) = x := ⟨_, rfl⟩
    have HX0 : Hid (Ext w W0) := Lib.hid (by rw [← hW0]; exact (((((Ext.refl w).alloc _).alloc _).alloc _).alloc _).alloc _)
    rw [hW0] at F ⊢
    rw [hHG] at F ⊢
    have HHG := Lib.hid hHG
    clear hW0 hHG
    have a0 := (F.cell 0).2.1 _ rfl
    have a1 := (F.cell 1).2.1 _ rfl
    have a2 := (F.cell 2).2.1 _ rfl
    have b0 := (F.cell 0).2.2.1 _ rfl
    have b1 := (F.cell 1).2.2.1 _ rfl
    have b2 := (F.cell 2).2.2.1 _ rfl
    have r0 := (F.cell 0).2.2.2.1 _ rfl
    have r1 := (F.cell 1).2.2.2.1 _ rfl
    have r2 := (F.cell 2).2.2.2.1 _ rfl
    have t0 := (F.cell 0).2.2.2.2 _ rfl
    have t1 := (F.cell 1).2.2.2.2 _ rfl
    have t2 := (F.cell 2).2.2.2.2 _ rfl
    obtain ⟨f0, f1, f2, f3, f4⟩ := And.intro (F.free 0).2.1 (And.intro (F.free 1).2.1 (And.intro (F.free 2).2.1 (And.intro (F.free 0).2.2.1 (F.free 1).2.2.1)))
    have f5 := (F.free 2).2.2.1
    have HF := Lib.hid F
    clear F
    go_region
    have hg := HHG.out
    have HXN : Hid (Ext w (((((((W0.setCell ⟨HG + 1, 0, none⟩ (.int .i64 k)).setCell ⟨HG + 1, 1, none⟩ (.int .i64 (m : Int))).setCell ⟨HG + 1, 2, none⟩ (.string t)).setCell ⟨HG + 1 + 1, 0, none⟩ (.int .i64 k)).setCell ⟨HG + 1 + 1, 1, none⟩ (.int .i64 ((N : Int) - m))).setCell ⟨HG + 1 + 1, 2, none⟩ (.string t)).drew)) :=
      Lib.hid (Ext.drew (Below.setCell (Below.setCell (Below.setCell (Below.setCell (Below.setCell (Below.setCell HX0.out (p := ⟨HG + 1, 0, none⟩) (by simp only; omega) _) (p := ⟨HG + 1, 1, none⟩) (by simp only; omega) _) (p := ⟨HG + 1, 2, none⟩) (by simp only; omega) _) (p := ⟨HG + 1 + 1, 0, none⟩) (by simp only; omega) _) (p := ⟨HG + 1 + 1, 1, none⟩) (by simp only; omega) _) (p := ⟨HG + 1 + 1, 2, none⟩) (by simp only; omega) _))
    have F6 := Five.drew ((((((((((((HF.out.set 0 (.int .i64 k)).1).set 1 (.int .i64 (m : Int))).1).set 2 (.string t)).1).set 0 (.int .i64 k)).2.1).set 1 (.int .i64 ((N : Int) - m))).2.1).set 2 (.string t)).2.1)
    unfold Five at F6
    obtain ⟨_, g1, g2, _, _⟩ := F6
    have G1 := Lib.hid g1; have G2 := Lib.hid g2
    clear g1 g2 hg a0 a1 a2 b0 b1 b2 r0 r1 r2 t0 t1 t2 f0 f1 f2 f3 f4 f5
    go_wp2_with fail
    refine bodyPost_ret (results_box_box rfl _ _ (HG + 1) (HG + 1 + 1) _ _ _ _ (0, 0) (0, 0) _ rfl G1.out rfl G2.out Tryd.underlying48 rfl (by kernel_rfl) (by kernel_rfl)) rfl ?_
    exact ⟨rfl, HXN.out⟩
end Go.Proofs.YtfjiookndleaeaaDoor
