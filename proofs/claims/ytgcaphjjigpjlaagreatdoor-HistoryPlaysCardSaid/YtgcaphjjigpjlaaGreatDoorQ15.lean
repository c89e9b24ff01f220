/- Packed: C9 C9b. -/
import Derived.ArgAppend
import Derived.BigQuiet
import Derived.BigRegion
import Derived.ChangeAlike
import Derived.Deep.Cut
import Derived.Deep.CutRange
import Derived.Deep.DrawnRows
import Derived.Deep.MidRow
import Derived.Deep.QuietTactic
import Derived.Deep.RegionHeld3
import Derived.Deep.RegionWith
import Derived.Deep.Upon
import Derived.Laws.AppendOwnNone
import Derived.Laws.BytesArg
import Derived.Laws.IdiomCopy
import Derived.Laws.MakeOwn
import Derived.Laws.ResultCell
import Derived.Lib.AppendStr
import Derived.Lib.Builder
import Derived.Lib.DecodeN
import Derived.Lib.Hide
import Derived.Lib.Strings
import Derived.Lib.UnsafeStr
import Derived.RegionTactic
import Derived.StillTail
import Derived.StillTailTactics
import Derived.Test.YtgcaphjjigpjlaaGreatDoorProg
import Derived.Test.YtgcaphjjigpjlaaGreatDoorShelf
import Derived.WalkKit
import Derived.WalkLawsBesides
import Derived.WalkSpells
import Derived.Test.YtgcaphjjigpjlaaGreatDoorQ00
import Derived.Test.YtgcaphjjigpjlaaGreatDoorQ01
import Derived.Test.YtgcaphjjigpjlaaGreatDoorQ02
import Derived.Test.YtgcaphjjigpjlaaGreatDoorQ03
import Derived.Test.YtgcaphjjigpjlaaGreatDoorQ04
import Derived.Test.YtgcaphjjigpjlaaGreatDoorQ05
import Derived.Test.YtgcaphjjigpjlaaGreatDoorQ06
import Derived.Test.YtgcaphjjigpjlaaGreatDoorQ07
namespace Go.Proofs.YtgcaphjjigpjlaaGreatDoor
open Go.RowKit
set_option maxRecDepth 100000
set_option maxHeartbeats 400000
set_option linter.unusedSimpArgs false
theorem size_of (k n : Int) (t : ByteArray) (h : OkW (k, n, t)) : inS k n + cntF (bs t) = ((tokS (k, n, t)).length : Int) := by
  rcases h with ⟨k1, n1, us, hu⟩ | ⟨k1, n1, t1⟩
  · simp only at k1 n1 hu
    subst k1; subst n1
    rw [tokS_text _ _ hu, List.length_map, cntF_some hu]
    show (0 : Int) + _ = _
    omega
  · simp only at k1 n1 t1
    obtain ⟨N, rfl⟩ := Int.eq_ofNat_of_zero_le n1
    subst t1
    have hc : cntF (bs ⟨#[]⟩) = 0 := by decide +kernel
    have hk : k ≠ 2 := by omega
    rw [tokS_num _ _ _ hk, List.length_replicate, Int.toNat_natCast, hc]
    have e : inS k (N : Int) = (N : Int) := by unfold inS; rw [if_pos (by omega)]
    rw [e]; omega
theorem tokS_le (k n : Int) (t : ByteArray) (h : OkW (k, n, t)) (ht : t.size ≤ 1000000000) (hn : n ≤ 1000000000) : (tokS (k, n, t)).length ≤ 1000000000 := by
  rcases h with ⟨k1, n1, us, hu⟩ | ⟨k1, n1, t1⟩
  · simp only at k1 n1 hu
    subst k1; subst n1
    rw [tokS_text _ _ hu, List.length_map]
    have h1 := length_le_encs us
    rw [← (dec_some hu).2, bs_length] at h1; omega
  · simp only at k1 n1 t1
    have hk : k ≠ 2 := by omega
    rw [tokS_num _ _ _ hk, List.length_replicate]; omega
theorem results_box_box {P : Program} {fn : Func} {p u : Tmp} {ty : TypeId} (h : fn.results = #[.cell p ty, .cell u ty]) (tmps : Array Value) (w : World) (g k : Nat) (t t' : TypeId) (cs ds : Array Value) (fr fr' : Nat × Nat) (d : TypeDesc)
    (hp : tmps.getD p undef = .pointer (some ⟨g, 0, none⟩)) (hg : w.heap[g]? = some (.cells cs t fr)) (hp' : tmps.getD u undef = .pointer (some ⟨k, 0, none⟩)) (hk : w.heap[k]? = some (.cells ds t' fr'))
    (hu : P.underlying ty = some d) (hd : (match d with | .struct _ | .array _ _ => true | _ => false) = true) (hi : (P.info? ty).map (·.size) = some cs.size) (hi' : (P.info? ty).map (·.size) = some ds.size) :
    (results fn tmps).run P w = .ok (.tuple #[.agg cs, .agg ds]) w := by
  have q1 : tmps[p]?.getD undef = .pointer (some ⟨g, 0, none⟩) := by simpa using hp
  have q2 : tmps[u]?.getD undef = .pointer (some ⟨k, 0, none⟩) := by simpa using hp'
  simp [results, h, q1, q2, asAddr, run_loadVar_row w g t ty cs fr d hg hu hd hi, run_loadVar_row w k t' ty ds fr' d hk hu hd hi']
def Five (W : World) (G : Nat) (T : TypeId) (c0 c1 c2 c3 c4 : Array Value) : Prop :=
  W.heap[G]? = some (.cells c0 T (0, 0)) ∧ W.heap[G + 1]? = some (.cells c1 T (0, 0)) ∧ W.heap[G + 1 + 1]? = some (.cells c2 T (0, 0)) ∧ W.heap[G + 1 + 1 + 1]? = some (.cells c3 T (0, 0)) ∧ W.heap[G + 1 + 1 + 1 + 1]? = some (.cells c4 T (0, 0))
theorem Five.made (w : World) (T : TypeId) (c0 c1 c2 c3 c4 : Array Value) : Five (((((w.alloc (.cells c0 T)).alloc (.cells c1 T)).alloc (.cells c2 T)).alloc (.cells c3 T)).alloc (.cells c4 T)) w.heap.size T c0 c1 c2 c3 c4 := by
  refine ⟨?_, ?_, ?_, ?_, ?_⟩ <;> simp only [World.alloc, Array.getElem?_push, Array.size_push]
  · rw [if_neg (by omega), if_neg (by omega), if_neg (by omega), if_neg (by omega), if_pos trivial]
  · rw [if_neg (by omega), if_neg (by omega), if_neg (by omega), if_pos trivial]
  · rw [if_neg (by omega), if_neg (by omega), if_pos trivial]
  · rw [if_neg (by omega), if_pos trivial]
  · rw [if_pos trivial]
theorem Five.ext {W W' : World} {G : Nat} {T : TypeId} {c0 c1 c2 c3 c4 : Array Value} (h : Five W G T c0 c1 c2 c3 c4) (x : Ext W W') : Five W' G T c0 c1 c2 c3 c4 := by
  obtain ⟨h0, h1, h2, h3, h4⟩ := h
  have l0 := (Array.getElem?_eq_some_iff.1 h0).1
  have l1 := (Array.getElem?_eq_some_iff.1 h1).1
  have l2 := (Array.getElem?_eq_some_iff.1 h2).1
  have l3 := (Array.getElem?_eq_some_iff.1 h3).1
  have l4 := (Array.getElem?_eq_some_iff.1 h4).1
  exact ⟨(x.block _ l0).trans h0, (x.block _ l1).trans h1, (x.block _ l2).trans h2, (x.block _ l3).trans h3, (x.block _ l4).trans h4⟩
theorem Five.set {W : World} {G : Nat} {T : TypeId} {c0 c1 c2 c3 c4 : Array Value} (h : Five W G T c0 c1 c2 c3 c4) (j : Nat) (u : Value) :
    Five (W.setCell ⟨G + 1, j, none⟩ u) G T c0 (c1.setIfInBounds j u) c2 c3 c4 ∧ Five (W.setCell ⟨G + 1 + 1, j, none⟩ u) G T c0 c1 (c2.setIfInBounds j u) c3 c4 ∧ Five (W.setCell ⟨G + 1 + 1 + 1, j, none⟩ u) G T c0 c1 c2 (c3.setIfInBounds j u) c4 ∧ Five (W.setCell ⟨G + 1 + 1 + 1 + 1, j, none⟩ u) G T c0 c1 c2 c3 (c4.setIfInBounds j u) := by
  obtain ⟨h0, h1, h2, h3, h4⟩ := h
  have d : ∀ a b : Nat, a ≠ b → (W.setCell ⟨b, j, none⟩ u).heap[a]? = W.heap[a]? := fun a b hab => heap_setCell_other _ _ _ _ hab
  refine ⟨⟨?_, ?_, ?_, ?_, ?_⟩, ⟨?_, ?_, ?_, ?_, ?_⟩, ⟨?_, ?_, ?_, ?_, ?_⟩, ⟨?_, ?_, ?_, ?_, ?_⟩⟩ <;> first
    | (rw [d _ _ (by omega)]; assumption)
    | exact heap_setCell_same W _ j _ T u (by assumption)
theorem Five.drew {W : World} {G : Nat} {T : TypeId} {c0 c1 c2 c3 c4 : Array Value} (h : Five W G T c0 c1 c2 c3 c4) : Five W.drew G T c0 c1 c2 c3 c4 := h
theorem Five.cell {W : World} {G : Nat} {T : TypeId} {c0 c1 c2 c3 c4 : Array Value} (h : Five W G T c0 c1 c2 c3 c4) (j : Nat) :
    (∀ u, c0[j]? = some u → W.cell? ⟨G, j, none⟩ = some u) ∧ (∀ u, c3[j]? = some u → W.cell? ⟨G + 1 + 1 + 1, j, none⟩ = some u) ∧ (∀ u, c4[j]? = some u → W.cell? ⟨G + 1 + 1 + 1 + 1, j, none⟩ = some u) ∧ (∀ u, c1[j]? = some u → W.cell? ⟨G + 1, j, none⟩ = some u) ∧ (∀ u, c2[j]? = some u → W.cell? ⟨G + 1 + 1, j, none⟩ = some u) :=
  ⟨fun u hu => by rw [Lib.cell_of_heap h.1]; exact hu, fun u hu => by rw [Lib.cell_of_heap h.2.2.2.1]; exact hu, fun u hu => by rw [Lib.cell_of_heap h.2.2.2.2]; exact hu, fun u hu => by rw [Lib.cell_of_heap h.2.1]; exact hu, fun u hu => by rw [Lib.cell_of_heap h.2.2.1]; exact hu⟩
theorem Five.free {W : World} {G : Nat} {T : TypeId} {c0 c1 c2 c3 c4 : Array Value} (h : Five W G T c0 c1 c2 c3 c4) (j : Nat) :
    W.frozen? ⟨G, j, none⟩ = false ∧ W.frozen? ⟨G + 1, j, none⟩ = false ∧ W.frozen? ⟨G + 1 + 1, j, none⟩ = false ∧ W.frozen? ⟨G + 1 + 1 + 1, j, none⟩ = false ∧ W.frozen? ⟨G + 1 + 1 + 1 + 1, j, none⟩ = false :=
  ⟨Lib.frozen_of_heap h.1 j, Lib.frozen_of_heap h.2.1 j, Lib.frozen_of_heap h.2.2.1 j, Lib.frozen_of_heap h.2.2.2.1 j, Lib.frozen_of_heap h.2.2.2.2 j⟩
def strAt (W : World) (a : Addr) : ByteArray := match W.cell? a with
  | some (.string s) => s
  | _ => ⟨#[]⟩
theorem strAt_of {W : World} {a : Addr} {s : ByteArray} (h : W.cell? a = some (.string s)) : strAt W a = s := by unfold strAt; rw [h]
def SP (w W : World) (G : Nat) (T : TypeId) (t S1 : ByteArray) : Prop :=
  Ext w W ∧ w.heap.size ≤ G ∧ ∃ x : ByteArray, Five W G T #[.int .i64 2, .int .i64 0, .string t] #[.int .i64 0, .int .i64 0, .string ⟨#[]⟩] #[.int .i64 0, .int .i64 0, .string ⟨#[]⟩] #[.int .i64 2, .int .i64 0, .string S1] #[.int .i64 2, .int .i64 0, .string x]
theorem SP.drew {w W : World} {G : Nat} {T : TypeId} {t S1 : ByteArray} (h : SP w W G T t S1) : SP w W.drew G T t S1 := ⟨h.1.drew, h.2.1, h.2.2⟩
theorem SP.ext {w W W' : World} {G : Nat} {T : TypeId} {t S1 : ByteArray} (h : SP w W G T t S1) (x : Ext W W') : SP w W' G T t S1 := by
  obtain ⟨h1, h2, y, h3⟩ := h
  exact ⟨h1.trans x, h2, y, h3.ext x⟩
theorem SP.set {w W : World} {G : Nat} {T : TypeId} {t S1 : ByteArray} (h : SP w W G T t S1) (u : ByteArray) : SP w (W.setCell ⟨G + 1 + 1 + 1 + 1, 2, none⟩ (.string u)) G T t S1 := by
  obtain ⟨h1, h2, y, h3⟩ := h
  exact ⟨Below.setCell h1 (p := ⟨G + 1 + 1 + 1 + 1, 2, none⟩) (by simp only; omega) _, h2, u, (h3.set 2 (.string u)).2.2.2⟩
theorem SP.all {w W : World} {G : Nat} {T : TypeId} {t S1 : ByteArray} (h : SP w W G T t S1) : SP w W G T t S1 ∧ W.cell? ⟨G, 2, none⟩ = some (.string t) ∧ W.cell? ⟨G + 1 + 1 + 1 + 1, 2, none⟩ = some (.string (strAt W ⟨G + 1 + 1 + 1 + 1, 2, none⟩)) ∧ W.frozen? ⟨G + 1 + 1 + 1 + 1, 2, none⟩ = false := by
  refine ⟨h, ?_⟩
  obtain ⟨h1, h2, y, h3⟩ := h
  have e := (h3.cell 2).2.2.1 _ rfl
  exact ⟨(h3.cell 2).1 _ rfl, by rw [strAt_of e]; exact e, (h3.free 2).2.2.2.2⟩
theorem SP.after {w W : World} {G : Nat} {T : TypeId} {t S1 : ByteArray} (h : SP w W G T t S1) (u : ByteArray) : Five (W.setCell ⟨G + 1 + 1 + 1 + 1, 2, none⟩ (.string u)) G T #[.int .i64 2, .int .i64 0, .string t] #[.int .i64 0, .int .i64 0, .string ⟨#[]⟩] #[.int .i64 0, .int .i64 0, .string ⟨#[]⟩] #[.int .i64 2, .int .i64 0, .string S1] #[.int .i64 2, .int .i64 0, .string u] ∧ Ext w (W.setCell ⟨G + 1 + 1 + 1 + 1, 2, none⟩ (.string u)) := by
  obtain ⟨h1, h2, y, h3⟩ := h
  exact ⟨(h3.set 2 (.string u)).2.2.2, Below.setCell h1 (p := ⟨G + 1 + 1 + 1 + 1, 2, none⟩) (by simp only; omega) _⟩
theorem sizeR_c (k n : Int) (t : ByteArray) (w : World) (h : OkW (k, n, t)) (ht : t.size ≤ 1000000000) (hn : n ≤ 1000000000) :
    Calls Tryz.prog 90 #[spanV k n t] w fun e w' => e = .returned (.int .i64 ((tokS (k, n, t)).length : Nat)) ∧ Ext w w' := by
  have HI := Lib.hid (fun w' => inR_c k n t w')
  have HC := Lib.hid (fun w' => countR_c t w' ht)
  have hs := size_of k n t h
  unfold spanV at HI
  have HX := Lib.hid ((Ext.refl w).alloc (.cells #[.int .i64 k, .int .i64 n, .string t] 60))
  unfold spanV
  have hL9 := tokS_le k n t h ht hn
  obtain ⟨L, hL⟩ : ∃ L, (tokS (k, n, t)).length = L := ⟨_, rfl⟩
  rw [hL] at hs hL9 ⊢
  clear hL h
  generalize inS k n = I at *
  generalize cntF (bs t) = C at *
  have hw : IntKind.i64.wrap (I + C) = (L : Int) := by rw [IntKind.wrap_i64]; omega
  clear hs
  go_enter Tryz.func90, Tryz.ntmps90
  go_wp2_with fail
  have hmade := BoxG.made w #[.int .i64 k, .int .i64 n, .string t] 60
  have q0 := hmade.2 0 (.int .i64 k) rfl
  have q1 := hmade.2 1 (.int .i64 n) rfl
  have q2 := hmade.2 2 (.string t) rfl
  obtain ⟨HB, hHB⟩ : ∃ x, w.heap.size = x := ⟨_, rfl⟩
  obtain ⟨W0, hW0⟩ : ∃ x, w.alloc (.cells #[.int .i64 k, .int .i64 n, .string t] 60) = x := ⟨_, rfl⟩
  rw [hW0] at HX q0 q1 q2 ⊢
  rw [hHB] at q0 q1 q2 ⊢
  clear hmade hW0 hHB
  have hrr := Ext.refl W0
  go_region_held3 (fun W => Ext W0 W ∧ W.cell? ⟨HB, 0, none⟩ = some (.int .i64 k) ∧ W.cell? ⟨HB, 1, none⟩ = some (.int .i64 n) ∧ W.cell? ⟨HB, 2, none⟩ = some (.string t))
    ((go_split_ands; refine ⟨?_, ?_, ?_, ?_⟩ <;> first | (exact Ext.drew ‹_›) | (exact Ext.trans ‹_› hxk) | (exact ext_cell hxk ‹_›) | go_keep))
    (first
    | (go_at_call 57; go_split_ands; refine (HI.out _).mono ?_; rintro e w' ⟨rfl, hxk⟩)
    | (go_at_call 27; go_split_ands; refine (HC.out _).mono ?_; rintro e w' ⟨rfl, hxk⟩)
    | fail)
  go_split_ands
  go_wp2_with fail
  go_ret
  exact ⟨rfl, HX.out.trans ‹Ext W0 _›⟩
theorem firstR_c (k n : Int) (t : ByteArray) (m : Nat) (w : World) (h : OkW (k, n, t)) (ht : t.size ≤ 1000000000) (hn : n ≤ 1000000000) (hm : m ≤ (tokS (k, n, t)).length) :
    Calls Tryz.prog 86 #[spanV k n t, .int .i64 m] w fun e w' => e = .returned (.tuple #[spanV (cutA (k, n, t) m).1 (cutA (k, n, t) m).2.1 (cutA (k, n, t) m).2.2, spanV (cutB (k, n, t) m).1 (cutB (k, n, t) m).2.1 (cutB (k, n, t) m).2.2]) ∧ Ext w w' := by
  by_cases hk : k = 2
  · subst hk
    obtain ⟨us, hu, rfl⟩ : ∃ us, dec (bs t) = some us ∧ n = 0 := by
      rcases h with ⟨_, n1, us, hu⟩ | ⟨k1, _⟩
      · exact ⟨us, hu, n1⟩
      · simp only at k1; omega
    rw [tokS_text _ _ hu, List.length_map] at hm
    have hcA : cutA (2, 0, t) m = (2, 0, mkS (encs (us.take m))) := by unfold cutA; rw [if_pos rfl]; simp [hu]
    have hcB : cutB (2, 0, t) m = (2, 0, mkS (encs (us.drop m))) := by unfold cutB; rw [if_pos rfl]; simp [hu]
    rw [hcA, hcB]
    simp only
    have hlu : us.length ≤ 1000000000 := by
      have h1 := length_le_encs us
      rw [← (dec_some hu).2, bs_length] at h1; omega
    have HC1 : Hid (∀ w', Calls Tryz.prog 100 #[.string t, .int .i64 0, .int .i64 m] w' fun e w'' => e = .returned (.tuple #[.string (mkS (encs (us.take m))), .int .i64 0]) ∧ Ext w' w'') := Lib.hid fun w' => by
      have h := cutR_c t 0 m w' ht
      have e : cutF (bs t) 0 (m : Int) = (encs (us.take m), 0) := by
        unfold cutF; rw [hu]; simp only; rw [if_pos (by omega)]; simp
      rw [e] at h; exact h
    have HC2 : Hid (∀ w', Calls Tryz.prog 100 #[.string t, .int .i64 m, .int .i64 (us.length : Int)] w' fun e w'' => e = .returned (.tuple #[.string (mkS (encs (us.drop m))), .int .i64 0]) ∧ Ext w' w'') := Lib.hid fun w' => by
      have h := cutR_c t m us.length w' ht
      have e : cutF (bs t) (m : Int) (us.length : Int) = (encs (us.drop m), 0) := by
        unfold cutF; rw [hu]; simp only; rw [if_pos (by omega)]; simp
      rw [e] at h; exact h
    have HCN : Hid (∀ w', Calls Tryz.prog 27 #[.string t] w' fun e w'' => e = .returned (.int .i64 (us.length : Int)) ∧ Ext w' w'') := Lib.hid fun w' => by
      have h := countR_c t w' ht; rw [cntF_some hu] at h; exact h
    clear hcA hcB h hu
    unfold spanV
    generalize mkS (encs (us.take m)) = S1 at *
    generalize mkS (encs (us.drop m)) = S2 at *
    generalize us.length = U at *
    go_enter Tryz.func86, Tryz.ntmps86
    go_wp2_with fail
    refine (HC1.out _).mono ?_; rintro e w1 ⟨rfl, hx1⟩
    have F := (Five.made w 60 #[.int .i64 2, .int .i64 0, .string t] #[.int .i64 0, .int .i64 0, .string ⟨#[]⟩] #[.int .i64 0, .int .i64 0, .string ⟨#[]⟩] #[.int .i64 2, .int .i64 0, .string t] #[.int .i64 2, .int .i64 0, .string t]).ext hx1
    have HX1 : Hid (Ext w w1) := Lib.hid ((((((Ext.refl w).alloc _).alloc _).alloc _).alloc _).alloc _ |>.trans hx1)
    obtain ⟨HG, hHG⟩ : ∃ x, w.heap.size = x := ⟨_, rfl⟩
    rw [hHG] at F ⊢
    have HHG := Lib.hid hHG
    clear hHG hx1
    have y0 := (F.cell 0).2.1 _ rfl
    have y1 := (F.cell 1).2.1 _ rfl
    have y2 := (F.cell 2).2.1 _ rfl
    have z2 := (F.cell 2).1 _ rfl
    have f2 := (F.free 2).2.2.2.1
    have HF := Lib.hid F
    clear F
    go_wp2_with fail
    obtain ⟨W2, hW2⟩ : ∃ x, w1.setCell ⟨HG + 1 + 1 + 1, 2, none⟩ (.string S1) = x := ⟨_, rfl⟩
    have HF2 : Hid (Five W2 HG 60 #[.int .i64 2, .int .i64 0, .string t] #[.int .i64 0, .int .i64 0, .string ⟨#[]⟩] #[.int .i64 0, .int .i64 0, .string ⟨#[]⟩] #[.int .i64 2, .int .i64 0, .string S1] #[.int .i64 2, .int .i64 0, .string t]) := Lib.hid (by rw [← hW2]; exact (HF.out.set 2 (.string S1)).2.2.1)
    have HX2 : Hid (Ext w W2) := Lib.hid (by rw [← hW2]; exact Below.setCell HX1.out (p := ⟨HG + 1 + 1 + 1, 2, none⟩) (by have := HHG.out; simp only; omega) _)
    have hsp : SP w W2 HG 60 t S1 := ⟨HX2.out, by have := HHG.out; omega, _, HF2.out⟩
    obtain ⟨hsp, c1, c2, c3⟩ := hsp.all
    rw [hW2]
    clear hW2 y0 y1 y2 z2 f2 HF HX1 HF2 HX2
    go_region_held3 (fun W => SP w W HG 60 t S1 ∧ W.cell? ⟨HG, 2, none⟩ = some (.string t) ∧ W.cell? ⟨HG + 1 + 1 + 1 + 1, 2, none⟩ = some (.string (strAt W ⟨HG + 1 + 1 + 1 + 1, 2, none⟩)) ∧ W.frozen? ⟨HG + 1 + 1 + 1 + 1, 2, none⟩ = false)
      ((go_split_ands; first | exact SP.all (SP.drew ‹SP w _ HG _ t S1›) | exact SP.all (SP.ext ‹SP w _ HG _ t S1› hxk) | exact SP.all (SP.set ‹SP w _ HG _ t S1› _)))
      (first
      | (go_at_call 27; go_split_ands; refine (HCN.out _).mono ?_; rintro e w' ⟨rfl, hxk⟩)
      | (go_at_call 100; go_split_ands; refine (HC2.out _).mono ?_; rintro e w' ⟨rfl, hxk⟩)
      | fail)
    have hsp2 := (SP.ext (by assumption) hxk).after S2
    obtain ⟨W0, hW0⟩ : ∃ x, w'.setCell ⟨HG + 1 + 1 + 1 + 1, 2, none⟩ (.string S2) = x := ⟨_, rfl⟩
    rw [hW0] at hsp2 ⊢
    have HF := Lib.hid hsp2.1
    have HX0 := Lib.hid hsp2.2
    go_wp2_with fail
    have a0 := (HF.out.cell 0).2.1 _ rfl
    have a1 := (HF.out.cell 1).2.1 _ rfl
    have a2 := (HF.out.cell 2).2.1 _ rfl
    have b0 := (HF.out.cell 0).2.2.1 _ rfl
    have b1 := (HF.out.cell 1).2.2.1 _ rfl
    have b2 := (HF.out.cell 2).2.2.1 _ rfl
    have r0 := (HF.out.cell 0).2.2.2.1 _ rfl
    have r1 := (HF.out.cell 1).2.2.2.1 _ rfl
    have r2 := (HF.out.cell 2).2.2.2.1 _ rfl
    have t0 := (HF.out.cell 0).2.2.2.2 _ rfl
    have t1 := (HF.out.cell 1).2.2.2.2 _ rfl
    have t2 := (HF.out.cell 2).2.2.2.2 _ rfl
    obtain ⟨f0, f1, f2, f3, f4⟩ := And.intro (HF.out.free 0).2.1 (And.intro (HF.out.free 1).2.1 (And.intro (HF.out.free 2).2.1 (And.intro (HF.out.free 0).2.2.1 (HF.out.free 1).2.2.1)))
    have f5 := (HF.out.free 2).2.2.1
    go_region
    have hg := HHG.out
    have HXN : Hid (Ext w (((((((W0.setCell ⟨HG + 1, 0, none⟩ (.int .i64 2)).setCell ⟨HG + 1, 1, none⟩ (.int .i64 0)).setCell ⟨HG + 1, 2, none⟩ (.string S1)).setCell ⟨HG + 1 + 1, 0, none⟩ (.int .i64 2)).setCell ⟨HG + 1 + 1, 1, none⟩ (.int .i64 0)).setCell ⟨HG + 1 + 1, 2, none⟩ (.string S2)).drew)) :=
      Lib.hid (Ext.drew (Below.setCell (Below.setCell (Below.setCell (Below.setCell (Below.setCell (Below.setCell HX0.out (p := ⟨HG + 1, 0, none⟩) (by simp only; omega) _) (p := ⟨HG + 1, 1, none⟩) (by simp only; omega) _) (p := ⟨HG + 1, 2, none⟩) (by simp only; omega) _) (p := ⟨HG + 1 + 1, 0, none⟩) (by simp only; omega) _) (p := ⟨HG + 1 + 1, 1, none⟩) (by simp only; omega) _) (p := ⟨HG + 1 + 1, 2, none⟩) (by simp only; omega) _))
    have F6 := Five.drew ((((((((((((HF.out.set 0 (.int .i64 2)).1).set 1 (.int .i64 0)).1).set 2 (.string S1)).1).set 0 (.int .i64 2)).2.1).set 1 (.int .i64 0)).2.1).set 2 (.string S2)).2.1)
    unfold Five at F6
    obtain ⟨_, g1, g2, _, _⟩ := F6
    have G1 := Lib.hid g1; have G2 := Lib.hid g2
    clear g1 g2 hg a0 a1 a2 b0 b1 b2 r0 r1 r2 t0 t1 t2 f0 f1 f2 f3 f4 f5
    go_wp2_with fail
    refine bodyPost_ret (results_box_box rfl _ _ (HG + 1) (HG + 1 + 1) _ _ _ _ (0, 0) (0, 0) _ rfl G1.out rfl G2.out Tryz.underlying60 rfl (by kernel_rfl) (by kernel_rfl)) rfl ?_
    exact ⟨rfl, HXN.out⟩
  · have hb : (k == 2) = false := by rw [beq_eq_false_iff_ne]; exact hk
    obtain ⟨N, rfl⟩ := Int.eq_ofNat_of_zero_le (OkW.nonneg h)
    rw [tokS_num _ _ _ hk, List.length_replicate] at hm
    rw [Int.toNat_natCast] at hm
    have hcA : cutA (k, (N : Int), t) m = (k, (m : Int), t) := by unfold cutA; rw [if_neg hk]
    have hcB : cutB (k, (N : Int), t) m = (k, (N : Int) - m, t) := by unfold cutB; rw [if_neg hk]
    rw [hcA, hcB]
    simp only
    have hws : wrap64 ((N : Int) - (m : Int)) = (N : Int) - m := by unfold wrap64; omega
    clear hcA hcB h hk
    unfold spanV
    go_enter Tryz.func86, Tryz.ntmps86
    go_wp2_with fail
    have F := Five.made w 60 #[.int .i64 k, .int .i64 (N : Int), .string t] #[.int .i64 0, .int .i64 0, .string ⟨#[]⟩] #[.int .i64 0, .int .i64 0, .string ⟨#[]⟩] #[.int .i64 k, .int .i64 (m : Int), .string t] #[.int .i64 k, .int .i64 ((N : Int) - m), .string t]
    obtain ⟨HG, hHG⟩ : ∃ x, w.heap.size = x := ⟨_, rfl⟩
    obtain ⟨W0, hW0⟩ : ∃ x, ((((w.alloc (.cells #[.int .i64 k, .int .i64 (N : Int), .string t] 60)).alloc (.cells #[.int .i64 0, .int .i64 0, .string ⟨#[]⟩] 60)).alloc (.cells #[.int .i64 0, .int .i64 0, .string ⟨#[]⟩] 60)).alloc (.cells #[.int .i64 k, .int .i64 (m : Int), .string t] 60)).alloc (.cells #[.int .i64 k, .int .i64 ((N : Int) - m), .string t] 60) = x := ⟨_, rfl⟩
    have HX0 : Hid (Ext w W0) := Lib.hid (by rw [← hW0]; exact (((((Ext.refl w).alloc _).alloc _).alloc _).alloc _).alloc _)
    rw [hW0] at F ⊢
    rw [hHG] at F ⊢
    have HHG := Lib.hid hHG
    clear hW0 hHG
    have a0 := (F.cell 0).2.1 _ rfl
    have a1 := (F.cell 1).2.1 _ rfl
    have a2 := (F.cell 2).2.1 _ rfl
    have b0 := (F.cell 0).2.2.1 _ rfl
    have b1 := (F.cell 1).2.2.1 _ rfl
    have b2 := (F.cell 2).2.2.1 _ rfl
    have r0 := (F.cell 0).2.2.2.1 _ rfl
    have r1 := (F.cell 1).2.2.2.1 _ rfl
    have r2 := (F.cell 2).2.2.2.1 _ rfl
    have t0 := (F.cell 0).2.2.2.2 _ rfl
    have t1 := (F.cell 1).2.2.2.2 _ rfl
    have t2 := (F.cell 2).2.2.2.2 _ rfl
    obtain ⟨f0, f1, f2, f3, f4⟩ := And.intro (F.free 0).2.1 (And.intro (F.free 1).2.1 (And.intro (F.free 2).2.1 (And.intro (F.free 0).2.2.1 (F.free 1).2.2.1)))
    have f5 := (F.free 2).2.2.1
    have HF := Lib.hid F
    clear F
    go_region
    have hg := HHG.out
    have HXN : Hid (Ext w (((((((W0.setCell ⟨HG + 1, 0, none⟩ (.int .i64 k)).setCell ⟨HG + 1, 1, none⟩ (.int .i64 (m : Int))).setCell ⟨HG + 1, 2, none⟩ (.string t)).setCell ⟨HG + 1 + 1, 0, none⟩ (.int .i64 k)).setCell ⟨HG + 1 + 1, 1, none⟩ (.int .i64 ((N : Int) - m))).setCell ⟨HG + 1 + 1, 2, none⟩ (.string t)).drew)) :=
      Lib.hid (Ext.drew (Below.setCell (Below.setCell (Below.setCell (Below.setCell (Below.setCell (Below.setCell HX0.out (p := ⟨HG + 1, 0, none⟩) (by simp only; omega) _) (p := ⟨HG + 1, 1, none⟩) (by simp only; omega) _) (p := ⟨HG + 1, 2, none⟩) (by simp only; omega) _) (p := ⟨HG + 1 + 1, 0, none⟩) (by simp only; omega) _) (p := ⟨HG + 1 + 1, 1, none⟩) (by simp only; omega) _) (p := ⟨HG + 1 + 1, 2, none⟩) (by simp only; omega) _))
    have F6 := Five.drew ((((((((((((HF.out.set 0 (.int .i64 k)).1).set 1 (.int .i64 (m : Int))).1).set 2 (.string t)).1).set 0 (.int .i64 k)).2.1).set 1 (.int .i64 ((N : Int) - m))).2.1).set 2 (.string t)).2.1)
    unfold Five at F6
    obtain ⟨_, g1, g2, _, _⟩ := F6
    have G1 := Lib.hid g1; have G2 := Lib.hid g2
    clear g1 g2 hg a0 a1 a2 b0 b1 b2 r0 r1 r2 t0 t1 t2 f0 f1 f2 f3 f4 f5
    go_wp2_with fail
    refine bodyPost_ret (results_box_box rfl _ _ (HG + 1) (HG + 1 + 1) _ _ _ _ (0, 0) (0, 0) _ rfl G1.out rfl G2.out Tryz.underlying60 rfl (by kernel_rfl) (by kernel_rfl)) rfl ?_
    exact ⟨rfl, HXN.out⟩
end Go.Proofs.YtgcaphjjigpjlaaGreatDoor
namespace Go.Proofs.YtgcaphjjigpjlaaGreatDoor
open Go.RowKit
set_option maxRecDepth 100000
set_option maxHeartbeats 6000000
set_option linter.unusedSimpArgs false
theorem off_old {w : World} {A : Option Addr} {n c : Nat} {l : List Sp} (h : RdO w A n c l) : Off n A (.slice (some ⟨w.heap.size, 0, none⟩) 0 0) := by
  intro hn b off hA hb
  obtain ⟨_, _, A', c', hv, _, h2⟩ := h
  obtain ⟨b', off', hA', hb', _⟩ := h2 hn
  injection hv with e1 e2 e3
  subst e1
  rw [hA] at hA'
  injection hA' with hA'
  injection hA' with e4 e5
  simp [Value.ownBlock] at hb
  omega
theorem compC (xs ys : List Sp) (hx : ∀ s ∈ xs, OkW s ∧ ¬ emp s) (hy : ∀ s ∈ ys, OkW s ∧ ¬ emp s) (h : tout (tok xs) = tin (tok ys)) :
    (xs = [] ∧ ys = []) ∨ (∃ b1 b2 b3 r, ys = (b1, b2, b3) :: r ∧ b1 = 2) ∨ (∃ a1 a2 a3 r, xs = (a1, a2, a3) :: r ∧ a1 = 3 ∧ ∀ s q, ys = s :: q → s.1 ≠ 2) ∨
      (∃ a1 a2 a3 r b1 b2 b3 q, xs = (a1, a2, a3) :: r ∧ ys = (b1, b2, b3) :: q ∧ a1 ≠ 3 ∧ b1 ≠ 2) := by
  rcases ys with _ | ⟨⟨b1, b2, b3⟩, q⟩
  · rcases xs with _ | ⟨⟨a1, a2, a3⟩, r⟩
    · exact .inl ⟨rfl, rfl⟩
    · right; right; left
      refine ⟨a1, a2, a3, r, rfl, ?_, fun s q hs => by cases hs⟩
      obtain ⟨h1, h2⟩ := hx _ (List.mem_cons_self ..)
      have h3 := tokS_pos _ h1 h2
      rw [tok_cons, tout_append, (sides _ h1).2, tok_nil] at h
      by_cases hk : a1 = 3
      · exact hk
      · exfalso
        rw [if_neg hk] at h
        have : tin ([] : List Tok) = 0 := rfl
        omega
  · by_cases hb : b1 = 2
    · right; left; exact ⟨b1, b2, b3, q, rfl, hb⟩
    · rcases xs with _ | ⟨⟨a1, a2, a3⟩, r⟩
      · exfalso
        obtain ⟨h1, h2⟩ := hy _ (List.mem_cons_self ..)
        have h3 := tokS_pos _ h1 h2
        rw [tok_cons, tin_append, (sides _ h1).1, if_neg hb] at h
        have : tout (tok ([] : List Sp)) = 0 := rfl
        omega
      · by_cases ha : a1 = 3
        · right; right; left
          exact ⟨a1, a2, a3, r, rfl, ha, fun s q' hs => by injection hs with e1 e2; subst e1; exact hb⟩
        · right; right; right
          exact ⟨a1, a2, a3, r, b1, b2, b3, q, rfl, rfl, ha, hb⟩
theorem three_ways (p q : Prop) : p ∨ (¬ p ∧ q) ∨ (¬ p ∧ ¬ q) := by
  by_cases h : p
  · exact .inl h
  · by_cases h2 : q
    · exact .inr (.inl ⟨h, h2⟩)
    · exact .inr (.inr ⟨h, h2⟩)
theorem comp_step {K1 : Int} {K2 K3 : Nat} {TT : List Tok} {s u : Sp} {xs ys os : List Sp} {n : Nat} (h : Row3 K1 K2 K3 (s :: xs) (u :: ys) os) (htt : tok os ++ compT (tok (s :: xs)) (tok (u :: ys)) = TT) (hsid : tout (tok (s :: xs)) = tin (tok (u :: ys))) (ks : s.1 ≠ 3) (ku : u.1 ≠ 2) (hn : n = min (tokS s).length (tokS u).length) :
    Row3 K1 K2 K3 (left s n xs) (left u n ys) (os ++ (if u.1 = 1 then [cutA s n] else if s.1 = 1 then [cutA u n] else [])) ∧ tok (os ++ (if u.1 = 1 then [cutA s n] else if s.1 = 1 then [cutA u n] else [])) ++ compT (tok (left s n xs)) (tok (left u n ys)) = TT ∧ tout (tok (left s n xs)) = tin (tok (left u n ys)) := by
  have hs := (h.x s (List.mem_cons_self ..)).1
  have hu := (h.y u (List.mem_cons_self ..)).1
  have hp : (if u.1 = 1 then [cutA s n] else if s.1 = 1 then [cutA u n] else []) = [] ∨ (if u.1 = 1 then [cutA s n] else if s.1 = 1 then [cutA u n] else []) = [cutA s n] ∨ (if u.1 = 1 then [cutA s n] else if s.1 = 1 then [cutA u n] else []) = [cutA u n] := by
    by_cases h1 : u.1 = 1
    · rw [if_pos h1]; exact .inr (.inl rfl)
    · rw [if_neg h1]
      by_cases h2 : s.1 = 1
      · rw [if_pos h2]; exact .inr (.inr rfl)
      · rw [if_neg h2]; exact .inl rfl
  refine ⟨(h.both hn _ hp).1, ?_, ?_⟩
  · rw [comp_both xs ys os s u n hs hu ks ku (by omega) (by omega)]; exact htt
  · have d1 := (drop_tok s hs n (by omega)).2
    have d2 := (drop_tok u hu n (by omega)).1
    have s1 := (sides s hs).2
    have s2 := (sides u hu).1
    rw [if_neg ks] at d1 s1
    rw [if_neg ku] at d2 s2
    rw [tok_cons, tok_cons, tout_append, tin_append] at hsid
    rw [left_tok s n xs hs (by omega), left_tok u n ys hu (by omega), tout_append, tin_append]
    omega
def OpR (w : World) (E : Int) (L : List Sp) (e : Ending) (w' : World) : Prop :=
  Ext w w' ∧ ∃ A n c, e = .returned (.tuple #[.slice A n c, .int .i64 E]) ∧ RdO w' A n c (if E = 0 then L else [])
theorem compW_c (A : Option Addr) (q c : Nat) (a : List Sp) (B : Option Addr) (q' c' : Nat) (b : List Sp) (w : World) (h : Rd w 3 (.slice A q c) q (spCells a)) (hl : a.length = q) (h' : Rd w 3 (.slice B q' c') q' (spCells b)) (hl' : b.length = q') (hq : q ≤ 1000) (hq' : q' ≤ 1000)
    (hta : ∀ s ∈ a, s.2.2.size ≤ 1000000000) (htb : ∀ s ∈ b, s.2.2.size ≤ 1000000000) (hT : sumT a + sumT b ≤ 900000000) (hma : mayL a = 0) (hmb : mayL b = 0) (hf : outL a = inL b) :
    Calls Tryz.prog 74 #[.slice A q c, .slice B q' c'] w fun e w' => Ext w w' ∧ ∃ A n c, e = .returned (.tuple #[.slice A n c, .int .i64 0]) ∧ RdO w' A n c (spT (compT (tok a) (tok b))) := by
  obtain ⟨i, hi, hz0, hz1, hz2⟩ := info_parts info_sp5
  obtain ⟨alla, ai0, ai1⟩ := mayL_all hma (by omega)
  obtain ⟨allb, bi0, bi1⟩ := mayL_all hmb (by omega)
  have oka : ∀ s ∈ a, OkW s := fun s hs => okW_of_may (alla s hs)
  have okb : ∀ s ∈ b, OkW s := fun s hs => okW_of_may (allb s hs)
  have hob := outL_le a oka
  have hna : sumN a = inL a := (may_sum a alla).2
  have hnb : sumN b = inL b := (may_sum b allb).2
  have Oka : Ok a := ⟨(may_sum a alla).1, by omega, by omega⟩
  have Okb : Ok b := ⟨(may_sum b allb).1, by omega, by omega⟩
  have hwo : wrap64 (outL a) = inL b := by unfold wrap64; omega
  have hwi : wrap64 (inL b) = inL b := by unfold wrap64; omega
  have HMA : Hid (∀ w', Ext w w' → _) := Lib.hid fun w' hx => mayR4_c A q c a w' (h.ext hx) hl hq hta
  have HMB : Hid (∀ w', Ext w w' → _) := Lib.hid fun w' hx => mayR4_c B q' c' b w' (h'.ext hx) hl' hq' htb
  have HOA : Hid (∀ w', Ext w w' → _) := Lib.hid fun w' hx => outR4_c A q c a w' (h.ext hx) hl hq hta
  have HIB : Hid (∀ w', Ext w w' → _) := Lib.hid fun w' hx => inR4_c B q' c' b w' (h'.ext hx) hl' hq'
  rw [hma] at HMA
  rw [hmb] at HMB
  rw [hwo] at HOA
  rw [hwi] at HIB
  have HNA : Hid (∀ w', Ext w w' → _) := Lib.hid fun w' hx => ofR5_c A q c a w' (h.ext hx) hl (by omega) Oka
  have HNB : Hid (∀ w', Ext w w' → _) := Lib.hid fun w' hx => ofR5_c B q' c' b w' (h'.ext hx) hl' (by omega) Okb
  have hnx := norm_okW a oka
  have hny := norm_okW b okb
  have hix := isN_ne _ (norm_is a Oka.pos)
  have hiy := isN_ne _ (norm_is b Okb.pos)
  have hlx := norm_len a
  have hly := norm_len b
  have hti := (tin_ok b okb).1
  have hto := (tin_ok a oka).2
  have hrow : Row3 1000000000 900000000 2000 (normL a) (normL b) [] := by
    have Z : sumN ([] : List Sp) = 0 ∧ sumT ([] : List Sp) = 0 := ⟨rfl, rfl⟩
    refine ⟨fun s hs => ⟨hnx.1 s hs, hix s hs⟩, fun s hs => ⟨hny.1 s hs, hiy s hs⟩, fun s hs => (by cases hs), ?_, ?_, ?_⟩
    · rw [sumN_norm, sumN_norm]; omega
    · rw [sumT_norm, sumT_norm]; omega
    · simp only [List.length_nil]; omega
  have hsid : tout (tok (normL a)) = tin (tok (normL b)) := by rw [hnx.2, hny.2]; omega
  have htt : tok [] ++ compT (tok (normL a)) (tok (normL b)) = compT (tok a) (tok b) := by rw [hnx.2, hny.2, tok_nil, List.nil_append]
  have HROW := Lib.hid hrow; have HSID := Lib.hid hsid; have HTT := Lib.hid htt
  clear h hl h' hl' hta htb hT hma hmb hf alla allb oka okb hob hna hnb Oka Okb hwo hwi hnx hny hix hiy hlx hly hti hto hrow hsid htt
  generalize inL b = IB at *
  generalize normL a = X0 at *
  generalize normL b = Y0 at *
  obtain ⟨TT, hTT⟩ : ∃ TT, compT (tok a) (tok b) = TT := ⟨_, rfl⟩
  rw [hTT] at HTT ⊢
  clear hTT
  go_enter Tryz.func74, Tryz.ntmps74
  go_wp2_with fail
  refine (HMA.out _ (Ext.refl _)).mono ?_; rintro e w1 ⟨rfl, hx1⟩
  go_wp2_with fail
  refine (HMB.out _ hx1).mono ?_; rintro e w2 ⟨rfl, hx2⟩
  have e2 := hx1.trans hx2
  clear hx1 hx2
  go_wp2_with fail
  refine (HOA.out _ e2).mono ?_; rintro e w3 ⟨rfl, hx3⟩
  have e3 := e2.trans hx3
  clear hx3 e2
  go_wp2_with fail
  refine (HIB.out _ e3).mono ?_; rintro e w4 ⟨rfl, hx4⟩
  have e4 := e3.trans hx4
  clear hx4 e3
  go_wp2_with fail
  refine (HNA.out _ e4).mono ?_; rintro e w5 ⟨v5, rfl, hx5, o5⟩
  obtain ⟨aX, nX, cX, rfl, rX⟩ := rdO_own o5
  have e5 := e4.trans hx5
  clear hx5 e4 o5
  go_wp2_with fail
  refine (HNB.out _ e5).mono ?_; rintro e w6 ⟨v6, rfl, hx6, o6⟩
  obtain ⟨aY, nY, cY, rfl, rY⟩ := rdO_own o6
  have RX := Lib.hid (rX.ext hx6)
  have RY := Lib.hid rY
  have e6 := e5.trans hx6
  have HE6 := Lib.hid e6
  clear hx6 e5 o6 rX rY e6
  have hrel0 : Own (w6.alloc (.cells #[] 60)) w6.heap.size 60 3 (.slice (some ⟨w6.heap.size, 0, none⟩) 0 0) 0 (spCells []) ∧ Below w6.heap.size w6 (w6.alloc (.cells #[] 60)) :=
    ⟨Own.made w6 w6.heap.size 60 3 0 #[] (Nat.le_refl _) (by omega) rfl, (Below.refl _ _).alloc (Nat.le_refl _) _⟩
  have HR0 := Lib.hid hrel0
  clear hrel0
  go_wp2_with fail
  have hv0 : (Value.slice (some ⟨w6.heap.size, 0, none⟩) 0 0).ownBlock = some w6.heap.size := rfl
  have HOX0 : Hid (Off nX aX (.slice (some ⟨w6.heap.size, 0, none⟩) 0 0) ∧ Off nY aY (.slice (some ⟨w6.heap.size, 0, none⟩) 0 0)) := Lib.hid ⟨off_old RX.out, off_old RY.out⟩
  clear hv0
  go_loopw [8, 9, 10] (fun vx vy vo wr => ∃ (xs ys os : List Sp) (ax ay : Option Addr) (nx ny cx cy : Nat), vx = .slice ax nx cx ∧ vy = .slice ay ny cy ∧ RdO wr ax nx cx xs ∧ RdO wr ay ny cy ys ∧ Own wr w6.heap.size 60 3 vo os.length (spCells os) ∧
    (Off nx ax vo ∧ Off ny ay vo) ∧ Row3 1000000000 900000000 2000 xs ys os ∧ tok os ++ compT (tok xs) (tok ys) = TT ∧ tout (tok xs) = tin (tok ys) ∧ Below w6.heap.size w6 wr) (fun vx vy _ _ => slen vx + slen vy)
  case atStart => exact ⟨X0, Y0, [], aX, aY, nX, nY, cX, cY, rfl, rfl, RX.out.ext HR0.out.2, RY.out.ext HR0.out.2, HR0.out.1, HOX0.out, HROW.out, HTT.out, HSID.out, HR0.out.2⟩
  case round =>
    obtain ⟨xs, ys, os, ax, ay, nx, ny, cx, cy, rfl, rfl, rx, ry, ho, ⟨ofx, ofy⟩, hrow, htt, hsid, hxr⟩ := hrel
    have HROW := Lib.hid hrow; have HTT := Lib.hid htt; have HSID := Lib.hid hsid
    clear hrow htt hsid RX RY HNA HNB HIB HOA HMA HMB HR0 HOX0
    have hco := HROW.out.l
    rcases compC xs ys HROW.out.x HROW.out.y HSID.out with ⟨rfl, rfl⟩ | ⟨b1, b2, b3, ys, rfl, hk⟩ | ⟨a1, a2, a3, xs, rfl, hk, hnp⟩ | ⟨a1, a2, a3, xs, b1, b2, b3, ys, rfl, rfl, hka, hkb⟩
    · have hnx := rx.1
      have hny := ry.1
      simp only [List.length_nil] at hnx hny
      subst hnx; subst hny
      have hok := okW_pos os HROW.out.o
      have hOk : Ok os := ⟨hok, by have := HROW.out.n; have e : sumN ([] : List Sp) = 0 := rfl; omega, by have := HROW.out.t; have e : sumT ([] : List Sp) = 0 := rfl; omega⟩
      have hres : normL os = spT TT := by rw [← HTT.out, norm_tok os HROW.out.o, tok_nil, compT, List.append_nil]
      obtain ⟨Z, hZ⟩ : ∃ Z, spT TT = Z := ⟨_, rfl⟩
      rw [hZ] at hres
      have HZ := Lib.hid hZ
      obtain ⟨ao, co, rfl, hoc⟩ := ho.len
      have HOF := Lib.hid (ofR5_c ao os.length co os wr ho.rd rfl (by simp only [List.length_nil] at hco; omega) hOk)
      rw [hres] at HOF
      have HX := Lib.hid hxr
      clear hok hOk hres hZ ho rx ry ofx ofy hxr
      go_wp2_with fail
      refine HOF.out.mono ?_; rintro e w7 ⟨v7, rfl, hx7, o7⟩
      obtain ⟨a7, n7, c7, rfl, r7⟩ := rdO_own o7
      go_wp2_with fail
      go_ret2
      rw [HZ.out]
      exact ⟨HE6.out.trans (Ext.trans HX.out hx7), _, _, _, rfl, r7⟩
    · subst hk
      have hyl := ry.1
      simp only [List.length_cons] at hyl hco
      obtain ⟨m, hm⟩ : ∃ m, ys.length = m := ⟨_, rfl⟩
      rw [hm] at hyl hco
      subst hyl
      clear hm
      obtain ⟨bY, oY, rfl, hbY, q0, q1, q2⟩ := sp_at ry.2 ry.1 (show 0 < m + 1 by omega)
      simp only [List.getElem_cons_zero, Nat.zero_mul, Nat.add_zero] at q0 q1 q2
      have hcY : m + 1 ≤ cy := by obtain ⟨_, _, hv, hc⟩ := ry.2.len; injection hv with _ _ e; omega
      have huo := (HROW.out.y _ (List.mem_cons_self ..)).1
      have HROW2 := Lib.hid HROW.out.putY
      have HTT2 : Hid (tok (os ++ [(2, b2, b3)]) ++ compT (tok xs) (tok ys) = TT) := Lib.hid (by rw [comp_putY xs ys os _ huo rfl]; exact HTT.out)
      have HSID2 : Hid (tout (tok xs) = tin (tok ys)) := Lib.hid (by have h1 := HSID.out; rw [tok_cons, tin_append, (sides _ huo).1, if_pos rfl] at h1; omega)
      obtain ⟨v', w', happ, hown', hbel', hkp, hsz', hwh⟩ := app_newg (P := Tryz.prog) 23 23 60 i _ 3 32 Tryz.underlying23 hi hz0 hz1 hz2 rfl (by omega) (by omega)
        ho (by omega) 1 #[.int .i64 2, .int .i64 b2, .string b3] rfl (by omega) (by simp [Value.oneCell']) 60
      have HAP := Lib.hid happ
      have HO2 : Hid (Own w' w6.heap.size 60 3 v' (os ++ [(2, b2, b3)]).length (spCells (os ++ [(2, b2, b3)]))) := Lib.hid (by rw [spCells_append, List.length_append]; exact hown')
      have HX2 := Lib.hid (ofx.rd rx hkp hsz')
      have HY2 := Lib.hid (rdO_behind (ofy.rd ry hkp hsz'))
      have HOX := Lib.hid (ofx.next rx hwh)
      have HOY := Lib.hid ((ofy.next ry hwh).behind (c := cy) (k := 1) (by omega))
      have HB2 := Lib.hid (hbel' hxr)
      obtain ⟨AD, hAD⟩ : ∃ AD : Option Addr, (if cy = 1 then some ⟨bY, oY, none⟩ else some ⟨bY, oY + 1 * 3, none⟩) = AD := ⟨_, rfl⟩
      rw [hAD] at HY2 HOY
      simp only [Nat.one_mul] at hAD
      have hnx := rx.1
      have hl1 : os.length + 1 ≤ 2000 := by omega
      have y0 : (1 : Int) ≤ (m : Int) + 1 := by omega
      have y1 : (m : Int) + 1 ≤ (cy : Int) := by omega
      have y2 : (0 : Int) < (m : Int) + 1 := by omega
      clear happ hown' hbel' hkp hsz' hwh ho rx ry ofx ofy hxr huo
      rcases Nat.eq_zero_or_pos nx with hz | hz
      · subst hz
        go_wp2_with (at_builtin; refine wpList_append_run rfl rfl HAP.out rfl rfl ?_)
        go_roundw
        case rel => exact ⟨xs, ys, os ++ [(2, b2, b3)], ax, AD, 0, m, cx, cy - 1, rfl, rfl, HX2.out, HY2.out, HO2.out, ⟨HOX.out, HOY.out⟩, HROW2.out, HTT2.out, HSID2.out, HB2.out⟩
        case measure => simp [slen]; try omega
      · have x0 : (0 : Int) < (nx : Int) := by omega
        have x1 : decide (0 < nx) = true := by rw [decide_eq_true_eq]; exact hz
        go_wp2_with (at_builtin; refine wpList_append_run rfl rfl HAP.out rfl rfl ?_)
        go_roundw
        case rel => exact ⟨xs, ys, os ++ [(2, b2, b3)], ax, AD, nx, m, cx, cy - 1, rfl, rfl, HX2.out, HY2.out, HO2.out, ⟨HOX.out, HOY.out⟩, HROW2.out, HTT2.out, HSID2.out, HB2.out⟩
        case measure => simp [slen]; try omega
    · subst hk
      have hxl := rx.1
      simp only [List.length_cons] at hxl hco
      obtain ⟨m, hm⟩ : ∃ m, xs.length = m := ⟨_, rfl⟩
      rw [hm] at hxl hco
      subst hxl
      clear hm
      obtain ⟨bX, oX, rfl, hbX, p0, p1, p2⟩ := sp_at rx.2 rx.1 (show 0 < m + 1 by omega)
      simp only [List.getElem_cons_zero, Nat.zero_mul, Nat.add_zero] at p0 p1 p2
      have hcX : m + 1 ≤ cx := by obtain ⟨_, _, hv, hc⟩ := rx.2.len; injection hv with _ _ e; omega
      have huo := (HROW.out.x _ (List.mem_cons_self ..)).1
      have HROW2 := Lib.hid HROW.out.putX
      have HTT2 : Hid (tok (os ++ [(3, a2, a3)]) ++ compT (tok xs) (tok ys) = TT) := Lib.hid (by rw [comp_dropX xs ys os _ huo rfl (noIns_tok ys HROW.out.y hnp)]; exact HTT.out)
      have HSID2 : Hid (tout (tok xs) = tin (tok ys)) := Lib.hid (by have h1 := HSID.out; rw [tok_cons, tout_append, (sides _ huo).2, if_pos rfl] at h1; omega)
      obtain ⟨v', w', happ, hown', hbel', hkp, hsz', hwh⟩ := app_newg (P := Tryz.prog) 23 23 60 i _ 3 32 Tryz.underlying23 hi hz0 hz1 hz2 rfl (by omega) (by omega)
        ho (by omega) 1 #[.int .i64 3, .int .i64 a2, .string a3] rfl (by omega) (by simp [Value.oneCell']) 60
      have HAP := Lib.hid happ
      have HO2 : Hid (Own w' w6.heap.size 60 3 v' (os ++ [(3, a2, a3)]).length (spCells (os ++ [(3, a2, a3)]))) := Lib.hid (by rw [spCells_append, List.length_append]; exact hown')
      have HY2 := Lib.hid (ofy.rd ry hkp hsz')
      have HX2 := Lib.hid (rdO_behind (ofx.rd rx hkp hsz'))
      have HOY := Lib.hid (ofy.next ry hwh)
      have HOX := Lib.hid ((ofx.next rx hwh).behind (c := cx) (k := 1) (by omega))
      have HB2 := Lib.hid (hbel' hxr)
      obtain ⟨AD, hAD⟩ : ∃ AD : Option Addr, (if cx = 1 then some ⟨bX, oX, none⟩ else some ⟨bX, oX + 1 * 3, none⟩) = AD := ⟨_, rfl⟩
      rw [hAD] at HX2 HOX
      simp only [Nat.one_mul] at hAD
      have hl1 : os.length + 1 ≤ 2000 := by omega
      have y0 : (1 : Int) ≤ (m : Int) + 1 := by omega
      have y1 : (m : Int) + 1 ≤ (cx : Int) := by omega
      have y2 : (0 : Int) < (m : Int) + 1 := by omega
      have hny := ry.1
      rcases ys with _ | ⟨⟨b1, b2, b3⟩, ys⟩
      · simp only [List.length_nil] at hny
        subst hny
        clear happ hown' hbel' hkp hsz' hwh ho rx ry ofx ofy hxr huo hnp
        go_wp2_with (at_builtin; refine wpList_append_run rfl rfl HAP.out rfl rfl ?_)
        go_roundw
        case rel => exact ⟨xs, [], os ++ [(3, a2, a3)], AD, ay, m, 0, cx - 1, cy, rfl, rfl, HX2.out, HY2.out, HO2.out, ⟨HOX.out, HOY.out⟩, HROW2.out, HTT2.out, HSID2.out, HB2.out⟩
        case measure => simp [slen]; try omega
      · have hb := hnp _ _ rfl
        simp only at hb
        have hbk : (b1 == 2) = false := by rw [beq_eq_false_iff_ne]; exact hb
        simp only [List.length_cons] at hny
        obtain ⟨k, hk⟩ : ∃ k, ys.length = k := ⟨_, rfl⟩
        rw [hk] at hny
        subst hny
        clear hk
        obtain ⟨bY, oY, rfl, hbY, q0, q1, q2⟩ := sp_at ry.2 ry.1 (show 0 < k + 1 by omega)
        simp only [List.getElem_cons_zero, Nat.zero_mul, Nat.add_zero] at q0 q1 q2
        have y3 : (0 : Int) < (k : Int) + 1 := by omega
        clear happ hown' hbel' hkp hsz' hwh ho rx ry ofx ofy hxr huo hnp hb
        go_wp2_with (at_builtin; refine wpList_append_run rfl rfl HAP.out rfl rfl ?_)
        go_roundw
        case rel => exact ⟨xs, (b1, b2, b3) :: ys, os ++ [(3, a2, a3)], AD, _, m, k + 1, cx - 1, cy, rfl, rfl, HX2.out, HY2.out, HO2.out, ⟨HOX.out, HOY.out⟩, HROW2.out, HTT2.out, HSID2.out, HB2.out⟩
        case measure => simp [slen]; try omega
    · have hxl := rx.1
      have hyl := ry.1
      simp only [List.length_cons] at hxl hyl hco
      obtain ⟨m, hm⟩ : ∃ m, xs.length = m := ⟨_, rfl⟩
      obtain ⟨k, hk⟩ : ∃ k, ys.length = k := ⟨_, rfl⟩
      rw [hm] at hxl hco
      rw [hk] at hyl hco
      subst hxl; subst hyl
      clear hm hk
      obtain ⟨bX, oX, rfl, hbX, p0, p1, p2⟩ := sp_at rx.2 rx.1 (show 0 < m + 1 by omega)
      obtain ⟨bY, oY, rfl, hbY, q0, q1, q2⟩ := sp_at ry.2 ry.1 (show 0 < k + 1 by omega)
      simp only [List.getElem_cons_zero, Nat.zero_mul, Nat.add_zero] at p0 p1 p2 q0 q1 q2
      have hcX : m + 1 ≤ cx := by obtain ⟨_, _, hv, hc⟩ := rx.2.len; injection hv with _ _ e; omega
      have hcY : k + 1 ≤ cy := by obtain ⟨_, _, hv, hc⟩ := ry.2.len; injection hv with _ _ e; omega
      have hso := (HROW.out.x _ (List.mem_cons_self ..)).1
      have huo := (HROW.out.y _ (List.mem_cons_self ..)).1
      obtain ⟨n1, n2, n3⟩ := HROW.out.pops
      have hbn := HROW.out.n
      have hbt := HROW.out.t
      have hx0 := hso.nonneg
      have hy0 := huo.nonneg
      have hxn0 := sumN_pos xs fun s hs => (HROW.out.x s (List.mem_cons_of_mem _ hs)).1.nonneg
      have hyn0 := sumN_pos ys fun s hs => (HROW.out.y s (List.mem_cons_of_mem _ hs)).1.nonneg
      rw [sumN_cons, sumN_cons] at hbn
      rw [sumT_cons, sumT_cons] at hbt
      simp only at hbn hbt hx0 hy0 hka hkb
      have HS1 := Lib.hid (fun w' => sizeR_c a1 a2 a3 w' hso (by omega) (by omega))
      have HS2 := Lib.hid (fun w' => sizeR_c b1 b2 b3 w' huo (by omega) (by omega))
      have hst := fun n hn => comp_step (n := n) HROW.out HTT.out HSID.out hka hkb hn
      have hF1 := fun n w' hn => firstR_c a1 a2 a3 n w' hso (by omega) (by omega) hn
      have hF2 := fun n w' hn => firstR_c b1 b2 b3 n w' huo (by omega) (by omega) hn
      have hcB1 := fun n hn => cutB_ok (a1, a2, a3) n hso hn
      have hcB2 := fun n hn => cutB_ok (b1, b2, b3) n huo hn
      have hsm1 := fun n hn => cut_sum (a1, a2, a3) n hso hn
      have hsm2 := fun n hn => cut_sum (b1, b2, b3) n huo hn
      have hA1 := fun n hn => (cutA_ok (a1, a2, a3) n hso hn).1.nonneg
      have hA2 := fun n hn => (cutA_ok (b1, b2, b3) n huo hn).1.nonneg
      obtain ⟨L1, hL1⟩ : ∃ L1, (tokS (a1, a2, a3)).length = L1 := ⟨_, rfl⟩
      obtain ⟨L2, hL2⟩ : ∃ L2, (tokS (b1, b2, b3)).length = L2 := ⟨_, rfl⟩
      rw [hL1] at HS1 hF1 hcB1 hsm1 hA1
      rw [hL2] at HS2 hF2 hcB2 hsm2 hA2
      rw [hL1, hL2] at hst
      have hl1 : os.length + 1 ≤ 2000 := by omega
      unfold spanV at HS1 HS2
      have hlt0 := fun b h => (ho.1.lt b h).2
      have HO := Lib.hid ho; have RX := Lib.hid rx; have RY := Lib.hid ry; have OFX := Lib.hid ofx; have OFY := Lib.hid ofy; have HBR := Lib.hid hxr; have HLT := Lib.hid hlt0
      clear ho rx ry ofx ofy hxr hlt0
      have hrr := Ext.refl wr
      obtain ⟨N, hN⟩ : ∃ N, N = min L1 L2 := ⟨_, rfl⟩
      have hn1 : N ≤ L1 := by omega
      have hn2 : N ≤ L2 := by omega
      have hmin : min (L1 : Int) (L2 : Int) = (N : Int) := by omega
      have hmin2 : (if (L1 : Int) ≤ (L2 : Int) then (L1 : Int) else (L2 : Int)) = (N : Int) := by split <;> omega
      obtain ⟨HROW2, HTT2, HSID2⟩ := hst N hN
      have hf1 := fun w' => hF1 N w' hn1; have hf2 := fun w' => hF2 N w' hn2; have hb1 := hcB1 N hn1; have hb2 := hcB2 N hn2; have hs1 := hsm1 N hn1; have hs2 := hsm2 N hn2; have ha1 := hA1 N hn1; have ha2 := hA2 N hn2
      obtain ⟨px2, px3, eP⟩ : ∃ x y, cutA (a1, a2, a3) N = (a1, x, y) := ⟨(cutA (a1, a2, a3) N).2.1, (cutA (a1, a2, a3) N).2.2, Prod.ext (cutA_kind (a1, a2, a3) N) rfl⟩
      obtain ⟨ax2, ax3, eA⟩ : ∃ x y, cutB (a1, a2, a3) N = (a1, x, y) := ⟨(cutB (a1, a2, a3) N).2.1, (cutB (a1, a2, a3) N).2.2, Prod.ext (cutB_kind (a1, a2, a3) N) rfl⟩
      obtain ⟨qx2, qx3, eQ⟩ : ∃ x y, cutA (b1, b2, b3) N = (b1, x, y) := ⟨(cutA (b1, b2, b3) N).2.1, (cutA (b1, b2, b3) N).2.2, Prod.ext (cutA_kind (b1, b2, b3) N) rfl⟩
      obtain ⟨bx2, bx3, eB⟩ : ∃ x y, cutB (b1, b2, b3) N = (b1, x, y) := ⟨(cutB (b1, b2, b3) N).2.1, (cutB (b1, b2, b3) N).2.2, Prod.ext (cutB_kind (b1, b2, b3) N) rfl⟩
      rw [eP] at hs1 ha1 hf1; rw [eA] at hs1 hb1 hf1; rw [eQ] at hs2 ha2 hf2; rw [eB] at hs2 hb2 hf2
      unfold spanV at hf1 hf2
      simp only at hf1 hf2 hs1 hs2 ha1 ha2
      have hb1n := hb1.1.nonneg; have hb2n := hb2.1.nonneg
      simp only at hb1n hb2n
      have HF1 := Lib.hid hf1; have HF2 := Lib.hid hf2
      have HT1 := Lib.hid (fun w' => sizeR_c a1 ax2 ax3 w' hb1.1 (by omega) (by omega)); have HT2 := Lib.hid (fun w' => sizeR_c b1 bx2 bx3 w' hb2.1 (by omega) (by omega))
      rw [hb1.2, List.length_drop, hL1] at HT1; rw [hb2.2, List.length_drop, hL2] at HT2
      unfold spanV at HT1 HT2
      obtain ⟨z1, hd1⟩ : ∃ x : Int, ((L1 - N : Nat) : Int) = x := ⟨_, rfl⟩
      obtain ⟨z2, hd2⟩ : ∃ x : Int, ((L2 - N : Nat) : Int) = x := ⟨_, rfl⟩
      rw [hd1] at HT1; rw [hd2] at HT2
      obtain ⟨X', hX'⟩ : ∃ X', left (a1, a2, a3) N xs = X' := ⟨_, rfl⟩
      obtain ⟨Y', hY'⟩ : ∃ Y', left (b1, b2, b3) N ys = Y' := ⟨_, rfl⟩
      rw [hX', hY'] at HROW2 HTT2 HSID2
      simp only at HROW2 HTT2
      unfold left at hX' hY'
      rw [hL1, eA] at hX'; rw [hL2, eB] at hY'
      rw [eP, eQ] at HROW2 HTT2
      have HDD : Hid ((z1 = 0 ∧ z2 = 0 ∧ X' = xs ∧ Y' = ys) ∨ (z1 = 0 ∧ (z2 == 0) = false ∧ X' = xs ∧ Y' = (b1, bx2, bx3) :: ys) ∨ ((z1 == 0) = false ∧ z2 = 0 ∧ X' = (a1, ax2, ax3) :: xs ∧ Y' = ys)) := Lib.hid (by
        rcases Nat.lt_trichotomy L1 L2 with hc | hc | hc
        · exact .inr (.inl ⟨by omega, by rw [beq_eq_false_iff_ne]; omega, by rw [← hX', if_pos (by omega)], by rw [← hY', if_neg (by omega)]⟩)
        · exact .inl ⟨by omega, by omega, by rw [← hX', if_pos (by omega)], by rw [← hY', if_pos (by omega)]⟩
        · exact .inr (.inr ⟨by rw [beq_eq_false_iff_ne]; omega, by omega, by rw [← hX', if_neg (by omega)], by rw [← hY', if_pos (by omega)]⟩))
      replace HROW2 := Lib.hid HROW2; replace HTT2 := Lib.hid HTT2; replace HSID2 := Lib.hid HSID2
      clear hst hF1 hF2 hcB1 hcB2 hsm1 hsm2 hA1 hA2 hf1 hf2 eP eA eQ eB hL1 hL2 hb1 hb2 HROW HTT HSID hs1 hs2 ha1 ha2 hb1n hb2n hX' hY' hd1 hd2 hN
      have ka : (a1 == 3) = false := by rw [beq_eq_false_iff_ne]; exact hka
      have kb : (b1 == 2) = false := by rw [beq_eq_false_iff_ne]; exact hkb
      have y2 : (0 : Int) < (k : Int) + 1 := by omega
      have x2 : (0 : Int) < (m : Int) + 1 := by omega
      go_wp2_with fail
      go_region_held3 (fun W => Ext wr W ∧ W.cell? ⟨bX, oX, none⟩ = some (.int .i64 a1) ∧ W.cell? ⟨bX, oX + 1, none⟩ = some (.int .i64 a2) ∧ W.cell? ⟨bX, oX + 2, none⟩ = some (.string a3) ∧ W.cell? ⟨bY, oY, none⟩ = some (.int .i64 b1) ∧ W.cell? ⟨bY, oY + 1, none⟩ = some (.int .i64 b2) ∧ W.cell? ⟨bY, oY + 2, none⟩ = some (.string b3))
        ((go_split_ands; refine ⟨?_, ?_, ?_, ?_, ?_, ?_, ?_⟩ <;> first | (exact Ext.drew ‹_›) | (exact Ext.trans ‹_› hxk) | (exact ext_cell hxk ‹_›) | go_keep))
        (first
        | (go_at_call_of 90 a3; go_split_ands; refine (HS1.out _).mono ?_; rintro e w' ⟨rfl, hxk⟩)
        | (go_at_call_of 90 b3; go_split_ands; refine (HS2.out _).mono ?_; rintro e w' ⟨rfl, hxk⟩)
        | fail)
      go_split_ands
      have e1 : Ext wr w' := by assumption
      have r0 := ext_cell e1 p0; have r1 := ext_cell e1 p1; have r2 := ext_cell e1 p2
      clear hmin hmin2
      go_wp2_with fail
      refine (HF1.out _).mono ?_; rintro e w7 ⟨rfl, hx7⟩
      have e7 := e1.trans hx7
      have t0 := ext_cell e7 q0; have t1 := ext_cell e7 q1; have t2 := ext_cell e7 q2
      have hba := BoxG.made (w7.alloc (.cells #[.int .i64 a1, .int .i64 px2, .string px3] 60)) #[.int .i64 a1, .int .i64 ax2, .string ax3] 60
      rw [size_alloc] at hba
      have HBP := Lib.hid (BoxG.made w7 #[.int .i64 a1, .int .i64 px2, .string px3] 60); have HBA := Lib.hid hba
      have E7 : Hid (Ext wr ((w7.alloc (.cells #[.int .i64 a1, .int .i64 px2, .string px3] 60)).alloc (.cells #[.int .i64 a1, .int .i64 ax2, .string ax3] 60))) := Lib.hid ((e7.alloc _).alloc _)
      have u0 := ext_cell E7.out q0; have u1 := ext_cell E7.out q1; have u2 := ext_cell E7.out q2
      clear hba r0 r1 r2
      go_wp2_with fail
      refine (HF2.out _).mono ?_; rintro e w8 ⟨rfl, hx8⟩
      have hsz8 := hx8.size
      rw [size_alloc, size_alloc] at hsz8
      obtain ⟨G, hG⟩ : ∃ x, w7.heap.size = x := ⟨_, rfl⟩
      obtain ⟨H, hH⟩ : ∃ x, w8.heap.size = x := ⟨_, rfl⟩
      have HBP8 := Lib.hid (HBP.out.ext (((Ext.refl _).alloc _).trans hx8)); have HBA8 := Lib.hid (HBA.out.ext hx8)
      rw [hG] at HBP8 HBA8 hsz8 ⊢
      rw [hH] at hsz8
      have hsz7 : wr.heap.size ≤ G := by rw [← hG]; exact e7.size
      have c0 := HBP8.out.2 0 _ rfl; have c1 := HBP8.out.2 1 _ rfl; have c2 := HBP8.out.2 2 _ rfl
      have E8 := Lib.hid (E7.out.trans hx8)
      have hbb := BoxG.made (w8.alloc (.cells #[.int .i64 b1, .int .i64 qx2, .string qx3] 60)) #[.int .i64 b1, .int .i64 bx2, .string bx3] 60
      rw [size_alloc, hH] at hbb
      have HBB := Lib.hid hbb
      have E9 : Hid (Ext wr ((w8.alloc (.cells #[.int .i64 b1, .int .i64 qx2, .string qx3] 60)).alloc (.cells #[.int .i64 b1, .int .i64 bx2, .string bx3] 60))) := Lib.hid ((E8.out.alloc _).alloc _)
      have HBA9 : Hid (BoxG ((w8.alloc (.cells #[.int .i64 b1, .int .i64 qx2, .string qx3] 60)).alloc (.cells #[.int .i64 b1, .int .i64 bx2, .string bx3] 60)) (G + 1) #[.int .i64 a1, .int .i64 ax2, .string ax3]) := Lib.hid (HBA8.out.ext (((Ext.refl _).alloc _).alloc _))
      have HBP9 : Hid (BoxG ((w8.alloc (.cells #[.int .i64 b1, .int .i64 qx2, .string qx3] 60)).alloc (.cells #[.int .i64 b1, .int .i64 bx2, .string bx3] 60)) G #[.int .i64 a1, .int .i64 px2, .string px3]) := Lib.hid (HBP8.out.ext (((Ext.refl _).alloc _).alloc _))
      have d0 := HBP9.out.2 0 _ rfl; have d1 := HBP9.out.2 1 _ rfl; have d2 := HBP9.out.2 2 _ rfl
      clear hbb t0 t1 t2 u0 u1 u2 hx7 hx8 E7 HBP HBA e7 hG
      have HH := Lib.hid hH
      go_upto_if 102 with fail
      go_cut [10] from 36 to 133 (fun vo wx => ∃ os' : List Sp, Hid (Own wx w6.heap.size 60 3 vo os'.length (spCells os')) ∧ Hid (RdO wx (some ⟨bX, oX, none⟩) (m + 1) cx ((a1, a2, a3) :: xs)) ∧ Hid (RdO wx (some ⟨bY, oY, none⟩) (k + 1) cy ((b1, b2, b3) :: ys)) ∧ Hid (Off (m + 1) (some ⟨bX, oX, none⟩) vo) ∧ Hid (Off (k + 1) (some ⟨bY, oY, none⟩) vo) ∧ Hid (BoxG wx (G + 1) #[.int .i64 a1, .int .i64 ax2, .string ax3]) ∧ Hid (BoxG wx (H + 1) #[.int .i64 b1, .int .i64 bx2, .string bx3]) ∧ Hid (Below w6.heap.size w6 wx) ∧ Hid (Row3 1000000000 900000000 2000 X' Y' os' ∧ tok os' ++ compT (tok X') (tok Y') = TT))
      case first =>
        rcases three_ways (b1 = 1) (a1 = 1) with hk1 | ⟨hk1, hk2⟩ | ⟨hk1, hk2⟩
        · have kk : (b1 == 1) = true := by rw [beq_iff_eq]; exact hk1
          have hr2 := HROW2.out; have ht2 := HTT2.out
          rw [if_pos hk1] at hr2 ht2
          have HR := Lib.hid hr2; have HT := Lib.hid ht2
          clear hr2 ht2 HROW2 HTT2
          clear hk1
          obtain ⟨vn, w10, happ, hown', hbel', hkp, hsz', hwh⟩ := app_newg (P := Tryz.prog) 23 23 60 i _ 3 32 Tryz.underlying23 hi hz0 hz1 hz2 rfl (by omega) (by omega)
            (HO.out.ext E9.out) (by omega) 1 #[.int .i64 a1, .int .i64 px2, .string px3] rfl (by omega) (by simp [Value.oneCell']) 60
          rw [size_alloc, size_alloc, HH.out] at happ
          have HAP := Lib.hid happ
          have hx9 := RX.out.ext E9.out; have hy9 := RY.out.ext E9.out
          have HRES := Lib.hid (And.intro (show Own w10 w6.heap.size 60 3 vn (os ++ [(a1, px2, px3)]).length (spCells (os ++ [(a1, px2, px3)])) by rw [spCells_append, List.length_append]; exact hown') (And.intro (OFX.out.rd hx9 hkp hsz') (And.intro (OFY.out.rd hy9 hkp hsz') (And.intro (OFX.out.next hx9 hwh) (And.intro (OFY.out.next hy9 hwh) (And.intro (HBA9.out.kept (fun h => by have := HLT.out _ h; omega) hkp hsz') (And.intro (HBB.out.kept (fun h => by have := HLT.out _ h; omega) hkp hsz') (hbel' (Below.trans HBR.out (Below.mono E9.out HBR.out.size))))))))))
          clear happ hown' hbel' hkp hsz' hwh hx9 hy9
          go_wp2_with (at_builtin; refine wpList_append_run rfl rfl HAP.out rfl rfl ?_)
          go_meet
          case rel => obtain ⟨g1, g2, g3, g4, g5, g6, g7, g8⟩ := HRES.out; exact ⟨os ++ [(a1, px2, px3)], Lib.hid g1, Lib.hid g2, Lib.hid g3, Lib.hid g4, Lib.hid g5, Lib.hid g6, Lib.hid g7, Lib.hid g8, Lib.hid ⟨HR.out, HT.out⟩⟩
        · have kk : (b1 == 1) = false := by rw [beq_eq_false_iff_ne]; exact hk1
          have kl : (a1 == 1) = true := by rw [beq_iff_eq]; exact hk2
          have hr2 := HROW2.out; have ht2 := HTT2.out
          rw [if_neg hk1, if_pos hk2] at hr2 ht2
          have HR := Lib.hid hr2; have HT := Lib.hid ht2
          clear hr2 ht2 HROW2 HTT2
          clear hk1 hk2
          obtain ⟨vn, w10, happ, hown', hbel', hkp, hsz', hwh⟩ := app_newg (P := Tryz.prog) 23 23 60 i _ 3 32 Tryz.underlying23 hi hz0 hz1 hz2 rfl (by omega) (by omega)
            (HO.out.ext E9.out) (by omega) 1 #[.int .i64 b1, .int .i64 qx2, .string qx3] rfl (by omega) (by simp [Value.oneCell']) 60
          rw [size_alloc, size_alloc, HH.out] at happ
          have HAP := Lib.hid happ
          have hx9 := RX.out.ext E9.out; have hy9 := RY.out.ext E9.out
          have HRES := Lib.hid (And.intro (show Own w10 w6.heap.size 60 3 vn (os ++ [(b1, qx2, qx3)]).length (spCells (os ++ [(b1, qx2, qx3)])) by rw [spCells_append, List.length_append]; exact hown') (And.intro (OFX.out.rd hx9 hkp hsz') (And.intro (OFY.out.rd hy9 hkp hsz') (And.intro (OFX.out.next hx9 hwh) (And.intro (OFY.out.next hy9 hwh) (And.intro (HBA9.out.kept (fun h => by have := HLT.out _ h; omega) hkp hsz') (And.intro (HBB.out.kept (fun h => by have := HLT.out _ h; omega) hkp hsz') (hbel' (Below.trans HBR.out (Below.mono E9.out HBR.out.size))))))))))
          clear happ hown' hbel' hkp hsz' hwh hx9 hy9
          go_wp2_with (at_builtin; refine wpList_append_run rfl rfl HAP.out rfl rfl ?_)
          go_meet
          case rel => obtain ⟨g1, g2, g3, g4, g5, g6, g7, g8⟩ := HRES.out; exact ⟨os ++ [(b1, qx2, qx3)], Lib.hid g1, Lib.hid g2, Lib.hid g3, Lib.hid g4, Lib.hid g5, Lib.hid g6, Lib.hid g7, Lib.hid g8, Lib.hid ⟨HR.out, HT.out⟩⟩
        · have kk : (b1 == 1) = false := by rw [beq_eq_false_iff_ne]; exact hk1
          have kl : (a1 == 1) = false := by rw [beq_eq_false_iff_ne]; exact hk2
          have hr2 := HROW2.out; have ht2 := HTT2.out
          rw [if_neg hk1, if_neg hk2, List.append_nil] at hr2 ht2
          have HR := Lib.hid hr2; have HT := Lib.hid ht2
          clear hr2 ht2 HROW2 HTT2
          clear hk1 hk2
          have hxr := Below.trans HBR.out (Below.mono E9.out HBR.out.size)
          go_wp2_with fail
          go_meet
          case rel => exact ⟨os, Lib.hid (HO.out.ext E9.out), Lib.hid (RX.out.ext E9.out), Lib.hid (RY.out.ext E9.out), OFX, OFY, HBA9, HBB, Lib.hid hxr, Lib.hid ⟨HR.out, HT.out⟩⟩
      case rest =>
        obtain ⟨os', HO10, RX10, RY10, OX10, OY10, BA10, BB10, HB10, HRT⟩ := hcut
        clear HROW2 HTT2 HO RX RY OFX OFY HBR HLT HBP8 HBA8 HBA9 HBP9 HBB E8 E9 HH
        have x3 : (1 : Int) ≤ (m : Int) + 1 := by omega
        have x4 : (m : Int) + 1 ≤ (cx : Int) := by omega
        have y3 : (1 : Int) ≤ (k : Int) + 1 := by omega
        have y4 : (k : Int) + 1 ≤ (cy : Int) := by omega
        go_wp2_with fail
        obtain ⟨AX, hAX⟩ : ∃ x : Option Addr, (if cx = 1 then some ⟨bX, oX, none⟩ else some ⟨bX, oX + 1 * 3, none⟩) = x := ⟨_, rfl⟩
        have hrbX := rdO_behind RX10.out
        rw [hAX] at hrbX
        simp only [Nat.one_mul] at hAX
        have HRBX := Lib.hid hrbX
        clear hrbX
        have HAPX : Hid (∀ W, Ext wc W → ∃ v' w', (Builtin.append_ #[23, 23] 23 #[.slice (some ⟨W.heap.size, 0, none⟩) 1 1, .slice AX m (cx - 1)]).run Tryz.prog (W.alloc (.cells #[.int .i64 a1, .int .i64 ax2, .string ax3] 60)) = .ok v' w' ∧ ((∃ aR cR, v' = .slice aR (m + 1) cR ∧ RdO w' aR (m + 1) cR ((a1, ax2, ax3) :: xs) ∧ Off (m + 1) aR u10) ∧ Ext W w')) := Lib.hid fun W hx =>
          app_rest Tryz.underlying23 hi hz0 hz1 hz2 rfl HRBX.out (by omega) HO10.out hx
        refine region_T (fun W => Ext wc W ∧ W.cell? ⟨G + 1, 0, none⟩ = some (.int .i64 a1) ∧ W.cell? ⟨G + 1, 1, none⟩ = some (.int .i64 ax2) ∧ W.cell? ⟨G + 1, 2, none⟩ = some (.string ax3)) 5 (by kernel_rfl) (⟨(Ext.refl _).drew, (BA10.out.ext (Ext.refl _).drew).2 0 _ rfl, (BA10.out.ext (Ext.refl _).drew).2 1 _ rfl, (BA10.out.ext (Ext.refl _).drew).2 2 _ rfl⟩) (fun hHeld => ?_)
        obtain ⟨Wd, hWd⟩ : ∃ x, wc.drew = x := ⟨_, rfl⟩
        rw [hWd] at hHeld ⊢
        have hdx : Ext wc Wd := by rw [← hWd]; exact (Ext.refl _).drew
        have HS0 := Lib.hid hHeld
        clear hWd
        refine wpAnyT_take (i := 0) (v := ?_) rfl (by kernel_rfl) (fun _ _ _ h => h) (Or.inl ⟨by rfl, ?_⟩) (by assumption) ?_
        rotate_left
        · (intro W hSw; (try dsimp only at hSw); go_simp; (try with_reducible rfl))
        try simp only [Act.put, List.getElem_toArray, List.getElem_cons_succ, List.getElem_cons_zero, List.setIfInBounds_toArray, List.set_cons_zero, List.set_cons_succ]
        refine wpAnyT_take (i := 2) (v := ?_) rfl (by kernel_rfl) (fun _ _ _ h => h) (Or.inl ⟨by rfl, ?_⟩) (by assumption) ?_
        rotate_left
        · (intro W hSw; (try dsimp only at hSw); go_simp; (try with_reducible rfl))
        try simp only [Act.put, List.getElem_toArray, List.getElem_cons_succ, List.getElem_cons_zero, List.setIfInBounds_toArray, List.set_cons_zero, List.set_cons_succ]
        refine wpAnyT_take (i := 3) (v := ?_) rfl (by kernel_rfl) (fun _ _ _ h => h) (Or.inl ⟨by rfl, ?_⟩) (by assumption) ?_
        rotate_left
        · (intro W hSw; (try dsimp only at hSw); go_simp; (try with_reducible rfl))
        try simp only [Act.put, List.getElem_toArray, List.getElem_cons_succ, List.getElem_cons_zero, List.setIfInBounds_toArray, List.set_cons_zero, List.set_cons_succ]
        refine wpAnyT_one (i := 1) rfl (by kernel_rfl) (fun K hK => ?_)
        go_simp
        refine hK.out _ _ (fun _ => ⟨hdx.alloc _, ext_cell ((Ext.refl _).alloc _) HS0.out.2.1, ext_cell ((Ext.refl _).alloc _) HS0.out.2.2.1, ext_cell ((Ext.refl _).alloc _) HS0.out.2.2.2⟩) (fun hH => ?_)
        replace hHeld := hH (by decide)
        clear hK K hH
        try simp only [Act.put, List.getElem_toArray, List.getElem_cons_succ, List.getElem_cons_zero, List.setIfInBounds_toArray, List.set_cons_zero, List.set_cons_succ]
        refine wpAnyT_one (i := 4) rfl (by kernel_rfl) (fun K hK => ?_)
        (refine step_append_ex (by rfl) _ _ _ (by rfl) (by rfl) (by rfl) (HAPX.out Wd hdx) ?_)
        rintro v' w11 ⟨⟨aRX, cRX, rfl, rRX, oRX⟩, hxk⟩
        refine hK.out _ _ (fun _ => ⟨hdx.trans hxk, ext_cell hxk HS0.out.2.1, ext_cell hxk HS0.out.2.2.1, ext_cell hxk HS0.out.2.2.2⟩) (fun hH => ?_)
        replace hHeld := hH (by decide)
        clear hK K hH
        try simp only [Act.put, List.getElem_toArray, List.getElem_cons_succ, List.getElem_cons_zero, List.setIfInBounds_toArray, List.set_cons_zero, List.set_cons_succ]
        refine wpAnyT_one (i := 5) rfl (by kernel_rfl) (fun K hK => ?_)
        go_simp
        refine hK.out _ _ (fun h => absurd rfl h) (fun _ => ?_)
        clear hK K hHeld
        try simp only [Act.put, List.getElem_toArray, List.getElem_cons_succ, List.getElem_cons_zero, List.setIfInBounds_toArray, List.set_cons_zero, List.set_cons_succ]
        refine wpAnyT_done (by kernel_rfl) ?_ _
        have EX := hdx.trans hxk
        clear hdx hxk HS0 HAPX HRBX
        have HO11 := Lib.hid (HO10.out.ext EX); have RY11 := Lib.hid (RY10.out.ext EX); have BA11 := Lib.hid (BA10.out.ext EX); have BB11 := Lib.hid (BB10.out.ext EX); have HB11 := Lib.hid (Below.trans HB10.out (Below.mono EX HB10.out.size)); have RX11 := Lib.hid rRX; have OX11 := Lib.hid oRX
        clear HO10 RY10 RX10 BA10 BB10 HB10 OX10 rRX oRX EX
        go_wp2_with fail
        obtain ⟨AY, hAY⟩ : ∃ x : Option Addr, (if cy = 1 then some ⟨bY, oY, none⟩ else some ⟨bY, oY + 1 * 3, none⟩) = x := ⟨_, rfl⟩
        have hrbY := rdO_behind RY11.out
        rw [hAY] at hrbY
        simp only [Nat.one_mul] at hAY
        have HRBY := Lib.hid hrbY
        clear hrbY
        have HAPY : Hid (∀ W, Ext w11 W → ∃ v' w', (Builtin.append_ #[23, 23] 23 #[.slice (some ⟨W.heap.size, 0, none⟩) 1 1, .slice AY k (cy - 1)]).run Tryz.prog (W.alloc (.cells #[.int .i64 b1, .int .i64 bx2, .string bx3] 60)) = .ok v' w' ∧ ((∃ aR cR, v' = .slice aR (k + 1) cR ∧ RdO w' aR (k + 1) cR ((b1, bx2, bx3) :: ys) ∧ Off (k + 1) aR u10) ∧ Ext W w')) := Lib.hid fun W hx =>
          app_rest Tryz.underlying23 hi hz0 hz1 hz2 rfl HRBY.out (by omega) HO11.out hx
        refine region_T (fun W => Ext w11 W ∧ W.cell? ⟨H + 1, 0, none⟩ = some (.int .i64 b1) ∧ W.cell? ⟨H + 1, 1, none⟩ = some (.int .i64 bx2) ∧ W.cell? ⟨H + 1, 2, none⟩ = some (.string bx3)) 5 (by kernel_rfl) (⟨(Ext.refl _).drew, (BB11.out.ext (Ext.refl _).drew).2 0 _ rfl, (BB11.out.ext (Ext.refl _).drew).2 1 _ rfl, (BB11.out.ext (Ext.refl _).drew).2 2 _ rfl⟩) (fun hHeld => ?_)
        obtain ⟨Wd, hWd⟩ : ∃ x, w11.drew = x := ⟨_, rfl⟩
        rw [hWd] at hHeld ⊢
        have hdx : Ext w11 Wd := by rw [← hWd]; exact (Ext.refl _).drew
        have HS0 := Lib.hid hHeld
        clear hWd
        refine wpAnyT_take (i := 0) (v := ?_) rfl (by kernel_rfl) (fun _ _ _ h => h) (Or.inl ⟨by rfl, ?_⟩) (by assumption) ?_
        rotate_left
        · (intro W hSw; (try dsimp only at hSw); go_simp; (try with_reducible rfl))
        try simp only [Act.put, List.getElem_toArray, List.getElem_cons_succ, List.getElem_cons_zero, List.setIfInBounds_toArray, List.set_cons_zero, List.set_cons_succ]
        refine wpAnyT_take (i := 2) (v := ?_) rfl (by kernel_rfl) (fun _ _ _ h => h) (Or.inl ⟨by rfl, ?_⟩) (by assumption) ?_
        rotate_left
        · (intro W hSw; (try dsimp only at hSw); go_simp; (try with_reducible rfl))
        try simp only [Act.put, List.getElem_toArray, List.getElem_cons_succ, List.getElem_cons_zero, List.setIfInBounds_toArray, List.set_cons_zero, List.set_cons_succ]
        refine wpAnyT_take (i := 3) (v := ?_) rfl (by kernel_rfl) (fun _ _ _ h => h) (Or.inl ⟨by rfl, ?_⟩) (by assumption) ?_
        rotate_left
        · (intro W hSw; (try dsimp only at hSw); go_simp; (try with_reducible rfl))
        try simp only [Act.put, List.getElem_toArray, List.getElem_cons_succ, List.getElem_cons_zero, List.setIfInBounds_toArray, List.set_cons_zero, List.set_cons_succ]
        refine wpAnyT_one (i := 1) rfl (by kernel_rfl) (fun K hK => ?_)
        go_simp
        refine hK.out _ _ (fun _ => ⟨hdx.alloc _, ext_cell ((Ext.refl _).alloc _) HS0.out.2.1, ext_cell ((Ext.refl _).alloc _) HS0.out.2.2.1, ext_cell ((Ext.refl _).alloc _) HS0.out.2.2.2⟩) (fun hH => ?_)
        replace hHeld := hH (by decide)
        clear hK K hH
        try simp only [Act.put, List.getElem_toArray, List.getElem_cons_succ, List.getElem_cons_zero, List.setIfInBounds_toArray, List.set_cons_zero, List.set_cons_succ]
        refine wpAnyT_one (i := 4) rfl (by kernel_rfl) (fun K hK => ?_)
        (refine step_append_ex (by rfl) _ _ _ (by rfl) (by rfl) (by rfl) (HAPY.out Wd hdx) ?_)
        rintro v' w12 ⟨⟨aRY, cRY, rfl, rRY, oRY⟩, hxk⟩
        refine hK.out _ _ (fun _ => ⟨hdx.trans hxk, ext_cell hxk HS0.out.2.1, ext_cell hxk HS0.out.2.2.1, ext_cell hxk HS0.out.2.2.2⟩) (fun hH => ?_)
        replace hHeld := hH (by decide)
        clear hK K hH
        try simp only [Act.put, List.getElem_toArray, List.getElem_cons_succ, List.getElem_cons_zero, List.setIfInBounds_toArray, List.set_cons_zero, List.set_cons_succ]
        refine wpAnyT_one (i := 5) rfl (by kernel_rfl) (fun K hK => ?_)
        go_simp
        refine hK.out _ _ (fun h => absurd rfl h) (fun _ => ?_)
        clear hK K hHeld
        try simp only [Act.put, List.getElem_toArray, List.getElem_cons_succ, List.getElem_cons_zero, List.setIfInBounds_toArray, List.set_cons_zero, List.set_cons_succ]
        refine wpAnyT_done (by kernel_rfl) ?_ _
        have EY := hdx.trans hxk
        clear hdx hxk HS0 HAPY HRBY
        have HO12 := Lib.hid (HO11.out.ext EY); have RX12 := Lib.hid (RX11.out.ext EY); have BA12 := Lib.hid (BA11.out.ext EY); have BB12 := Lib.hid (BB11.out.ext EY); have HB12 := Lib.hid (Below.trans HB11.out (Below.mono EY HB11.out.size)); have RY12 := Lib.hid rRY; have OY12 := Lib.hid oRY
        clear HO11 RX11 RY11 BA11 BB11 HB11 OY10 rRY oRY EY
        have k0 := BA12.out.2 0 _ rfl; have k1 := BA12.out.2 1 _ rfl; have k2 := BA12.out.2 2 _ rfl
        rcases HDD.out with ⟨e1, e2, eX, eY⟩ | ⟨e1, e2, eX, eY⟩ | ⟨e1, e2, eX, eY⟩
        · have hrt := HRT.out; have hsd := HSID2.out
          rw [eX, eY] at hrt hsd
          have HRT2 := Lib.hid hrt; have HSD2 := Lib.hid hsd
          rw [e1] at HT1
          rw [e2] at HT2
          clear hrt hsd eX eY HRT HSID2 HDD e1 e2
          obtain ⟨gX, fX, hgX, _, _, _, _⟩ := sp_at RX12.out.2 RX12.out.1 (Nat.succ_pos _)
          subst hgX
          have hcX : m + 1 ≤ cRX := by obtain ⟨_, _, hv, hc⟩ := RX12.out.2.len; injection hv with _ _ e; omega
          obtain ⟨DX, hDX⟩ : ∃ x : Option Addr, (if cRX = 1 then some ⟨gX, fX, none⟩ else some ⟨gX, fX + 1 * 3, none⟩) = x := ⟨_, rfl⟩
          have rdX := rdO_behind RX12.out; have odX := Off.behind (c := cRX) (k := 1) OX11.out (Nat.succ_pos _)
          rw [hDX] at rdX odX
          simp only [Nat.one_mul] at hDX
          have x5X : (m : Int) + 1 ≤ (cRX : Int) := by omega
          have RDX := Lib.hid rdX; have ODX := Lib.hid odX
          clear rdX odX hcX
          obtain ⟨gY, fY, hgY, _, _, _, _⟩ := sp_at RY12.out.2 RY12.out.1 (Nat.succ_pos _)
          subst hgY
          have hcY : k + 1 ≤ cRY := by obtain ⟨_, _, hv, hc⟩ := RY12.out.2.len; injection hv with _ _ e; omega
          obtain ⟨DY, hDY⟩ : ∃ x : Option Addr, (if cRY = 1 then some ⟨gY, fY, none⟩ else some ⟨gY, fY + 1 * 3, none⟩) = x := ⟨_, rfl⟩
          have rdY := rdO_behind RY12.out; have odY := Off.behind (c := cRY) (k := 1) OY12.out (Nat.succ_pos _)
          rw [hDY] at rdY odY
          simp only [Nat.one_mul] at hDY
          have x5Y : (k : Int) + 1 ≤ (cRY : Int) := by omega
          have RDY := Lib.hid rdY; have ODY := Lib.hid odY
          clear rdY odY hcY
          go_wp2_with fail
          refine (HT1.out _).mono ?_; rintro e w13 ⟨rfl, hx13⟩
          have j0 := ext_cell hx13 (BB12.out.2 0 _ rfl); have j1 := ext_cell hx13 (BB12.out.2 1 _ rfl); have j2 := ext_cell hx13 (BB12.out.2 2 _ rfl)
          go_wp2_with fail
          refine (HT2.out _).mono ?_; rintro e w14 ⟨rfl, hx14⟩
          have E14 := Lib.hid (hx13.trans hx14)
          clear hx13 hx14 k0 k1 k2 j0 j1 j2
          go_wp2_with fail
          go_roundw
          case rel => exact ⟨xs, ys, os', DX, DY, m, k, cRX - 1, cRY - 1, rfl, rfl, RDX.out.ext E14.out, RDY.out.ext E14.out, HO12.out.ext E14.out, ⟨ODX.out, ODY.out⟩, HRT2.out.1, HRT2.out.2, HSD2.out, Below.trans HB12.out (Below.mono E14.out HB12.out.size)⟩
          case measure => simp [slen]; try omega
        · have hrt := HRT.out; have hsd := HSID2.out
          rw [eX, eY] at hrt hsd
          have HRT2 := Lib.hid hrt; have HSD2 := Lib.hid hsd
          rw [e1] at HT1
          clear hrt hsd eX eY HRT HSID2 HDD e1
          obtain ⟨gX, fX, hgX, _, _, _, _⟩ := sp_at RX12.out.2 RX12.out.1 (Nat.succ_pos _)
          subst hgX
          have hcX : m + 1 ≤ cRX := by obtain ⟨_, _, hv, hc⟩ := RX12.out.2.len; injection hv with _ _ e; omega
          obtain ⟨DX, hDX⟩ : ∃ x : Option Addr, (if cRX = 1 then some ⟨gX, fX, none⟩ else some ⟨gX, fX + 1 * 3, none⟩) = x := ⟨_, rfl⟩
          have rdX := rdO_behind RX12.out; have odX := Off.behind (c := cRX) (k := 1) OX11.out (Nat.succ_pos _)
          rw [hDX] at rdX odX
          simp only [Nat.one_mul] at hDX
          have x5X : (m : Int) + 1 ≤ (cRX : Int) := by omega
          have RDX := Lib.hid rdX; have ODX := Lib.hid odX
          clear rdX odX hcX
          go_wp2_with fail
          refine (HT1.out _).mono ?_; rintro e w13 ⟨rfl, hx13⟩
          have j0 := ext_cell hx13 (BB12.out.2 0 _ rfl); have j1 := ext_cell hx13 (BB12.out.2 1 _ rfl); have j2 := ext_cell hx13 (BB12.out.2 2 _ rfl)
          go_wp2_with fail
          refine (HT2.out _).mono ?_; rintro e w14 ⟨rfl, hx14⟩
          have E14 := Lib.hid (hx13.trans hx14)
          clear hx13 hx14 k0 k1 k2 j0 j1 j2
          go_wp2_with fail
          go_roundw
          case rel => exact ⟨xs, ((b1, bx2, bx3) :: ys), os', DX, aRY, m, k + 1, cRX - 1, cRY, rfl, rfl, RDX.out.ext E14.out, RY12.out.ext E14.out, HO12.out.ext E14.out, ⟨ODX.out, OY12.out⟩, HRT2.out.1, HRT2.out.2, HSD2.out, Below.trans HB12.out (Below.mono E14.out HB12.out.size)⟩
          case measure => simp [slen]; try omega
        · have hrt := HRT.out; have hsd := HSID2.out
          rw [eX, eY] at hrt hsd
          have HRT2 := Lib.hid hrt; have HSD2 := Lib.hid hsd
          rw [e2] at HT2
          clear hrt hsd eX eY HRT HSID2 HDD e2
          obtain ⟨gY, fY, hgY, _, _, _, _⟩ := sp_at RY12.out.2 RY12.out.1 (Nat.succ_pos _)
          subst hgY
          have hcY : k + 1 ≤ cRY := by obtain ⟨_, _, hv, hc⟩ := RY12.out.2.len; injection hv with _ _ e; omega
          obtain ⟨DY, hDY⟩ : ∃ x : Option Addr, (if cRY = 1 then some ⟨gY, fY, none⟩ else some ⟨gY, fY + 1 * 3, none⟩) = x := ⟨_, rfl⟩
          have rdY := rdO_behind RY12.out; have odY := Off.behind (c := cRY) (k := 1) OY12.out (Nat.succ_pos _)
          rw [hDY] at rdY odY
          simp only [Nat.one_mul] at hDY
          have x5Y : (k : Int) + 1 ≤ (cRY : Int) := by omega
          have RDY := Lib.hid rdY; have ODY := Lib.hid odY
          clear rdY odY hcY
          go_wp2_with fail
          refine (HT1.out _).mono ?_; rintro e w13 ⟨rfl, hx13⟩
          have j0 := ext_cell hx13 (BB12.out.2 0 _ rfl); have j1 := ext_cell hx13 (BB12.out.2 1 _ rfl); have j2 := ext_cell hx13 (BB12.out.2 2 _ rfl)
          go_wp2_with fail
          refine (HT2.out _).mono ?_; rintro e w14 ⟨rfl, hx14⟩
          have E14 := Lib.hid (hx13.trans hx14)
          clear hx13 hx14 k0 k1 k2 j0 j1 j2
          go_wp2_with fail
          go_roundw
          case rel => exact ⟨((a1, ax2, ax3) :: xs), ys, os', aRX, DY, m + 1, k, cRX, cRY - 1, rfl, rfl, RX12.out.ext E14.out, RDY.out.ext E14.out, HO12.out.ext E14.out, ⟨OX11.out, ODY.out⟩, HRT2.out.1, HRT2.out.2, HSD2.out, Below.trans HB12.out (Below.mono E14.out HB12.out.size)⟩
          case measure => simp [slen]; try omega
theorem compR9_c (A : Option Addr) (q c : Nat) (a : List Sp) (B : Option Addr) (q' c' : Nat) (b : List Sp) (w : World) (h : RdO w A q c a) (h' : RdO w B q' c' b) (hq : q ≤ 1000) (hq' : q' ≤ 1000)
    (hta : ∀ s ∈ a, s.2.2.size ≤ 1000000000) (htb : ∀ s ∈ b, s.2.2.size ≤ 1000000000) (hT : sumT a + sumT b ≤ 900000000) :
    Calls Tryz.prog 74 #[.slice A q c, .slice B q' c'] w (OpR w (compE a b) (compL a b)) := by
  have hla := h.1; have hlb := h'.1
  have HMA : Hid (∀ w', Ext w w' → _) := Lib.hid fun w' hx => mayR4_c A q c a w' (h.2.ext hx) h.1 hq hta
  have HMB : Hid (∀ w', Ext w w' → _) := Lib.hid fun w' hx => mayR4_c B q' c' b w' (h'.2.ext hx) h'.1 hq' htb
  have HOA : Hid (∀ w', Ext w w' → _) := Lib.hid fun w' hx => outR4_c A q c a w' (h.2.ext hx) h.1 hq hta
  have HIB : Hid (∀ w', Ext w w' → _) := Lib.hid fun w' hx => inR4_c B q' c' b w' (h'.2.ext hx) h'.1 hq'
  by_cases hma : mayL a = 0
  · by_cases hmb : mayL b = 0
    · by_cases hf : outL a = inL b
      · refine (compW_c A q c a B q' c' b w h.2 h.1 h'.2 h'.1 hq hq' hta htb hT hma hmb hf).mono ?_
        rintro e w' ⟨hx, A', n', c'', rfl, hr⟩
        have hE : compE a b = 0 := by unfold compE; rw [if_pos hma, if_pos hmb, if_pos hf]
        refine ⟨hx, A', n', c'', by rw [hE], ?_⟩
        rw [hE, if_pos rfl]; exact hr
      · have hE : compE a b = 5 := by unfold compE; rw [if_pos hma, if_pos hmb, if_neg hf]
        obtain ⟨alla, ai0, ai1⟩ := mayL_all hma (by omega)
        obtain ⟨allb, bi0, bi1⟩ := mayL_all hmb (by omega)
        have hob := outL_le a fun s hs => okW_of_may (alla s hs)
        have hwo : wrap64 (outL a) = outL a := by unfold wrap64; omega
        have hwi : wrap64 (inL b) = inL b := by unfold wrap64; omega
        have hb : (outL a != inL b) = true := by rw [bne_iff_ne]; exact hf
        have hb2 : (outL a == inL b) = false := by rw [beq_eq_false_iff_ne]; exact hf
        rw [hma] at HMA; rw [hmb] at HMB; rw [hwo] at HOA; rw [hwi] at HIB
        have HE := Lib.hid hE
        clear h h' hta htb hT hma hmb hf alla allb hob hwo hwi hE
        generalize inL b = IB at *
        generalize outL a = OA at *
        go_enter Tryz.func74, Tryz.ntmps74
        go_wp2_with fail
        refine (HMA.out _ (Ext.refl _)).mono ?_; rintro e w1 ⟨rfl, hx1⟩
        go_wp2_with fail
        refine (HMB.out _ hx1).mono ?_; rintro e w2 ⟨rfl, hx2⟩
        go_wp2_with fail
        refine (HOA.out _ (hx1.trans hx2)).mono ?_; rintro e w3 ⟨rfl, hx3⟩
        go_wp2_with fail
        refine (HIB.out _ ((hx1.trans hx2).trans hx3)).mono ?_; rintro e w4 ⟨rfl, hx4⟩
        go_wp2_with fail
        go_ret2
        refine ⟨((hx1.trans hx2).trans hx3).trans hx4, none, 0, 0, by rw [HE.out]; rfl, ?_⟩
        rw [HE.out, if_neg (by decide)]; exact ⟨rfl, Rd.nil _ _⟩
    · have hE : compE a b = mayL b := by unfold compE; rw [if_pos hma, if_neg hmb]
      rw [hma] at HMA
      have HE := Lib.hid hE; have HN := Lib.hid hmb
      have hb : (mayL b != 0) = true := by rw [bne_iff_ne]; exact hmb
      have hb2 : (mayL b == 0) = false := by rw [beq_eq_false_iff_ne]; exact hmb
      clear h h' hta htb hT hma hmb hE
      generalize mayL b = MB at *
      go_enter Tryz.func74, Tryz.ntmps74
      go_wp2_with fail
      refine (HMA.out _ (Ext.refl _)).mono ?_; rintro e w1 ⟨rfl, hx1⟩
      go_wp2_with fail
      refine (HMB.out _ hx1).mono ?_; rintro e w2 ⟨rfl, hx2⟩
      go_wp2_with fail
      go_ret2
      refine ⟨hx1.trans hx2, none, 0, 0, by rw [HE.out]; rfl, ?_⟩
      rw [HE.out, if_neg HN.out]; exact ⟨rfl, Rd.nil _ _⟩
  · have hE : compE a b = mayL a := by unfold compE; rw [if_neg hma]
    have HE := Lib.hid hE; have HN := Lib.hid hma
    have hb : (mayL a != 0) = true := by rw [bne_iff_ne]; exact hma
    have hb2 : (mayL a == 0) = false := by rw [beq_eq_false_iff_ne]; exact hma
    clear h h' hta htb hT hma hE
    generalize mayL a = MA at *
    go_enter Tryz.func74, Tryz.ntmps74
    go_wp2_with fail
    refine (HMA.out _ (Ext.refl _)).mono ?_; rintro e w1 ⟨rfl, hx1⟩
    go_wp2_with fail
    refine (HMB.out _ hx1).mono ?_; rintro e w2 ⟨rfl, hx2⟩
    go_wp2_with fail
    go_ret2
    refine ⟨hx1.trans hx2, none, 0, 0, by rw [HE.out]; rfl, ?_⟩
    rw [HE.out, if_neg HN.out]; exact ⟨rfl, Rd.nil _ _⟩
end Go.Proofs.YtgcaphjjigpjlaaGreatDoor
