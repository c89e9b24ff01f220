/- Layer 6, the program: Spans. -/
import Derived.Test.YtmfeggeinoaheaaDoorBk
import Derived.Test.YtmfeggeinoaheaaDoorC6
import Derived.Test.YtmfeggeinoaheaaDoorBf
import Derived.Test.YtmfeggeinoaheaaDoorP4
import Derived.Test.YtmfeggeinoaheaaDoorC1f
import Derived.Test.YtmfeggeinoaheaaDoorC1g
import Derived.Test.YtmfeggeinoaheaaDoorP5
namespace Go.Proofs.YtmfeggeinoaheaaDoor
open Go.RowKit
set_option maxRecDepth 100000
set_option maxHeartbeats 4000000
attribute [local go_sem ↓] Go.wp_at_zero Go.wp_at_succ

theorem ownsRow_at {w w' : World} {B : Nat} {e : TypeId} {k : Nat} {v : Value} {n : Nat} {xs : List Value} (h : w.ownsRow B e k v n xs) (hk : ∀ g, v.ownBlock = some g → w'.heap[g]? = w.heap[g]?) : w'.ownsRow B e k v n xs := by
  refine ⟨h.1, ?_⟩
  rcases h.2 with h | ⟨g, cap, cur, hv, hg, hc, r⟩
  · exact .inl h
  · exact .inr ⟨g, cap, cur, hv, hg, by rw [hk g (by rw [hv]; rfl)]; exact hc, r⟩
theorem strCells_append (a b : ByteArray) : Lib.strCells (a ++ b) = Lib.strCells a ++ Lib.strCells b := by
  simp [Lib.strCells]

/-- The cells of the box when it is new. -/
def zGap : List Value := (List.replicate 513 [Value.pointer none, Value.slice none 0 0]).flatten ++ (List.replicate 512 (Value.bool false) ++ [Value.int .i64 0])
theorem flat2 {α : Type} (x y : α) (n i : Nat) (h : i < n) : (List.replicate n [x, y]).flatten[2 * i]? = some x ∧ (List.replicate n [x, y]).flatten[2 * i + 1]? = some y := by
  induction n generalizing i with
  | zero => omega
  | succ n ih =>
    rw [List.replicate_succ, List.flatten_cons]
    cases i with
    | zero => exact ⟨rfl, rfl⟩
    | succ i =>
      obtain ⟨h1, h2⟩ := ih i (by omega)
      have e1 : 2 * (i + 1) = 2 * i + 1 + 1 := by omega
      rw [e1]
      exact ⟨h1, h2⟩
theorem flat2_length {α : Type} (x y : α) (n : Nat) : (List.replicate n [x, y]).flatten.length = 2 * n := by
  induction n with
  | zero => rfl
  | succ n ih => rw [List.replicate_succ, List.flatten_cons, List.length_append, ih]; simp; omega
theorem zGap_length : zGap.length = 1539 := by
  unfold zGap
  rw [List.length_append, flat2_length, List.length_append, List.length_replicate]; rfl
theorem zGap_ptr (i : Nat) (h : i < 513) : zGap[2 * i]? = some (.pointer none) ∧ zGap[2 * i + 1]? = some (.slice none 0 0) := by
  unfold zGap
  obtain ⟨h1, h2⟩ := flat2 (Value.pointer none) (Value.slice none 0 0) 513 i h
  rw [List.getElem?_append_left (by rw [flat2_length]; omega), List.getElem?_append_left (by rw [flat2_length]; omega)]
  exact ⟨h1, h2⟩
theorem zGap_mark (j : Nat) (h : j < 512) : zGap[1026 + j]? = some (.bool false) := by
  unfold zGap
  rw [List.getElem?_append_right (by rw [flat2_length]; omega), flat2_length, List.getElem?_append_left (by rw [List.length_replicate]; omega)]
  rw [List.getElem?_replicate, if_pos (by omega)]
theorem zGap_last : zGap[1538]? = some (.int .i64 0) := by
  unfold zGap
  rw [List.getElem?_append_right (by rw [flat2_length]; omega), flat2_length, List.getElem?_append_right (by rw [List.length_replicate]; omega), List.length_replicate]; rfl
theorem zGap_is : (Tryd.prog.info? 64).map (fun i => i.zero.map Value.cells) = some (some zGap.toArray) := by kernel_rfl
theorem lies_all : ((List.range 513).all fun i => liesAt Tryd.prog Tryd.prog.depth 64 (1539 / Tryd.prog.cellsOf 64) (2 * i) 60 1) = true := by kernel_rfl
theorem lies_at (i : Nat) (h : i < 513) : liesAt Tryd.prog Tryd.prog.depth 64 (1539 / Tryd.prog.cellsOf 64) (2 * i) 60 1 = true :=
  List.all_eq_true.1 lies_all i (List.mem_range.2 h)

/-- The box at b, in a world: what each gap's builder holds (from the lo-th on), which code points are dropped, how many are taken. -/
structure PX (B b : Nat) (w : World) (lo : Nat) (F : Nat → ByteArray) (G : Nat → Bool) (pos : Nat) : Prop where
  hB : B ≤ b
  ex : ∃ (cs : Array Value) (V : Nat → Value), w.heap[b]? = some (.cells cs 64 (0, 0)) ∧ cs.size = 1539 ∧
    (∀ i, i < 513 → cs[2 * i]? = some (.pointer none) ∨ cs[2 * i]? = some (.pointer (some ⟨b, 2 * i, none⟩))) ∧
    (∀ i, i < 513 → cs[2 * i + 1]? = some (V i)) ∧
    (∀ i, lo ≤ i → i < 513 → w.ownsRow B 5 1 (V i) (F i).size (Lib.strCells (F i))) ∧
    (∀ i j k : Nat, i < 513 → j < 513 → (V i).ownBlock = some k → (V j).ownBlock = some k → i = j) ∧
    (∀ j, j < 512 → cs[1026 + j]? = some (.bool (G j))) ∧ cs[1538]? = some (.int .i64 pos)

theorem px_ne : 64 ≠ 5 := by decide

theorem PX.lt {B b : Nat} {w : World} {lo : Nat} {F : Nat → ByteArray} {G : Nat → Bool} {pos : Nat} (h : PX B b w lo F G pos) : b < w.heap.size := by
  obtain ⟨cs, V, hb, _⟩ := h.ex
  exact (Array.getElem?_eq_some_iff.1 hb).1
theorem PX.shape {B b : Nat} {w : World} {lo : Nat} {F : Nat → ByteArray} {G : Nat → Bool} {pos : Nat} (h : PX B b w lo F G pos) : w.shape? b = some (64, 1539) := by
  obtain ⟨cs, V, hb, hs, _⟩ := h.ex
  simp [World.shape?, hb, hs]
theorem PX.taken {B b : Nat} {w : World} {lo : Nat} {F : Nat → ByteArray} {G : Nat → Bool} {pos : Nat} (h : PX B b w lo F G pos) : w.cell? ⟨b, 1538, none⟩ = some (.int .i64 pos) := by
  obtain ⟨cs, V, hb, hs, _, _, _, _, _, h6⟩ := h.ex
  rw [Lib.cell_of_heap hb]; exact h6
theorem PX.mark {B b : Nat} {w : World} {lo : Nat} {F : Nat → ByteArray} {G : Nat → Bool} {pos : Nat} (h : PX B b w lo F G pos) {j : Nat} (hj : j < 512) : w.cell? ⟨b, 1026 + j, none⟩ = some (.bool (G j)) := by
  obtain ⟨cs, V, hb, hs, _, _, _, _, h5, _⟩ := h.ex
  rw [Lib.cell_of_heap hb]; exact h5 j hj
theorem PX.free {B b : Nat} {w : World} {lo : Nat} {F : Nat → ByteArray} {G : Nat → Bool} {pos : Nat} (h : PX B b w lo F G pos) (o : Nat) : w.frozen? ⟨b, o, none⟩ = false := by
  obtain ⟨cs, V, hb, _⟩ := h.ex
  exact Lib.frozen_of_heap hb o
theorem PX.congr {B b : Nat} {w : World} {lo : Nat} {F F' : Nat → ByteArray} {G G' : Nat → Bool} {pos pos' : Nat} (h : PX B b w lo F G pos) (hF : ∀ i, i < 513 → F' i = F i) (hG : ∀ j, j < 512 → G' j = G j) (hp : pos' = pos) : PX B b w lo F' G' pos' := by
  obtain ⟨hB, cs, V, hb, hs, h1, h2, h3, h4, h5, h6⟩ := h
  subst hp
  exact ⟨hB, cs, V, hb, hs, h1, h2, fun i hi hi2 => by rw [hF i hi2]; exact h3 i hi hi2, h4, fun j hj => by rw [hG j hj]; exact h5 j hj, h6⟩
theorem PX.keep {B b : Nat} {w w' : World} {lo : Nat} {F : Nat → ByteArray} {G : Nat → Bool} {pos : Nat} (h : PX B b w lo F G pos) (hk : ∀ k, k < w.heap.size → w'.heap[k]? = w.heap[k]?) : PX B b w' lo F G pos := by
  have hlt := h.lt
  obtain ⟨hB, cs, V, hb, hs, h1, h2, h3, h4, h5, h6⟩ := h
  exact ⟨hB, cs, V, by rw [hk b hlt]; exact hb, hs, h1, h2, fun i hi hi2 => ownsRow_at (h3 i hi hi2) (fun g hg => hk g ((h3 i hi hi2).lt g hg).2), h4, h5, h6⟩
theorem PX.ext {B b : Nat} {w w' : World} {lo : Nat} {F : Nat → ByteArray} {G : Nat → Bool} {pos : Nat} (h : PX B b w lo F G pos) (hx : Ext w w') : PX B b w' lo F G pos := h.keep hx.block
theorem PX.drew {B b : Nat} {w : World} {lo : Nat} {F : Nat → ByteArray} {G : Nat → Bool} {pos : Nat} (h : PX B b w lo F G pos) : PX B b w.drew lo F G pos := h.keep fun _ _ => rfl
theorem PX.alloc {B b : Nat} {w : World} {lo : Nat} {F : Nat → ByteArray} {G : Nat → Bool} {pos : Nat} (h : PX B b w lo F G pos) (o : Obj) : PX B b (w.alloc o) lo F G pos := h.keep fun k hk => Lib.alloc_old w o k hk
/-- A store of a cell behind the builders. -/
theorem PX.store {B b : Nat} {w : World} {lo : Nat} {F : Nat → ByteArray} {G : Nat → Bool} {pos : Nat} (h : PX B b w lo F G pos) (o : Nat) (u : Value) (ho : 1026 ≤ o) {G' : Nat → Bool} {pos' : Nat}
    (hG : ∀ j, j < 512 → (if 1026 + j = o then some u else some (.bool (G j))) = some (.bool (G' j))) (hp : (if 1538 = o then some u else some (.int .i64 pos)) = some (.int .i64 pos')) :
    PX B b (w.setCell ⟨b, o, none⟩ u) lo F G' pos' := by
  obtain ⟨hB, cs, V, hb, hs, h1, h2, h3, h4, h5, h6⟩ := h
  refine ⟨hB, cs.setIfInBounds o u, V, heap_setCell_same w b o cs _ u hb, by simpa using hs, ?_, ?_, ?_, h4, ?_, ?_⟩
  · intro i hi
    rw [Array.getElem?_setIfInBounds, if_neg (by omega)]; exact h1 i hi
  · intro i hi
    rw [Array.getElem?_setIfInBounds, if_neg (by omega)]; exact h2 i hi
  · intro i hi hi2
    have h := h3 i hi hi2
    exact ownsRow_at h (fun g hg => heap_setCell_other _ _ _ _ (fun e => by simp only at e; subst e; exact Lib.ownBlock_ne h hb px_ne hg))
  · intro j hj
    rw [← hG j hj, Array.getElem?_setIfInBounds]
    by_cases e : 1026 + j = o
    · rw [if_pos e.symm, if_pos e, if_pos (by omega)]
    · rw [if_neg (fun h => e h.symm), if_neg e]; exact h5 j hj
  · rw [← hp, Array.getElem?_setIfInBounds]
    by_cases e : 1538 = o
    · rw [if_pos e.symm, if_pos e, if_pos (by omega)]
    · rw [if_neg (fun h => e h.symm), if_neg e]; exact h6
theorem PX.new {w : World} : PX w.heap.size w.heap.size (w.alloc (.cells zGap.toArray 64)) 0 (fun _ => ⟨#[]⟩) (fun _ => false) 0 := by
  refine ⟨Nat.le_refl _, zGap.toArray, fun _ => .slice none 0 0, heap_alloc_new w _, by simp [zGap_length], ?_, ?_, ?_, ?_, ?_, ?_⟩
  · intro i hi
    left
    rw [List.getElem?_toArray]; exact (zGap_ptr i hi).1
  · intro i hi
    rw [List.getElem?_toArray]; exact (zGap_ptr i hi).2
  · intro i _ _
    exact World.ownsRow_nil _ _ _ _
  · intro i j k _ _ h
    simp [Value.ownBlock] at h
  · intro j hj
    rw [List.getElem?_toArray]; exact zGap_mark j hj
  · rw [List.getElem?_toArray]; exact zGap_last

/-- One gap's builder is written to. -/
theorem px_write (B b i : Nat) (F : Nat → ByteArray) (G : Nat → Bool) (pos : Nat) (t : ByteArray) (w : World) (h : PX B b w 0 F G pos) (hi : i < 513) (hsz : (F i).size + t.size ≤ 10000000000) :
    Calls Tryd.prog 44 #[.pointer (some ⟨b, 2 * i, none⟩), .string t] w fun e w' => (∃ x, e = .returned x) ∧ Below B w w' ∧ PX B b w' 0 (fun j => if j = i then F i ++ t else F j) G pos := by
  have hlt := h.lt
  obtain ⟨hB, cs, V, hb, hs, h1, h2, h3, h4, h5, h6⟩ := h
  have hown := h3 i (Nat.zero_le _) hi
  have hl := lies_at i hi
  rw [← Lib.strCells_length] at hown
  refine (wstrA_c 64 B b (2 * i) cs (V i) (Lib.strCells (F i)) t w hB px_ne hb (by omega) (by rw [hs]; exact hl) (h1 i hi) (h2 i hi) hown (by rw [Lib.strCells_length]; exact hsz) (by omega)).mono ?_
  rintro e w' ⟨x, v', rfl, hb', hown', hbel, hwh, hk⟩
  refine ⟨⟨x, rfl⟩, hbel, hB, _, fun j => if j = i then v' else V j, hb', by simpa using hs, ?_, ?_, ?_, ?_, ?_, ?_⟩
  · intro j hj
    rw [Array.getElem?_setIfInBounds, if_neg (by omega), Array.getElem?_setIfInBounds]
    by_cases e : j = i
    · subst e; right; rw [if_pos rfl, if_pos (by omega)]
    · rw [if_neg (by omega)]; exact h1 j hj
  · intro j hj
    rw [Array.getElem?_setIfInBounds]
    dsimp only
    by_cases e : j = i
    · subst e
      rw [if_pos rfl, if_pos (by simp; omega), if_pos rfl]
    · rw [if_neg (by omega), Array.getElem?_setIfInBounds, if_neg (by omega), if_neg e]; exact h2 j hj
  · intro j _ hj
    dsimp only
    by_cases e : j = i
    · subst e
      rw [if_pos rfl, if_pos rfl, ← Lib.strCells_length (F j ++ t), strCells_append]
      exact hown'
    · rw [if_neg e, if_neg e]
      have h := h3 j (Nat.zero_le _) hj
      refine ownsRow_at h fun g hg => hk g (h.lt g hg).2 (fun eb => by subst eb; exact Lib.ownBlock_ne h hb px_ne hg) (fun eg => e (h4 j i g hj hi hg eg.symm))
  · intro j j2 k hj hj2 hk1 hk2
    dsimp only at hk1 hk2
    have hlt2 : ∀ m, m < 513 → (V m).ownBlock = some k → k < w.heap.size := fun m hm hmk => ((h3 m (Nat.zero_le _) hm).lt k hmk).2
    by_cases e : j = i
    · by_cases e2 : j2 = i
      · omega
      · rw [if_pos e] at hk1
        rw [if_neg e2] at hk2
        rcases hwh with hw | hw
        · rw [hw] at hk1
          exact absurd (h4 i j2 k hi hj2 hk1 hk2) (fun h => e2 h.symm)
        · have := hw k hk1
          have := hlt2 j2 hj2 hk2
          omega
    · by_cases e2 : j2 = i
      · rw [if_neg e] at hk1
        rw [if_pos e2] at hk2
        rcases hwh with hw | hw
        · rw [hw] at hk2
          exact absurd (h4 i j k hi hj hk2 hk1) (fun h => e h.symm)
        · have := hw k hk2
          have := hlt2 j hj hk1
          omega
      · rw [if_neg e] at hk1
        rw [if_neg e2] at hk2
        exact h4 j j2 k hj hj2 hk1 hk2
  · intro j hj
    rw [Array.getElem?_setIfInBounds, if_neg (by omega), Array.getElem?_setIfInBounds, if_neg (by omega)]; exact h5 j hj
  · rw [Array.getElem?_setIfInBounds, if_neg (by omega), Array.getElem?_setIfInBounds, if_neg (by omega)]; exact h6

end Go.Proofs.YtmfeggeinoaheaaDoor
namespace Go.Proofs.YtmfeggeinoaheaaDoor
open Go.RowKit
set_option maxRecDepth 100000
set_option maxHeartbeats 4000000
attribute [local go_sem ↓] Go.wp_at_zero Go.wp_at_succ

theorem add_put_c (B b pos : Nat) (F : Nat → ByteArray) (G : Nat → Bool) (n : Int) (t : ByteArray) (w : World) (h : PX B b w 0 F G pos) (hp : pos < 513) (hsz : (F pos).size + t.size ≤ 10000000000) :
    Calls Tryd.prog 24 #[.pointer (some ⟨b, 0, none⟩), .agg #[.int .i64 2, .int .i64 n, .string t]] w fun e w' => e = .returned (.tuple #[]) ∧ Below B w w' ∧ PX B b w' 0 (fun j => if j = pos then F pos ++ t else F j) G pos := by
  have HW : Hid (∀ w', Ext w w' → _) := Lib.hid fun w' hx => px_write B b pos F G pos t w' (h.ext hx) hp hsz
  rw [Nat.mul_comm 2 pos] at HW
  have i0 : (0 : Int) ≤ (pos : Int) := by omega
  have i1 : (pos : Int) < 513 := by omega
  have hBw : B ≤ w.heap.size := by have := h.lt; have := h.hB; omega
  have H := Lib.hid h
  clear h
  go_enter Tryd.func24, Tryd.ntmps24
  go_wp2_with fail
  have hx0 : Ext w (w.alloc (.cells #[.int .i64 2, .int .i64 n, .string t] 45)) := (Ext.refl w).alloc _
  have q2 := box_at _ _ _ _ (Ext.refl (w.alloc (.cells #[.int .i64 2, .int .i64 n, .string t] 45))) 2 _ rfl
  generalize w.alloc (.cells #[.int .i64 2, .int .i64 n, .string t] 45) = w0 at *
  refine region_tail 10 (by kernel_rfl) (by kernel_rfl) ?_
  intro W1 hW1
  simp only [List.take_succ_cons, List.take_zero, List.drop_succ_cons, List.drop_zero]
  have hx1 : Ext w W1 := by rw [hW1]; exact hx0.drew
  have q2' : W1.cell? ⟨w.heap.size, 2, none⟩ = some (.string t) := by rw [hW1]; exact q2
  have c0 := (H.out.ext hx1).taken
  clear hW1 q2 hx0
  repeat still_step
  refine wpStill_nil ?_
  go_wp2_with fail
  refine (HW.out _ hx1).mono ?_
  rintro e w2 ⟨⟨x, rfl⟩, hb2, hp2⟩
  have hbb : Below B w w2 := (Below.mono hx1 hBw).trans hb2
  have HP := Lib.hid hp2; have HB := Lib.hid hbb
  clear hp2 hb2 hbb c0 q2'
  go_wp2_with fail
  go_end0
  exact ⟨rfl, HB.out, HP.out⟩

theorem add_keep_c (B b pos N : Nat) (F : Nat → ByteArray) (G : Nat → Bool) (t : ByteArray) (w : World) (h : PX B b w 0 F G pos) (hp : pos + N ≤ 512) :
    Calls Tryd.prog 24 #[.pointer (some ⟨b, 0, none⟩), .agg #[.int .i64 1, .int .i64 N, .string t]] w fun e w' => e = .returned (.tuple #[]) ∧ Below B w w' ∧ PX B b w' 0 F G (pos + N) := by
  have i1 : IntKind.i64.wrap ((pos : Int) + (N : Int)) = ((pos + N : Nat) : Int) := by rw [IntKind.wrap_i64]; omega
  have hBw : B ≤ w.heap.size := by have := h.lt; have := h.hB; omega
  have H := Lib.hid h
  clear h
  go_enter Tryd.func24, Tryd.ntmps24
  go_wp2_with fail
  have hx0 : Ext w (w.alloc (.cells #[.int .i64 1, .int .i64 N, .string t] 45)) := (Ext.refl w).alloc _
  have q1 := box_at _ _ _ _ (Ext.refl (w.alloc (.cells #[.int .i64 1, .int .i64 N, .string t] 45))) 1 _ rfl
  generalize w.alloc (.cells #[.int .i64 1, .int .i64 N, .string t] 45) = w0 at *
  refine region_tail 9 (by kernel_rfl) (by kernel_rfl) ?_
  intro W1 hW1
  simp only [List.take_succ_cons, List.take_zero, List.drop_succ_cons, List.drop_zero]
  have hx1 : Ext w W1 := by rw [hW1]; exact hx0.drew
  have q1' : W1.cell? ⟨w.heap.size, 1, none⟩ = some (.int .i64 N) := by rw [hW1]; exact q1
  have hp1 := H.out.ext hx1
  have c0 := hp1.taken
  have f0 := hp1.free 1538
  have hst := hp1.store 1538 (.int .i64 ((pos + N : Nat) : Int)) (by omega) (G' := G) (pos' := pos + N) (fun j hj => by rw [if_neg (by omega)]) (by rw [if_pos rfl])
  have hbb : Below B w (W1.setCell ⟨b, 1538, none⟩ (.int .i64 ((pos + N : Nat) : Int))) := (Below.mono hx1 hBw).setCell (p := ⟨b, 1538, none⟩) H.out.hB _
  have HS := Lib.hid hst; have HB := Lib.hid hbb
  clear hW1 q1 hx0 hst hp1 hbb
  repeat still_step
  refine wpStill_nil ?_
  go_wp2_with fail
  go_end0
  exact ⟨rfl, HB.out, HS.out⟩

theorem add_drop_c (B b pos N : Nat) (F : Nat → ByteArray) (G : Nat → Bool) (t : ByteArray) (w : World) (h : PX B b w 0 F G pos) (hp : pos + N ≤ 512) :
    Calls Tryd.prog 24 #[.pointer (some ⟨b, 0, none⟩), .agg #[.int .i64 3, .int .i64 N, .string t]] w fun e w' => e = .returned (.tuple #[]) ∧ Below B w w' ∧ PX B b w' 0 F (fun j => decide (pos ≤ j ∧ j < pos + N) || G j) (pos + N) := by
  have hBw : B ≤ w.heap.size := by have := h.lt; have := h.hB; omega
  have hB := h.hB
  have H : Hid (PX B b (w.alloc (.cells #[.int .i64 3, .int .i64 N, .string t] 45)) 0 F (fun j => decide (pos ≤ j ∧ j < pos + 0) || G j) (pos + 0) ∧ Below B w (w.alloc (.cells #[.int .i64 3, .int .i64 N, .string t] 45))) :=
    Lib.hid ⟨(h.alloc _).congr (fun _ _ => rfl) (fun j _ => by
      have e : decide (pos ≤ j ∧ j < pos + 0) = false := by rw [decide_eq_false_iff_not]; omega
      rw [e]; rfl) rfl, (Below.refl B w).alloc hBw _⟩
  clear h
  go_enter Tryd.func24, Tryd.ntmps24
  go_wp2_with fail
  go_loopw [34] (fun z wr => ∃ k : Nat, k ≤ N ∧ z = .int .i64 k ∧ PX B b wr 0 F (fun j => decide (pos ≤ j ∧ j < pos + k) || G j) (pos + k) ∧ Below B w wr) (fun z _ => N - (intOf z).toNat)
  case atStart => exact ⟨0, by omega, rfl, H.out.1, H.out.2⟩
  case round =>
    obtain ⟨k, hk, rfl, hpx, hbel⟩ := hrel
    by_cases hlt : k < N
    · have dn : decide (k < N) = true := by rw [decide_eq_true_eq]; exact hlt
      obtain ⟨m, hm⟩ : ∃ m, pos + k = m := ⟨_, rfl⟩
      rw [hm] at hpx
      have HM := Lib.hid hm
      have i0 : (0 : Int) ≤ (m : Int) := by omega
      have i1 : (m : Int) < 512 := by omega
      have HPX := Lib.hid hpx; have HBEL := Lib.hid hbel
      clear hm hpx hbel
      go_wp2_with fail
      refine region_tail 8 (by kernel_rfl) (by kernel_rfl) ?_
      intro W1 hW1
      simp only [List.take_succ_cons, List.take_zero, List.drop_succ_cons, List.drop_zero]
      have hp1 : PX B b W1 0 F (fun j => decide (pos ≤ j ∧ j < m) || G j) m := by rw [hW1]; exact HPX.out.drew
      have hb1 : Below B w W1 := by rw [hW1]; exact HBEL.out.drew
      have c0 := hp1.taken
      have f0 := hp1.free (1026 + m)
      have m0 := hp1.mark (j := m) (by omega)
      have hst := hp1.store (1026 + m) (.bool true) (by omega) (G' := fun j => decide (pos ≤ j ∧ j < m + 1) || G j) (pos' := m) (fun j hj => by
        have := HM.out
        by_cases e : 1026 + j = 1026 + m
        · rw [if_pos e]
          have : decide (pos ≤ j ∧ j < m + 1) = true := by rw [decide_eq_true_eq]; omega
          rw [this]; rfl
        · rw [if_neg e]
          have : decide (pos ≤ j ∧ j < m + 1) = decide (pos ≤ j ∧ j < m) := by
            rw [decide_eq_decide]; omega
          rw [this]) (by rw [if_neg (by omega)])
      have hs1 := hb1.setCell (p := ⟨b, 1026 + m, none⟩) hB (.bool true)
      have d0 := hst.taken
      have g0 := hst.free 1538
      have i2 : IntKind.i64.wrap ((m : Int) + 1) = ((m + 1 : Nat) : Int) := by rw [IntKind.wrap_i64]; omega
      have hst2 := hst.store 1538 (.int .i64 ((m + 1 : Nat) : Int)) (by omega) (G' := fun j => decide (pos ≤ j ∧ j < m + 1) || G j) (pos' := m + 1) (fun j hj => by rw [if_neg (by omega)]) (by rw [if_pos rfl])
      have hs2 := hs1.setCell (p := ⟨b, 1538, none⟩) hB (.int .i64 ((m + 1 : Nat) : Int))
      have HS := Lib.hid hst2; have HB := Lib.hid hs2
      clear hW1 hst2 hs2 hst hs1 hp1 hb1
      repeat still_step
      refine wpStill_nil ?_
      go_wp2_with fail
      go_roundw
      case rel => exact ⟨k + 1, by omega, by go_num, HM.out ▸ HS.out, HB.out⟩
      case measure => simp [intOf]; omega
    · obtain rfl : k = N := by omega
      have dn : decide (k < k) = false := by rw [decide_eq_false_iff_not]; exact hlt
      have HPX := Lib.hid hpx; have HBEL := Lib.hid hbel
      clear hpx hbel
      go_wp2_with fail
      go_end0
      exact ⟨rfl, HBEL.out, HPX.out⟩

theorem getD_rep {α : Type} (a : List α) (d x : α) (N j : Nat) : ((a ++ List.replicate N x)[j]?).getD d = if j < a.length then (a[j]?).getD d else if j < a.length + N then x else d := by
  by_cases h : j < a.length
  · rw [if_pos h, List.getElem?_append_left h]
  · rw [if_neg h, List.getElem?_append_right (by omega), List.getElem?_replicate]
    by_cases h2 : j < a.length + N
    · rw [if_pos h2, if_pos (by omega)]; rfl
    · rw [if_neg h2, if_neg (by omega)]; rfl
theorem gpP_rep (T : List Tok) (N : Nat) (t : Tok) (ht : t = .keep ∨ t = .del) : gpP (T ++ List.replicate N t) = gpP T ++ List.replicate N [] := by
  induction N with
  | zero => rw [List.replicate_zero, List.replicate_zero, List.append_nil, List.append_nil]
  | succ N ih => rw [List.replicate_succ', ← List.append_assoc, gpP_snoc _ _ ht, ih, List.append_assoc, ← List.replicate_succ']
/-- .. as the operation's tokens say it. -/
def PXT (B b : Nat) (w : World) (T : List Tok) : Prop := PX B b w 0 (fun i => ((putC (gpP T))[i]?).getD ⟨#[]⟩) (fun j => ((gpD T)[j]?).getD false) (gpD T).length
theorem putC_rep (T : List Tok) (N : Nat) (t : Tok) (ht : t = .keep ∨ t = .del) : putC (gpP (T ++ List.replicate N t)) = putC (gpP T) ++ List.replicate N ⟨#[]⟩ := by
  rw [gpP_rep T N t ht, putC_append]
  have e : putC (List.replicate N []) = List.replicate N ⟨#[]⟩ := by simp [putC]; right; rfl
  rw [e]

theorem add_c (B b : Nat) (T : List Tok) (s : Sp) (w : World) (h : PXT B b w T) (hs : OkW s) (hp : (gpD (T ++ tokS s)).length ≤ 512) (hsz : ∀ p ∈ gpP T, (encs p).length ≤ 1000000000) (ht : s.2.2.size ≤ 1000000000) :
    Calls Tryd.prog 24 #[.pointer (some ⟨b, 0, none⟩), .agg #[.int .i64 s.1, .int .i64 s.2.1, .string s.2.2]] w fun e w' => e = .returned (.tuple #[]) ∧ Below B w w' ∧ PXT B b w' (T ++ tokS s) := by
  obtain ⟨a1, a2, a3⟩ := s
  simp only at ht ⊢
  obtain ⟨D, hD⟩ : ∃ D, (gpD T).length = D := ⟨_, rfl⟩
  have hpl : (putC (gpP T)).length = D + 1 := by rw [putC_length, gpP_length, hD]
  rcases hs with ⟨k1, n1, cs, hcs⟩ | ⟨k1, n1, t1⟩
  · simp only at k1 n1 hcs
    subst k1; subst n1
    obtain ⟨i, x, hi, hil⟩ := gpP_last T
    rw [hD] at hil
    have hp1 : gpP (T ++ tokS (2, 0, a3)) = i ++ [x ++ cs] := by rw [tokS_text _ _ hcs]; exact gpP_snoc_ins T i x cs hi
    have hd1 : gpD (T ++ tokS (2, 0, a3)) = gpD T := by rw [tokS_text _ _ hcs, gpD_append, gpD_ins, List.append_nil]
    rw [hd1, hD] at hp
    have hF : ((putC (gpP T))[D]?).getD ⟨#[]⟩ = mkS (encs x) := by
      rw [hi, putC_append, List.getElem?_append_right (by rw [putC_length]; omega), putC_length, hil, Nat.sub_self]; rfl
    have hx := hsz x (by rw [hi]; simp)
    unfold PXT at h ⊢
    rw [hD] at h
    refine (add_put_c B b D _ _ 0 a3 w h (by omega) (by rw [hF, size_mkS]; omega)).mono ?_
    rintro e w' ⟨rfl, hb, hx2⟩
    refine ⟨rfl, hb, hx2.congr ?_ (fun j _ => by rw [hd1]) (by rw [hd1, hD])⟩
    intro j hj
    rw [hp1, putC_append]
    have hpc : putC [x ++ cs] = [mkS (encs (x ++ cs))] := rfl
    rw [hpc]
    by_cases e : j = D
    · subst e
      rw [if_pos rfl, hF, List.getElem?_append_right (by rw [putC_length]; omega), putC_length, hil, Nat.sub_self]
      exact mkS_enc_append x cs hcs
    · rw [if_neg e, hi, putC_append]
      by_cases e2 : j < D
      · rw [List.getElem?_append_left (by rw [putC_length]; omega), List.getElem?_append_left (by rw [putC_length]; omega)]
      · rw [List.getElem?_eq_none (by rw [List.length_append, putC_length]; simp; omega), List.getElem?_eq_none (by rw [List.length_append, putC_length, putC_length]; simp; omega)]
  · simp only at k1 n1 t1
    obtain ⟨N, hN⟩ : ∃ N : Nat, a2 = (N : Int) := ⟨a2.toNat, by omega⟩
    subst hN
    have htn : tokS (a1, (N : Int), a3) = List.replicate N (if a1 = 3 then Tok.del else Tok.keep) := by rw [tokS_num _ _ _ (by omega), Int.toNat_natCast]
    rw [htn] at hp ⊢
    unfold PXT at h ⊢
    rw [hD] at h
    by_cases h3 : a1 = 3
    · subst h3
      rw [if_pos rfl] at hp ⊢
      have hd1 : gpD (T ++ List.replicate N Tok.del) = gpD T ++ List.replicate N true := by rw [gpD_append, gpD_rep _ (.inr rfl)]; rfl
      rw [hd1, List.length_append, List.length_replicate, hD] at hp
      refine (add_drop_c B b D N _ _ a3 w h hp).mono ?_
      rintro e w' ⟨rfl, hb, hx2⟩
      refine ⟨rfl, hb, hx2.congr ?_ ?_ (by rw [hd1, List.length_append, List.length_replicate, hD])⟩
      · intro j hj
        rw [putC_rep T N _ (.inr rfl), getD_rep]
        by_cases e : j < (putC (gpP T)).length
        · rw [if_pos e]
        · rw [if_neg e, List.getElem?_eq_none (by omega)]
          split <;> rfl
      · intro j hj
        rw [hd1, getD_rep, hD]
        by_cases e : j < D
        · rw [if_pos e]
          have : decide (D ≤ j ∧ j < D + N) = false := by rw [decide_eq_false_iff_not]; omega
          rw [this]; rfl
        · rw [if_neg e, List.getElem?_eq_none (by omega)]
          by_cases e2 : j < D + N
          · rw [if_pos e2]
            have : decide (D ≤ j ∧ j < D + N) = true := by rw [decide_eq_true_eq]; omega
            rw [this]; rfl
          · rw [if_neg e2]
            have : decide (D ≤ j ∧ j < D + N) = false := by rw [decide_eq_false_iff_not]; omega
            rw [this]; rfl
    · obtain rfl : a1 = 1 := by omega
      rw [if_neg h3] at hp ⊢
      have hd1 : gpD (T ++ List.replicate N Tok.keep) = gpD T ++ List.replicate N false := by rw [gpD_append, gpD_rep _ (.inl rfl)]; rfl
      rw [hd1, List.length_append, List.length_replicate, hD] at hp
      refine (add_keep_c B b D N _ _ a3 w h hp).mono ?_
      rintro e w' ⟨rfl, hb, hx2⟩
      refine ⟨rfl, hb, hx2.congr ?_ ?_ (by rw [hd1, List.length_append, List.length_replicate, hD])⟩
      · intro j hj
        rw [putC_rep T N _ (.inl rfl), getD_rep]
        by_cases e : j < (putC (gpP T)).length
        · rw [if_pos e]
        · rw [if_neg e, List.getElem?_eq_none (by omega)]
          split <;> rfl
      · intro j hj
        rw [hd1, getD_rep, hD]
        by_cases e : j < D
        · rw [if_pos e]
        · rw [if_neg e, List.getElem?_eq_none (by omega)]
          split <;> rfl
end Go.Proofs.YtmfeggeinoaheaaDoor
namespace Go.Proofs.YtmfeggeinoaheaaDoor
open Go.RowKit
set_option maxRecDepth 100000
set_option maxHeartbeats 4000000
set_option linter.unusedSimpArgs false
attribute [local go_sem ↓] Go.wp_at_zero Go.wp_at_succ

/-- One gap's builder is read: it serves no more. -/
theorem px_read (B b i : Nat) (F : Nat → ByteArray) (G : Nat → Bool) (pos : Nat) (w : World) (h : PX B b w i F G pos) (hi : i < 513) :
    Calls Tryd.prog 45 #[.pointer (some ⟨b, 2 * i, none⟩)] w fun e w' => e = .returned (.string (F i)) ∧ Below B w w' ∧ PX B b w' (i + 1) F G pos ∧
      ∀ k t cs, k < w.heap.size → t ≠ 5 → w.heap[k]? = some (.cells cs t (0, 0)) → w'.heap[k]? = some (.cells cs t (0, 0)) := by
  have hlt := h.lt
  obtain ⟨hB, cs, V, hb, hs, h1, h2, h3, h4, h5, h6⟩ := h
  have hown := h3 i (Nat.le_refl _) hi
  have hown2 : w.ownsRow B 5 1 (V i) (F i).data.toList.length (Lib.byteCells (F i).data.toList) := by
    rw [← Lib.strCells_eq]
    have e : (F i).data.toList.length = (F i).size := by simp
    rw [e]
    exact hown
  refine (strA_c 64 B b (2 * i) cs (V i) (F i).data.toList w hb (h2 i hi) hown2 (by omega)).mono ?_
  rintro e w' ⟨rfl, hbel, hk⟩
  have hne : ∀ k t cs', t ≠ 5 → w.heap[k]? = some (.cells cs' t (0, 0)) → some k ≠ (V i).ownBlock := fun k t cs' ht hc e => Lib.ownBlock_ne hown hc ht e.symm
  refine ⟨by simp, hbel, ⟨hB, cs, V, ?_, hs, h1, h2, ?_, h4, h5, h6⟩, fun k t cs' hkl ht hc => (hk k hkl (hne k t cs' ht hc)).trans hc⟩
  · rw [hk b hlt (hne b _ _ px_ne hb)]; exact hb
  · intro j hj hj2
    have h := h3 j (by omega) hj2
    refine ownsRow_at h fun g hg => hk g (h.lt g hg).2 (fun eg => ?_)
    have := h4 j i g hj2 hi hg eg.symm
    omega

/-- A row of texts and a row of marks, and the box that holds both. -/
def GV (L : Nat) (wr : World) (bx b1 b2 n : Nat) (ps : List ByteArray) (gs : List Bool) : Prop :=
  (L ≤ bx ∧ L ≤ b1 ∧ L ≤ b2 ∧ bx ≠ b1 ∧ bx ≠ b2 ∧ b1 ≠ b2) ∧
  wr.heap[bx]? = some (.cells #[.slice (some ⟨b1, 0, none⟩) (n + 1) (n + 1), .slice (some ⟨b2, 0, none⟩) n n] 32 (0, 0)) ∧
  wr.heap[b1]? = some (.cells (ps.map Value.string).toArray 9 (0, 0)) ∧ wr.heap[b2]? = some (.cells (gs.map Value.bool).toArray 4 (0, 0)) ∧ ps.length = n + 1 ∧ gs.length = n
theorem GV.box {L : Nat} {wr : World} {bx b1 b2 n : Nat} {ps : List ByteArray} {gs : List Bool} (h : GV L wr bx b1 b2 n ps gs) :
    wr.cell? ⟨bx, 0, none⟩ = some (.slice (some ⟨b1, 0, none⟩) (n + 1) (n + 1)) ∧ wr.cell? ⟨bx, 1, none⟩ = some (.slice (some ⟨b2, 0, none⟩) n n) :=
  ⟨by rw [cell_of_row wr bx 0 _ _ (0, 0) h.2.1]; rfl, by rw [cell_of_row wr bx 1 _ _ (0, 0) h.2.1]; rfl⟩
theorem GV.put {L : Nat} {wr : World} {bx b1 b2 n : Nat} {ps : List ByteArray} {gs : List Bool} (h : GV L wr bx b1 b2 n ps gs) {j : Nat} {t : ByteArray} (hj : ps[j]? = some t) :
    wr.cell? ⟨b1, j, none⟩ = some (.string t) ∧ wr.frozen? ⟨b1, j, none⟩ = false := by
  refine ⟨by rw [cell_of_row wr b1 j _ _ (0, 0) h.2.2.1]; simp [hj], ?_⟩
  unfold World.frozen?
  simp only [h.2.2.1]; simp
theorem GV.setPut {L : Nat} {wr : World} {bx b1 b2 n : Nat} {ps : List ByteArray} {gs : List Bool} (h : GV L wr bx b1 b2 n ps gs) (j : Nat) (t : ByteArray) :
    GV L (wr.setCell ⟨b1, j, none⟩ (.string t)) bx b1 b2 n (ps.set j t) gs := by
  obtain ⟨⟨o1, o2, o3, d1, d2, d3⟩, g1, g2, g3, l1, l2⟩ := h
  refine ⟨⟨o1, o2, o3, d1, d2, d3⟩, ?_, ?_, ?_, by rw [List.length_set]; exact l1, l2⟩
  · rw [heap_setCell_other _ _ _ _ d1]; exact g1
  · have e := heap_setCell_same wr b1 j _ _ (.string t) g2
    rw [e, List.map_set]
    simp
  · rw [heap_setCell_other _ _ _ _ (Ne.symm d3)]; exact g3
/-- A store into a row that is no builder's. -/
theorem PX.other {B b : Nat} {w w' : World} {lo : Nat} {F : Nat → ByteArray} {G : Nat → Bool} {pos : Nat} (h : PX B b w lo F G pos) {g : Nat} {cs : Array Value} {t : TypeId} (hg : w.heap[g]? = some (.cells cs t (0, 0))) (ht : t ≠ 5) (ht2 : t ≠ 64)
    (hk : ∀ k, k ≠ g → w'.heap[k]? = w.heap[k]?) : PX B b w' lo F G pos := by
  obtain ⟨hB, cs', V, hb, hs, h1, h2, h3, h4, h5, h6⟩ := h
  have hbg : b ≠ g := by
    rintro rfl
    rw [hb] at hg
    injection hg with e
    injection e with _ e2 _
    exact ht2 e2.symm
  exact ⟨hB, cs', V, by rw [hk b hbg]; exact hb, hs, h1, h2, fun i hi hi2 => ownsRow_at (h3 i hi hi2) (fun k hkb => hk k (fun e => Lib.ownBlock_ne (h3 i hi hi2) hg ht (by rw [← e]; exact hkb))), h4, h5, h6⟩
theorem setCells_other (g : Nat) : ∀ (vs : List Value) (o : Nat) (w : World) (k : Nat), k ≠ g → (w.setCells g o vs).heap[k]? = w.heap[k]?
  | [], _, _, _, _ => rfl
  | v :: r, o, w, k, h => by rw [World.setCells, setCells_other g r (o + 1) _ k h, heap_setCell_other _ _ _ _ h]
/-- copy of the first elements of a longer row. -/
theorem run_copy_n {P : Program} (w : World) (dT sT ty elem : TypeId) (b dLen dCap : Nat) (A : Option Addr) (sLen sCap : Nat) (cs : List Value)
    (hu : P.underlying dT = some (.slice elem)) (hs : (P.info? elem).map (·.size) = some 1) (hd : dLen ≤ sLen) (hr : Rd w 1 (.slice A sLen sCap) sLen cs)
    (ht : w.there b 0 dLen) (h1 : ∀ v ∈ cs, v.oneCell' = true) :
    (Builtin.copy_ #[dT, sT] ty #[.slice (some ⟨b, 0, none⟩) dLen dCap, .slice A sLen sCap]).run P w = .ok (goInt (dLen : Int)) (w.setCells b 0 (cs.take dLen)) := by
  obtain ⟨hl, A', c', hv, hc, hcell⟩ := hr
  injection hv with e1 e2 e3
  subst e1; subst e3
  rw [Nat.mul_one] at hl
  have hlt : (cs.take dLen).length = dLen := by rw [List.length_take]; omega
  have hst := run_storeCells_cells (P := P) b 0 (cs.take dLen) 0 w (fun j hj => by have := (ht j (by omega)).1; simpa using this) (fun j hj => by have := (ht j (by omega)).2; simpa using this) (fun v hv => h1 v (List.mem_of_mem_take hv))
  cases hq : P.info? elem with
  | none => simp [hq] at hs
  | some i =>
    have hi : i.size = 1 := by simpa [hq] using hs
    have hm : Nat.min sLen dLen = dLen := Nat.min_eq_right hd
    by_cases h0 : 0 < sLen
    · obtain ⟨b', off, hA, hb, hx⟩ := hcell h0
      subst hA
      have hlo := run_loadCells_list (P := P) w ⟨b', off, none⟩ (cs.take dLen) (fun j v hv => by
        have : (⟨b', off, none⟩ : Addr).add j = ⟨b', off + j, none⟩ := by unfold Addr.add; split <;> simp_all
        rw [this]
        refine hx j v ?_
        rw [List.getElem?_take] at hv
        split at hv
        · exact hv
        · cases hv)
      rw [hlt] at hlo
      simp [Builtin.copy_, run_underlying hu, Builtin.lenOf, Builtin.firstCells, sizeOf, typeInfo, hq, hi, hm, hlo, hst]
    · have h0' : sLen = 0 := by omega
      obtain rfl : dLen = 0 := by omega
      subst h0'
      have hlo0 : ∀ a : Addr, (loadCells a 0).run P w = .ok #[] w := fun a => run_loadCells_list (P := P) w a [] (by simp)
      cases A <;> simp [Builtin.copy_, run_underlying hu, Builtin.lenOf, Builtin.firstCells, sizeOf, typeInfo, hq, storeCells, World.setCells, hlo0]

theorem gapsM_c (B b n : Nat) (T : List Tok) (w : World) (h : PXT B b w T) (hn : (gpD T).length = n) (hn' : n ≤ 512) :
    Calls Tryd.prog 25 #[.pointer (some ⟨b, 0, none⟩)] w fun e w' => ∃ b1 b2 : Nat, e = .returned (.agg #[.slice (some ⟨b1, 0, none⟩) (n + 1) (n + 1), .slice (some ⟨b2, 0, none⟩) n n]) ∧ w.heap.size ≤ b1 ∧ w.heap.size ≤ b2 ∧ Below B w w' ∧ Rd w' 1 (.slice (some ⟨b1, 0, none⟩) (n + 1) (n + 1)) (n + 1) ((putC (gpP T)).map Value.string) ∧ Rd w' 1 (.slice (some ⟨b2, 0, none⟩) n n) n ((gpD T).map Value.bool) := by
  obtain ⟨is, his, hs0, hs1, hs2⟩ := info_parts info_str
  obtain ⟨ib, hib, hb0, hb1, hb2⟩ := info_parts info_bool
  have hBw : B ≤ w.heap.size := by have := h.lt; have := h.hB; omega
  have hmk1 : ∀ w' : World, (Instr.makeSlice 29 (.int .i64 ((n : Int) + 1)) (.int .i64 ((n : Int) + 1))).run Tryd.prog w' = .ok (.slice (some ⟨w'.heap.size, 0, none⟩) (n + 1) (n + 1)) (w'.alloc (.cells (madeCells (Value.string ⟨#[]⟩).cells ((n + 1) * is.size)) 9)) :=
    fun w' => run_make w' 29 9 is (.string ⟨#[]⟩) Tryd.underlying29 his hs0 .i64 .i64 ((n : Int) + 1) ((n : Int) + 1) (by omega) (by omega) (by rw [hs2]; omega) (by omega)
  have hmk2 : ∀ w' : World, (Instr.makeSlice 30 (.int .i64 (n : Int)) (.int .i64 (n : Int))).run Tryd.prog w' = .ok (.slice (some ⟨w'.heap.size, 0, none⟩) n n) (w'.alloc (.cells (madeCells (Value.bool false).cells (n * ib.size)) 4)) :=
    fun w' => run_make w' 30 4 ib (.bool false) Tryd.underlying30 hib hb0 .i64 .i64 (n : Int) (n : Int) (by omega) (by omega) (by rw [hb2]; omega) (by omega)
  have hm1 : madeCells (Value.string ⟨#[]⟩).cells ((n + 1) * is.size) = ((List.replicate (n + 1) (⟨#[]⟩ : ByteArray)).map Value.string).toArray := by
    rw [hs1, Nat.mul_one, made_put]
  have hm2 : madeCells (Value.bool false).cells (n * ib.size) = ((List.replicate n false).map Value.bool).toArray := by
    rw [hb1, Nat.mul_one, made_gone]
  rw [hm1] at hmk1
  rw [hm2] at hmk2
  generalize hR1 : ((List.replicate (n + 1) (⟨#[]⟩ : ByteArray)).map Value.string).toArray = R1 at *
  generalize hR2 : ((List.replicate n false).map Value.bool).toArray = R2 at *
  have HR1 := Lib.hid hR1; have HR2 := Lib.hid hR2
  have hnw : IntKind.i64.wrap ((n : Int) + 1) = (n : Int) + 1 := by rw [IntKind.wrap_i64]; omega
  unfold PXT at h
  rw [hn] at h
  obtain ⟨F, hF⟩ : ∃ F : Nat → ByteArray, (fun i => ((putC (gpP T))[i]?).getD ⟨#[]⟩) = F := ⟨_, rfl⟩
  obtain ⟨G, hG⟩ : ∃ G : Nat → Bool, (fun j => ((gpD T)[j]?).getD false) = G := ⟨_, rfl⟩
  rw [hF, hG] at h
  have HF := Lib.hid hF; have HG := Lib.hid hG; have HN := Lib.hid hn
  clear hF hG hn hm1 hm2 hR1 hR2
  go_enter Tryd.func25, Tryd.ntmps25
  go_wp2_with fail
  have hpx0 : PX B b (w.alloc (.cells #[.slice none 0 0, .slice none 0 0] 32)) 0 F G n := h.alloc _
  have hbl0 : Below B w (w.alloc (.cells #[.slice none 0 0, .slice none 0 0] 32)) := (Below.refl B w).alloc hBw _
  have hrow0 : (w.alloc (.cells #[.slice none 0 0, .slice none 0 0] 32)).heap[w.heap.size]? = some (.cells #[.slice none 0 0, .slice none 0 0] 32 (0, 0)) := heap_alloc_new w _
  have hsz0 : (w.alloc (.cells #[.slice none 0 0, .slice none 0 0] 32)).heap.size = w.heap.size + 1 := by simp
  generalize w.alloc (.cells #[.slice none 0 0, .slice none 0 0] 32) = w0 at *
  generalize hR : w.heap.size = R at *
  have HR := Lib.hid hR
  clear hR
  have HPX0 := Lib.hid hpx0; have HBL0 := Lib.hid hbl0; have HROW0 := Lib.hid hrow0; have HSZ0 := Lib.hid hsz0
  have c0 := hpx0.taken
  clear hpx0 hbl0 hrow0 hsz0 h
  go_cut [3] from 5 (fun p wr => ∃ bx b1 b2 : Nat, p = .pointer (some ⟨bx, 0, none⟩) ∧ GW w0 wr bx b1 b2 32 9 4 n (List.replicate (n + 1) ⟨#[]⟩) (List.replicate n false))
  case first =>
    go_region_held3 (fun W => Ext w0 W ∧ W.cell? ⟨b, 1538, none⟩ = some (.int .i64 n)) (((try go_split_ands); refine ⟨?_, ?_⟩ <;> first | assumption | ((repeat (first | exact Ext.refl _ | assumption | apply Ext.drew | apply Ext.alloc)); done) | (refine ext_cell ?_ c0; (repeat (first | exact Ext.refl _ | assumption | apply Ext.drew | apply Ext.alloc)); done) | go_keep)) (fail)
    all_goals
      go_wp2_with fail
      go_meet
      case rel =>
        first
          | exact ⟨_, _, _, rfl, ⟨⟨by omega, by omega, by omega, by omega, by omega, by omega⟩, (three w0 _ _ _).2.2, (three w0 _ _ _).1.trans (by rw [← HR1.out]), (three w0 _ _ _).2.1.trans (by rw [← HR2.out]), Ext.drew ((((Ext.refl w0).alloc _).alloc _).alloc _), by simp, by simp⟩⟩
          | exact ⟨_, _, _, rfl, ⟨⟨by omega, by omega, by omega, by omega, by omega, by omega⟩, (three w0 _ _ _).2.2, (three w0 _ _ _).2.1.trans (by rw [← HR1.out]), (three w0 _ _ _).1.trans (by rw [← HR2.out]), Ext.drew ((((Ext.refl w0).alloc _).alloc _).alloc _), by simp, by simp⟩⟩
          | exact ⟨_, _, _, rfl, ⟨⟨by omega, by omega, by omega, by omega, by omega, by omega⟩, (three w0 _ _ _).2.1, (three w0 _ _ _).1.trans (by rw [← HR1.out]), (three w0 _ _ _).2.2.trans (by rw [← HR2.out]), Ext.drew ((((Ext.refl w0).alloc _).alloc _).alloc _), by simp, by simp⟩⟩
          | exact ⟨_, _, _, rfl, ⟨⟨by omega, by omega, by omega, by omega, by omega, by omega⟩, (three w0 _ _ _).2.1, (three w0 _ _ _).2.2.trans (by rw [← HR1.out]), (three w0 _ _ _).1.trans (by rw [← HR2.out]), Ext.drew ((((Ext.refl w0).alloc _).alloc _).alloc _), by simp, by simp⟩⟩
          | exact ⟨_, _, _, rfl, ⟨⟨by omega, by omega, by omega, by omega, by omega, by omega⟩, (three w0 _ _ _).1, (three w0 _ _ _).2.1.trans (by rw [← HR1.out]), (three w0 _ _ _).2.2.trans (by rw [← HR2.out]), Ext.drew ((((Ext.refl w0).alloc _).alloc _).alloc _), by simp, by simp⟩⟩
          | exact ⟨_, _, _, rfl, ⟨⟨by omega, by omega, by omega, by omega, by omega, by omega⟩, (three w0 _ _ _).1, (three w0 _ _ _).2.2.trans (by rw [← HR1.out]), (three w0 _ _ _).2.1.trans (by rw [← HR2.out]), Ext.drew ((((Ext.refl w0).alloc _).alloc _).alloc _), by simp, by simp⟩⟩
  case rest =>
    obtain ⟨bx, b1, b2, rfl, hg⟩ := hcut
    have hext : Ext w0 wc := hg.2.2.2.2.1
    have hgv : GV (R + 1) wc bx b1 b2 n (List.replicate (n + 1) ⟨#[]⟩) (List.replicate n false) := ⟨by have := hg.1; rw [HSZ0.out] at this; exact this, hg.2.1, hg.2.2.1, hg.2.2.2.1, hg.2.2.2.2.2⟩
    have hpx : PX B b wc 0 F G n := HPX0.out.ext hext
    have hbl : Below B w wc := HBL0.out.trans (Below.mono hext (by have := HSZ0.out; omega))
    have hrow : wc.heap[R]? = some (.cells #[.slice none 0 0, .slice none 0 0] 32 (0, 0)) := (hext.block R (by have := HSZ0.out; omega)).trans HROW0.out
    have q0 := hgv.box.1
    obtain ⟨ps, hps⟩ : ∃ ps, putC (gpP T) = ps := ⟨_, rfl⟩
    have hpl : ps.length = n + 1 := by rw [← hps, putC_length, gpP_length, HN.out]
    have hFk : ∀ k, F k = (ps[k]?).getD ⟨#[]⟩ := fun k => by rw [← HF.out, ← hps]
    have hfirst : GV (R + 1) wc bx b1 b2 n (ps.take 0 ++ List.replicate (n + 1 - 0) ⟨#[]⟩) (List.replicate n false) := hgv
    have HGV := Lib.hid hfirst; have HPX := Lib.hid hpx; have HBL := Lib.hid hbl; have HROW := Lib.hid hrow; have HPS := Lib.hid hps; have HPL := Lib.hid hpl; have HFK := Lib.hid hFk
    clear hmk1 hmk2 HR1 HR2 hg hext hgv hpx hbl hrow hps hpl hFk hfirst c0 HPX0 HBL0 HROW0
    go_wp2_with fail
    go_loopw [4, 20] (fun _ z wr => ∃ k : Nat, k ≤ n + 1 ∧ z = .int .i64 k ∧ GV (R + 1) wr bx b1 b2 n (ps.take k ++ List.replicate (n + 1 - k) ⟨#[]⟩) (List.replicate n false) ∧ PX B b wr k F G n ∧ Below B w wr ∧ wr.heap[R]? = some (.cells #[.slice none 0 0, .slice none 0 0] 32 (0, 0))) (fun _ z _ => n + 1 - (intOf z).toNat)
    case atStart => exact ⟨0, by omega, rfl, HGV.out, HPX.out, HBL.out, HROW.out⟩
    case round =>
      obtain ⟨k, hk, rfl, hgk, hpk, hbk, hrk⟩ := hrel
      by_cases hlt : k < n + 1
      · have d1 : (k : Int) < (n : Int) + 1 := by omega
        have d0 : (0 : Int) ≤ (k : Int) := by omega
        have d2 : (k : Int) < 513 := by omega
        have HGK := Lib.hid hgk; have HPK := Lib.hid hpk; have HBK := Lib.hid hbk; have HRK := Lib.hid hrk
        clear hgk hpk hbk hrk
        go_wp2_with fail
        have hg1 : GV (R + 1) wr.drew bx b1 b2 n (ps.take k ++ List.replicate (n + 1 - k) ⟨#[]⟩) (List.replicate n false) := HGK.out
        have hp1 : PX B b wr.drew k F G n := HPK.out.drew
        have hb1 : Below B w wr.drew := HBK.out.drew
        have hr1 : wr.drew.heap[R]? = some (.cells #[.slice none 0 0, .slice none 0 0] 32 (0, 0)) := HRK.out
        have q0 := hg1.box.1
        have hrd := px_read B b k F G n wr.drew hp1 (by omega)
        rw [Nat.mul_comm 2 k] at hrd
        have HRD := Lib.hid hrd; have HG1 := Lib.hid hg1; have HB1 := Lib.hid hb1; have HRW1 := Lib.hid hr1
        clear hrd hg1 hp1 hb1 hr1
        refine region_T (fun W => W.cell? ⟨bx, 0, none⟩ = some (.slice (some ⟨b1, 0, none⟩) (n + 1) (n + 1))) 10 (by kernel_rfl) (q0) (fun hHeld => ?_)
        refine wpAnyT_take (i := 0) (v := ?_) rfl (by kernel_rfl) (fun _ _ _ h => h) (Or.inl ⟨by rfl, ?_⟩) (by assumption) ?_
        rotate_left
        · (intro W hSw; (try dsimp only at hSw); go_simp; (try with_reducible rfl))
        try simp only [Act.put, List.setIfInBounds_toArray, List.set_cons_zero, List.set_cons_succ]
        refine wpAnyT_take (i := 1) (v := ?_) rfl (by kernel_rfl) (fun _ _ _ h => h) (Or.inl ⟨by rfl, ?_⟩) (by assumption) ?_
        rotate_left
        · (intro W hSw; (try dsimp only at hSw); go_simp; (try with_reducible rfl))
        try simp only [Act.put, List.setIfInBounds_toArray, List.set_cons_zero, List.set_cons_succ]
        refine wpAnyT_take (i := 2) (v := ?_) rfl (by kernel_rfl) (fun _ _ _ h => h) (Or.inl ⟨by rfl, ?_⟩) (by assumption) ?_
        rotate_left
        · (intro W hSw; (try dsimp only at hSw); go_simp; (try with_reducible rfl))
        try simp only [Act.put, List.setIfInBounds_toArray, List.set_cons_zero, List.set_cons_succ]
        refine wpAnyT_take (i := 3) (v := ?_) rfl (by kernel_rfl) (fun _ _ _ h => h) (Or.inl ⟨by rfl, ?_⟩) (by assumption) ?_
        rotate_left
        · (intro W hSw; (try dsimp only at hSw); go_simp; (try with_reducible rfl))
        try simp only [Act.put, List.setIfInBounds_toArray, List.set_cons_zero, List.set_cons_succ]
        refine wpAnyT_take (i := 4) (v := ?_) rfl (by kernel_rfl) (fun _ _ _ h => h) (Or.inl ⟨by rfl, ?_⟩) (by assumption) ?_
        rotate_left
        · (intro W hSw; (try dsimp only at hSw); go_simp; (try with_reducible rfl))
        try simp only [Act.put, List.setIfInBounds_toArray, List.set_cons_zero, List.set_cons_succ]
        refine wpAnyT_take (i := 5) (v := ?_) rfl (by kernel_rfl) (fun _ _ _ h => h) (Or.inl ⟨by rfl, ?_⟩) (by assumption) ?_
        rotate_left
        · (intro W hSw; (try dsimp only at hSw); go_simp; (try with_reducible rfl))
        try simp only [Act.put, List.setIfInBounds_toArray, List.set_cons_zero, List.set_cons_succ]
        refine wpAnyT_take (i := 6) (v := ?_) rfl (by kernel_rfl) (fun _ _ _ h => h) (Or.inl ⟨by rfl, ?_⟩) (by assumption) ?_
        rotate_left
        · (intro W hSw; (try dsimp only at hSw); go_simp; (try with_reducible rfl))
        try simp only [Act.put, List.setIfInBounds_toArray, List.set_cons_zero, List.set_cons_succ]
        refine wpAnyT_take (i := 7) (v := ?_) rfl (by kernel_rfl) (fun _ _ _ h => h) (Or.inl ⟨by rfl, ?_⟩) (by assumption) ?_
        rotate_left
        · (intro W hSw; (try dsimp only at hSw); go_simp; (try with_reducible rfl))
        try simp only [Act.put, List.setIfInBounds_toArray, List.set_cons_zero, List.set_cons_succ]
        refine wpAnyT_one (i := 8) rfl (by kernel_rfl) (fun K hK => ?_)
        go_simp
        refine HRD.out.mono ?_
        rintro e w2 ⟨rfl, hb2, hp2, hk2⟩
        obtain ⟨⟨o1, o2, o3, e1, e2, e3⟩, g1, g2, g3, l1, l2⟩ := HG1.out
        have hg2 : GV (R + 1) w2 bx b1 b2 n (ps.take k ++ List.replicate (n + 1 - k) ⟨#[]⟩) (List.replicate n false) :=
          ⟨⟨o1, o2, o3, e1, e2, e3⟩, hk2 _ _ _ (Array.getElem?_eq_some_iff.1 g1).1 (by decide) g1, hk2 _ _ _ (Array.getElem?_eq_some_iff.1 g2).1 (by decide) g2, hk2 _ _ _ (Array.getElem?_eq_some_iff.1 g3).1 (by decide) g3, l1, l2⟩
        have hr2 : w2.heap[R]? = some (.cells #[.slice none 0 0, .slice none 0 0] 32 (0, 0)) := hk2 _ _ _ (Array.getElem?_eq_some_iff.1 HRW1.out).1 (by decide) HRW1.out
        have hbb2 := HB1.out.trans hb2
        obtain ⟨m, hm⟩ : ∃ m, n + 1 - k = m + 1 := ⟨n - k, by omega⟩
        have hm' : n + 1 - (k + 1) = m := by omega
        have htl : (ps.take k).length = k := by have := HPL.out; rw [List.length_take]; omega
        have hat : (ps.take k ++ List.replicate (n + 1 - k) (⟨#[]⟩ : ByteArray))[k]? = some ⟨#[]⟩ := by rw [hm, List.replicate_succ]; exact get_mid _ _ _ _ htl
        have z1 := (hg2.put hat).1
        have z2 := (hg2.put hat).2
        have hset : (ps.take k ++ List.replicate (n + 1 - k) (⟨#[]⟩ : ByteArray)).set k (F k) = ps.take (k + 1) ++ List.replicate (n + 1 - (k + 1)) ⟨#[]⟩ := by
          have hkl : k < ps.length := by have := HPL.out; omega
          rw [hm, List.replicate_succ, set_mid _ _ _ _ _ htl, hm', List.take_add_one, HFK.out k, List.getElem?_eq_getElem hkl, List.append_assoc]; rfl
        have hg3 := hg2.setPut k (F k)
        rw [hset] at hg3
        have hp3 : PX B b (w2.setCell ⟨b1, k, none⟩ (.string (F k))) (k + 1) F G n := hp2.other hg2.2.2.1 (by decide) (by decide) (fun j hj => heap_setCell_other _ _ _ _ hj)
        have hb3 : Below B w (w2.setCell ⟨b1, k, none⟩ (.string (F k))) := hbb2.setCell (p := ⟨b1, k, none⟩) (by simp only; omega) _
        have hr3 : (w2.setCell ⟨b1, k, none⟩ (.string (F k))).heap[R]? = some (.cells #[.slice none 0 0, .slice none 0 0] 32 (0, 0)) := by
          rw [heap_setCell_other _ _ _ _ (by simp only; omega)]; exact hr2
        have HG3 := Lib.hid hg3; have HP3 := Lib.hid hp3; have HB3 := Lib.hid hb3; have HR3 := Lib.hid hr3
        have q2 := hg2.box.1
        clear hg2 hr2 hbb2 hm hm' htl hat hset hg3 hp3 hb3 hr3 hb2 hp2 hk2 g1 g2 g3 l1 l2 q0
        generalize F k = fk at *
        refine hK.out _ _ (fun _ => q2) (fun hH => ?_)
        replace hHeld := hH (by decide)
        clear hK K hH
        try simp only [Act.put, List.setIfInBounds_toArray, List.set_cons_zero, List.set_cons_succ]
        refine wpAnyT_take (i := 9) (v := ?_) rfl (by kernel_rfl) (fun _ _ _ h => h) (Or.inl ⟨by rfl, ?_⟩) (by assumption) ?_
        rotate_left
        · (intro W hSw; (try dsimp only at hSw); go_simp; (try with_reducible rfl))
        try simp only [Act.put, List.setIfInBounds_toArray, List.set_cons_zero, List.set_cons_succ]
        refine wpAnyT_one (i := 10) rfl (by kernel_rfl) (fun K hK => ?_)
        go_simp
        refine hK.out _ _ (fun h => absurd rfl h) (fun _ => ?_)
        clear hK K hHeld
        try simp only [Act.put, List.setIfInBounds_toArray, List.set_cons_zero, List.set_cons_succ]
        refine wpAnyT_done (by kernel_rfl) ?_ _
        go_wp2_with fail
        go_roundw
        case rel => exact ⟨k + 1, by omega, by go_num, HG3.out, HP3.out, HB3.out, HR3.out⟩
        case measure => simp [intOf]; omega
      · obtain rfl : k = n + 1 := by omega
        have d1 : ¬ ((n + 1 : Nat) : Int) < (n : Int) + 1 := by omega
        rw [show n + 1 - (n + 1) = 0 by omega, List.replicate_zero, List.append_nil, List.take_of_length_le (by have := HPL.out; omega)] at hgk
        have HGK := Lib.hid hgk; have HPK := Lib.hid hpk; have HBK := Lib.hid hbk; have HRK := Lib.hid hrk
        clear hgk hpk hbk hrk
        go_wp2_with fail
        refine region_tail 6 (by kernel_rfl) (by kernel_rfl) ?_
        intro W1 hW1
        simp only [List.take_succ_cons, List.take_zero, List.drop_succ_cons, List.drop_zero]
        have hg1 : GV (R + 1) W1 bx b1 b2 n ps (List.replicate n false) := by rw [hW1]; exact HGK.out
        have hp1 : PX B b W1 (n + 1) F G n := by rw [hW1]; exact HPK.out.drew
        have hb1 : Below B w W1 := by rw [hW1]; exact HBK.out.drew
        have hr1 : W1.heap[R]? = some (.cells #[.slice none 0 0, .slice none 0 0] 32 (0, 0)) := by rw [hW1]; exact HRK.out
        have q0 := hg1.box.1
        have q1 := hg1.box.2
        have hrd : Rd W1 1 (.slice (some ⟨b, 1026, none⟩) 512 512) 512 ((List.range 512).map fun j => Value.bool (G j)) := by
          refine ⟨by rw [List.length_map, List.length_range], _, _, rfl, Nat.le_refl _, fun _ => ⟨b, 1026, rfl, hp1.lt, fun j u hu => ?_⟩⟩
          by_cases hj : j < 512
          · rw [List.getElem?_map, List.getElem?_range hj] at hu
            injection hu with hu
            rw [← hu]; exact hp1.mark hj
          · rw [List.getElem?_eq_none (by rw [List.length_map, List.length_range]; omega)] at hu; cases hu
        have hth : W1.there b2 0 n := fun j hj => by
          refine ⟨?_, Lib.frozen_of_heap hg1.2.2.2.1 _⟩
          rw [Lib.cell_of_heap hg1.2.2.2.1, Nat.zero_add]
          simp [hj]
        have hcp := run_copy_n (P := Tryd.prog) W1 30 30 3 4 b2 n n (some ⟨b, 1026, none⟩) 512 512 _ Tryd.underlying30 (by kernel_rfl) hn' hrd hth (fun v hv => by
          obtain ⟨j, _, rfl⟩ := List.mem_map.1 hv
          rfl)
        obtain ⟨cs, hcs⟩ : ∃ cs, ((List.range 512).map fun j => Value.bool (G j)).take n = cs := ⟨_, rfl⟩
        have hcl : cs.length = n := by rw [← hcs, List.length_take, List.length_map, List.length_range]; omega
        have hcj : ∀ j (hj : j < n), cs[j]? = some (.bool (G j)) := fun j hj => by
          rw [← hcs, List.getElem?_take, if_pos hj, List.getElem?_map, List.getElem?_range (by omega)]; rfl
        rw [hcs] at hcp
        have hin : ∀ j (hj : j < n), (W1.setCells b2 0 cs).cell? ⟨b2, j, none⟩ = some (.bool (G j)) := fun j hj => by
          have h := World.cell?_setCells_in b2 cs 0 W1 (fun j hj => (hth j (by omega)).1) j (by omega)
          rw [Nat.zero_add] at h
          have h2 := hcj j hj
          rw [List.getElem?_eq_getElem (by omega)] at h2
          injection h2 with h2
          rw [h, h2]
        have hout := fun k (hk : k ≠ b2) => setCells_other b2 cs 0 W1 k hk
        have hbel : Below B w (W1.setCells b2 0 cs) := below_setCells5 b2 (by have := hg1.1.2.2.1; omega) cs 0 W1 hb1
        have hb2s : b2 < (W1.setCells b2 0 cs).heap.size := Nat.lt_of_lt_of_le (Array.getElem?_eq_some_iff.1 hg1.2.2.2.1).1 (below_setCells5 (B := 0) (a := W1) b2 (Nat.zero_le _) cs 0 W1 (Below.refl _ _)).size
        generalize W1.setCells b2 0 cs = W2 at *
        obtain ⟨⟨o1, o2, o3, e1, e2, e3⟩, g1, g2, g3, l1, l2⟩ := hg1
        have n1 : W2.heap[bx]? = _ := (hout bx e2).trans g1
        have n2 : W2.heap[b1]? = _ := (hout b1 e3).trans g2
        have n3 : W2.heap[R]? = _ := (hout R (by omega)).trans hr1
        have p0 : W2.cell? ⟨bx, 0, none⟩ = some (.slice (some ⟨b1, 0, none⟩) (n + 1) (n + 1)) := by rw [Lib.cell_of_heap n1]; rfl
        have p1 : W2.cell? ⟨bx, 1, none⟩ = some (.slice (some ⟨b2, 0, none⟩) n n) := by rw [Lib.cell_of_heap n1]; rfl
        have r0 : W2.cell? ⟨R, 0, none⟩ = some (.slice none 0 0) := by rw [Lib.cell_of_heap n3]; rfl
        have r1 : W2.cell? ⟨R, 1, none⟩ = some (.slice none 0 0) := by rw [Lib.cell_of_heap n3]; rfl
        have f0 := Lib.frozen_of_heap n3 0
        have f1 := Lib.frozen_of_heap n3 1
        have HIN := Lib.hid hin; have HBEL := Lib.hid hbel; have N2 := Lib.hid n2; have N3 := Lib.hid n3; have HB2S := Lib.hid hb2s
        clear hin hout hbel n1 n2 n3 g1 g2 g3 l1 l2 hcj hcl hcs hth hrd hW1 hp1 hb1 hr1 hb2s
        repeat still_step
        refine wpStill_nil ?_
        go_wp2_with fail
        have e1 := heap_setCell_same W2 R 0 _ 32 (.slice (some ⟨b1, 0, none⟩) (n + 1) (n + 1)) N3.out
        have e2 := heap_setCell_same _ R 1 _ 32 (.slice (some ⟨b2, 0, none⟩) n n) e1
        refine bodyPost_ret (results_cell_row rfl _ _ R _ _ (0, 0) _ rfl e2 Tryd.underlying32 rfl (by kernel_rfl)) rfl ?_
        refine ⟨_, _, rfl, by rw [HR.out]; omega, by rw [HR.out]; omega, Below.setCell (Below.setCell HBEL.out (p := ⟨R, 0, none⟩) (by simp only; omega) _) (p := ⟨R, 1, none⟩) (by simp only; omega) _, ?_, ?_⟩
        · rw [HPS.out]
          refine rd_row (t := 9) ?_ (by rw [List.length_map]; exact HPL.out)
          rw [heap_setCell_other _ _ _ _ (by simp only; omega), heap_setCell_other _ _ _ _ (by simp only; omega)]; exact N2.out
        · refine ⟨by rw [List.length_map, HN.out, Nat.mul_one], _, _, rfl, Nat.le_refl _, fun _ => ⟨b2, 0, rfl, by simp; exact HB2S.out, fun j u hu => ?_⟩⟩
          have hj : j < n := by
            have := (List.getElem?_eq_some_iff.1 hu).1
            rw [List.length_map, HN.out] at this; exact this
          have hgj : u = .bool (G j) := by
            rw [List.getElem?_map, List.getElem?_eq_getElem (by rw [HN.out]; exact hj)] at hu
            rw [← HG.out]
            simp only [List.getElem?_eq_getElem (show j < (gpD T).length by rw [HN.out]; exact hj), Option.getD_some]
            simpa using hu.symm
          rw [hgj, Nat.zero_add, World.cell?_setCell_other _ _ _ _ (by intro e; injection e with e _; omega), World.cell?_setCell_other _ _ _ _ (by intro e; injection e with e _; omega)]
          exact HIN.out j hj
end Go.Proofs.YtmfeggeinoaheaaDoor
namespace Go.Proofs.YtmfeggeinoaheaaDoor
open Go.RowKit
set_option maxRecDepth 100000
set_option maxHeartbeats 4000000
attribute [local go_sem ↓] Go.wp_at_zero Go.wp_at_succ

theorem wpList_alloc_at {P : Program} {ops : Array Oper} {rest : List Oper} {o : Oper} {a : Act} {w : World} {Q : Exit → Act → World → Prop} (hgd : o.guard = none) {T : TypeId} (ho : o.op = .alloc T)
    {Z : Array Value} (hz : (P.info? T).map (fun i => i.zero.map Value.cells) = some (some Z))
    (h : wpList P ops Q rest (a.put o.dst (.pointer (some ⟨w.heap.size, 0, none⟩))) (w.alloc (.cells Z T))) : wpList P ops Q (o :: rest) a w := by
  cases hi : P.info? T with
  | none => simp [hi] at hz
  | some i =>
    cases hzz : i.zero with
    | none => simp [hi, hzz] at hz
    | some z =>
      have hZ : z.cells = Z := by simpa [hi, hzz] using hz
      refine wpList_plain hgd fun K hK => ?_
      unfold Oper.wp execOp
      simp [ho, Instr.alloc, zeroValue, typeInfo, hi, hzz, newVar, newRow, hZ]
      exact hK _ _ h

theorem rd_keep {w w' : World} {b o n m c k : Nat} {xs : List Value} (h : Rd w k (.slice (some ⟨b, o, none⟩) n c) m xs) (hs : w.heap.size ≤ w'.heap.size) (hb : ∀ j, w'.cell? ⟨b, j, none⟩ = w.cell? ⟨b, j, none⟩) : Rd w' k (.slice (some ⟨b, o, none⟩) n c) m xs := by
  obtain ⟨hl, A, c', hv, hc, hcell⟩ := h
  refine ⟨hl, A, c', hv, hc, fun hm => ?_⟩
  obtain ⟨b', off, hA, hbs, hx⟩ := hcell hm
  injection hv with e1 e2 e3
  rw [hA] at e1
  injection e1 with e1
  injection e1 with e1 e4
  subst e1
  exact ⟨b, off, hA, by omega, fun j u hu => by rw [hb]; exact hx j u hu⟩
theorem Ext.trans' {a b c : World} {o : Obj} (h : Ext a b) (k : Below a.heap.size (b.alloc o) c) : Ext a c := Below.trans (Below.alloc h h.size o) k

theorem gaps_walk (A : Option Addr) (q c : Nat) (l : List Sp) (n : Nat) (w : World) [Tab w] (h : Rd w 3 (.slice A q c) q (spCells l)) (hl : l.length = q) (hq : q ≤ 1000) (hw : ∀ s ∈ l, OkW s) (hn : inL l = n) (hn' : n ≤ 512) (hmay : mayL l = 0)
    (hts : ∀ s ∈ l, s.2.2.size ≤ 1000000000) (hT : sumT l ≤ 1000000000) :
    Calls Tryd.prog 8 #[.slice A q c] w fun e w' => ∃ va vb, e = .returned (.tuple #[.agg #[va, vb], .int .i64 0]) ∧ Ext w w' ∧ Rd w' 1 va (n + 1) ((putC (gpP (tok l))).map Value.string) ∧ Rd w' 1 vb n ((gpD (tok l)).map Value.bool) := by
  have HM : Hid (∀ w', Ext w w' → _) := Lib.hid fun w' hx => have hTb := tab_ext hx; may4_c A q c l w' (h.ext hx) hl hq hts
  have HI : Hid (∀ w', Ext w w' → _) := Lib.hid fun w' hx => have hTb := tab_ext hx; in4_c A q c l w' (h.ext hx) hl hq
  have hwn : wrap64 (inL l) = (n : Int) := by rw [hn]; unfold wrap64; omega
  rw [hmay] at HM
  rw [hwn] at HI
  have hn0 : ¬ 512 < (n : Int) := by omega
  have H := Lib.hid h; have HL := Lib.hid hl; have HW := Lib.hid hw; have HT := Lib.hid hT; have HN := Lib.hid hn; have HTS := Lib.hid hts
  clear h hl hw hT hn hwn hmay hts
  go_enter Tryd.func8, Tryd.ntmps8
  go_wp2_with fail
  refine (HM.out _ ((Ext.refl w).alloc _)).mono ?_; rintro e w1 ⟨rfl, hx1⟩
  go_wp2_with fail
  refine (HI.out _ (((Ext.refl w).alloc _).trans hx1)).mono ?_; rintro e w2 ⟨rfl, hx2⟩
  go_wp2_with ((with_reducible refine wpList_alloc_at rfl rfl zGap_is ?_))
  have hx2w := (((Ext.refl (w.alloc (.cells #[.slice none 0 0, .slice none 0 0] 32)))).trans hx1).trans hx2
  have hfirst : Ext w2 (w2.alloc (.cells zGap.toArray 64)) ∧ PXT w2.heap.size w2.heap.size (w2.alloc (.cells zGap.toArray 64)) (tok (l.take 0)) := by
    refine ⟨(Ext.refl w2).alloc _, PX.new.congr (fun i _ => ?_) (fun j _ => ?_) rfl⟩
    · show ((putC [[]])[i]?).getD ⟨#[]⟩ = ⟨#[]⟩
      cases i <;> rfl
    · rfl
  have HX2W := Lib.hid hx2w
  have HFIRST := Lib.hid hfirst
  clear HM HI hx1 hx2 hx2w hfirst
  go_loopw [7, 20] (fun _ z wr => ∃ j : Nat, j ≤ q ∧ z = .int .i64 j ∧ Ext w2 wr ∧ PXT w2.heap.size w2.heap.size wr (tok (l.take j))) (fun _ z _ => q - (intOf z).toNat)
  case atStart => exact ⟨0, by omega, rfl, HFIRST.out.1, HFIRST.out.2⟩
  case round =>
    obtain ⟨j, hj, rfl, hxr, hpr⟩ := hrel
    by_cases hlt : j < q
    · have hjl : j < l.length := by have := HL.out; omega
      obtain ⟨b, off, rfl, hb, q0, q1, q2⟩ := sp_at (H.out.ext ((((Ext.refl w).alloc _).trans HX2W.out).trans hxr)) HL.out hlt
      have dn : decide (j < q) = true := by rw [decide_eq_true_eq]; exact hlt
      have i0 : (0 : Int) ≤ (j : Int) := by omega
      have i1 : (j : Int) < (q : Int) := by omega
      have hsp := HW.out l[j] (List.getElem_mem hjl)
      have htk := tok_take l j hjl
      have htot : (gpD (tok (l.take (j + 1)))).length ≤ n := by
        have h1 := (tin_ok l HW.out).1
        rw [HN.out] at h1
        have e : tok l = tok (l.take (j + 1)) ++ tok (l.drop (j + 1)) := by rw [← tok_append, List.take_append_drop]
        rw [e, tin_append] at h1
        rw [gpD_length]; omega
      have hsz : ∀ p ∈ gpP (tok (l.take j)), (encs p).length ≤ 1000000000 := fun p hp => by
        have h1 := gpP_le _ p hp
        have h2 := insT_sum (l.take j) (fun x hx => HW.out x (List.mem_of_mem_take hx))
        have e : sumT l = sumT (l.take j) + sumT (l.drop j) := by rw [← sumT_append, List.take_append_drop]
        have := HT.out
        omega
      have htx : l[j].2.2.size ≤ 1000000000 := HTS.out _ (List.getElem_mem hjl)
      rw [htk] at htot
      have HADD : Hid (∀ w', Ext wr w' → _) := Lib.hid fun w' hx => add_c w2.heap.size w2.heap.size (tok (l.take j)) l[j] w' (PX.ext hpr hx) hsp (by omega) hsz htx
      rw [← htk] at HADD
      have HXR := Lib.hid hxr
      clear hsp htk htot hsz htx hpr hxr
      generalize l[j] = s at *
      obtain ⟨a1, a2, a3⟩ := s
      simp only at q0 q1 q2 HADD
      go_wp2_with fail
      refine (HADD.out _ ((Ext.refl wr).alloc _)).mono ?_; rintro e w4 ⟨rfl, hb4, hp4⟩
      have hx4 : Ext w2 w4 := HXR.out.trans' hb4
      have HX4 := Lib.hid hx4; have HP4 := Lib.hid hp4
      clear hb4 hp4 hx4
      go_wp2_with fail
      go_roundw
      case rel => exact ⟨j + 1, by omega, by go_num, HX4.out, HP4.out⟩
      case measure => simp [intOf]; omega
    · obtain rfl : j = q := by omega
      have dn : decide (j < j) = false := by rw [decide_eq_false_iff_not]; exact hlt
      have hall : l.take j = l := by rw [← HL.out]; exact List.take_length
      have hD : (gpD (tok l)).length = n := by
        have h1 := (tin_ok l HW.out).1
        rw [HN.out] at h1
        rw [gpD_length]; omega
      rw [hall] at hpr
      have HG := Lib.hid (gapsM_c w2.heap.size w2.heap.size n (tok l) wr hpr hD hn')
      have HXR := Lib.hid hxr
      clear hall hD hpr hxr
      go_wp2_with fail
      refine HG.out.mono ?_; rintro e w5 ⟨b1, b2, rfl, hb1, hb2, hb5, hr1, hr2⟩
      have hx5 : Ext w2 w5 := Below.trans HXR.out hb5
      have hx5' : Ext (w.alloc (.cells #[.slice none 0 0, .slice none 0 0] 32)) w5 := HX2W.out.trans hx5
      have r0 := box_at _ _ _ _ hx5' 0 _ rfl
      have r1 := box_at _ _ _ _ hx5' 1 _ rfl
      have f0 := box_free _ _ _ _ hx5' 0
      have f1 := box_free _ _ _ _ hx5' 1
      have hrow : w5.heap[w.heap.size]? = some (.cells #[.slice none 0 0, .slice none 0 0] 32 (0, 0)) := (hx5'.block _ (by simp)).trans (heap_alloc_new w _)
      have hlt2 : w.heap.size < w2.heap.size := by have := HX2W.out.size; simp at this; omega
      have hlt3 : w.heap.size < wr.heap.size := by have := HXR.out.size; omega
      have HROW := Lib.hid hrow; have HX5 := Lib.hid hx5'; have HR1 := Lib.hid hr1; have HR2 := Lib.hid hr2
      clear hb5 hx5 hx5' hrow hr1 hr2
      go_wp2_with fail
      have e1 := heap_setCell_same w5 w.heap.size 0 _ 32 (.slice (some ⟨b1, 0, none⟩) (n + 1) (n + 1)) HROW.out
      have e2 := heap_setCell_same _ w.heap.size 1 _ 32 (.slice (some ⟨b2, 0, none⟩) n n) e1
      refine bodyPost_ret (results_box_tmp rfl _ _ w.heap.size _ _ (0, 0) _ rfl e2 Tryd.underlying32 rfl (by kernel_rfl)) rfl ?_
      have hx0 : Ext w w5 := ((Ext.refl w).alloc _).trans HX5.out
      have hs1 : Ext w ((w5.setCell ⟨w.heap.size, 0, none⟩ (.slice (some ⟨b1, 0, none⟩) (n + 1) (n + 1))).setCell ⟨w.heap.size, 1, none⟩ (.slice (some ⟨b2, 0, none⟩) n n)) :=
        Below.setCell (Below.setCell hx0 (Nat.le_refl _) _) (Nat.le_refl _) _
      have hoth : ∀ g, w.heap.size < g → ∀ j, ((w5.setCell ⟨w.heap.size, 0, none⟩ (.slice (some ⟨b1, 0, none⟩) (n + 1) (n + 1))).setCell ⟨w.heap.size, 1, none⟩ (.slice (some ⟨b2, 0, none⟩) n n)).cell? ⟨g, j, none⟩ = w5.cell? ⟨g, j, none⟩ := fun g hg j => by
        rw [World.cell?_setCell_other _ _ _ _ (by intro e; injection e with e _; omega), World.cell?_setCell_other _ _ _ _ (by intro e; injection e with e _; omega)]
      exact ⟨_, _, rfl, hs1, rd_keep HR1.out (by simp) (hoth b1 (by omega)), rd_keep HR2.out (by simp) (hoth b2 (by omega))⟩
theorem gaps_c (A : Option Addr) (q c : Nat) (l : List Sp) (w : World) [Tab w] (h : Rd w 3 (.slice A q c) q (spCells l)) (hl : l.length = q) (hq : q ≤ 1000) (hts : ∀ s ∈ l, s.2.2.size ≤ 1000000000) (hT : sumT l ≤ 1000000000) :
    Calls Tryd.prog 8 #[.slice A q c] w fun e w' => GapsOf w w' l e := by
  by_cases hm : mayL l = 0
  · obtain ⟨ha, h0, h1⟩ := mayL_all hm (by omega)
    by_cases hb : 512 < inL l
    · have hE : gapsE l = 4 := by unfold gapsE; rw [if_pos hm, if_pos hb]
      have HM : Hid (∀ w', Ext w w' → _) := Lib.hid fun w' hx => have hTb := tab_ext hx; may4_c A q c l w' (h.ext hx) hl hq hts
      have HI : Hid (∀ w', Ext w w' → _) := Lib.hid fun w' hx => have hTb := tab_ext hx; in4_c A q c l w' (h.ext hx) hl hq
      have hw : wrap64 (inL l) = inL l := by unfold wrap64; omega
      rw [hm] at HM
      rw [hw] at HI
      have HE := Lib.hid hE
      clear h hl hts hT ha hm hE hw
      generalize inL l = n at *
      go_enter Tryd.func8, Tryd.ntmps8
      go_wp2_with fail
      refine (HM.out _ ((Ext.refl w).alloc _)).mono ?_; rintro e w1 ⟨rfl, hx1⟩
      go_wp2_with fail
      refine (HI.out _ (((Ext.refl w).alloc _).trans hx1)).mono ?_; rintro e w2 ⟨rfl, hx2⟩
      have hxx := hx1.trans hx2
      have r0 := box_at _ _ _ _ hxx 0 _ rfl
      have r1 := box_at _ _ _ _ hxx 1 _ rfl
      have f0 := box_free _ _ _ _ hxx 0
      have f1 := box_free _ _ _ _ hxx 1
      have hrow : w2.heap[w.heap.size]? = some (.cells #[.slice none 0 0, .slice none 0 0] 32 (0, 0)) := (hxx.block _ (by simp)).trans (heap_alloc_new w _)
      have HROW := Lib.hid hrow; have HXX := Lib.hid hxx
      clear hrow hxx hx1 hx2
      go_wp2_with fail
      have e1 := heap_setCell_same w2 w.heap.size 0 _ 32 (.slice none 0 0) HROW.out
      have e2 := heap_setCell_same _ w.heap.size 1 _ 32 (.slice none 0 0) e1
      refine bodyPost_ret (results_box_tmp rfl _ _ w.heap.size _ _ (0, 0) _ rfl e2 Tryd.underlying32 rfl (by kernel_rfl)) rfl ?_
      exact ⟨Below.setCell (Below.setCell (((Ext.refl w).alloc _).trans HXX.out) (Nat.le_refl _) _) (Nat.le_refl _) _, .inl ⟨by rw [HE.out]; omega, by rw [HE.out]; rfl⟩⟩
    · have hE : gapsE l = 0 := by unfold gapsE; rw [if_pos hm, if_neg hb]
      refine (gaps_walk A q c l (inL l).toNat w h hl hq (fun s hs => okW_of_may (ha s hs)) (by omega) (by omega) hm hts hT).mono ?_
      rintro e w' ⟨va, vb, rfl, hx, h1, h2⟩
      exact ⟨hx, .inr ⟨hE, va, vb, rfl, h1, h2⟩⟩
  · have hE : gapsE l = mayL l := by unfold gapsE; rw [if_neg hm]
    have HM : Hid (∀ w', Ext w w' → _) := Lib.hid fun w' hx => have hTb := tab_ext hx; may4_c A q c l w' (h.ext hx) hl hq hts
    have hne : (mayL l != 0) = true := by rw [bne_iff_ne]; exact hm
    have HE := Lib.hid hE; have HNE := Lib.hid hm
    clear h hl hts hT hm hE
    generalize mayL l = y at *
    go_enter Tryd.func8, Tryd.ntmps8
    go_wp2_with fail
    refine (HM.out _ ((Ext.refl w).alloc _)).mono ?_; rintro e w2 ⟨rfl, hxx⟩
    have r0 := box_at _ _ _ _ hxx 0 _ rfl
    have r1 := box_at _ _ _ _ hxx 1 _ rfl
    have f0 := box_free _ _ _ _ hxx 0
    have f1 := box_free _ _ _ _ hxx 1
    have hrow : w2.heap[w.heap.size]? = some (.cells #[.slice none 0 0, .slice none 0 0] 32 (0, 0)) := (hxx.block _ (by simp)).trans (heap_alloc_new w _)
    have HROW := Lib.hid hrow; have HXX := Lib.hid hxx
    clear hrow hxx
    go_wp2_with fail
    have e1 := heap_setCell_same w2 w.heap.size 0 _ 32 (.slice none 0 0) HROW.out
    have e2 := heap_setCell_same _ w.heap.size 1 _ 32 (.slice none 0 0) e1
    refine bodyPost_ret (results_box_tmp rfl _ _ w.heap.size _ _ (0, 0) _ rfl e2 Tryd.underlying32 rfl (by kernel_rfl)) rfl ?_
    exact ⟨Below.setCell (Below.setCell (((Ext.refl w).alloc _).trans HXX.out) (Nat.le_refl _) _) (Nat.le_refl _) _, .inl ⟨by rw [HE.out]; exact HNE.out, by rw [HE.out]; rfl⟩⟩
end Go.Proofs.YtmfeggeinoaheaaDoor
namespace Go.Proofs.YtmfeggeinoaheaaDoor
open Go.RowKit
set_option maxRecDepth 100000
set_option maxHeartbeats 4000000
attribute [local go_sem ↓] Go.wp_at_zero Go.wp_at_succ

end Go.Proofs.YtmfeggeinoaheaaDoor
namespace Go.Proofs.YtmfeggeinoaheaaDoor
open Go.RowKit
set_option maxRecDepth 100000
set_option maxHeartbeats 4000000
attribute [local go_sem ↓] Go.wp_at_zero Go.wp_at_succ

theorem sumN_mem (l : List Sp) (hp : pos l) : ∀ s ∈ l, s.2.1 ≤ sumN l := by
  induction l with
  | nil => intro s hs; cases hs
  | cons a t ih =>
    have ht : pos t := fun s hs => hp s (by simp [hs])
    have h0 := sumN_pos t ht
    have h1 := hp a (by simp)
    intro s hs
    show s.2.1 ≤ a.2.1 + sumN t
    rcases List.mem_cons.1 hs with rfl | hs
    · omega
    · have := ih ht s hs; omega
theorem big_norm (X : List Sp) (hp : pos X) (h : sumN X ≤ 1000) : ∀ s ∈ normL X, 0 ≤ s.2.1 ∧ s.2.1 ≤ 1000000000 := fun s hs => by
  have h1 := sumN_mem _ (norm_pos X hp) s hs
  rw [sumN_norm] at h1
  exact ⟨norm_pos X hp s hs, by omega⟩
/-- The last one puts nothing. -/
def noPut (xs : List Sp) : Prop := ∀ ys t, xs = ys ++ [t] → t.1 ≠ 2
theorem noPut_snoc (xs : List Sp) (s : Sp) (h : ¬ emp s) (hk : s.1 ≠ 2) : noPut (snocN xs s) := by
  intro zs u hu
  rcases List.eq_nil_or_concat xs with rfl | ⟨ys, t, rfl⟩
  · rw [snocN_nil _ h] at hu
    have := List.append_inj_right' (s₁ := []) hu rfl
    injection this with e
    subst e; exact hk
  · rw [List.concat_eq_append, snocN_last _ _ _ h] at hu
    by_cases e : t.1 = s.1
    · rw [if_pos e] at hu
      have := List.append_inj_right' hu rfl
      injection this with e2
      subst e2
      show t.1 ≠ 2
      rw [e]; exact hk
    · rw [if_neg e, show [t, s] = [t] ++ [s] from rfl, ← List.append_assoc] at hu
      have := List.append_inj_right' hu rfl
      injection this with e2
      subst e2; exact hk
theorem snocN_put (xs : List Sp) (t : ByteArray) (h : ¬ t.size = 0) (hp : noPut xs) : snocN xs (2, 0, t) = xs ++ [(2, 0, t)] := by
  have hne : ¬ emp ((2, 0, t) : Sp) := fun e => h e.2
  rcases List.eq_nil_or_concat xs with rfl | ⟨ys, u, rfl⟩
  · rw [snocN_nil _ hne]; rfl
  · rw [List.concat_eq_append] at hp ⊢
    rw [snocN_last _ _ _ hne, if_neg (hp ys u rfl), List.append_assoc]; rfl
theorem snocN_none (xs : List Sp) : snocN xs (2, 0, ⟨#[]⟩) = xs := snocN_emp _ _ ⟨rfl, rfl⟩

end Go.Proofs.YtmfeggeinoaheaaDoor
