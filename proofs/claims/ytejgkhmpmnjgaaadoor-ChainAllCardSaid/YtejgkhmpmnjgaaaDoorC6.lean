/- Layer 6, the reference: Spans of any gaps; Same. -/
import Derived.Test.YtejgkhmpmnjgaaaDoorMg
import Derived.Test.YtejgkhmpmnjgaaaDoorC4
import Derived.Test.YtejgkhmpmnjgaaaDoorBf
import Derived.Deep.Cut
import Derived.Deep.CutRange
import Derived.Laws.MakeOwn
import Derived.Laws.ResultCell
import Derived.Test.YtejgkhmpmnjgaaaDoorC1a
import Derived.Deep.QuietTactic
namespace Go.Proofs.YtejgkhmpmnjgaaaDoor
open Go.RowKit
set_option maxRecDepth 100000
set_option maxHeartbeats 4000000
attribute [local go_sem ↓] Go.wp_at_zero Go.wp_at_succ

/-- Texts and marks of gaps, as cells. -/
def putC (ps : List (List Nat)) : List ByteArray := ps.map fun p => mkS (encs p)
/-- A row of texts and a row of marks that grow, and the box that holds both. -/
def GW (w0 wr : World) (bx b1 b2 : Nat) (tx t1 t2 : TypeId) (n : Nat) (ps : List ByteArray) (gs : List Bool) : Prop :=
  (w0.heap.size ≤ bx ∧ w0.heap.size ≤ b1 ∧ w0.heap.size ≤ b2 ∧ bx ≠ b1 ∧ bx ≠ b2 ∧ b1 ≠ b2) ∧
  wr.heap[bx]? = some (.cells #[.slice (some ⟨b1, 0, none⟩) (n + 1) (n + 1), .slice (some ⟨b2, 0, none⟩) n n] tx (0, 0)) ∧
  wr.heap[b1]? = some (.cells (ps.map Value.string).toArray t1 (0, 0)) ∧ wr.heap[b2]? = some (.cells (gs.map Value.bool).toArray t2 (0, 0)) ∧
  Below w0.heap.size w0 wr ∧ ps.length = n + 1 ∧ gs.length = n
theorem three (w : World) (o1 o2 o3 : Obj) : (((w.alloc o1).alloc o2).alloc o3).heap[w.heap.size]? = some o1 ∧ (((w.alloc o1).alloc o2).alloc o3).heap[w.heap.size + 1]? = some o2 ∧ (((w.alloc o1).alloc o2).alloc o3).heap[w.heap.size + 1 + 1]? = some o3 := by
  refine ⟨?_, ?_, ?_⟩
  · rw [heap_alloc_old (h := by simp; omega), heap_alloc_old (h := by simp), heap_alloc_new]
  · rw [heap_alloc_old (h := by simp), heap_alloc2_new]
  · have e : w.heap.size + 1 + 1 = ((w.alloc o1).alloc o2).heap.size := by simp
    rw [e, heap_alloc_new]
theorem made_put (n : Nat) : madeCells (Value.string ⟨#[]⟩).cells n = ((List.replicate n (⟨#[]⟩ : ByteArray)).map Value.string).toArray := by
  apply Array.ext
  · simp [size_madeCells]
  · intro i h1 h2
    simp [madeCells, Value.cells, Nat.mod_one]
theorem made_gone (n : Nat) : madeCells (Value.bool false).cells n = ((List.replicate n false).map Value.bool).toArray := by
  apply Array.ext
  · simp [size_madeCells]
  · intro i h1 h2
    simp [madeCells, Value.cells, Nat.mod_one]
theorem GW.drew {w0 wr : World} {bx b1 b2 : Nat} {tx t1 t2 : TypeId} {n : Nat} {ps : List ByteArray} {gs : List Bool} (h : GW w0 wr bx b1 b2 tx t1 t2 n ps gs) : GW w0 wr.drew bx b1 b2 tx t1 t2 n ps gs :=
  ⟨h.1, h.2.1, h.2.2.1, h.2.2.2.1, h.2.2.2.2.1.drew, h.2.2.2.2.2⟩
theorem GW.box {w0 wr : World} {bx b1 b2 : Nat} {tx t1 t2 : TypeId} {n : Nat} {ps : List ByteArray} {gs : List Bool} (h : GW w0 wr bx b1 b2 tx t1 t2 n ps gs) :
    wr.cell? ⟨bx, 0, none⟩ = some (.slice (some ⟨b1, 0, none⟩) (n + 1) (n + 1)) ∧ wr.cell? ⟨bx, 1, none⟩ = some (.slice (some ⟨b2, 0, none⟩) n n) :=
  ⟨by rw [cell_of_row wr bx 0 _ tx (0, 0) h.2.1]; rfl, by rw [cell_of_row wr bx 1 _ tx (0, 0) h.2.1]; rfl⟩
theorem GW.put {w0 wr : World} {bx b1 b2 : Nat} {tx t1 t2 : TypeId} {n : Nat} {ps : List ByteArray} {gs : List Bool} (h : GW w0 wr bx b1 b2 tx t1 t2 n ps gs) {j : Nat} {t : ByteArray} (hj : ps[j]? = some t) :
    wr.cell? ⟨b1, j, none⟩ = some (.string t) ∧ wr.frozen? ⟨b1, j, none⟩ = false := by
  refine ⟨by rw [cell_of_row wr b1 j _ t1 (0, 0) h.2.2.1]; simp [hj], ?_⟩
  unfold World.frozen?
  simp only [h.2.2.1]; simp
theorem GW.gone {w0 wr : World} {bx b1 b2 : Nat} {tx t1 t2 : TypeId} {n : Nat} {ps : List ByteArray} {gs : List Bool} (h : GW w0 wr bx b1 b2 tx t1 t2 n ps gs) {j : Nat} {t : Bool} (hj : gs[j]? = some t) :
    wr.cell? ⟨b2, j, none⟩ = some (.bool t) ∧ wr.frozen? ⟨b2, j, none⟩ = false := by
  refine ⟨by rw [cell_of_row wr b2 j _ t2 (0, 0) h.2.2.2.1]; simp [hj], ?_⟩
  unfold World.frozen?
  simp only [h.2.2.2.1]; simp
theorem GW.setPut {w0 wr : World} {bx b1 b2 : Nat} {tx t1 t2 : TypeId} {n : Nat} {ps : List ByteArray} {gs : List Bool} (h : GW w0 wr bx b1 b2 tx t1 t2 n ps gs) (j : Nat) (t : ByteArray) :
    GW w0 (wr.setCell ⟨b1, j, none⟩ (.string t)) bx b1 b2 tx t1 t2 n (ps.set j t) gs := by
  obtain ⟨⟨o1, o2, o3, d1, d2, d3⟩, g1, g2, g3, hb, l1, l2⟩ := h
  refine ⟨⟨o1, o2, o3, d1, d2, d3⟩, ?_, ?_, ?_, Below.setCell hb o2 _, by rw [List.length_set]; exact l1, l2⟩
  · rw [heap_setCell_other _ _ _ _ d1]; exact g1
  · have e := heap_setCell_same wr b1 j _ t1 (.string t) g2
    rw [e, List.map_set]
    simp
  · rw [heap_setCell_other _ _ _ _ (Ne.symm d3)]; exact g3
theorem GW.setGone {w0 wr : World} {bx b1 b2 : Nat} {tx t1 t2 : TypeId} {n : Nat} {ps : List ByteArray} {gs : List Bool} (h : GW w0 wr bx b1 b2 tx t1 t2 n ps gs) (j : Nat) (t : Bool) :
    GW w0 (wr.setCell ⟨b2, j, none⟩ (.bool t)) bx b1 b2 tx t1 t2 n ps (gs.set j t) := by
  obtain ⟨⟨o1, o2, o3, d1, d2, d3⟩, g1, g2, g3, hb, l1, l2⟩ := h
  refine ⟨⟨o1, o2, o3, d1, d2, d3⟩, ?_, ?_, ?_, Below.setCell hb o3 _, l1, by rw [List.length_set]; exact l2⟩
  · rw [heap_setCell_other _ _ _ _ d2]; exact g1
  · rw [heap_setCell_other _ _ _ _ d3]; exact g2
  · have e := heap_setCell_same wr b2 j _ t2 (.bool t) g3
    rw [e, List.map_set]
    simp
theorem GW.rd {w0 wr : World} {bx b1 b2 : Nat} {tx t1 t2 : TypeId} {n : Nat} {ps : List ByteArray} {gs : List Bool} (h : GW w0 wr bx b1 b2 tx t1 t2 n ps gs) :
    Rd wr 1 (.slice (some ⟨b1, 0, none⟩) (n + 1) (n + 1)) (n + 1) (ps.map Value.string) ∧ Rd wr 1 (.slice (some ⟨b2, 0, none⟩) n n) n (gs.map Value.bool) := by
  obtain ⟨_, _, g2, g3, _, l1, l2⟩ := h
  refine ⟨⟨by simp [l1], _, _, rfl, Nat.le_refl _, fun _ => ⟨b1, 0, rfl, (Array.getElem?_eq_some_iff.1 g2).1, fun j u hu => ?_⟩⟩, ⟨by simp [l2], _, _, rfl, Nat.le_refl _, fun _ => ⟨b2, 0, rfl, (Array.getElem?_eq_some_iff.1 g3).1, fun j u hu => ?_⟩⟩⟩
  · rw [Nat.zero_add, cell_of_row wr b1 j _ t1 (0, 0) g2]; simpa using hu
  · rw [Nat.zero_add, cell_of_row wr b2 j _ t2 (0, 0) g3]; simpa using hu
theorem rd_row {W : World} {b n : Nat} {xs : List Value} {t : TypeId} (hg : W.heap[b]? = some (.cells xs.toArray t (0, 0))) (hl : xs.length = n) : Rd W 1 (.slice (some ⟨b, 0, none⟩) n n) n xs := by
  refine ⟨by omega, _, _, rfl, Nat.le_refl _, fun _ => ⟨b, 0, rfl, (Array.getElem?_eq_some_iff.1 hg).1, fun j u hu => ?_⟩⟩
  rw [Nat.zero_add, cell_of_row W b j _ t (0, 0) hg]; simpa using hu
theorem results_box_tmp {P : Program} {fn : Func} {p u : Tmp} {ty : TypeId} (h : fn.results = #[.cell p ty, .tmp u]) (tmps : Array Value) (w : World) (g : Nat) (t : TypeId) (cs : Array Value) (fr : Nat × Nat) (d : TypeDesc)
    (hp : tmps.getD p undef = .pointer (some ⟨g, 0, none⟩)) (hg : w.heap[g]? = some (.cells cs t fr))
    (hu : P.underlying ty = some d) (hd : (match d with | .struct _ | .array _ _ => true | _ => false) = true) (hi : (P.info? ty).map (·.size) = some cs.size) :
    (results fn tmps).run P w = .ok (.tuple #[.agg cs, tmps.getD u undef]) w := by
  rw [results_cell_tmp h, hp]
  simp [asAddr, run_loadVar_row w g t ty cs fr d hg hu hd hi]
theorem set_mid {α : Type} (a : List α) (x y : α) (b : List α) (n : Nat) (h : a.length = n) : (a ++ x :: b).set n y = a ++ y :: b := by
  subst h
  rw [List.set_append_right _ _ (Nat.le_refl _), Nat.sub_self, List.set_cons_zero]
theorem get_mid {α : Type} (a : List α) (x : α) (b : List α) (n : Nat) (h : a.length = n) : (a ++ x :: b)[n]? = some x := by
  subst h
  rw [List.getElem?_append_right (Nat.le_refl _), Nat.sub_self]; rfl
theorem putC_append (a b : List (List Nat)) : putC (a ++ b) = putC a ++ putC b := by simp [putC]
theorem putC_length (a : List (List Nat)) : (putC a).length = a.length := by simp [putC]
theorem mkS_enc_append (x cs : List Nat) {t : ByteArray} (h : dec (bs t) = some cs) : mkS (encs (x ++ cs)) = mkS (encs x) ++ t := by
  rw [mkS_of (dec_some h).2, encs_append]
  apply bs_inj; simp [bs, mkS]
theorem info_str : (Tryd.prog.info? 9).map (fun i => (i.zero, i.size, i.bytes)) = some (some (.string ⟨#[]⟩), 1, 16) := by kernel_rfl
theorem info_bool : (Tryd.prog.info? 4).map (fun i => (i.zero, i.size, i.bytes)) = some (some (.bool false), 1, 1) := by kernel_rfl
end Go.Proofs.YtejgkhmpmnjgaaaDoor
namespace Go.Proofs.YtejgkhmpmnjgaaaDoor
open Go.RowKit
set_option maxRecDepth 100000
set_option maxHeartbeats 4000000

/-- What Of tells. -/
def gapsE (l : List Sp) : Int := if mayL l = 0 then (if 512 < inL l then 4 else 0) else mayL l
def GapsOf (w w' : World) (l : List Sp) (e : Ending) : Prop :=
  Ext w w' ∧ ((gapsE l ≠ 0 ∧ e = .returned (.tuple #[.agg #[.slice none 0 0, .slice none 0 0], .int .i64 (gapsE l)])) ∨
  (gapsE l = 0 ∧ ∃ va vb, e = .returned (.tuple #[.agg #[va, vb], .int .i64 0]) ∧ Rd w' 1 va ((inL l).toNat + 1) ((putC (gpP (tok l))).map Value.string) ∧ Rd w' 1 vb (inL l).toNat ((gpD (tok l)).map Value.bool)))
theorem mayL_all {l : List Sp} (h : mayL l = 0) (hq : l.length ≤ 1000) : (∀ s ∈ l, mayS s.1 s.2.1 s.2.2 = 0) ∧ 0 ≤ inL l ∧ inL l ≤ 1048576 := by
  have he : errL l = 0 := by
    unfold mayL at h
    by_cases h0 : errL l = 0
    · exact h0
    · rw [if_neg h0] at h; exact absurd h h0
  have ha : ∀ s ∈ l, mayS s.1 s.2.1 s.2.2 = 0 := by
    intro s hs
    obtain ⟨i, hi, rfl⟩ := List.mem_iff_getElem.1 hs
    clear h hs
    have hall : ∀ k, k ≤ l.length → errL (l.take k) = 0 := by
      intro k hk
      by_cases hne : errL (l.take k) = 0
      · exact hne
      · rw [← errL_pre l k hne, he]
    have h1 := hall (i + 1) (by omega)
    rw [errL_take l i hi, if_pos (hall i (by omega))] at h1
    exact h1
  have hp := may_sum l ha
  have h0 : 0 ≤ inL l := by rw [← hp.2]; exact sumN_pos l hp.1
  have hb : inL l ≤ l.length * 1048576 := by
    clear h he hq hp h0
    induction l with
    | nil => exact Int.le_refl _
    | cons s r ih =>
      have h1 := ih fun x hx => ha x (List.mem_cons_of_mem _ hx)
      have h2 := may_pos s (ha s (List.mem_cons_self ..))
      rw [inL_cons, List.length_cons]
      have : ((r.length + 1 : Nat) : Int) * 1048576 = (r.length : Int) * 1048576 + 1048576 := by omega
      omega
  refine ⟨ha, h0, ?_⟩
  unfold mayL at h
  rw [if_pos he] at h
  have hw : wrap64 (inL l) = inL l := by
    have : (l.length : Int) * 1048576 ≤ 1000 * 1048576 := by omega
    unfold wrap64; omega
  rw [hw] at h
  split at h <;> omega
end Go.Proofs.YtejgkhmpmnjgaaaDoor
namespace Go.Proofs.YtejgkhmpmnjgaaaDoor
open Go.RowKit
set_option maxRecDepth 100000
set_option maxHeartbeats 4000000

/-- The operation of some gaps, span by span. -/
def raw : List ByteArray → List Bool → List Sp
  | [], _ => []
  | t :: ts, [] => (2, 0, t) :: raw ts []
  | t :: ts, d :: ds => (2, 0, t) :: (if d then 3 else 1, 1, ⟨#[]⟩) :: raw ts ds
def okTs (ts : List ByteArray) : Bool := ts.all fun t => (dec (bs t)).isSome
def spansE (ts : List ByteArray) (ds : List Bool) : Int := if ts.length = ds.length + 1 then (if 512 < ds.length then 4 else if okTs ts then 0 else 3) else 5
def SpansOf (w w' : World) (ts : List ByteArray) (ds : List Bool) (e : Ending) : Prop :=
  Ext w w' ∧ ((spansE ts ds ≠ 0 ∧ e = .returned (.tuple #[.slice none 0 0, .int .i64 (spansE ts ds)])) ∨
  (spansE ts ds = 0 ∧ ∃ v, e = .returned (.tuple #[v, .int .i64 0]) ∧ Rd w' 3 v (normL (raw ts ds)).length (spCells (normL (raw ts ds)))))
theorem raw_len (ts : List ByteArray) (ds : List Bool) : (raw ts ds).length ≤ ts.length + ds.length := by
  induction ts generalizing ds with
  | nil => simp [raw]
  | cons t ts ih =>
    cases ds with
    | nil => have := ih []; simp [raw] at this ⊢; omega
    | cons d ds => have := ih ds; simp [raw]; omega
theorem raw_take (ts : List ByteArray) (ds : List Bool) (i : Nat) (h : i < ts.length) :
    raw (ts.take (i + 1)) (ds.take (i + 1)) = raw (ts.take i) (ds.take i) ++ ((2, 0, ts[i]) :: if h : i < ds.length then [(if ds[i] then 3 else 1, 1, ⟨#[]⟩)] else []) := by
  induction i generalizing ts ds with
  | zero =>
    cases ts with
    | nil => simp at h
    | cons t ts => cases ds <;> simp [raw]
  | succ i ih =>
    cases ts with
    | nil => simp at h
    | cons t ts =>
      have h' : i < ts.length := by simpa using h
      cases ds with
      | nil =>
        have := ih ts [] h'
        simp at this
        simp [raw, this]
      | cons d ds =>
        have := ih ts ds h'
        simp only [List.take_succ_cons, raw, List.cons_append, this, List.getElem_cons_succ, List.length_cons]
        by_cases hd : i < ds.length
        · rw [dif_pos hd, dif_pos (by omega)]
        · rw [dif_neg hd, dif_neg (by omega)]
theorem raw_sum (ts : List ByteArray) (ds : List Bool) : sumN (raw ts ds) ≤ ds.length ∧ sumT (raw ts ds) = (ts.map fun t => t.size).sum ∧ pos (raw ts ds) := by
  induction ts generalizing ds with
  | nil => exact ⟨by simp [raw, sumN], rfl, fun s hs => by cases hs⟩
  | cons t ts ih =>
    have e0 : (⟨#[]⟩ : ByteArray).size = 0 := rfl
    cases ds with
    | nil =>
      obtain ⟨h1, h2, h3⟩ := ih []
      refine ⟨?_, ?_, ?_⟩
      · show (0 : Int) + sumN (raw ts []) ≤ _; omega
      · show t.size + sumT (raw ts []) = _; rw [h2, List.map_cons, List.sum_cons]
      · intro s hs
        rcases List.mem_cons.1 hs with rfl | hs
        · exact Int.le_refl _
        · exact h3 s hs
    | cons d ds =>
      obtain ⟨h1, h2, h3⟩ := ih ds
      refine ⟨?_, ?_, ?_⟩
      · show (0 : Int) + (1 + sumN (raw ts ds)) ≤ _; rw [List.length_cons]; omega
      · show t.size + ((⟨#[]⟩ : ByteArray).size + sumT (raw ts ds)) = _; rw [h2, e0, Nat.zero_add, List.map_cons, List.sum_cons]
      · intro s hs
        rcases List.mem_cons.1 hs with rfl | hs
        · exact Int.le_refl _
        · rcases List.mem_cons.1 hs with rfl | hs
          · show (0 : Int) ≤ 1; omega
          · exact h3 s hs
/-- What is read of a row of single cells. -/
theorem rd_at1 {w : World} {A : Option Addr} {n c : Nat} {xs : List Value} (h : Rd w 1 (.slice A n c) n xs) {k : Nat} (hk : k < n) {u : Value} (hu : xs[k]? = some u) :
    ∃ b off, A = some ⟨b, off, none⟩ ∧ b < w.heap.size ∧ w.cell? ⟨b, off + k, none⟩ = some u := by
  obtain ⟨b, off, u', hA, hb, h1, h2⟩ := h.cell hk
  rw [h1] at hu
  injection hu with hu
  subst hu
  exact ⟨b, off, hA, hb, h2⟩
end Go.Proofs.YtejgkhmpmnjgaaaDoor
namespace Go.Proofs.YtejgkhmpmnjgaaaDoor
open Go.RowKit
set_option maxRecDepth 100000
set_option maxHeartbeats 4000000

theorem take_more1 {α : Type} (l m : List α) (j : Nat) (h1 : j < l.length) (h2 : j < m.length) (h : l.take j = m.take j) (h3 : l[j] = m[j]) : l.take (j + 1) = m.take (j + 1) := by
  rw [List.take_add_one, List.take_add_one, h, List.getElem?_eq_getElem h1, List.getElem?_eq_getElem h2, h3]
end Go.Proofs.YtejgkhmpmnjgaaaDoor
