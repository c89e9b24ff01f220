/- Layer 6, the reference: Spans of any gaps; Same. -/
import Derived.Test.YtelepadnbgcbnaaDoorMg
import Derived.Test.YtelepadnbgcbnaaDoorC4
import Derived.Test.YtelepadnbgcbnaaDoorBf
import Derived.Deep.Cut
import Derived.Deep.CutRange
import Derived.Laws.MakeOwn
import Derived.Laws.ResultCell
import Derived.Test.YtelepadnbgcbnaaDoorC1c
import Derived.Deep.QuietTactic
namespace Go.Proofs.YtelepadnbgcbnaaDoor
open Go.RowKit
set_option maxRecDepth 100000
set_option maxHeartbeats 4000000
attribute [local go_sem ↓] Go.wp_at_zero Go.wp_at_succ

/-- Texts and marks of gaps, as cells. -/
def putC (ps : List (List Nat)) : List ByteArray := ps.map fun p => mkS (encs p)
/-- A row of texts and a row of marks that grow, and the box that holds both. -/
def GW (w0 wr : World) (bx b1 b2 : Nat) (tx t1 t2 : TypeId) (n : Nat) (ps : List ByteArray) (gs : List Bool) : Prop :=
  (w0.heap.size ≤ bx ∧ w0.heap.size ≤ b1 ∧ w0.heap.size ≤ b2 ∧ bx ≠ b1 ∧ bx ≠ b2 ∧ b1 ≠ b2) ∧
  wr.heap[bx]? = some (.cells #[.slice (some ⟨b1, 0, none⟩) (n + 1) (n + 1), .slice (some ⟨b2, 0, none⟩) n n] tx (0, 0)) ∧
  wr.heap[b1]? = some (.cells (ps.map Value.string).toArray t1 (0, 0)) ∧ wr.heap[b2]? = some (.cells (gs.map Value.bool).toArray t2 (0, 0)) ∧
  Below w0.heap.size w0 wr ∧ ps.length = n + 1 ∧ gs.length = n
theorem three (w : World) (o1 o2 o3 : Obj) : (((w.alloc o1).alloc o2).alloc o3).heap[w.heap.size]? = some o1 ∧ (((w.alloc o1).alloc o2).alloc o3).heap[w.heap.size + 1]? = some o2 ∧ (((w.alloc o1).alloc o2).alloc o3).heap[w.heap.size + 1 + 1]? = some o3 := by
  refine ⟨?_, ?_, ?_⟩
  · rw [heap_alloc_old (h := by simp; omega), heap_alloc_old (h := by simp), heap_alloc_new]
  · rw [heap_alloc_old (h := by simp), heap_alloc2_new]
  · have e : w.heap.size + 1 + 1 = ((w.alloc o1).alloc o2).heap.size := by simp
    rw [e, heap_alloc_new]
theorem made_put (n : Nat) : madeCells (Value.string ⟨#[]⟩).cells n = ((List.replicate n (⟨#[]⟩ : ByteArray)).map Value.string).toArray := by
  apply Array.ext
  · simp [size_madeCells]
  · intro i h1 h2
    simp [madeCells, Value.cells, Nat.mod_one]
theorem made_gone (n : Nat) : madeCells (Value.bool false).cells n = ((List.replicate n false).map Value.bool).toArray := by
  apply Array.ext
  · simp [size_madeCells]
  · intro i h1 h2
    simp [madeCells, Value.cells, Nat.mod_one]
theorem GW.drew {w0 wr : World} {bx b1 b2 : Nat} {tx t1 t2 : TypeId} {n : Nat} {ps : List ByteArray} {gs : List Bool} (h : GW w0 wr bx b1 b2 tx t1 t2 n ps gs) : GW w0 wr.drew bx b1 b2 tx t1 t2 n ps gs :=
  ⟨h.1, h.2.1, h.2.2.1, h.2.2.2.1, h.2.2.2.2.1.drew, h.2.2.2.2.2⟩
theorem GW.box {w0 wr : World} {bx b1 b2 : Nat} {tx t1 t2 : TypeId} {n : Nat} {ps : List ByteArray} {gs : List Bool} (h : GW w0 wr bx b1 b2 tx t1 t2 n ps gs) :
    wr.cell? ⟨bx, 0, none⟩ = some (.slice (some ⟨b1, 0, none⟩) (n + 1) (n + 1)) ∧ wr.cell? ⟨bx, 1, none⟩ = some (.slice (some ⟨b2, 0, none⟩) n n) :=
  ⟨by rw [cell_of_row wr bx 0 _ tx (0, 0) h.2.1]; rfl, by rw [cell_of_row wr bx 1 _ tx (0, 0) h.2.1]; rfl⟩
theorem GW.put {w0 wr : World} {bx b1 b2 : Nat} {tx t1 t2 : TypeId} {n : Nat} {ps : List ByteArray} {gs : List Bool} (h : GW w0 wr bx b1 b2 tx t1 t2 n ps gs) {j : Nat} {t : ByteArray} (hj : ps[j]? = some t) :
    wr.cell? ⟨b1, j, none⟩ = some (.string t) ∧ wr.frozen? ⟨b1, j, none⟩ = false := by
  refine ⟨by rw [cell_of_row wr b1 j _ t1 (0, 0) h.2.2.1]; simp [hj], ?_⟩
  unfold World.frozen?
  simp only [h.2.2.1]; simp
theorem GW.gone {w0 wr : World} {bx b1 b2 : Nat} {tx t1 t2 : TypeId} {n : Nat} {ps : List ByteArray} {gs : List Bool} (h : GW w0 wr bx b1 b2 tx t1 t2 n ps gs) {j : Nat} {t : Bool} (hj : gs[j]? = some t) :
    wr.cell? ⟨b2, j, none⟩ = some (.bool t) ∧ wr.frozen? ⟨b2, j, none⟩ = false := by
  refine ⟨by rw [cell_of_row wr b2 j _ t2 (0, 0) h.2.2.2.1]; simp [hj], ?_⟩
  unfold World.frozen?
  simp only [h.2.2.2.1]; simp
theorem GW.setPut {w0 wr : World} {bx b1 b2 : Nat} {tx t1 t2 : TypeId} {n : Nat} {ps : List ByteArray} {gs : List Bool} (h : GW w0 wr bx b1 b2 tx t1 t2 n ps gs) (j : Nat) (t : ByteArray) :
    GW w0 (wr.setCell ⟨b1, j, none⟩ (.string t)) bx b1 b2 tx t1 t2 n (ps.set j t) gs := by
  obtain ⟨⟨o1, o2, o3, d1, d2, d3⟩, g1, g2, g3, hb, l1, l2⟩ := h
  refine ⟨⟨o1, o2, o3, d1, d2, d3⟩, ?_, ?_, ?_, Below.setCell hb o2 _, by rw [List.length_set]; exact l1, l2⟩
  · rw [heap_setCell_other _ _ _ _ d1]; exact g1
  · have e := heap_setCell_same wr b1 j _ t1 (.string t) g2
    rw [e, List.map_set]
    simp
  · rw [heap_setCell_other _ _ _ _ (Ne.symm d3)]; exact g3
theorem GW.setGone {w0 wr : World} {bx b1 b2 : Nat} {tx t1 t2 : TypeId} {n : Nat} {ps : List ByteArray} {gs : List Bool} (h : GW w0 wr bx b1 b2 tx t1 t2 n ps gs) (j : Nat) (t : Bool) :
    GW w0 (wr.setCell ⟨b2, j, none⟩ (.bool t)) bx b1 b2 tx t1 t2 n ps (gs.set j t) := by
  obtain ⟨⟨o1, o2, o3, d1, d2, d3⟩, g1, g2, g3, hb, l1, l2⟩ := h
  refine ⟨⟨o1, o2, o3, d1, d2, d3⟩, ?_, ?_, ?_, Below.setCell hb o3 _, l1, by rw [List.length_set]; exact l2⟩
  · rw [heap_setCell_other _ _ _ _ d2]; exact g1
  · rw [heap_setCell_other _ _ _ _ d3]; exact g2
  · have e := heap_setCell_same wr b2 j _ t2 (.bool t) g3
    rw [e, List.map_set]
    simp
theorem GW.rd {w0 wr : World} {bx b1 b2 : Nat} {tx t1 t2 : TypeId} {n : Nat} {ps : List ByteArray} {gs : List Bool} (h : GW w0 wr bx b1 b2 tx t1 t2 n ps gs) :
    Rd wr 1 (.slice (some ⟨b1, 0, none⟩) (n + 1) (n + 1)) (n + 1) (ps.map Value.string) ∧ Rd wr 1 (.slice (some ⟨b2, 0, none⟩) n n) n (gs.map Value.bool) := by
  obtain ⟨_, _, g2, g3, _, l1, l2⟩ := h
  refine ⟨⟨by simp [l1], _, _, rfl, Nat.le_refl _, fun _ => ⟨b1, 0, rfl, (Array.getElem?_eq_some_iff.1 g2).1, fun j u hu => ?_⟩⟩, ⟨by simp [l2], _, _, rfl, Nat.le_refl _, fun _ => ⟨b2, 0, rfl, (Array.getElem?_eq_some_iff.1 g3).1, fun j u hu => ?_⟩⟩⟩
  · rw [Nat.zero_add, cell_of_row wr b1 j _ t1 (0, 0) g2]; simpa using hu
  · rw [Nat.zero_add, cell_of_row wr b2 j _ t2 (0, 0) g3]; simpa using hu
theorem rd_row {W : World} {b n : Nat} {xs : List Value} {t : TypeId} (hg : W.heap[b]? = some (.cells xs.toArray t (0, 0))) (hl : xs.length = n) : Rd W 1 (.slice (some ⟨b, 0, none⟩) n n) n xs := by
  refine ⟨by omega, _, _, rfl, Nat.le_refl _, fun _ => ⟨b, 0, rfl, (Array.getElem?_eq_some_iff.1 hg).1, fun j u hu => ?_⟩⟩
  rw [Nat.zero_add, cell_of_row W b j _ t (0, 0) hg]; simpa using hu
theorem results_box_tmp {P : Program} {fn : Func} {p u : Tmp} {ty : TypeId} (h : fn.results = #[.cell p ty, .tmp u]) (tmps : Array Value) (w : World) (g : Nat) (t : TypeId) (cs : Array Value) (fr : Nat × Nat) (d : TypeDesc)
    (hp : tmps.getD p undef = .pointer (some ⟨g, 0, none⟩)) (hg : w.heap[g]? = some (.cells cs t fr))
    (hu : P.underlying ty = some d) (hd : (match d with | .struct _ | .array _ _ => true | _ => false) = true) (hi : (P.info? ty).map (·.size) = some cs.size) :
    (results fn tmps).run P w = .ok (.tuple #[.agg cs, tmps.getD u undef]) w := by
  rw [results_cell_tmp h, hp]
  simp [asAddr, run_loadVar_row w g t ty cs fr d hg hu hd hi]
theorem set_mid {α : Type} (a : List α) (x y : α) (b : List α) (n : Nat) (h : a.length = n) : (a ++ x :: b).set n y = a ++ y :: b := by
  subst h
  rw [List.set_append_right _ _ (Nat.le_refl _), Nat.sub_self, List.set_cons_zero]
theorem get_mid {α : Type} (a : List α) (x : α) (b : List α) (n : Nat) (h : a.length = n) : (a ++ x :: b)[n]? = some x := by
  subst h
  rw [List.getElem?_append_right (Nat.le_refl _), Nat.sub_self]; rfl
theorem putC_append (a b : List (List Nat)) : putC (a ++ b) = putC a ++ putC b := by simp [putC]
theorem putC_length (a : List (List Nat)) : (putC a).length = a.length := by simp [putC]
theorem mkS_enc_append (x cs : List Nat) {t : ByteArray} (h : dec (bs t) = some cs) : mkS (encs (x ++ cs)) = mkS (encs x) ++ t := by
  rw [mkS_of (dec_some h).2, encs_append]
  apply bs_inj; simp [bs, mkS]
theorem info_str : (Tryd.prog.info? 9).map (fun i => (i.zero, i.size, i.bytes)) = some (some (.string ⟨#[]⟩), 1, 16) := by kernel_rfl
theorem info_bool : (Tryd.prog.info? 4).map (fun i => (i.zero, i.size, i.bytes)) = some (some (.bool false), 1, 1) := by kernel_rfl
theorem gapsR_walk (A : Option Addr) (q c : Nat) (l : List Sp) (n : Nat) (w : World) (h : Rd w 3 (.slice A q c) q (spCells l)) (hl : l.length = q) (hq : q ≤ 1000) (hw : ∀ s ∈ l, OkW s) (hn : inL l = n) (hn' : n ≤ 512) (hmay : mayL l = 0)
    (hts : ∀ s ∈ l, s.2.2.size ≤ 1000000000) (hT : sumT l ≤ 1000000000) :
    Calls Tryd.prog 11 #[.slice A q c] w fun e w' => ∃ va vb, e = .returned (.tuple #[.agg #[va, vb], .int .i64 0]) ∧ Ext w w' ∧ Rd w' 1 va (n + 1) ((putC (gpP (tok l))).map Value.string) ∧ Rd w' 1 vb n ((gpD (tok l)).map Value.bool) := by
  obtain ⟨is, his, hs0, hs1, hs2⟩ := info_parts info_str
  obtain ⟨ib, hib, hb0, hb1, hb2⟩ := info_parts info_bool
  have HM : Hid (∀ w', Ext w w' → _) := Lib.hid fun w' hx => mayR4_c A q c l w' (h.ext hx) hl hq hts
  have HI : Hid (∀ w', Ext w w' → _) := Lib.hid fun w' hx => inR4_c A q c l w' (h.ext hx) hl hq
  have hwn : wrap64 (inL l) = (n : Int) := by rw [hn]; unfold wrap64; omega
  rw [hmay] at HM
  rw [hwn] at HI
  have hmk1 : ∀ w' : World, (Instr.makeSlice 23 (.int .i64 ((n : Int) + 1)) (.int .i64 ((n : Int) + 1))).run Tryd.prog w' = .ok (.slice (some ⟨w'.heap.size, 0, none⟩) (n + 1) (n + 1)) (w'.alloc (.cells (madeCells (Value.string ⟨#[]⟩).cells ((n + 1) * is.size)) 9)) :=
    fun w' => run_make w' 23 9 is (.string ⟨#[]⟩) Tryd.underlying23 his hs0 .i64 .i64 ((n : Int) + 1) ((n : Int) + 1) (by omega) (by omega) (by rw [hs2]; omega) (by omega)
  have hmk2 : ∀ w' : World, (Instr.makeSlice 24 (.int .i64 (n : Int)) (.int .i64 (n : Int))).run Tryd.prog w' = .ok (.slice (some ⟨w'.heap.size, 0, none⟩) n n) (w'.alloc (.cells (madeCells (Value.bool false).cells (n * ib.size)) 4)) :=
    fun w' => run_make w' 24 4 ib (.bool false) Tryd.underlying24 hib hb0 .i64 .i64 (n : Int) (n : Int) (by omega) (by omega) (by rw [hb2]; omega) (by omega)
  have hm1 : madeCells (Value.string ⟨#[]⟩).cells ((n + 1) * is.size) = ((List.replicate (n + 1) (⟨#[]⟩ : ByteArray)).map Value.string).toArray := by
    rw [hs1, Nat.mul_one, made_put]
  have hm2 : madeCells (Value.bool false).cells (n * ib.size) = ((List.replicate n false).map Value.bool).toArray := by
    rw [hb1, Nat.mul_one, made_gone]
  rw [hm1] at hmk1
  rw [hm2] at hmk2
  generalize hR1 : ((List.replicate (n + 1) (⟨#[]⟩ : ByteArray)).map Value.string).toArray = R1 at *
  generalize hR2 : ((List.replicate n false).map Value.bool).toArray = R2 at *
  have HR1 := Lib.hid hR1; have HR2 := Lib.hid hR2
  have hnw : IntKind.i64.wrap ((n : Int) + 1) = (n : Int) + 1 := by rw [IntKind.wrap_i64]; omega
  have hn0 : ¬ 512 < (n : Int) := by omega
  have H := Lib.hid h; have HL := Lib.hid hl; have HW := Lib.hid hw; have HT := Lib.hid hT; have HN := Lib.hid hn; have HTS := Lib.hid hts
  clear h hl hw hT hn hm1 hm2 hR1 hR2 hwn hmay hts
  go_enter Tryd.func11, Tryd.ntmps11
  go_wp2_with fail
  refine (HM.out _ ((Ext.refl w).alloc _)).mono ?_; rintro e w1 ⟨rfl, hx1⟩
  go_wp2_with fail
  refine (HI.out _ (((Ext.refl w).alloc _).trans hx1)).mono ?_; rintro e w2 ⟨rfl, hx2⟩
  go_wp2_with fail
  go_cut [6] from 10 (fun p wr => ∃ bx b1 b2 : Nat, p = .pointer (some ⟨bx, 0, none⟩) ∧ GW w2 wr bx b1 b2 26 9 4 n (List.replicate (n + 1) ⟨#[]⟩) (List.replicate n false))
  case first =>
    go_region_held3 (fun W => Ext w2 W) (first | (repeat (first | assumption | exact Ext.refl _ | apply Ext.drew | apply Ext.alloc)) | go_keep) (fail)
    all_goals
      go_wp2_with fail
      go_meet
      case rel =>
        first
          | exact ⟨_, _, _, rfl, ⟨⟨by omega, by omega, by omega, by omega, by omega, by omega⟩, (three w2 _ _ _).2.2, (three w2 _ _ _).1.trans (by rw [← HR1.out]), (three w2 _ _ _).2.1.trans (by rw [← HR2.out]), Ext.drew ((((Ext.refl w2).alloc _).alloc _).alloc _), by simp, by simp⟩⟩
          | exact ⟨_, _, _, rfl, ⟨⟨by omega, by omega, by omega, by omega, by omega, by omega⟩, (three w2 _ _ _).2.2, (three w2 _ _ _).2.1.trans (by rw [← HR1.out]), (three w2 _ _ _).1.trans (by rw [← HR2.out]), Ext.drew ((((Ext.refl w2).alloc _).alloc _).alloc _), by simp, by simp⟩⟩
          | exact ⟨_, _, _, rfl, ⟨⟨by omega, by omega, by omega, by omega, by omega, by omega⟩, (three w2 _ _ _).2.1, (three w2 _ _ _).1.trans (by rw [← HR1.out]), (three w2 _ _ _).2.2.trans (by rw [← HR2.out]), Ext.drew ((((Ext.refl w2).alloc _).alloc _).alloc _), by simp, by simp⟩⟩
          | exact ⟨_, _, _, rfl, ⟨⟨by omega, by omega, by omega, by omega, by omega, by omega⟩, (three w2 _ _ _).2.1, (three w2 _ _ _).2.2.trans (by rw [← HR1.out]), (three w2 _ _ _).1.trans (by rw [← HR2.out]), Ext.drew ((((Ext.refl w2).alloc _).alloc _).alloc _), by simp, by simp⟩⟩
          | exact ⟨_, _, _, rfl, ⟨⟨by omega, by omega, by omega, by omega, by omega, by omega⟩, (three w2 _ _ _).1, (three w2 _ _ _).2.1.trans (by rw [← HR1.out]), (three w2 _ _ _).2.2.trans (by rw [← HR2.out]), Ext.drew ((((Ext.refl w2).alloc _).alloc _).alloc _), by simp, by simp⟩⟩
          | exact ⟨_, _, _, rfl, ⟨⟨by omega, by omega, by omega, by omega, by omega, by omega⟩, (three w2 _ _ _).1, (three w2 _ _ _).2.2.trans (by rw [← HR1.out]), (three w2 _ _ _).2.1.trans (by rw [← HR2.out]), Ext.drew ((((Ext.refl w2).alloc _).alloc _).alloc _), by simp, by simp⟩⟩
  case rest =>
    obtain ⟨bx, b1, b2, rfl, hg⟩ := hcut
    have hx2w := (((Ext.refl (w.alloc (.cells #[.slice none 0 0, .slice none 0 0] 26)))).trans hx1).trans hx2
    have HX2W := Lib.hid hx2w
    have HG0 := Lib.hid hg
    clear hmk1 hmk2 HM HI HR1 HR2 hx1 hx2 hx2w hg
    go_wp2_with fail
    go_loopw [7, 8] (fun a z wr => ∃ j : Nat, j ≤ q ∧ z = .int .i64 j ∧ a = .int .i64 (gpD (tok (l.take j))).length ∧ GW w2 wr bx b1 b2 26 9 4 n (putC (gpP (tok (l.take j))) ++ List.replicate (n - (gpD (tok (l.take j))).length) ⟨#[]⟩) (gpD (tok (l.take j)) ++ List.replicate (n - (gpD (tok (l.take j))).length) false)) (fun _ z _ => q - (intOf z).toNat)
    case atStart => exact ⟨0, by omega, rfl, rfl, HG0.out⟩
    case round =>
      obtain ⟨j, hj, rfl, rfl, hgr⟩ := hrel
      by_cases hlt : j < q
      · have hjl : j < l.length := by have := HL.out; omega
        have hxr : Ext w2 wr := hgr.2.2.2.2.1
        obtain ⟨b, off, rfl, hb, q0, q1, q2⟩ := sp_at (H.out.ext (((Ext.refl w).alloc _).trans HX2W.out)) HL.out hlt
        have dn : decide (j < q) = true := by rw [decide_eq_true_eq]; exact hlt
        have i0 : (0 : Int) ≤ (j : Int) := by omega
        have i1 : (j : Int) < (q : Int) := by omega
        have hsp := HW.out l[j] (List.getElem_mem hjl)
        have htk := tok_take l j hjl
        have htot : (gpD (tok (l.take (j + 1)))).length ≤ n := by
          have h1 := (tin_ok l HW.out).1
          rw [HN.out] at h1
          have e : tok l = tok (l.take (j + 1)) ++ tok (l.drop (j + 1)) := by rw [← tok_append, List.take_append_drop]
          rw [e, tin_append] at h1
          rw [gpD_length]; omega
        have hsz : ∀ p ∈ gpP (tok (l.take j)), (encs p).length ≤ 1000000000 := fun p hp => by
          have h1 := gpP_le _ p hp
          have h2 := insT_sum (l.take j) (fun x hx => HW.out x (List.mem_of_mem_take hx))
          have e : sumT l = sumT (l.take j) + sumT (l.drop j) := by rw [← sumT_append, List.take_append_drop]
          have := HT.out
          omega
        have htx : l[j].2.2.size ≤ 1000000000 := HTS.out _ (List.getElem_mem hjl)
        obtain ⟨T, hT⟩ : ∃ T, tok (l.take j) = T := ⟨_, rfl⟩
        obtain ⟨T', hT'⟩ : ∃ T', tok (l.take (j + 1)) = T' := ⟨_, rfl⟩
        rw [hT] at hgr htk hsz ⊢
        rw [hT'] at htk htot
        have HT' := Lib.hid hT'
        obtain ⟨D, hD⟩ : ∃ D, (gpD T).length = D := ⟨_, rfl⟩
        rw [hD] at hgr ⊢
        obtain ⟨i, x, hi, hil⟩ := gpP_last T
        rw [hD] at hil
        have hsx := hsz x (by rw [hi]; simp)
        generalize l[j] = s at *
        obtain ⟨a1, a2, a3⟩ := s
        simp only at q0 q1 q2 htx
        have Q0 := Lib.hid q0; have Q2 := Lib.hid q2; have HXR := Lib.hid hxr
        have Q1 := Lib.hid q1
        replace q0 := ext_cell hxr q0; replace q1 := ext_cell hxr q1; replace q2 := ext_cell hxr q2
        rcases hsp with ⟨k1, n1, cs, hcs⟩ | ⟨k1, n1, t1⟩
        · simp only at k1 n1 hcs
          subst k1; subst n1
          rw [tokS_text _ _ hcs] at htk
          have hp1 : gpP T' = i ++ [x ++ cs] := by rw [htk]; exact gpP_snoc_ins T i x cs hi
          have hd1 : gpD T' = gpD T := by rw [htk, gpD_append, gpD_ins, List.append_nil]
          rw [hi, putC_append] at hgr
          have hnew := mkS_enc_append x cs hcs
          have hDn : D ≤ n := by rw [hd1, hD] at htot; exact htot
          have d1 : (D : Int) < (n : Int) + 1 := by omega
          have d0 : (0 : Int) ≤ (D : Int) := by omega
          have hxs : (mkS (encs x)).size ≤ 1000000000 := by rw [size_mkS]; exact hsx
          have hpc : putC [x] = [mkS (encs x)] := rfl
          have hpc2 : putC [x ++ cs] = [mkS (encs (x ++ cs))] := rfl
          rw [hpc, List.append_assoc] at hgr
          have HQ := Lib.hid hp1; have HD1 := Lib.hid hd1; have HD := Lib.hid hD; have HI' := Lib.hid hil; have HNEW := Lib.hid hnew; have HGR := Lib.hid hgr
          clear hp1 hd1 hD hil hnew hgr htk htot hsz hi hcs hT hT' hxr
          generalize mkS (encs x) = X at *
          go_wp2_with fail
          refine region_tail 15 (by kernel_rfl) (by kernel_rfl) ?_
          intro W1 hW1
          simp only [List.take_succ_cons, List.take_zero, List.drop_succ_cons, List.drop_zero]
          have hg1 : GW w2 W1 bx b1 b2 26 9 4 n (putC i ++ ([X] ++ List.replicate (n - D) ⟨#[]⟩)) (gpD T ++ List.replicate (n - D) false) := by rw [hW1]; exact HGR.out.drew
          have z0 := hg1.box.1
          have z1 := (hg1.put (j := D) (t := X) (by rw [List.cons_append, List.nil_append]; exact get_mid _ _ _ _ (by rw [putC_length]; exact HI'.out))).1
          have z2 := (hg1.put (j := D) (t := X) (by rw [List.cons_append, List.nil_append]; exact get_mid _ _ _ _ (by rw [putC_length]; exact HI'.out))).2
          have hx1 : Ext wr W1 := by rw [hW1]; exact (Ext.refl wr).drew
          have q2' := ext_cell hx1 q2
          have hcat : ¬ 9223372036854775807 < X.size + a3.size := by omega
          have HG1 := Lib.hid hg1
          clear hg1 hW1 hx1 q0 q1 q2
          repeat still_step
          refine wpStill_nil ?_
          go_wp2_with fail
          go_roundw
          case rel =>
            refine ⟨j + 1, by omega, by go_num, by rw [HT'.out, HD1.out, HD.out], ?_⟩
            rw [HT'.out, HQ.out, HD1.out, HD.out, putC_append]
            have h := HG1.out.setPut D (X ++ a3)
            have e : putC [x ++ cs] = [X ++ a3] := by show [mkS (encs (x ++ cs))] = _; rw [HNEW.out]
            rw [List.cons_append, List.nil_append, set_mid _ _ _ _ _ (by rw [putC_length]; exact HI'.out)] at h
            rw [List.append_assoc, e]
            exact h
          case measure => simp [intOf]; omega
        · simp only at k1 n1 t1
          obtain ⟨N, hN⟩ : ∃ N : Nat, a2 = (N : Int) := ⟨a2.toNat, by omega⟩
          subst hN
          have htn : tokS (a1, (N : Int), a3) = List.replicate N (if a1 = 3 then Tok.del else Tok.keep) := by rw [tokS_num _ _ _ (by omega), Int.toNat_natCast]
          rw [htn] at htk
          have hNn : N ≤ 512 := by
            have : (gpD T').length = D + N := by rw [htk, gpD_append, List.length_append, hD, gpD_rep _ (by split <;> simp), List.length_replicate]
            omega
          have hND : D + N ≤ n := by
            have : (gpD T').length = D + N := by rw [htk, gpD_append, List.length_append, hD, gpD_rep _ (by split <;> simp), List.length_replicate]
            omega
          have HD := Lib.hid hD; have HTK := Lib.hid htk; have HGR := Lib.hid hgr;
          clear hD htk hgr htot hsz hi hil hsx hT hT' hxr htn t1
          obtain ⟨d, hd⟩ : ∃ d : Bool, d = decide (a1 = 3) := ⟨_, rfl⟩
          obtain ⟨t, ht⟩ : ∃ t : Tok, t = if a1 = 3 then Tok.del else Tok.keep := ⟨_, rfl⟩
          have htt : t = .keep ∨ t = .del := by rw [ht]; split <;> simp
          have htd : decide (t = .del) = d := by rw [ht, hd]; by_cases h : a1 = 3 <;> simp [h]
          have hk2 : (a1 == 2) = false := by rw [beq_eq_false_iff_ne]; omega
          have hk3 : (a1 == 3) = d := by rw [hd]; by_cases h : a1 = 3 <;> simp [h]
          rw [← ht] at HTK
          have HTT := Lib.hid htt; have HTD := Lib.hid htd
          clear hd ht htt htd k1
          go_wp2_with fail
          go_loopw [7, 9] (fun a z wr' => ∃ k m : Nat, k ≤ N ∧ m = D + k ∧ z = .int .i64 k ∧ a = .int .i64 m ∧ GW w2 wr' bx b1 b2 26 9 4 n (putC (gpP (T ++ List.replicate k t)) ++ List.replicate (n - m) ⟨#[]⟩) (gpD T ++ List.replicate k d ++ List.replicate (n - m) false)) (fun _ z _ => N - (intOf z).toNat)
          case atStart => exact ⟨0, D, by omega, rfl, rfl, rfl, by rw [List.replicate_zero, List.replicate_zero, List.append_nil, List.append_nil]; exact HGR.out⟩
          case round =>
            obtain ⟨k, m, hk, hm, rfl, rfl, hgk⟩ := hrel
            have hxk : Ext w2 wr := hgk.2.2.2.2.1
            have p0 := ext_cell hxk Q0.out
            have p1 := ext_cell hxk Q1.out
            by_cases hkN : k < N
            · have dk : decide (k < N) = true := by rw [decide_eq_true_eq]; exact hkN
              have hmn : (m : Int) < (n : Int) := by omega
              have hm0 : (0 : Int) ≤ (m : Int) := by omega
              obtain ⟨r, hr⟩ : ∃ r, n - m = r + 1 := ⟨n - m - 1, by omega⟩
              have hr' : n - (m + 1) = r := by omega
              have hle : (gpD T ++ List.replicate k d).length = m := by rw [List.length_append, List.length_replicate, HD.out]; omega
              rw [hr] at hgk
              have HR' := Lib.hid hr'; have HLE := Lib.hid hle; have HGK := Lib.hid hgk; have HMD := Lib.hid hm
              clear hr hr' hle hgk hm
              go_wp2_with fail
              refine region_tail 10 (by kernel_rfl) (by kernel_rfl) ?_
              intro W1 hW1
              simp only [List.take_succ_cons, List.take_zero, List.drop_succ_cons, List.drop_zero]
              have hg1 : GW w2 W1 bx b1 b2 26 9 4 n (putC (gpP (T ++ List.replicate k t)) ++ List.replicate (r + 1) ⟨#[]⟩) (gpD T ++ List.replicate k d ++ List.replicate (r + 1) false) := by rw [hW1]; exact HGK.out.drew
              have z0 := hg1.box.2
              have z1 := (hg1.gone (j := m) (t := false) (by rw [List.replicate_succ]; exact get_mid _ _ _ _ HLE.out)).2
              have z2 := (hg1.gone (j := m) (t := false) (by rw [List.replicate_succ]; exact get_mid _ _ _ _ HLE.out)).1
              have p0' := ext_cell (show Ext wr W1 by rw [hW1]; exact (Ext.refl wr).drew) p0
              have HG1 := Lib.hid hg1
              clear hg1 hW1 p0 p1
              repeat still_step
              refine wpStill_nil ?_
              go_wp2_with fail
              go_roundw
              case rel =>
                refine ⟨k + 1, m + 1, by omega, by have := HMD.out; omega, by go_num, by go_num, ?_⟩
                have h := HG1.out.setGone m d
                have e1 : T ++ List.replicate (k + 1) t = (T ++ List.replicate k t) ++ [t] := by rw [List.replicate_succ', List.append_assoc]
                have e2 : List.replicate (k + 1) d = List.replicate k d ++ [d] := List.replicate_succ'
                rw [List.replicate_succ, List.replicate_succ, set_mid _ _ _ _ _ HLE.out] at h
                rw [e1, gpP_snoc _ _ HTT.out, putC_append, e2, HR'.out]
                have e3 : putC [[]] = [⟨#[]⟩] := rfl
                rw [e3]
                simp only [List.append_assoc, List.cons_append, List.nil_append] at h ⊢
                exact h
              case measure => simp [intOf]; omega
            · obtain rfl : k = N := by omega
              have dk : decide (k < k) = false := by rw [decide_eq_false_iff_not]; exact hkN
              have HGK := Lib.hid hgk; have HMD := Lib.hid hm
              clear hgk hm
              go_wp2_with fail
              go_roundw
              case rel =>
                have e1 : gpD T' = gpD T ++ List.replicate k d := by rw [HTK.out, gpD_append, gpD_rep _ HTT.out, HTD.out]
                have e2 : (gpD T').length = m := by rw [e1, List.length_append, List.length_replicate, HD.out, HMD.out]
                refine ⟨j + 1, by omega, by go_num, by rw [HT'.out, e2], ?_⟩
                rw [HT'.out, e2, HTK.out, ← HTK.out, e1, HTK.out]
                exact HGK.out
              case measure => simp [intOf]; omega
      · obtain rfl : j = q := by omega
        have dn : decide (j < j) = false := by rw [decide_eq_false_iff_not]; exact hlt
        have hall : l.take j = l := by rw [← HL.out]; exact List.take_length
        have hD : (gpD (tok l)).length = n := by
          have h1 := (tin_ok l HW.out).1
          rw [HN.out] at h1
          rw [gpD_length]; omega
        rw [hall, hD, Nat.sub_self, List.replicate_zero, List.append_nil, List.replicate_zero, List.append_nil] at hgr
        have hxr : Ext (w.alloc (.cells #[.slice none 0 0, .slice none 0 0] 26)) wr := HX2W.out.trans hgr.2.2.2.2.1
        have r0 := box_at _ _ _ _ hxr 0 _ rfl
        have r1 := box_at _ _ _ _ hxr 1 _ rfl
        have f0 := box_free _ _ _ _ hxr 0
        have f1 := box_free _ _ _ _ hxr 1
        have hrow : wr.heap[w.heap.size]? = some (.cells #[.slice none 0 0, .slice none 0 0] 26 (0, 0)) := (hxr.block _ (by simp)).trans (heap_alloc_new w _)
        have g0 := hgr.box.1
        have g1 := hgr.box.2
        have HGR := Lib.hid hgr; have HROW := Lib.hid hrow; have HXR := Lib.hid hxr
        clear hall hD hgr hrow hxr
        go_wp2_with fail
        have e1 := heap_setCell_same wr w.heap.size 0 _ 26 (.slice (some ⟨b1, 0, none⟩) (n + 1) (n + 1)) HROW.out
        have e2 := heap_setCell_same _ w.heap.size 1 _ 26 (.slice (some ⟨b2, 0, none⟩) n n) e1
        refine bodyPost_ret (results_box_tmp rfl _ _ w.heap.size _ _ (0, 0) _ rfl e2 Tryd.underlying26 rfl (by kernel_rfl)) rfl ?_
        have hx0 : Ext w wr := ((Ext.refl w).alloc _).trans HXR.out
        have hs1 : Ext w ((wr.setCell ⟨w.heap.size, 0, none⟩ (.slice (some ⟨b1, 0, none⟩) (n + 1) (n + 1))).setCell ⟨w.heap.size, 1, none⟩ (.slice (some ⟨b2, 0, none⟩) n n)) :=
          Below.setCell (Below.setCell hx0 (Nat.le_refl _) _) (Nat.le_refl _) _
        have hsz : w.heap.size + 1 ≤ w2.heap.size := by have := HX2W.out.size; simp at this; exact this
        obtain ⟨⟨o1, o2, o3, _⟩, _, h2, h3, _, l1, l2⟩ := HGR.out
        refine ⟨_, _, rfl, hs1, rd_row (t := 9) ?_ (by rw [List.length_map]; exact l1), rd_row (t := 4) ?_ (by rw [List.length_map]; exact l2)⟩
        · rw [heap_setCell_other _ _ _ _ (by simp only; omega), heap_setCell_other _ _ _ _ (by simp only; omega)]; exact h2
        · rw [heap_setCell_other _ _ _ _ (by simp only; omega), heap_setCell_other _ _ _ _ (by simp only; omega)]; exact h3
end Go.Proofs.YtelepadnbgcbnaaDoor
namespace Go.Proofs.YtelepadnbgcbnaaDoor
open Go.RowKit
set_option maxRecDepth 100000
set_option maxHeartbeats 4000000

/-- What Of tells. -/
def gapsE (l : List Sp) : Int := if mayL l = 0 then (if 512 < inL l then 4 else 0) else mayL l
def GapsOf (w w' : World) (l : List Sp) (e : Ending) : Prop :=
  Ext w w' ∧ ((gapsE l ≠ 0 ∧ e = .returned (.tuple #[.agg #[.slice none 0 0, .slice none 0 0], .int .i64 (gapsE l)])) ∨
  (gapsE l = 0 ∧ ∃ va vb, e = .returned (.tuple #[.agg #[va, vb], .int .i64 0]) ∧ Rd w' 1 va ((inL l).toNat + 1) ((putC (gpP (tok l))).map Value.string) ∧ Rd w' 1 vb (inL l).toNat ((gpD (tok l)).map Value.bool)))
theorem mayL_all {l : List Sp} (h : mayL l = 0) (hq : l.length ≤ 1000) : (∀ s ∈ l, mayS s.1 s.2.1 s.2.2 = 0) ∧ 0 ≤ inL l ∧ inL l ≤ 1048576 := by
  have he : errL l = 0 := by
    unfold mayL at h
    by_cases h0 : errL l = 0
    · exact h0
    · rw [if_neg h0] at h; exact absurd h h0
  have ha : ∀ s ∈ l, mayS s.1 s.2.1 s.2.2 = 0 := by
    intro s hs
    obtain ⟨i, hi, rfl⟩ := List.mem_iff_getElem.1 hs
    clear h hs
    have hall : ∀ k, k ≤ l.length → errL (l.take k) = 0 := by
      intro k hk
      by_cases hne : errL (l.take k) = 0
      · exact hne
      · rw [← errL_pre l k hne, he]
    have h1 := hall (i + 1) (by omega)
    rw [errL_take l i hi, if_pos (hall i (by omega))] at h1
    exact h1
  have hp := may_sum l ha
  have h0 : 0 ≤ inL l := by rw [← hp.2]; exact sumN_pos l hp.1
  have hb : inL l ≤ l.length * 1048576 := by
    clear h he hq hp h0
    induction l with
    | nil => exact Int.le_refl _
    | cons s r ih =>
      have h1 := ih fun x hx => ha x (List.mem_cons_of_mem _ hx)
      have h2 := may_pos s (ha s (List.mem_cons_self ..))
      rw [inL_cons, List.length_cons]
      have : ((r.length + 1 : Nat) : Int) * 1048576 = (r.length : Int) * 1048576 + 1048576 := by omega
      omega
  refine ⟨ha, h0, ?_⟩
  unfold mayL at h
  rw [if_pos he] at h
  have hw : wrap64 (inL l) = inL l := by
    have : (l.length : Int) * 1048576 ≤ 1000 * 1048576 := by omega
    unfold wrap64; omega
  rw [hw] at h
  split at h <;> omega
theorem gapsR_c (A : Option Addr) (q c : Nat) (l : List Sp) (w : World) (h : Rd w 3 (.slice A q c) q (spCells l)) (hl : l.length = q) (hq : q ≤ 1000) (hts : ∀ s ∈ l, s.2.2.size ≤ 1000000000) (hT : sumT l ≤ 1000000000) :
    Calls Tryd.prog 11 #[.slice A q c] w fun e w' => GapsOf w w' l e := by
  by_cases hm : mayL l = 0
  · obtain ⟨ha, h0, h1⟩ := mayL_all hm (by omega)
    by_cases hb : 512 < inL l
    · have hE : gapsE l = 4 := by unfold gapsE; rw [if_pos hm, if_pos hb]
      have HM : Hid (∀ w', Ext w w' → _) := Lib.hid fun w' hx => mayR4_c A q c l w' (h.ext hx) hl hq hts
      have HI : Hid (∀ w', Ext w w' → _) := Lib.hid fun w' hx => inR4_c A q c l w' (h.ext hx) hl hq
      have hw : wrap64 (inL l) = inL l := by unfold wrap64; omega
      rw [hm] at HM
      rw [hw] at HI
      have HE := Lib.hid hE
      clear h hl hts hT ha hm hE hw
      generalize inL l = n at *
      go_enter Tryd.func11, Tryd.ntmps11
      go_wp2_with fail
      refine (HM.out _ ((Ext.refl w).alloc _)).mono ?_; rintro e w1 ⟨rfl, hx1⟩
      go_wp2_with fail
      refine (HI.out _ (((Ext.refl w).alloc _).trans hx1)).mono ?_; rintro e w2 ⟨rfl, hx2⟩
      have hxx := hx1.trans hx2
      have r0 := box_at _ _ _ _ hxx 0 _ rfl
      have r1 := box_at _ _ _ _ hxx 1 _ rfl
      have f0 := box_free _ _ _ _ hxx 0
      have f1 := box_free _ _ _ _ hxx 1
      have hrow : w2.heap[w.heap.size]? = some (.cells #[.slice none 0 0, .slice none 0 0] 26 (0, 0)) := (hxx.block _ (by simp)).trans (heap_alloc_new w _)
      have HROW := Lib.hid hrow; have HXX := Lib.hid hxx
      clear hrow hxx hx1 hx2
      go_wp2_with fail
      have e1 := heap_setCell_same w2 w.heap.size 0 _ 26 (.slice none 0 0) HROW.out
      have e2 := heap_setCell_same _ w.heap.size 1 _ 26 (.slice none 0 0) e1
      refine bodyPost_ret (results_box_tmp rfl _ _ w.heap.size _ _ (0, 0) _ rfl e2 Tryd.underlying26 rfl (by kernel_rfl)) rfl ?_
      exact ⟨Below.setCell (Below.setCell (((Ext.refl w).alloc _).trans HXX.out) (Nat.le_refl _) _) (Nat.le_refl _) _, .inl ⟨by rw [HE.out]; omega, by rw [HE.out]; rfl⟩⟩
    · have hE : gapsE l = 0 := by unfold gapsE; rw [if_pos hm, if_neg hb]
      refine (gapsR_walk A q c l (inL l).toNat w h hl hq (fun s hs => okW_of_may (ha s hs)) (by omega) (by omega) hm hts hT).mono ?_
      rintro e w' ⟨va, vb, rfl, hx, h1, h2⟩
      exact ⟨hx, .inr ⟨hE, va, vb, rfl, h1, h2⟩⟩
  · have hE : gapsE l = mayL l := by unfold gapsE; rw [if_neg hm]
    have HM : Hid (∀ w', Ext w w' → _) := Lib.hid fun w' hx => mayR4_c A q c l w' (h.ext hx) hl hq hts
    have hne : (mayL l != 0) = true := by rw [bne_iff_ne]; exact hm
    have HE := Lib.hid hE; have HNE := Lib.hid hm
    clear h hl hts hT hm hE
    generalize mayL l = y at *
    go_enter Tryd.func11, Tryd.ntmps11
    go_wp2_with fail
    refine (HM.out _ ((Ext.refl w).alloc _)).mono ?_; rintro e w2 ⟨rfl, hxx⟩
    have r0 := box_at _ _ _ _ hxx 0 _ rfl
    have r1 := box_at _ _ _ _ hxx 1 _ rfl
    have f0 := box_free _ _ _ _ hxx 0
    have f1 := box_free _ _ _ _ hxx 1
    have hrow : w2.heap[w.heap.size]? = some (.cells #[.slice none 0 0, .slice none 0 0] 26 (0, 0)) := (hxx.block _ (by simp)).trans (heap_alloc_new w _)
    have HROW := Lib.hid hrow; have HXX := Lib.hid hxx
    clear hrow hxx
    go_wp2_with fail
    have e1 := heap_setCell_same w2 w.heap.size 0 _ 26 (.slice none 0 0) HROW.out
    have e2 := heap_setCell_same _ w.heap.size 1 _ 26 (.slice none 0 0) e1
    refine bodyPost_ret (results_box_tmp rfl _ _ w.heap.size _ _ (0, 0) _ rfl e2 Tryd.underlying26 rfl (by kernel_rfl)) rfl ?_
    exact ⟨Below.setCell (Below.setCell (((Ext.refl w).alloc _).trans HXX.out) (Nat.le_refl _) _) (Nat.le_refl _) _, .inl ⟨by rw [HE.out]; exact HNE.out, by rw [HE.out]; rfl⟩⟩
end Go.Proofs.YtelepadnbgcbnaaDoor
namespace Go.Proofs.YtelepadnbgcbnaaDoor
open Go.RowKit
set_option maxRecDepth 100000
set_option maxHeartbeats 4000000

/-- The operation of some gaps, span by span. -/
def raw : List ByteArray → List Bool → List Sp
  | [], _ => []
  | t :: ts, [] => (2, 0, t) :: raw ts []
  | t :: ts, d :: ds => (2, 0, t) :: (if d then 3 else 1, 1, ⟨#[]⟩) :: raw ts ds
def okTs (ts : List ByteArray) : Bool := ts.all fun t => (dec (bs t)).isSome
def spansE (ts : List ByteArray) (ds : List Bool) : Int := if ts.length = ds.length + 1 then (if 512 < ds.length then 4 else if okTs ts then 0 else 3) else 5
def SpansOf (w w' : World) (ts : List ByteArray) (ds : List Bool) (e : Ending) : Prop :=
  Ext w w' ∧ ((spansE ts ds ≠ 0 ∧ e = .returned (.tuple #[.slice none 0 0, .int .i64 (spansE ts ds)])) ∨
  (spansE ts ds = 0 ∧ ∃ v, e = .returned (.tuple #[v, .int .i64 0]) ∧ Rd w' 3 v (normL (raw ts ds)).length (spCells (normL (raw ts ds)))))
theorem raw_len (ts : List ByteArray) (ds : List Bool) : (raw ts ds).length ≤ ts.length + ds.length := by
  induction ts generalizing ds with
  | nil => simp [raw]
  | cons t ts ih =>
    cases ds with
    | nil => have := ih []; simp [raw] at this ⊢; omega
    | cons d ds => have := ih ds; simp [raw]; omega
theorem raw_take (ts : List ByteArray) (ds : List Bool) (i : Nat) (h : i < ts.length) :
    raw (ts.take (i + 1)) (ds.take (i + 1)) = raw (ts.take i) (ds.take i) ++ ((2, 0, ts[i]) :: if h : i < ds.length then [(if ds[i] then 3 else 1, 1, ⟨#[]⟩)] else []) := by
  induction i generalizing ts ds with
  | zero =>
    cases ts with
    | nil => simp at h
    | cons t ts => cases ds <;> simp [raw]
  | succ i ih =>
    cases ts with
    | nil => simp at h
    | cons t ts =>
      have h' : i < ts.length := by simpa using h
      cases ds with
      | nil =>
        have := ih ts [] h'
        simp at this
        simp [raw, this]
      | cons d ds =>
        have := ih ts ds h'
        simp only [List.take_succ_cons, raw, List.cons_append, this, List.getElem_cons_succ, List.length_cons]
        by_cases hd : i < ds.length
        · rw [dif_pos hd, dif_pos (by omega)]
        · rw [dif_neg hd, dif_neg (by omega)]
theorem raw_sum (ts : List ByteArray) (ds : List Bool) : sumN (raw ts ds) ≤ ds.length ∧ sumT (raw ts ds) = (ts.map fun t => t.size).sum ∧ pos (raw ts ds) := by
  induction ts generalizing ds with
  | nil => exact ⟨by simp [raw, sumN], rfl, fun s hs => by cases hs⟩
  | cons t ts ih =>
    have e0 : (⟨#[]⟩ : ByteArray).size = 0 := rfl
    cases ds with
    | nil =>
      obtain ⟨h1, h2, h3⟩ := ih []
      refine ⟨?_, ?_, ?_⟩
      · show (0 : Int) + sumN (raw ts []) ≤ _; omega
      · show t.size + sumT (raw ts []) = _; rw [h2, List.map_cons, List.sum_cons]
      · intro s hs
        rcases List.mem_cons.1 hs with rfl | hs
        · exact Int.le_refl _
        · exact h3 s hs
    | cons d ds =>
      obtain ⟨h1, h2, h3⟩ := ih ds
      refine ⟨?_, ?_, ?_⟩
      · show (0 : Int) + (1 + sumN (raw ts ds)) ≤ _; rw [List.length_cons]; omega
      · show t.size + ((⟨#[]⟩ : ByteArray).size + sumT (raw ts ds)) = _; rw [h2, e0, Nat.zero_add, List.map_cons, List.sum_cons]
      · intro s hs
        rcases List.mem_cons.1 hs with rfl | hs
        · exact Int.le_refl _
        · rcases List.mem_cons.1 hs with rfl | hs
          · show (0 : Int) ≤ 1; omega
          · exact h3 s hs
/-- What is read of a row of single cells. -/
theorem rd_at1 {w : World} {A : Option Addr} {n c : Nat} {xs : List Value} (h : Rd w 1 (.slice A n c) n xs) {k : Nat} (hk : k < n) {u : Value} (hu : xs[k]? = some u) :
    ∃ b off, A = some ⟨b, off, none⟩ ∧ b < w.heap.size ∧ w.cell? ⟨b, off + k, none⟩ = some u := by
  obtain ⟨b, off, u', hA, hb, h1, h2⟩ := h.cell hk
  rw [h1] at hu
  injection hu with hu
  subst hu
  exact ⟨b, off, hA, hb, h2⟩
theorem spansR_walk (A B : Option Addr) (np cp ng cg : Nat) (ts : List ByteArray) (ds : List Bool) (w : World) (h : Rd w 1 (.slice A np cp) np (ts.map Value.string)) (h' : Rd w 1 (.slice B ng cg) ng (ds.map Value.bool))
    (hl : ts.length = np) (hl' : ds.length = ng) (hlen : np = ng + 1) (hng : ng ≤ 512) (hts : ∀ t ∈ ts, t.size ≤ 1000000000) (hT : (ts.map fun t => t.size).sum ≤ 1000000000) :
    Calls Tryd.prog 14 #[.agg #[.slice A np cp, .slice B ng cg]] w fun e w' => SpansOf w w' ts ds e := by
  obtain ⟨i, hi, hz0, hz1, hz2⟩ := info_parts info_sp5
  have hcnt : spansE ts ds = if okTs ts then 0 else 3 := by unfold spansE; rw [if_pos (by omega), if_neg (by omega)]
  have HV : Hid (∀ t ∈ ts, ∀ w', _) := Lib.hid fun t ht w' => validR_c t w' (hts t ht)
  have hok : Ok (raw ts ds) := by
    obtain ⟨h1, h2, h3⟩ := raw_sum ts ds
    exact ⟨h3, by omega, by rw [h2]; exact hT⟩
  have hrl := raw_len ts ds
  have HP := Lib.hid h; have HG := Lib.hid h'; have HL := Lib.hid hl; have HL' := Lib.hid hl'; have HC := Lib.hid hcnt; have HOK := Lib.hid hok; have HRL := Lib.hid hrl; have HLN := Lib.hid hlen
  have HX0 := Lib.hid (Ext.refl (w.alloc (.cells #[.slice A np cp, .slice B ng cg] 26)))
  have hrel0 : Own ((w.alloc (.cells #[.slice A np cp, .slice B ng cg] 26)).alloc (.cells #[] 29)) (w.heap.size + 1) 29 3 (.slice (some ⟨w.heap.size + 1, 0, none⟩) 0 0) 0 (spCells []) ∧ Ext (w.alloc (.cells #[.slice A np cp, .slice B ng cg] 26)) ((w.alloc (.cells #[.slice A np cp, .slice B ng cg] 26)).alloc (.cells #[] 29)) := by
    have h := Own.made (w.alloc (.cells #[.slice A np cp, .slice B ng cg] 26)) (w.heap.size + 1) 29 3 0 #[] (by simp) (by omega) rfl
    rw [size_alloc] at h
    exact ⟨h, (Ext.refl _).alloc _⟩
  have HR0 := Lib.hid hrel0
  have hnp : np ≤ 513 := by omega
  have c0 : ((np : Int) != (ng : Int) + 1) = false := by rw [bne_eq_false_iff_eq]; omega
  have c1 : ¬ 512 < (ng : Int) := by omega
  have c2 : (ng : Int) ≤ 512 := by omega
  clear h h' hl hl' hcnt hok hrl hrel0 hts hT hlen
  go_enter Tryd.func14, Tryd.ntmps14
  go_wp2_with fail
  have hsz : (w.alloc (.cells #[.slice A np cp, .slice B ng cg] 26)).heap.size = w.heap.size + 1 := by simp
  have HSZ := Lib.hid hsz
  clear hsz
  go_loopw [4, 5] (fun o z wr => ∃ j : Nat, j ≤ np ∧ z = .int .i64 j ∧ okTs (ts.take j) = true ∧ Own wr (w.heap.size + 1) 29 3 o (raw (ts.take j) (ds.take j)).length (spCells (raw (ts.take j) (ds.take j))) ∧ Below (w.heap.size + 1) (w.alloc (.cells #[.slice A np cp, .slice B ng cg] 26)) wr) (fun _ z _ => np - (intOf z).toNat)
  case atStart => exact ⟨0, by omega, rfl, rfl, HR0.out.1, by have h := HR0.out.2.below; rw [HSZ.out] at h; exact h⟩
  case round =>
    obtain ⟨j, hj, rfl, hok, hown, hbel⟩ := hrel
    have hxr : Ext (w.alloc (.cells #[.slice A np cp, .slice B ng cg] 26)) wr := by have h := hbel; rw [← HSZ.out] at h; exact h
    have hxw : Ext w wr := ((Ext.refl w).alloc _).trans hxr
    by_cases hlt : j < np
    · have hjl : j < ts.length := by have := HL.out; omega
      obtain ⟨b, off, rfl, hb, q0⟩ := rd_at1 (HP.out.ext hxw) hlt (u := .string ts[j]) (by simp [List.getElem?_eq_getElem hjl])
      have dn : decide (j < np) = true := by rw [decide_eq_true_eq]; exact hlt
      have i0 : (0 : Int) ≤ (j : Int) := by omega
      have i1 : (j : Int) < (np : Int) := by omega
      have g0 := box_at _ _ _ _ hxr 0 _ rfl
      have g1 := box_at _ _ _ _ hxr 1 _ rfl
      have hvt := HV.out ts[j] (List.getElem_mem hjl)
      have hst := raw_take ts ds j hjl
      have hrl1 : (raw (ts.take j) (ds.take j)).length ≤ 2000 := by
        have := raw_len (ts.take j) (ds.take j)
        rw [List.length_take, List.length_take] at this
        have := HLN.out
        omega
      obtain ⟨v, hv⟩ : ∃ v, (dec (bs ts[j])).isSome = v := ⟨_, rfl⟩
      rw [hv] at hvt
      have HVT := Lib.hid hvt
      cases v
      · have hE : spansE ts ds = 3 := by
          rw [HC.out, if_neg]
          intro h
          unfold okTs at h
          rw [List.all_eq_true] at h
          rw [h _ (List.getElem_mem hjl)] at hv
          cases hv
        have HE := Lib.hid hE; have HXW := Lib.hid hxw
        clear hvt hst hown hbel hok hE hv hxw hrl1
        generalize ts[j] = t at *
        go_wp2_with fail
        refine (HVT.out _).mono ?_; rintro e w1 ⟨rfl, hx1⟩
        go_wp2_with fail
        go_ret2
        exact ⟨HXW.out.trans hx1, .inl ⟨by rw [HE.out]; omega, by rw [HE.out]; rfl⟩⟩
      · have hok1 : okTs (ts.take (j + 1)) = true := by
          unfold okTs at hok ⊢
          rw [List.take_add_one, List.getElem?_eq_getElem hjl, List.all_append, hok]
          simp [hv]
        have HOK1 := Lib.hid hok1
        clear hvt hok hok1
        obtain ⟨R1, hR1⟩ : ∃ R1, raw (ts.take (j + 1)) (ds.take (j + 1)) = R1 := ⟨_, rfl⟩
        rw [hR1] at hst
        have HR1 := Lib.hid hR1
        clear hR1 hv
        generalize raw (ts.take j) (ds.take j) = xs at *
        obtain ⟨t, ht⟩ : ∃ t, ts[j] = t := ⟨_, rfl⟩
        rw [ht] at hst HVT q0
        clear ht
        have HOWN := Lib.hid hown; have HBEL := Lib.hid hbel; have HXR := Lib.hid hxr; have HST := Lib.hid hst; have HXW := Lib.hid hxw
        clear hown hbel hxr hst hxw
        go_wp2_with fail
        refine (HVT.out _).mono ?_; rintro e w1 ⟨rfl, hx1⟩
        have q0' := ext_cell hx1 q0
        have g0' := ext_cell hx1 g0
        have g1' := ext_cell hx1 g1
        have hbel1 : Below (w.heap.size + 1) (w.alloc (.cells #[.slice (some ⟨b, off, none⟩) np cp, .slice B ng cg] 26)) w1 := HBEL.out.trans (hx1.mono HOWN.out.2)
        obtain ⟨v', w', happ, hown', hbel'⟩ := app_new (P := Tryd.prog) 22 22 29 i _ 3 32 Tryd.underlying22 hi hz0 hz1 hz2 rfl (by omega) (by omega)
          hbel1 (HOWN.out.ext hx1) (by omega) 1 #[.int .i64 2, .int .i64 0, .string t] rfl (by omega) (by simp [Value.oneCell']) 29
        have HAP := Lib.hid happ
        have hx2 : Ext (w.alloc (.cells #[.slice (some ⟨b, off, none⟩) np cp, .slice B ng cg] 26)) w' := by have h := hbel'; rw [← HSZ.out] at h; exact h
        have k0 := box_at _ _ _ _ hx2 0 _ rfl
        have k1 := box_at _ _ _ _ hx2 1 _ rfl
        by_cases hg : j < ng
        · have hgl : j < ds.length := by have := HL'.out; omega
          have dg : decide (j < ng) = true := by rw [decide_eq_true_eq]; exact hg
          have i2 : (j : Int) < (ng : Int) := by omega
          obtain ⟨b2, off2, rfl, hb2, r0⟩ := rd_at1 (HG.out.ext (((Ext.refl w).alloc _).trans hx2)) hg (u := .bool ds[j]) (by simp [List.getElem?_eq_getElem hgl])
          have hst := HST.out
          rw [dif_pos hgl] at hst
          obtain ⟨d, hd⟩ : ∃ d, ds[j] = d := ⟨_, rfl⟩
          rw [hd] at hst r0
          clear hd
          obtain ⟨kd, hkd⟩ : ∃ kd : Int, (if d then (3 : Int) else 1) = kd := ⟨_, rfl⟩
          rw [hkd] at hst
          obtain ⟨v2, w2, happ2, hown2, hbel2⟩ := app_new (P := Tryd.prog) 22 22 29 i _ 3 32 Tryd.underlying22 hi hz0 hz1 hz2 rfl (by omega) (by omega)
            hbel' hown' (by omega) 1 #[.int .i64 kd, .int .i64 1, .string ⟨#[]⟩] rfl (by omega) (by simp [Value.oneCell']) 29
          have HAP2 := Lib.hid happ2
          have hown3 : Own w2 (w.heap.size + 1) 29 3 v2 R1.length (spCells R1) := by
            rw [hst, spCells_append, List.length_append]
            rw [List.append_assoc] at hown2
            exact hown2
          have HOWN3 := Lib.hid hown3; have HBEL2 := Lib.hid hbel2
          clear happ happ2 hown2 hown3 hbel2 hown' hbel' hx2 hst hbel1 hx1 q0 g0 g1
          cases d
          all_goals
            first | (rw [if_pos rfl] at hkd) | (rw [if_neg (by decide)] at hkd)
            subst hkd
            go_wp2_with (at_builtin; first | (with_reducible refine wpList_append_run rfl rfl HAP.out rfl rfl ?_) | (with_reducible refine wpList_append_run rfl rfl HAP2.out rfl rfl ?_))
            go_roundw
            case rel => exact ⟨j + 1, by omega, by go_num, HOK1.out, by rw [HR1.out]; exact HOWN3.out, HBEL2.out⟩
            case measure => simp [intOf]; omega
        · have dg : decide (j < ng) = false := by rw [decide_eq_false_iff_not]; exact hg
          have hst := HST.out
          rw [dif_neg (by have := HL'.out; omega)] at hst
          have hown3 : Own w' (w.heap.size + 1) 29 3 v' R1.length (spCells R1) := by
            rw [hst, spCells_append, List.length_append]
            exact hown'
          have HOWN3 := Lib.hid hown3; have HBEL2 := Lib.hid hbel'
          clear happ hown3 hown' hbel' hx2 hst hbel1 hx1 q0 g0 g1
          have HJ1 : Hid (j + 1 ≤ np) := Lib.hid (by omega)
          go_wp2_with (at_builtin; (with_reducible refine wpList_append_run rfl rfl HAP.out rfl rfl ?_))
          go_roundw
          case rel => exact ⟨j + 1, HJ1.out, by go_num, HOK1.out, by rw [HR1.out]; exact HOWN3.out, HBEL2.out⟩
          case measure => have := HJ1.out; simp [intOf]; omega
    · obtain rfl : j = np := by omega
      have dn : decide (j < j) = false := by rw [decide_eq_false_iff_not]; exact hlt
      have h1 : ts.take j = ts := by rw [← HL.out]; exact List.take_length
      have h2 : ds.take j = ds := List.take_of_length_le (by have := HL'.out; have := HLN.out; omega)
      rw [h1] at hok
      rw [h1, h2] at hown
      have hE : spansE ts ds = 0 := by rw [HC.out, if_pos hok]
      have g0 := box_at _ _ _ _ hxr 0 _ rfl
      obtain ⟨a, ca, rfl, _⟩ := hown.len
      have hof := ofR5_c a (raw ts ds).length ca (raw ts ds) wr hown.rd rfl (by have := HRL.out; have := HL.out; have := HL'.out; have := HLN.out; omega) HOK.out
      have HOF := Lib.hid hof; have HE := Lib.hid hE; have HXW := Lib.hid hxw
      clear hof hE hown hbel hok h1 h2 hxw hxr
      go_wp2_with fail
      refine HOF.out.mono ?_; rintro e w1 ⟨v, rfl, hx1, hown1⟩
      go_wp2_with fail
      go_ret2
      exact ⟨HXW.out.trans hx1, .inr ⟨HE.out, _, rfl, hown1.rd⟩⟩
end Go.Proofs.YtelepadnbgcbnaaDoor
namespace Go.Proofs.YtelepadnbgcbnaaDoor
open Go.RowKit
set_option maxRecDepth 100000
set_option maxHeartbeats 4000000

theorem spansR_c (A B : Option Addr) (np cp ng cg : Nat) (ts : List ByteArray) (ds : List Bool) (w : World) (h : Rd w 1 (.slice A np cp) np (ts.map Value.string)) (h' : Rd w 1 (.slice B ng cg) ng (ds.map Value.bool))
    (hl : ts.length = np) (hl' : ds.length = ng) (hb1 : np ≤ 1000000000) (hb2 : ng ≤ 1000000000) (hts : ∀ t ∈ ts, t.size ≤ 1000000000) (hT : (ts.map fun t => t.size).sum ≤ 1000000000) :
    Calls Tryd.prog 14 #[.agg #[.slice A np cp, .slice B ng cg]] w fun e w' => SpansOf w w' ts ds e := by
  by_cases hn : np = ng + 1
  · by_cases hg : 512 < ng
    · have hE : spansE ts ds = 4 := by unfold spansE; rw [if_pos (by omega), if_pos (by omega)]
      have c0 : ((np : Int) != (ng : Int) + 1) = false := by rw [bne_eq_false_iff_eq]; omega
      have c1 : 512 < (ng : Int) := by omega
      have HE := Lib.hid hE
      clear h h' hl hl' hts hT hE hn hg
      go_enter Tryd.func14, Tryd.ntmps14
      go_wp2_with fail
      go_ret2
      exact ⟨(Ext.refl w).alloc _, .inl ⟨by rw [HE.out]; omega, by rw [HE.out]; rfl⟩⟩
    · exact spansR_walk A B np cp ng cg ts ds w h h' hl hl' hn (by omega) hts hT
  · have hE : spansE ts ds = 5 := by unfold spansE; rw [if_neg (by omega)]
    have c0 : ((np : Int) != (ng : Int) + 1) = true := by rw [bne_iff_ne]; omega
    have HE := Lib.hid hE
    clear h h' hl hl' hts hT hE hn
    go_enter Tryd.func14, Tryd.ntmps14
    go_wp2_with fail
    go_ret2
    exact ⟨(Ext.refl w).alloc _, .inl ⟨by rw [HE.out]; omega, by rw [HE.out]; rfl⟩⟩
theorem take_more1 {α : Type} (l m : List α) (j : Nat) (h1 : j < l.length) (h2 : j < m.length) (h : l.take j = m.take j) (h3 : l[j] = m[j]) : l.take (j + 1) = m.take (j + 1) := by
  rw [List.take_add_one, List.take_add_one, h, List.getElem?_eq_getElem h1, List.getElem?_eq_getElem h2, h3]
theorem same6_walk (A B A' B' : Option Addr) (n c k d c' d' : Nat) (ps qs : List ByteArray) (gs hs : List Bool) (w : World)
    (h1 : Rd w 1 (.slice A n c) n (ps.map Value.string)) (h2 : Rd w 1 (.slice B k d) k (gs.map Value.bool)) (h3 : Rd w 1 (.slice A' n c') n (qs.map Value.string)) (h4 : Rd w 1 (.slice B' k d') k (hs.map Value.bool))
    (l1 : ps.length = n) (l2 : gs.length = k) (l3 : qs.length = n) (l4 : hs.length = k) (hn : n ≤ 100000) (hk : k ≤ 100000) :
    Calls Tryd.prog 15 #[.agg #[.slice A n c, .slice B k d], .agg #[.slice A' n c', .slice B' k d']] w fun e w' => e = .returned (.bool (decide (ps = qs ∧ gs = hs))) ∧ Ext w w' := by
  have H1 := Lib.hid h1; have H2 := Lib.hid h2; have H3 := Lib.hid h3; have H4 := Lib.hid h4
  have L1 := Lib.hid l1; have L2 := Lib.hid l2; have L3 := Lib.hid l3; have L4 := Lib.hid l4
  have HB1 : Hid (∀ wr, Ext ((w.alloc (.cells #[.slice A n c, .slice B k d] 26)).alloc (.cells #[.slice A' n c', .slice B' k d'] 26)) wr → wr.cell? ⟨w.heap.size, 0, none⟩ = some (.slice A n c) ∧ wr.cell? ⟨w.heap.size, 1, none⟩ = some (.slice B k d) ∧ wr.cell? ⟨w.heap.size + 1, 0, none⟩ = some (.slice A' n c') ∧ wr.cell? ⟨w.heap.size + 1, 1, none⟩ = some (.slice B' k d')) := Lib.hid fun wr hx => by
    have e1 := fun q u hu => box_at w _ #[.slice A n c, .slice B k d] 26 (((Ext.refl _).alloc _).trans hx) q u hu
    have e2 := fun q u hu => box_at (w.alloc (.cells #[.slice A n c, .slice B k d] 26)) _ #[.slice A' n c', .slice B' k d'] 26 hx q u hu
    rw [size_alloc] at e2
    exact ⟨e1 0 _ rfl, e1 1 _ rfl, e2 0 _ rfl, e2 1 _ rfl⟩
  have HXW : Hid (Ext w ((w.alloc (.cells #[.slice A n c, .slice B k d] 26)).alloc (.cells #[.slice A' n c', .slice B' k d'] 26))) := Lib.hid (((Ext.refl w).alloc _).alloc _)
  clear h1 h2 h3 h4 l1 l2 l3 l4
  go_enter Tryd.func15, Tryd.ntmps15
  go_wp2_with fail
  go_loopw [5] (fun q wr => ∃ j : Nat, j ≤ n ∧ q = .int .i64 j ∧ Ext ((w.alloc (.cells #[.slice A n c, .slice B k d] 26)).alloc (.cells #[.slice A' n c', .slice B' k d'] 26)) wr ∧ ps.take j = qs.take j) (fun q _ => n - (intOf q).toNat)
  case atStart => exact ⟨0, by omega, rfl, Ext.refl _, rfl⟩
  case round =>
    obtain ⟨j, hj, rfl, hxr, heq⟩ := hrel
    obtain ⟨g1, g2, g3, g4⟩ := HB1.out _ hxr
    by_cases hlt : j < n
    · have hjl : j < ps.length := by have := L1.out; omega
      have hjm : j < qs.length := by have := L3.out; omega
      obtain ⟨b, off, rfl, hb, q0⟩ := rd_at1 (H1.out.ext (HXW.out.trans hxr)) hlt (u := .string ps[j]) (by simp [List.getElem?_eq_getElem hjl])
      obtain ⟨b', off', rfl, hb', r0⟩ := rd_at1 (H3.out.ext (HXW.out.trans hxr)) hlt (u := .string qs[j]) (by simp [List.getElem?_eq_getElem hjm])
      have dn : decide (j < n) = true := by rw [decide_eq_true_eq]; exact hlt
      have i0 : (0 : Int) ≤ (j : Int) := by omega
      have i1 : (j : Int) < (n : Int) := by omega
      have HT := Lib.hid (take_more1 ps qs j hjl hjm heq)
      have HNO : Hid (ps[j] ≠ qs[j] → ¬ (ps = qs ∧ gs = hs)) := Lib.hid (fun hne e => hne (by have := e.1; subst this; rfl))
      generalize ps[j] = t at *
      generalize qs[j] = u at *
      clear heq
      by_cases c1 : t = u
      · subst c1
        have HOK := Lib.hid (HT.out rfl)
        clear HT HNO
        go_wp2_with fail
        go_quiet (fail)
        go_wp2_with fail
        go_roundw
        case rel => exact ⟨j + 1, by omega, by go_num, hxr.drewN _, HOK.out⟩
        case measure => simp [intOf]; omega
      · have HD := Lib.hid (decide_eq_false (HNO.out c1))
        have hc := toList_ne c1
        clear HT HNO c1
        go_wp2_with fail
        go_quiet (fail)
        go_wp2_with fail
        go_ret
        rw [HD.out]
        exact ⟨rfl, HXW.out.trans (hxr.drewN _)⟩
    · obtain rfl : n = j := by omega
      have dn : decide (n < n) = false := by rw [decide_eq_false_iff_not]; exact hlt
      have hpq : ps = qs := by
        rw [← List.take_length (l := ps), ← List.take_length (l := qs), L1.out, L3.out]; exact heq
      have HPQ := Lib.hid hpq
      clear heq hpq
      go_wp2_with fail
      go_loopw [6] (fun q wr' => ∃ i : Nat, i ≤ k ∧ q = .int .i64 i ∧ Ext ((w.alloc (.cells #[.slice A n c, .slice B k d] 26)).alloc (.cells #[.slice A' n c', .slice B' k d'] 26)) wr' ∧ gs.take i = hs.take i) (fun q _ => k - (intOf q).toNat)
      case atStart => exact ⟨0, by omega, rfl, hxr, rfl⟩
      case round =>
        obtain ⟨i, hi, rfl, hxk, heq⟩ := hrel
        obtain ⟨f1, f2, f3, f4⟩ := HB1.out _ hxk
        by_cases hlk : i < k
        · have hjl : i < gs.length := by have := L2.out; omega
          have hjm : i < hs.length := by have := L4.out; omega
          obtain ⟨b, off, rfl, hb, q0⟩ := rd_at1 (H2.out.ext (HXW.out.trans hxk)) hlk (u := .bool gs[i]) (by simp [List.getElem?_eq_getElem hjl])
          obtain ⟨b', off', rfl, hb', r0⟩ := rd_at1 (H4.out.ext (HXW.out.trans hxk)) hlk (u := .bool hs[i]) (by simp [List.getElem?_eq_getElem hjm])
          have dk : decide (i < k) = true := by rw [decide_eq_true_eq]; exact hlk
          have i0 : (0 : Int) ≤ (i : Int) := by omega
          have i1 : (i : Int) < (k : Int) := by omega
          have HT := Lib.hid (take_more1 gs hs i hjl hjm heq)
          have HNO : Hid (gs[i] ≠ hs[i] → ¬ (ps = qs ∧ gs = hs)) := Lib.hid (fun hne e => hne (by have := e.2; subst this; rfl))
          generalize gs[i] = t at *
          generalize hs[i] = u at *
          clear heq
          by_cases c1 : t = u
          · subst c1
            have HOK := Lib.hid (HT.out rfl)
            clear HT HNO
            cases t
            all_goals
              go_wp2_with fail
              go_quiet (fail)
              go_wp2_with fail
              go_roundw
              case rel => exact ⟨i + 1, by omega, by go_num, hxk.drewN _, HOK.out⟩
              case measure => simp [intOf]; omega
          · have HD := Lib.hid (decide_eq_false (HNO.out c1))
            have hc : (t = true ∧ u = false) ∨ (t = false ∧ u = true) := by cases t <;> cases u <;> simp at c1 ⊢
            clear HT HNO c1
            rcases hc with ⟨rfl, rfl⟩ | ⟨rfl, rfl⟩
            all_goals
              go_wp2_with fail
              go_quiet (fail)
              go_wp2_with fail
              go_ret
              rw [HD.out]
              exact ⟨rfl, HXW.out.trans (hxk.drewN _)⟩
        · obtain rfl : k = i := by omega
          have dk : decide (k < k) = false := by rw [decide_eq_false_iff_not]; exact hlk
          have hgh : gs = hs := by
            rw [← List.take_length (l := gs), ← List.take_length (l := hs), L2.out, L4.out]; exact heq
          have HD := Lib.hid (decide_eq_true (show ps = qs ∧ gs = hs from ⟨HPQ.out, hgh⟩))
          clear heq hgh
          go_wp2_with fail
          go_ret
          rw [HD.out]
          exact ⟨rfl, HXW.out.trans hxk⟩
theorem same6_c (A B A' B' : Option Addr) (n c k d n' c' k' d' : Nat) (ps qs : List ByteArray) (gs hs : List Bool) (w : World)
    (h1 : Rd w 1 (.slice A n c) n (ps.map Value.string)) (h2 : Rd w 1 (.slice B k d) k (gs.map Value.bool)) (h3 : Rd w 1 (.slice A' n' c') n' (qs.map Value.string)) (h4 : Rd w 1 (.slice B' k' d') k' (hs.map Value.bool))
    (l1 : ps.length = n) (l2 : gs.length = k) (l3 : qs.length = n') (l4 : hs.length = k') (hn : n ≤ 100000) (hk : k ≤ 100000) :
    Calls Tryd.prog 15 #[.agg #[.slice A n c, .slice B k d], .agg #[.slice A' n' c', .slice B' k' d']] w fun e w' => e = .returned (.bool (decide (ps = qs ∧ gs = hs))) ∧ Ext w w' := by
  by_cases hnn : n = n'
  · by_cases hkk : k = k'
    · subst hnn; subst hkk
      exact same6_walk A B A' B' n c k d c' d' ps qs gs hs w h1 h2 h3 h4 l1 l2 l3 l4 hn hk
    · have HD := Lib.hid (decide_eq_false (show ¬ (ps = qs ∧ gs = hs) from fun e => hkk (by rw [← l2, ← l4, e.2])))
      subst hnn
      have c0 : (k != k') = true := by rw [bne_iff_ne]; exact hkk
      clear h1 h2 h3 h4 l1 l2 l3 l4 hkk
      go_enter Tryd.func15, Tryd.ntmps15
      go_wp2_with fail
      go_ret
      rw [HD.out]
      exact ⟨rfl, ((Ext.refl w).alloc _).alloc _⟩
  · have HD := Lib.hid (decide_eq_false (show ¬ (ps = qs ∧ gs = hs) from fun e => hnn (by rw [← l1, ← l3, e.1])))
    have c0 : (n != n') = true := by rw [bne_iff_ne]; exact hnn
    clear h1 h2 h3 h4 l1 l2 l3 l4 hnn
    go_enter Tryd.func15, Tryd.ntmps15
    go_wp2_with fail
    go_ret
    rw [HD.out]
    exact ⟨rfl, ((Ext.refl w).alloc _).alloc _⟩
end Go.Proofs.YtelepadnbgcbnaaDoor
