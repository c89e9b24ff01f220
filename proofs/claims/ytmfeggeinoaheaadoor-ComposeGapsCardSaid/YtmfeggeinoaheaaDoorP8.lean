/- Layer 8, the program: may, Where, Least. -/
import Derived.RangeFuncNested
import Derived.RangeFuncBound
import Derived.RangeFuncCalls
import Derived.RangeFuncLeaves
import Derived.Shelf.Abstract
import Derived.Shelf.RegionOpen
import Derived.WalkKit
import Derived.OwnWalkIn
import Derived.TacticsInMore
import Derived.LoopNIn
import Derived.LoopIn
import Derived.Sort.CutIn
import Derived.Test.YtmfeggeinoaheaaDoorC8
import Derived.Test.YtmfeggeinoaheaaDoorP4
import Derived.Test.YtmfeggeinoaheaaDoorP5
namespace Go.Proofs.YtmfeggeinoaheaaDoor
open Go.RowKit Go.Shelf
set_option maxRecDepth 100000
set_option maxHeartbeats 4000000
attribute [local go_sem] Oper.semAt_some

/-- Nothing below n0 has turned, and no cells but those of block x. -/
def KeepC (n0 x : Nat) (A B : World) : Prop := Below n0 A B ∧ ∀ (k : Nat) (o : Obj), A.heap[k]? = some o → o.isCells = true → k ≠ x → B.heap[k]? = some o
theorem keepC_t {n0 x : Nat} {A B C : World} (h : KeepC n0 x A B) (k : KeepC n0 x B C) : KeepC n0 x A C := ⟨h.1.trans k.1, fun i o hi hc hx => k.2 i o (h.2 i o hi hc hx) hc hx⟩
theorem keepC_b {n0 x : Nat} {w : World} (hn : n0 ≤ w.heap.size) (W : World) (l : Nat) (o o' : Obj) (hl : w.heap.size ≤ l) (h : W.heap[l]? = some o) (hc : o.isCells = false) (hw : o.isWalk = false) : KeepC n0 x W (W.putObj l o') := by
  refine ⟨belowK_b hn W l o o' hl h hc hw, fun k ok hk hck _ => ?_⟩
  have hne : k ≠ l := fun e => by subst e; rw [h] at hk; cases hk; rw [hc] at hck; cases hck
  exact (World.putObj_heap_other hne).trans hk
theorem KeepC.of_ext {n0 x : Nat} {A B : World} (hn : n0 ≤ A.heap.size) (h : Ext A B) : KeepC n0 x A B := ⟨Below.mono h hn, fun k _ hk _ _ => (h.block k (Array.getElem?_eq_some_iff.1 hk).1).trans hk⟩
theorem KeepC.refl (n0 x : Nat) (A : World) : KeepC n0 x A A := ⟨Below.refl _ _, fun _ _ h _ _ => h⟩
theorem ext_grown {A B : World} (h : Ext A B) : A.grownBy B none := ⟨h.os, h.tape, h.output, h.size, fun k hk _ => h.block k hk⟩
/-- A block of cells. -/
def BoxV (W : World) (B : Nat) (t : TypeId) (vals : Array Value) : Prop := W.heap[B]? = some (.cells vals t (0, 0))
theorem BoxV.lt {W : World} {B : Nat} {t : TypeId} {v : Array Value} (h : BoxV W B t v) : B < W.heap.size := (Array.getElem?_eq_some_iff.1 h).1
theorem BoxV.ext {W W' : World} {B : Nat} {t : TypeId} {v : Array Value} (h : BoxV W B t v) (hx : Ext W W') : BoxV W' B t v := (hx.block B h.lt).trans h
theorem BoxV.keep {W W' : World} {B n0 x : Nat} {t : TypeId} {v : Array Value} (h : BoxV W B t v) (hx : KeepC n0 x W W') (hB : B ≠ x) : BoxV W' B t v := hx.2 B _ h rfl hB
theorem BoxV.new (W : World) (t : TypeId) (v : Array Value) : BoxV (W.alloc (.cells v t)) W.heap.size t v := World.alloc_heap_new W _
theorem BoxV.cell {W : World} {B : Nat} {t : TypeId} {v : Array Value} (h : BoxV W B t v) {i : Nat} {u : Value} (hu : v[i]? = some u) : W.cell? ⟨B, i, none⟩ = some u := by
  simp [World.cell?, show W.heap[B]? = _ from h, hu]
theorem BoxV.frozen {W : World} {B : Nat} {t : TypeId} {v : Array Value} (h : BoxV W B t v) (i : Nat) : W.frozen? ⟨B, i, none⟩ = false := by simp [World.frozen?, show W.heap[B]? = _ from h]
theorem BoxV.kept {W W' : World} {row : Option Nat} {B : Nat} {t : TypeId} {v : Array Value} (h : BoxV W B t v) (hg : W.grownBy W' row) (hne : some B ≠ row) : BoxV W' B t v := (hg.block B h.lt hne).trans h
theorem boxV_own {β : Type} (B : Nat) (t : TypeId) (f : β → Array Value) : Go.Own (fun s W => BoxV W B t (f s)) := fun s X Y row hs hg hrow =>
  hs.kept hg (fun e' => by obtain ⟨o, ho, hc⟩ := hrow B e'.symm; rw [show X.heap[B]? = _ from hs] at ho; cases ho; cases hc)
theorem boxV_set0 {W : World} {B : Nat} {t : TypeId} {a b c d : Value} (v : Value) (h : BoxV W B t #[a, b, c, d]) : BoxV (W.setCell ⟨B, 0, none⟩ v) B t #[v, b, c, d] := by
  obtain ⟨hlt, hk⟩ := Array.getElem?_eq_some_iff.1 h
  show (W.heap.modify B _)[B]? = _
  rw [Array.getElem?_eq_getElem (by rw [Array.size_modify]; exact hlt), Array.getElem_modify_self, hk]
  rfl
theorem boxV_set1 {W : World} {B : Nat} {t : TypeId} {a b c d : Value} (v : Value) (h : BoxV W B t #[a, b, c, d]) : BoxV (W.setCell ⟨B, 1, none⟩ v) B t #[a, v, c, d] := by
  obtain ⟨hlt, hk⟩ := Array.getElem?_eq_some_iff.1 h
  show (W.heap.modify B _)[B]? = _
  rw [Array.getElem?_eq_getElem (by rw [Array.size_modify]; exact hlt), Array.getElem_modify_self, hk]
  rfl
theorem boxV_set2 {W : World} {B : Nat} {t : TypeId} {a b c d : Value} (v : Value) (h : BoxV W B t #[a, b, c, d]) : BoxV (W.setCell ⟨B, 2, none⟩ v) B t #[a, b, v, d] := by
  obtain ⟨hlt, hk⟩ := Array.getElem?_eq_some_iff.1 h
  show (W.heap.modify B _)[B]? = _
  rw [Array.getElem?_eq_getElem (by rw [Array.size_modify]; exact hlt), Array.getElem_modify_self, hk]
  rfl
theorem boxV_set3 {W : World} {B : Nat} {t : TypeId} {a b c d : Value} (v : Value) (h : BoxV W B t #[a, b, c, d]) : BoxV (W.setCell ⟨B, 3, none⟩ v) B t #[a, b, c, v] := by
  obtain ⟨hlt, hk⟩ := Array.getElem?_eq_some_iff.1 h
  show (W.heap.modify B _)[B]? = _
  rw [Array.getElem?_eq_getElem (by rw [Array.size_modify]; exact hlt), Array.getElem_modify_self, hk]
  rfl
theorem boxV_set (W : World) {B : Nat} {t : TypeId} {a : Value} (v : Value) (h : BoxV W B t #[a]) : BoxV (W.setCell ⟨B, 0, none⟩ v) B t #[v] := by
  obtain ⟨hlt, hk⟩ := Array.getElem?_eq_some_iff.1 h
  show (W.heap.modify B _)[B]? = _
  rw [Array.getElem?_eq_getElem (by rw [Array.size_modify]; exact hlt), Array.getElem_modify_self, hk]
  rfl
theorem BoxV.other {W : World} {B x : Nat} {t : TypeId} {vs : Array Value} (h : BoxV W B t vs) (hne : B ≠ x) (v : Value) : BoxV (W.setCell ⟨x, 0, none⟩ v) B t vs := (Below.heap_setCell W ⟨x, 0, none⟩ v B hne).trans h
theorem others_ext {W W' : World} (h : Ext W W') : KeepsOthers W W' := ⟨h.size, fun k _ hk _ => (h.block k (Array.getElem?_eq_some_iff.1 hk).1).trans hk⟩
theorem keepC_set {n0 x : Nat} (W : World) (h : n0 ≤ x) (v : Value) : KeepC n0 x W (W.setCell ⟨x, 0, none⟩ v) :=
  ⟨(Below.refl _ _).setCell h _, fun k _ hk _ hne => (Below.heap_setCell W ⟨x, 0, none⟩ v k hne).trans hk⟩

def ptVal (l : List Sp) (j : Nat) : Value := .agg #[.bool (ptK l j), .int .i64 (ptG l j), .int .i64 (ptT l j), .int .i64 (ptV l j)]
theorem parts1_c (A : Option Addr) (q c : Nat) (l : List Sp) (w : World) [Tab w] (h : Rd w 3 (.slice A q c) q (spCells l)) (hl : l.length = q) (hq : q ≤ 1000) (hok : ∀ s ∈ l, OkW s) (hin : tin (tok l) ≤ 1048576) (hout : tout (tok l) ≤ 2000000000) (hts : ∀ s ∈ l, s.2.2.size ≤ 1000000000)
    (n : Nat) (Bs x lk : Nat) (hBx : Bs ≠ x) (J Jx : List Nat → World → Prop) (W : World) (hW : Ext w W) (hxW : x < W.heap.size) (hJ : AbidesFrom W.heap.size J)
    (hY : ∀ pre j W1, J pre W1 → pre.length < q → YieldAt Fence.wide (n - 1) Tryd.prog lk #[ptVal l j] W1 fun e W' => (e = .returned (.bool true) ∧ J (pre ++ [j]) W' ∧ KeepC w.heap.size x W1 W') ∨ (e = .returned (.bool false) ∧ Jx (pre ++ [j]) W'))
    (hsl : BoxV W Bs 22 #[.slice A q c]) (h0 : J [] W) :
    CallsIn Fence.wide n Tryd.prog 47 #[.func (.yield lk) #[] #[], .pointer (some ⟨Bs, 0, none⟩)] W fun e W' => (∃ v, e = .returned v) ∧
      ((∃ ys, ys = List.range q ∧ J ys W') ∨ (∃ pre, (∃ k, k ≤ q ∧ pre = List.range k) ∧ Jx pre W')) := by
  have H := Lib.hid h; have HL := Lib.hid hl; have HOK := Lib.hid hok; have HTS := Lib.hid hts; have HJ := Lib.hid hJ; have HY := Lib.hid hY; have HSL := Lib.hid hsl; have H0 := Lib.hid h0
  have hs0 := hsl.cell (i := 0) rfl
  have hx0 := Lib.hid hW
  clear h hl hok hts hJ hY hsl h0 hW
  refine callsIn_of_wp Tryd.func47 rfl trivial ?_ rfl
  simp only [Tryd.ntmps47, List.size_toArray, List.length_cons, List.length_nil, Nat.reduceAdd, Nat.reduceSub, Array.replicate_succ, Array.replicate_zero, List.push_toArray, List.append_toArray, List.nil_append, List.cons_append]
  gi_wp2
  gi_loopw [3, 4, 11] (fun a g i wr => ∃ j : Nat, j ≤ q ∧ i = .int .i64 j ∧ a = .int .i64 (ptT l j) ∧ g = .int .i64 (ptV l j) ∧ Hid (J (List.range j) wr) ∧ Hid (BoxV wr Bs 22 #[.slice A q c]) ∧ Hid (Ext w wr) ∧ W.heap.size ≤ wr.heap.size) (fun _ _ i _ => q - (intOf i).toNat)
  case atStart => exact ⟨0, by omega, rfl, rfl, rfl, H0, HSL, hx0, Nat.le_refl _⟩
  case round =>
    obtain ⟨j, hj, rfl, rfl, rfl, HJr, HB, hxr, hsz⟩ := hrel
    have hTb : Tab wr := tab_ext hxr.out
    by_cases hlt : j < q
    · have hjl : j < l.length := by have := HL.out; omega
      have hrd := H.out.ext hxr.out
      have hqc : q ≤ c := by obtain ⟨_, _, _, hv, hc, _⟩ := hrd; injection hv with _ _ e3; subst e3; exact hc
      obtain ⟨b, off, rfl, hb, q0, q1, q2⟩ := sp_at hrd HL.out hlt
      have hone := rd_behind H.out HL.out (k := j) (by omega) hqc
      have dn : decide (j < q) = true := by rw [decide_eq_true_eq]; exact hlt
      have i0 : (0 : Int) ≤ (j : Int) := by omega
      have i1 : (j : Int) < (q : Int) := by omega
      have hbs : wr.cell? ⟨Bs, 0, none⟩ = some (.slice (some ⟨b, off, none⟩) q c) := HB.out.cell (i := 0) rfl
      rw [if_neg (by omega)] at hone
      have hr1 := hone.take (m := 1) (by omega)
      rw [sp_take _ 1 (by rw [List.length_drop, HL.out]; omega), one_at l j hjl] at hr1
      have hg := ptG_at l j hjl
      have hv := ptV_step l j hjl
      have ht := ptT_step l j hjl
      have hk := ptK_at l j hjl
      have hgl := ptG_le l j
      have hvl := tout_le_of_take l (j + 1)
      have htl := tin_le_of_take l (j + 1)
      change ptV l (j + 1) ≤ _ at hvl
      change ptT l (j + 1) ≤ _ at htl
      have hok := HOK.out _ (List.getElem_mem hjl)
      have hts := HTS.out _ (List.getElem_mem hjl)
      obtain ⟨sp, hsp⟩ : ∃ sp, l[j] = sp := ⟨_, rfl⟩
      rw [hsp] at q0 q1 q2 hr1 hg ht hk hok hts
      have hto := tin_ok [sp] (fun s hs => by rw [List.mem_singleton] at hs; subst hs; exact hok)
      rw [tok_one, ← hg] at hto
      obtain ⟨hto1, hto2⟩ := hto
      have hw1 : wrap64 (inL [sp]) = ((tin (tokS sp) : Nat) : Int) := by rw [← hto1]; unfold wrap64; omega
      have hw2 : wrap64 (outL [sp]) = ((ptG l j : Nat) : Int) := by rw [← hto2]; unfold wrap64; omega
      have HOUT : Hid (∀ w', Ext w w' → _) := Lib.hid fun w' hx => have hTb := tab_ext hx; out4_c _ 1 (c - j) [sp] w' (hr1.ext hx) rfl (by omega) (fun s hs => by rw [List.mem_singleton] at hs; subst hs; exact hts)
      have HIN : Hid (∀ w', Ext w w' → _) := Lib.hid fun w' hx => have hTb := tab_ext hx; in4_c _ 1 (c - j) [sp] w' (hr1.ext hx) rfl (by omega)
      rw [hw2] at HOUT
      rw [hw1] at HIN
      clear hr1 hone hrd hto1 hto2 hw1 hw2 hok hts hsp hg
      obtain ⟨a1, a2, a3⟩ := sp
      simp only at q0 q1 q2 hk
      generalize tin (tokS (a1, a2, a3)) = D at *
      have hvb : ptV l j + ptG l j ≤ 2000000000 := by omega
      have htb : ptT l j + D ≤ 1048576 := by omega
      have HV := Lib.hid hv; have HT := Lib.hid ht; have HYJ := HY
      have hpv : Hid (ptVal l j = .agg #[.bool (ptK l j), .int .i64 (ptG l j), .int .i64 (ptT l j), .int .i64 (ptV l j)]) := Lib.hid rfl
      clear hv ht
      have hk' := hk.symm
      clear hk
      have hbs4 : (wr.alloc (.cells #[.int .i64 a1, .int .i64 a2, .string a3] 45)).cell? ⟨Bs, 0, none⟩ = some (.slice (some ⟨b, off, none⟩) q c) := ext_cell ((Ext.refl wr).alloc _) hbs
      have hbx4 := Lib.hid (BoxV.new wr 45 #[.int .i64 a1, .int .i64 a2, .string a3])
      have hx4 := (Ext.refl wr).alloc (.cells #[.int .i64 a1, .int .i64 a2, .string a3] 45)
      have hz4 : (wr.alloc (.cells #[.int .i64 a1, .int .i64 a2, .string a3] 45)).heap.size = wr.heap.size + 1 := World.size_alloc _ _
      gi_wp2
      obtain ⟨W4, hW4⟩ : ∃ W4, wr.alloc (.cells #[.int .i64 a1, .int .i64 a2, .string a3] 45) = W4 := ⟨_, rfl⟩
      rw [hW4] at hbs4 hbx4 hx4 hz4 ⊢
      clear hW4 q0 q1 q2
      have p0 := hbx4.out.cell (i := 0) rfl
      have HOUT4 : Hid (∀ w', Ext W4 w' → _) := Lib.hid fun w' hx => HOUT.out w' (hxr.out.trans (hx4.trans hx))
      have hrr := Ext.refl W4
      have HZ4 := Lib.hid hz4
      clear hz4
      have pA : (W4.alloc (.cells #[.bool false, .int .i64 0, .int .i64 0, .int .i64 0] 73)).cell? ⟨wr.heap.size, 0, none⟩ = some (.int .i64 a1) := ext_cell (hrr.alloc _) p0
      have hmx : Tryd.prog.follows .mixedOrders = true := by kernel_rfl
      gi_cut [8] from 21 (fun v wc => ∃ B : Nat, v = .pointer (some ⟨B, 0, none⟩) ∧ W4.heap.size ≤ B ∧ Hid (BoxV wc B 73 #[.bool (ptK l j), .int .i64 (ptG l j), .int .i64 (ptT l j), .int .i64 (ptV l j)]) ∧ Hid (Ext W4 wc))
      case first =>
        gi_region_with_o (refine ⟨trivial, (fun h => by cases h), ?_⟩; gi_at_call 6; refine (callsIn_wide.2 (HOUT4.out _ (by first | exact hrr.drew | exact (hrr.alloc _).drew))).mono ?_; rintro e w5 ⟨rfl, hx5⟩; have p5 : w5.cell? ⟨wr.heap.size, 0, none⟩ = some (.int .i64 a1) := (by first | exact ext_cell hx5 (show W4.drew.cell? _ = _ from p0) | exact ext_cell hx5 (show (W4.alloc _).drew.cell? _ = _ from ext_cell (hrr.alloc _) p0)); have pB : ∀ o, (w5.alloc o).cell? ⟨wr.heap.size, 0, none⟩ = some (.int .i64 a1) := (fun o => ext_cell ((Ext.refl w5).alloc o) p5); try (have hbz : BoxV w5 W4.heap.size 73 #[.bool false, .int .i64 0, .int .i64 0, .int .i64 0] := BoxV.ext (show BoxV (W4.alloc _).drew _ _ _ from BoxV.new W4 _ _) hx5; have c0 : w5.cell? ⟨W4.heap.size, 0, none⟩ = some (.bool false) := hbz.cell rfl; have c1 : w5.cell? ⟨W4.heap.size, 1, none⟩ = some (.int .i64 0) := hbz.cell rfl; have c2 : w5.cell? ⟨W4.heap.size, 2, none⟩ = some (.int .i64 0) := hbz.cell rfl; have c3 : w5.cell? ⟨W4.heap.size, 3, none⟩ = some (.int .i64 0) := hbz.cell rfl; have f0 := hbz.frozen 0; have f1 := hbz.frozen 1; have f2 := hbz.frozen 2; have f3 := hbz.frozen 3; replace hbz := Lib.hid hbz))
        all_goals
          gi_wp2
          gi_meet
          case rel =>
            first
            | exact ⟨w5.heap.size, rfl, hx5.size, Lib.hid (BoxV.new _ _ _), Lib.hid ((hrr.drew.trans hx5).alloc _)⟩
            | exact ⟨W4.heap.size, rfl, Nat.le_refl _, Lib.hid (boxV_set3 _ (boxV_set2 _ (boxV_set1 _ (boxV_set0 _ hbz.out)))), Lib.hid (((((hrr.alloc _).drew.trans hx5).setCell (Nat.le_refl _) _).setCell (Nat.le_refl _) _).setCell (Nat.le_refl _) _ |>.setCell (Nat.le_refl _) _)⟩
      case rest =>
        obtain ⟨B, rfl, hB4, hbp, hxc⟩ := hcut
        have c0 : wc.cell? ⟨B, 0, none⟩ = some (.bool (ptK l j)) := hbp.out.cell rfl
        have c1 : wc.cell? ⟨B, 1, none⟩ = some (.int .i64 (ptG l j)) := hbp.out.cell rfl
        have c2 : wc.cell? ⟨B, 2, none⟩ = some (.int .i64 (ptT l j)) := hbp.out.cell rfl
        have c3 : wc.cell? ⟨B, 3, none⟩ = some (.int .i64 (ptV l j)) := hbp.out.cell rfl
        have hxc4 := hx4.trans hxc.out
        have hJc := HJ.out _ wr wc none HJr.out (ext_grown hxc4) (fun r e => by cases e)
        obtain ⟨fn, tmps, assign, body, hy, hR⟩ := HY.out (List.range j) j wc hJc (by rw [List.length_range]; exact hlt)
        rw [hpv.out] at hy
        have hBx' : B ≠ x := by have := HZ4.out; omega
        have hbsc := HB.out.ext hxc4
        have hxwc := hxr.out.trans hxc4
        have hszc := hxc4.size
        replace hxc4 := Lib.hid hxc4; replace hbsc := Lib.hid hbsc; replace hxwc := Lib.hid hxwc
        clear hbs hbs4 p0 pA hrr hJc
        gi_wp2
        refine ⟨(fun h => by cases h), hR.mono ?_⟩
        rintro e W3 (⟨rfl, hJ3, hk3⟩ | ⟨rfl, hJx3⟩)
        · have d1 : W3.cell? ⟨B, 1, none⟩ = some (.int .i64 (ptG l j)) := (hbp.out.keep hk3 hBx').cell rfl
          have hb3 := Lib.hid (hbsc.out.keep hk3 hBx)
          have hx3 : Hid (Ext w W3) := Lib.hid (Below.trans hxwc.out hk3.1)
          have hsz3 := hk3.1.size
          have HIN3 := Lib.hid (HIN.out W3 hx3.out)
          clear hk3 c0 c1 c2 c3
          gi_wp2_with (refine ⟨trivial, (fun h => by cases h), ?_⟩; gi_at_call 23; refine (callsIn_wide.2 HIN3.out).mono ?_; rintro e w6 ⟨rfl, hx6⟩; have d1 := ext_cell hx6 d1)
          refine ⟨⟨j + 1, by omega, by go_num, by rw [HT.out]; go_num, by rw [HV.out]; go_num, ?_, Lib.hid (hb3.out.ext hx6), Lib.hid (hx3.out.trans hx6), by have := hx6.size; omega⟩, by simp [intOf]; omega⟩
          rw [List.range_succ]
          exact Lib.hid (HJ.out _ W3 w6 none hJ3 (ext_grown hx6) (fun r e => by cases e))
        · gi_wp2
          refine bodyPost_ret (results_none rfl _ _ _) rfl ?_
          exact ⟨⟨_, rfl⟩, .inr ⟨_, ⟨j + 1, by omega, List.range_succ.symm⟩, hJx3⟩⟩
    · obtain rfl : j = q := by omega
      have dn : decide (j < j) = false := by rw [decide_eq_false_iff_not]; omega
      gi_wp2
      go_end0
      exact ⟨⟨_, rfl⟩, .inl ⟨_, rfl, HJr.out⟩⟩
theorem parts_stops (A : Option Addr) (q c : Nat) (l : List Sp) (w : World) [Tab w] (h : Rd w 3 (.slice A q c) q (spCells l)) (hl : l.length = q) (hq : q ≤ 1000) (hok : ∀ s ∈ l, OkW s) (hin : tin (tok l) ≤ 1048576) (hout : tout (tok l) ≤ 2000000000) (hts : ∀ s ∈ l, s.2.2.size ≤ 1000000000)
    (n : Nat) (Bs x : Nat) (hBx : Bs ≠ x) (V : World) (hV : Ext w V) (hxV : x < V.heap.size) (hsl : BoxV V Bs 22 #[.slice A q c]) :
    SeqStopsK Fence.wide n Tryd.prog 47 #[.pointer (some ⟨Bs, 0, none⟩)] (fun j : Nat => #[ptVal l j]) (KeepC w.heap.size x) (fun ys => ys = List.range q) (fun pre => ∃ k, k ≤ q ∧ pre = List.range k) q V := fun lk J Jx W hW hJ _ hY h0 =>
  parts1_c A q c l w h hl hq hok hin hout hts n Bs x lk hBx J Jx W (hV.trans hW) (Nat.lt_of_lt_of_le hxV hW.size) hJ hY (hsl.ext hW) h0
theorem parts_c (A : Option Addr) (q c : Nat) (w : World) :
    Calls Tryd.prog 28 #[.slice A q c] w fun e w' => e = .returned (.func (.func 47) #[] #[.pointer (some ⟨w.heap.size, 0, none⟩)]) ∧ w' = w.alloc (.cells #[.slice A q c] 22) := by
  go_enter Tryd.func28, Tryd.ntmps28
  go_wp2_with fail
  go_ret
  exact ⟨rfl, rfl⟩
theorem reach_c (K : Bool) (G T V g : Nat) (w : World) (hT : T ≤ 1048576) (hV : V ≤ 2000000000) (hg : g ≤ 2000000000) :
    Calls Tryd.prog 29 #[.agg #[.bool K, .int .i64 G, .int .i64 T, .int .i64 V], .int .i64 g] w fun e w' => e = .returned (.int .i64 (if K then (T : Int) + g - V else T)) ∧ Ext w w' := by
  have hx := (Ext.refl w).alloc (.cells #[.bool K, .int .i64 G, .int .i64 T, .int .i64 V] 73)
  cases K with
  | false =>
    rw [if_neg (by decide)]
    go_enter Tryd.func29, Tryd.ntmps29
    go_wp2_with fail
    go_ret
    exact ⟨rfl, hx⟩
  | true =>
    rw [if_pos rfl]
    go_enter Tryd.func29, Tryd.ntmps29
    go_wp2_with fail
    go_ret
    exact ⟨rfl, hx⟩
end Go.Proofs.YtmfeggeinoaheaaDoor
namespace Go.Proofs.YtmfeggeinoaheaaDoor
open Go.RowKit Go.Shelf
set_option maxRecDepth 100000
set_option maxHeartbeats 4000000
theorem mayIn8_c (A : Option Addr) (q c : Nat) (l : List Sp) (g : Int) (w : World) [Tab w] (h : Rd w 3 (.slice A q c) q (spCells l)) (hl : l.length = q) (hq : q ≤ 1000) (hts : ∀ s ∈ l, s.2.2.size ≤ 1000000000) (g0 : -9223372036854775808 ≤ g) (g1 : g ≤ 9223372036854775807) :
    Calls Tryd.prog 27 #[.slice A q c, .int .i64 g, .func (.func 23) #[] #[]] w fun e w' => e = .returned (.int .i64 (whereE l g)) ∧ Ext w w' := by
  have HM : Hid (∀ w', Ext w w' → _) := Lib.hid fun w' hx => have hTb := tab_ext hx; may4_c A q c l w' (h.ext hx) hl hq hts
  have HI : Hid (∀ w', Ext w w' → _) := Lib.hid fun w' hx => have hTb := tab_ext hx; in4_c A q c l w' (h.ext hx) hl hq
  by_cases hm : mayL l = 0
  · obtain ⟨hall, hi0, hi1⟩ := mayL_all hm (by omega)
    have hok : ∀ s ∈ l, OkW s := fun s hs => okW_of_may (hall s hs)
    have hwi : wrap64 (inL l) = inL l := by unfold wrap64; omega
    rw [hm] at HM
    rw [hwi] at HI
    have hE : whereE l g = if 0 ≤ g ∧ g ≤ inL l then 0 else 6 := by unfold whereE; rw [if_pos hm]
    have hIL : 0 ≤ inL l ∧ inL l ≤ 2000000000 := by omega
    clear h hl hts hm hall hok hwi hi0 hi1
    rw [hE]
    clear hE
    generalize inL l = IL at *
    rcases (by omega : (0 ≤ g ∧ g ≤ IL) ∨ g < 0 ∨ (0 ≤ g ∧ IL < g)) with ⟨hr, hr2⟩ | hr | ⟨hr, hr2⟩
    · rw [if_pos ⟨hr, hr2⟩]
      go_enter Tryd.func27, Tryd.ntmps27
      go_wp2_with fail
      refine (HM.out _ (Ext.refl _)).mono ?_; rintro e w1 ⟨rfl, hx1⟩
      go_wp2_with fail
      refine (HI.out _ hx1).mono ?_; rintro e w2 ⟨rfl, hx2⟩
      go_wp2_with fail
      go_ret
      exact ⟨rfl, hx1.trans hx2⟩
    · rw [if_neg (by omega)]
      go_enter Tryd.func27, Tryd.ntmps27
      go_wp2_with fail
      refine (HM.out _ (Ext.refl _)).mono ?_; rintro e w1 ⟨rfl, hx1⟩
      go_wp2_with fail
      go_ret
      exact ⟨rfl, hx1⟩
    · rw [if_neg (by omega)]
      go_enter Tryd.func27, Tryd.ntmps27
      go_wp2_with fail
      refine (HM.out _ (Ext.refl _)).mono ?_; rintro e w1 ⟨rfl, hx1⟩
      go_wp2_with fail
      refine (HI.out _ hx1).mono ?_; rintro e w2 ⟨rfl, hx2⟩
      go_wp2_with fail
      go_ret
      exact ⟨rfl, hx1.trans hx2⟩
  · have hE : whereE l g = mayL l := by unfold whereE; rw [if_neg hm]
    have hb1 : (mayL l != 0) = true := by rw [bne_iff_ne]; exact hm
    have hb2 : (mayL l == 0) = false := by rw [beq_eq_false_iff_ne]; exact hm
    rw [hE]
    clear h hl hts hm hE HI
    generalize mayL l = ML at *
    go_enter Tryd.func27, Tryd.ntmps27
    go_wp2_with fail
    refine (HM.out _ (Ext.refl _)).mono ?_; rintro e w1 ⟨rfl, hx1⟩
    go_wp2_with fail
    go_ret
    exact ⟨rfl, hx1⟩
theorem mayOut8_c (A : Option Addr) (q c : Nat) (l : List Sp) (g : Int) (w : World) [Tab w] (h : Rd w 3 (.slice A q c) q (spCells l)) (hl : l.length = q) (hq : q ≤ 1000) (hts : ∀ s ∈ l, s.2.2.size ≤ 1000000000) (hT : sumT l ≤ 1000000000) (g0 : -9223372036854775808 ≤ g) (g1 : g ≤ 9223372036854775807) :
    Calls Tryd.prog 27 #[.slice A q c, .int .i64 g, .func (.func 6) #[] #[]] w fun e w' => e = .returned (.int .i64 (leastE l g)) ∧ Ext w w' := by
  have HM : Hid (∀ w', Ext w w' → _) := Lib.hid fun w' hx => have hTb := tab_ext hx; may4_c A q c l w' (h.ext hx) hl hq hts
  have HI : Hid (∀ w', Ext w w' → _) := Lib.hid fun w' hx => have hTb := tab_ext hx; out4_c A q c l w' (h.ext hx) hl hq hts
  by_cases hm : mayL l = 0
  · obtain ⟨hall, hi0, hi1⟩ := mayL_all hm (by omega)
    have hok : ∀ s ∈ l, OkW s := fun s hs => okW_of_may (hall s hs)
    have hob := outL_le l hok
    have hwi : wrap64 (outL l) = outL l := by unfold wrap64; omega
    rw [hm] at HM
    rw [hwi] at HI
    have hE : leastE l g = if 0 ≤ g ∧ g ≤ outL l then 0 else 6 := by unfold leastE; rw [if_pos hm]
    have hIL : 0 ≤ outL l ∧ outL l ≤ 2000000000 := by omega
    clear h hl hts hT hm hall hok hwi hob hi0 hi1
    rw [hE]
    clear hE
    generalize outL l = IL at *
    rcases (by omega : (0 ≤ g ∧ g ≤ IL) ∨ g < 0 ∨ (0 ≤ g ∧ IL < g)) with ⟨hr, hr2⟩ | hr | ⟨hr, hr2⟩
    · rw [if_pos ⟨hr, hr2⟩]
      go_enter Tryd.func27, Tryd.ntmps27
      go_wp2_with fail
      refine (HM.out _ (Ext.refl _)).mono ?_; rintro e w1 ⟨rfl, hx1⟩
      go_wp2_with fail
      refine (HI.out _ hx1).mono ?_; rintro e w2 ⟨rfl, hx2⟩
      go_wp2_with fail
      go_ret
      exact ⟨rfl, hx1.trans hx2⟩
    · rw [if_neg (by omega)]
      go_enter Tryd.func27, Tryd.ntmps27
      go_wp2_with fail
      refine (HM.out _ (Ext.refl _)).mono ?_; rintro e w1 ⟨rfl, hx1⟩
      go_wp2_with fail
      go_ret
      exact ⟨rfl, hx1⟩
    · rw [if_neg (by omega)]
      go_enter Tryd.func27, Tryd.ntmps27
      go_wp2_with fail
      refine (HM.out _ (Ext.refl _)).mono ?_; rintro e w1 ⟨rfl, hx1⟩
      go_wp2_with fail
      refine (HI.out _ hx1).mono ?_; rintro e w2 ⟨rfl, hx2⟩
      go_wp2_with fail
      go_ret
      exact ⟨rfl, hx1.trans hx2⟩
  · have hE : leastE l g = mayL l := by unfold leastE; rw [if_neg hm]
    have hb1 : (mayL l != 0) = true := by rw [bne_iff_ne]; exact hm
    have hb2 : (mayL l == 0) = false := by rw [beq_eq_false_iff_ne]; exact hm
    rw [hE]
    clear h hl hts hT hm hE HI
    generalize mayL l = ML at *
    go_enter Tryd.func27, Tryd.ntmps27
    go_wp2_with fail
    refine (HM.out _ (Ext.refl _)).mono ?_; rintro e w1 ⟨rfl, hx1⟩
    go_wp2_with fail
    go_ret
    exact ⟨rfl, hx1⟩
attribute [local go_sem] Oper.semAt_some
theorem leastOk_c (A : Option Addr) (q c : Nat) (l : List Sp) (g : Nat) (w : World) [Tab w] (h : Rd w 3 (.slice A q c) q (spCells l)) (hl : l.length = q) (hq : q ≤ 1000) (hok : ∀ s ∈ l, OkW s) (hin : tin (tok l) ≤ 1048576) (hout : tout (tok l) ≤ 2000000000) (hts : ∀ s ∈ l, s.2.2.size ≤ 1000000000) (hg : g ≤ tout (tok l))
    (HM : ∀ w', Ext w w' → Calls Tryd.prog 27 #[.slice A q c, .int .i64 (g : Int), .func (.func 6) #[] #[]] w' fun e w'' => e = .returned (.int .i64 0) ∧ Ext w' w'') :
    Calls Tryd.prog 10 #[.slice A q c, .int .i64 (g : Int)] w fun e w' => e = .returned (.tuple #[.int .i64 ((leastT (tok l) g : Nat) : Int), .int .i64 0]) ∧ Ext w w' := by
  replace HM := Lib.hid HM
  have HSEQ := Lib.hid (parts_stops A q c l w h hl hq hok hin hout hts)
  have HOK := Lib.hid hok; have HL := Lib.hid hl
  have hx0 := (((Ext.refl w).alloc (.cells #[.int .i64 (g : Int)] 3)).alloc (.cells #[.int .i64 0] 3)).alloc (.cells #[.int .i64 0] 26)
  have bG := (BoxV.new w 3 #[.int .i64 (g : Int)]).ext (((Ext.refl _).alloc (.cells #[.int .i64 0] 3)).alloc (.cells #[.int .i64 0] 26))
  have b4 := (BoxV.new (w.alloc (.cells #[.int .i64 (g : Int)] 3)) 3 #[.int .i64 0]).ext ((Ext.refl _).alloc (.cells #[.int .i64 0] 26))
  have b5 := BoxV.new ((w.alloc (.cells #[.int .i64 (g : Int)] 3)).alloc (.cells #[.int .i64 0] 3)) 26 #[.int .i64 0]
  have hz0 : (((w.alloc (.cells #[.int .i64 (g : Int)] 3)).alloc (.cells #[.int .i64 0] 3)).alloc (.cells #[.int .i64 0] 26)).heap.size = w.heap.size + 3 := by rw [World.size_alloc, World.size_alloc, World.size_alloc]
  simp only [World.size_alloc] at b4 b5
  replace bG := Lib.hid bG; replace b4 := Lib.hid b4; replace b5 := Lib.hid b5; replace hz0 := Lib.hid hz0
  clear h hl hok hts
  refine (callsIn_wide (n := 6)).1 ?_
  refine callsIn_of_wp_marks Tryd.func10 rfl trivial ?_ rfl
  simp only [Tryd.ntmps10, List.size_toArray, List.length_cons, List.length_nil, Nat.reduceAdd, Nat.reduceSub, Array.replicate_succ, Array.replicate_zero, List.push_toArray, List.append_toArray, List.nil_append, List.cons_append]
  gi_wp2
  refine ⟨trivial, (callsIn_wide.2 (HM.out _ hx0)).mono ?_⟩; rintro e w1 ⟨rfl, hx1⟩
  replace bG := Lib.hid (bG.out.ext hx1); replace b4 := Lib.hid (b4.out.ext hx1); replace b5 := Lib.hid (b5.out.ext hx1)
  gi_wp2
  refine ⟨trivial, (callsIn_wide.2 (parts_c _ _ _ _)).mono ?_⟩; rintro e w2 ⟨rfl, rfl⟩
  gi_wp2
  have hx2 : Ext w1 (w1.alloc (.cells #[.slice A q c] 22)) := (Ext.refl w1).alloc _
  have bS := BoxV.new w1 22 #[.slice A q c]
  have hz2 : (w1.alloc (.cells #[.slice A q c] 22)).heap.size = w1.heap.size + 1 := World.size_alloc _ _
  have hz1 := hx1.size
  rw [hz0.out] at hz1
  have bG2 := bG.out.ext hx2; have b42 := b4.out.ext hx2; have b52 := b5.out.ext hx2
  have hxw := (hx0.trans hx1).trans hx2
  obtain ⟨W0, hW0⟩ : ∃ W0, w1.alloc (.cells #[.slice A q c] 22) = W0 := ⟨_, rfl⟩
  rw [hW0] at bS hx2 hz2 bG2 b42 b52 hxw ⊢
  clear hW0 bG b4 b5 hx0 hx1 hz0
  have hsq := HSEQ.out 5 w1.heap.size (w.heap.size + 1) (by omega) W0 hxw (by omega) bS
  generalize w1.heap.size = Bs at *
  refine wpIn_rangeFunc_ownH rfl (by omega) (gf := 47) (lb := #[.pointer (some ⟨Bs, 0, none⟩)]) rfl trivial (enters_of Tryd.func47 (by kernel_rfl) rfl)
    hsq keepC_t (keepC_b (by omega)) (Below.refl _ _) (fun _ => rfl)
    (fun pre W => (((BoxV W (w.heap.size + 1) 3 #[.int .i64 0] ∧ BoxV W (w.heap.size + 1 + 1) 26 #[.int .i64 0]) ∧ BoxV W w.heap.size 3 #[.int .i64 (g : Int)]) ∧ (∀ j ∈ pre, ptV l j + ptG l j < g)) ∧ Below w.heap.size w W)
    (fun cd pre W => (∃ pr j, pre = pr ++ [j] ∧ cd = .ret ∧ g ≤ ptV l j + ptG l j ∧ (∀ i ∈ pr, ptV l i + ptG l i < g) ∧ BoxV W (w.heap.size + 1) 3 #[.int .i64 (ptR l g j)] ∧ BoxV W (w.heap.size + 1 + 1) 26 #[.int .i64 0]) ∧ Below w.heap.size w W)
    (OwnFrom.and (OwnFrom.and (OwnFrom.and (OwnFrom.and (Go.Own.from (boxV_own _ _ (fun _ => #[.int .i64 0])) _) (Go.Own.from (boxV_own _ _ (fun _ => #[.int .i64 0])) _)) (Go.Own.from (boxV_own _ _ (fun _ => #[.int .i64 (g : Int)])) _)) (ownFrom_pure _ _)) (ownFrom_below (Nat.le_refl _) (by omega)))
    (fun cd => OwnFrom.and (Go.Own.from (fun s X Y row hs hgr hrow => by
      obtain ⟨pr, j, h1, h2, h3, h4, h5, h6⟩ := hs
      exact ⟨pr, j, h1, h2, h3, h4, boxV_own (w.heap.size + 1) _ (fun (_ : Unit) => #[.int .i64 (ptR l g j)]) () X Y row h5 hgr hrow, boxV_own (w.heap.size + 1 + 1) _ (fun (_ : Unit) => #[.int .i64 0]) () X Y row h6 hgr hrow⟩) _) (ownFrom_below (Nat.le_refl _) (by omega)))
    ⟨⟨⟨⟨b42, b52⟩, bG2⟩, fun j hj => by cases hj⟩, hxw⟩
    (fun j a' W => ∃ Bx, BoxV W Bx 73 #[.bool (ptK l j), .int .i64 (ptG l j), .int .i64 (ptT l j), .int .i64 (ptV l j)] ∧ a' = { tmps := #[.slice A q c, .int .i64 (g : Int), undef, .pointer (some ⟨w.heap.size, 0, none⟩), .pointer (some ⟨w.heap.size + 1, 0, none⟩), .pointer (some ⟨w.heap.size + 1 + 1, 0, none⟩), .int .i64 0, .pointer (some ⟨Bx, 0, none⟩), .slice A q c, .int .i64 (g : Int), .int .i64 0, .int .i64 0, .bool false, undef, .slice A q c, .func (.func 47) #[] #[.pointer (some ⟨Bs, 0, none⟩)], ptVal l j, undef, undef, undef, undef, undef, undef, undef, undef, undef, undef], defers := [] })
    (fun j a' _ X Y row hs hgr hrow => by obtain ⟨Bx, h2, h3⟩ := hs; exact ⟨Bx, boxV_own Bx _ (fun (_ : Unit) => #[.bool (ptK l j), .int .i64 (ptG l j), .int .i64 (ptT l j), .int .i64 (ptV l j)]) () X Y row h2 hgr (fun r e => (hrow r e).2), h3⟩)
    ?assign ?body ?done ?stop
  case assign =>
    rintro lk pre j W K ⟨⟨⟨⟨b1, b2⟩, b3⟩, hp⟩, hB⟩ hK
    unfold ptVal at *
    gi_wp2
    have hx : Ext W (W.alloc (.cells #[.bool (ptK l j), .int .i64 (ptG l j), .int .i64 (ptT l j), .int .i64 (ptV l j)] 73)) := (Ext.refl W).alloc _
    exact hK _ _ ((KeepsOthers.alloc _ _).from _) (KeepC.of_ext hB.size hx) ⟨⟨⟨⟨b1.ext hx, b2.ext hx⟩, b3.ext hx⟩, hp⟩, hB.alloc hB.size _⟩ ⟨W.heap.size, BoxV.new W _ _, rfl⟩
  case body =>
    rintro lk pre j a' W hl ⟨r, hr⟩ ⟨⟨⟨⟨b1, b2⟩, b3⟩, hp⟩, hB⟩ ⟨Bx, bX, rfl⟩ hlt
    have c0 : W.cell? ⟨Bx, 0, none⟩ = some (.bool (ptK l j)) := bX.cell rfl
    have c1 : W.cell? ⟨Bx, 1, none⟩ = some (.int .i64 (ptG l j)) := bX.cell rfl
    have c2 : W.cell? ⟨Bx, 2, none⟩ = some (.int .i64 (ptT l j)) := bX.cell rfl
    have c3 : W.cell? ⟨Bx, 3, none⟩ = some (.int .i64 (ptV l j)) := bX.cell rfl
    have cG : W.cell? ⟨w.heap.size, 0, none⟩ = some (.int .i64 (g : Int)) := b3.cell rfl
    have hgl := ptG_le l j
    have hvl : ptV l j ≤ tout (tok l) := tout_le_of_take l j
    have htl : ptT l j ≤ tin (tok l) := tin_le_of_take l j
    by_cases hgt : g ≤ ptV l j + ptG l j
    · have dn : decide (g ≤ ptV l j + ptG l j) = true := by rw [decide_eq_true_eq]; exact hgt
      have hge : (g : Int) ≤ (ptV l j : Int) + (ptG l j : Int) := by omega
      have hUT := Lib.hid (reach_c (ptK l j) (ptG l j) (ptT l j) (ptV l j) g W (by omega) (by omega) (by omega))
      have hrj : Hid (ptR l g j = (if ptK l j then (ptT l j : Int) + g - ptV l j else ptT l j)) := Lib.hid rfl
      generalize (if ptK l j then (ptT l j : Int) + g - ptV l j else ptT l j) = u at *
      gi_wp2
      refine ⟨trivial, (CallsIn.inRound lk (callsIn_wide.2 hUT.out)).mono ?_⟩; rintro e W5 ⟨rfl, hx5⟩
      have b15 := b1.ext hx5
      have b25 := b2.ext hx5
      have cW : W5.cell? ⟨w.heap.size + 1, 0, none⟩ = some (.int .i64 0) := b15.cell rfl
      have fW := b15.frozen 0
      have cE : W5.cell? ⟨w.heap.size + 1 + 1, 0, none⟩ = some (.int .i64 0) := b25.cell rfl
      have fE := b25.frozen 0
      gi_wp2
      refine ⟨(((others_ext hx5).trans (KeepsOthers.setCell _ _ _)).trans (KeepsOthers.setCell _ _ _)).from _, ⟨pre, j, rfl, rfl, hgt, hp, ?_, boxV_set _ _ (b25.other (by omega) _)⟩, ?_⟩
      · rw [hrj.out]; exact (boxV_set _ _ b15).other (by omega) _
      · exact ((Below.trans hB (Below.mono hx5 hB.size)).setCell (by simp) _).setCell (by simp; omega) _
    · have hge : ¬ ((g : Int) ≤ (ptV l j : Int) + (ptG l j : Int)) := by omega
      gi_wp2
      refine ⟨KeepsFrom.refl _ _, KeepC.refl _ _ _, ⟨⟨⟨⟨b1, b2⟩, b3⟩, ?_⟩, hB⟩⟩
      intro i hi
      rcases List.mem_append.1 hi with hi | hi
      · exact hp i hi
      · rw [List.mem_singleton] at hi; subst hi; omega
  case done =>
    rintro D ys W hD rfl ⟨⟨⟨⟨b1, b2⟩, b3⟩, hp⟩, hB⟩ hK
    have cW : W.cell? ⟨w.heap.size + 1, 0, none⟩ = some (.int .i64 0) := b1.cell rfl
    have fW := b1.frozen 0
    have cE : W.cell? ⟨w.heap.size + 1 + 1, 0, none⟩ = some (.int .i64 0) := b2.cell rfl
    have fE := b2.frozen 0
    gi_wp2
    have b14 := (boxV_set W (.int .i64 0) b1).other (x := w.heap.size + 1 + 1) (by omega) (.int .i64 0)
    have b25 := boxV_set _ (.int .i64 0) (b2.other (x := w.heap.size + 1) (by omega) (.int .i64 0))
    have hK' := ((KeepsOthers.setCell W ⟨w.heap.size + 1, 0, none⟩ (.int .i64 0)).trans (KeepsOthers.setCell _ ⟨w.heap.size + 1 + 1, 0, none⟩ (.int .i64 0))).same D _ hK rfl
    have hB' := (hB.setCell (p := ⟨w.heap.size + 1, 0, none⟩) (by simp) (.int .i64 0)).setCell (p := ⟨w.heap.size + 1 + 1, 0, none⟩) (by simp; omega) (.int .i64 0)
    have hc4 := cell_kept (show World.cell? ((W.setCell ⟨w.heap.size + 1, 0, none⟩ (.int .i64 0)).setCell ⟨w.heap.size + 1 + 1, 0, none⟩ (.int .i64 0)) ⟨w.heap.size + 1, 0, none⟩ = some (.int .i64 0) from b14.cell rfl) (grownBy_putObj' _ D (.deferred none)) (fun r e => by cases e; exact ⟨_, hK', rfl⟩)
    have hc5 := cell_kept (show World.cell? ((W.setCell ⟨w.heap.size + 1, 0, none⟩ (.int .i64 0)).setCell ⟨w.heap.size + 1 + 1, 0, none⟩ (.int .i64 0)) ⟨w.heap.size + 1 + 1, 0, none⟩ = some (.int .i64 0) from b25.cell rfl) (grownBy_putObj' _ D (.deferred none)) (fun r e => by cases e; exact ⟨_, hK', rfl⟩)
    refine ⟨by simp, .inl ⟨_, _, rfl, run_takeDeferred hK', ?_⟩⟩
    refine ⟨.tuple #[.int .i64 0, .int .i64 0], ?_, ?_, hB'.trans (belowK_b (w := w) (Nat.le_refl _) _ D _ _ (by omega) hK' rfl rfl)⟩
    · simp [results, Tryd.f10, go_sem, hc4, hc5]
    · have hn := least_none l g hg (by rw [HL.out]; exact hp)
      rw [hn]; rfl
  case stop =>
    rintro D cd pre W hD ⟨k, hk, hpre⟩ ⟨⟨pr, j, h1, rfl, h3, h4, b1, b2⟩, hB⟩ hK
    gi_wp2
    have hc4 := cell_kept (show World.cell? W ⟨w.heap.size + 1, 0, none⟩ = some (.int .i64 (ptR l g j)) from b1.cell rfl) (grownBy_putObj' _ D (.deferred none)) (fun r e => by cases e; exact ⟨_, hK, rfl⟩)
    have hc5 := cell_kept (show World.cell? W ⟨w.heap.size + 1 + 1, 0, none⟩ = some (.int .i64 0) from b2.cell rfl) (grownBy_putObj' _ D (.deferred none)) (fun r e => by cases e; exact ⟨_, hK, rfl⟩)
    refine ⟨by simp, .inl ⟨_, _, rfl, run_takeDeferred hK, ?_⟩⟩
    refine ⟨.tuple #[.int .i64 (ptR l g j), .int .i64 0], ?_, ?_, hB.trans (belowK_b (w := w) (Nat.le_refl _) _ D _ _ (by omega) hK rfl rfl)⟩
    · simp [results, Tryd.f10, go_sem, hc4, hc5]
    · rw [h1] at hpre
      obtain ⟨rfl, hpr⟩ := range_snoc hpre
      rw [least_stop l g j HOK.out (by have := HL.out; omega) (fun i hi => h4 i (by rw [hpr, List.mem_range]; exact hi)) h3]
theorem leastP_c (A : Option Addr) (q c : Nat) (l : List Sp) (g : Int) (w : World) [Tab w] (h : Rd w 3 (.slice A q c) q (spCells l)) (hl : l.length = q) (hq : q ≤ 1000) (hts : ∀ s ∈ l, s.2.2.size ≤ 1000000000) (hT : sumT l ≤ 1000000000) (g0 : -9223372036854775808 ≤ g) (g1 : g ≤ 9223372036854775807) :
    Calls Tryd.prog 10 #[.slice A q c, .int .i64 g] w fun e w' => e = .returned (leastV l g) ∧ Ext w w' := by
  have HM : Hid (∀ w', Ext w w' → _) := Lib.hid fun w' hx => have hTb := tab_ext hx; mayOut8_c A q c l g w' (h.ext hx) hl hq hts hT g0 g1
  by_cases he : leastE l g = 0
  · have hm : mayL l = 0 := by
      unfold leastE at he
      by_cases hm : mayL l = 0
      · exact hm
      · rw [if_neg hm] at he; exact absurd he hm
    have hr : 0 ≤ g ∧ g ≤ outL l := by
      unfold leastE at he
      rw [if_pos hm] at he
      by_cases hr : 0 ≤ g ∧ g ≤ outL l
      · exact hr
      · rw [if_neg hr] at he; exact absurd he (by decide)
    obtain ⟨hall, hi0, hi1⟩ := mayL_all hm (by omega)
    have hok : ∀ s ∈ l, OkW s := fun s hs => okW_of_may (hall s hs)
    have htin := tin_ok l hok
    have hob := outL_le l hok
    obtain ⟨G, rfl⟩ := Int.eq_ofNat_of_zero_le hr.1
    rw [least_ok hm hr.1 hr.2, Int.toNat_natCast]
    rw [he] at HM
    exact leastOk_c A q c l G w h hl hq hok (by omega) (by omega) hts (by omega) HM.out
  · have hV : leastV l g = .tuple #[.int .i64 0, .int .i64 (leastE l g)] := by unfold leastV; rw [if_neg he]
    have hb1 : (leastE l g != 0) = true := by rw [bne_iff_ne]; exact he
    have hb2 : (leastE l g == 0) = false := by rw [beq_eq_false_iff_ne]; exact he
    have hx0 := (((Ext.refl w).alloc (.cells #[.int .i64 g] 3)).alloc (.cells #[.int .i64 0] 3)).alloc (.cells #[.int .i64 0] 26)
    have b4 := (BoxV.new (w.alloc (.cells #[.int .i64 g] 3)) 3 #[.int .i64 0]).ext ((Ext.refl _).alloc (.cells #[.int .i64 0] 26))
    have b5 := BoxV.new ((w.alloc (.cells #[.int .i64 g] 3)).alloc (.cells #[.int .i64 0] 3)) 26 #[.int .i64 0]
    simp only [World.size_alloc] at b4 b5
    replace b4 := Lib.hid b4; replace b5 := Lib.hid b5
    rw [hV]
    clear h hl hts hT he hV
    generalize leastE l g = E at *
    go_enter Tryd.func10, Tryd.ntmps10
    go_wp2_with fail
    refine (HM.out _ hx0).mono ?_; rintro e w1 ⟨rfl, hx1⟩
    have b14 := b4.out.ext hx1
    have b15 := b5.out.ext hx1
    have c4 : w1.cell? ⟨w.heap.size + 1, 0, none⟩ = some (.int .i64 0) := b14.cell rfl
    have f4 := b14.frozen 0
    have c5 : w1.cell? ⟨w.heap.size + 1 + 1, 0, none⟩ = some (.int .i64 0) := b15.cell rfl
    have f5 := b15.frozen 0
    go_wp2_with fail
    have d4 := ((boxV_set w1 (.int .i64 0) b14).other (x := w.heap.size + 1 + 1) (by omega) (.int .i64 E)).cell (i := 0) rfl
    have d5 := (boxV_set _ (.int .i64 E) (b15.other (x := w.heap.size + 1) (by omega) (.int .i64 0))).cell (i := 0) rfl
    have d4' : ((w1.setCell ⟨w.heap.size + 1, 0, none⟩ (.int .i64 0)).setCell ⟨w.heap.size + 1 + 1, 0, none⟩ (.int .i64 E)).cell? ⟨w.heap.size + 1, 0, none⟩ = some (.int .i64 0) := d4
    have d5' : ((w1.setCell ⟨w.heap.size + 1, 0, none⟩ (.int .i64 0)).setCell ⟨w.heap.size + 1 + 1, 0, none⟩ (.int .i64 E)).cell? ⟨w.heap.size + 1 + 1, 0, none⟩ = some (.int .i64 E) := d5
    have hxe := hx0.trans hx1
    refine bodyPost_ret (v := .tuple #[.int .i64 0, .int .i64 E]) (by simp [results, Tryd.f10, go_sem, d4', d5']) rfl ⟨rfl, ?_⟩
    exact (hxe.below.setCell (by simp) _).setCell (by simp; omega) _
end Go.Proofs.YtmfeggeinoaheaaDoor
