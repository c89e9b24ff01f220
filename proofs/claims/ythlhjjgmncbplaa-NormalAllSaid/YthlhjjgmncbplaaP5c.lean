/- Layer 5, the program: one. -/
import Derived.Test.YthlhjjgmncbplaaP5b
namespace Go.Proofs.Ythlhjjgmncbplaa
open Go.RowKit
set_option maxRecDepth 100000
set_option maxHeartbeats 1000000
theorem strCells_bs (s : ByteArray) : Lib.strCells s = Lib.byteCells (bs s) := rfl
theorem bcells_append (a b : List UInt8) : Lib.byteCells (a ++ b) = Lib.byteCells a ++ Lib.byteCells b := by simp [Lib.byteCells]
theorem heap_three (w : World) (a b c : Array Value) (ta tb tc : TypeId) :
    (((w.alloc (.cells a ta)).alloc (.cells b tb)).alloc (.cells c tc)).heap[w.heap.size]? = some (.cells a ta (0, 0)) ∧ (((w.alloc (.cells a ta)).alloc (.cells b tb)).alloc (.cells c tc)).heap[w.heap.size + 1]? = some (.cells b tb (0, 0)) := by
  refine ⟨?_, ?_⟩
  · simp only [World.alloc, Array.getElem?_push, Array.size_push]
    rw [if_neg (by omega), if_neg (by omega), if_pos trivial]
  · simp only [World.alloc, Array.getElem?_push, Array.size_push]
    rw [if_neg (by omega), if_pos trivial]
theorem one5_c (A : Option Addr) (q c : Nat) (l : List Sp) (k : Int) (w : World) (h : Rd w 3 (.slice A q c) q (spCells l)) (hl : l.length = q) (hq : q ≤ 100000) (h0 : 0 < q) (hk : ∀ s ∈ l, s.1 = k) (ho : Ok l) :
    Calls Try.prog 18 #[.slice A q c] w fun e w' => e = .returned (spanV k (sumN l) (catT l)) ∧ Ext w w' := by
  have H := Lib.hid h; have HL := Lib.hid hl; have HK := Lib.hid hk; have HO := Lib.hid ho
  obtain ⟨b, off, rfl, hb, r0, r7, r8⟩ := sp_at h HL.out h0
  have hk0 : (l[0]'(by have := HL.out; omega)).1 = k := hk _ (List.getElem_mem _)
  rw [hk0] at r0
  simp only [Nat.zero_mul, Nat.add_zero] at r0
  have i0 : (0 : Int) < (q : Int) := by omega
  have HX : Hid (∀ o, Ext w (w.alloc o)) := Lib.hid fun o => (Ext.refl w).alloc o
  have r1 := ext_cell (HX.out (.cells #[.int .i64 0, .int .i64 0, .string ⟨#[]⟩] 31)) r0
  unfold spanV
  clear r7 r8 h hl hk ho hk0
  go_enter Try.func18, Try.ntmps18
  go_wp2_with fail
  have hw0 := heap_three w #[.int .i64 0, .int .i64 0, .string ⟨#[]⟩] #[.int .i64 k, .int .i64 0, .string ⟨#[]⟩] #[.pointer none, .slice none 0 0] 31 31 47
  have HW0 := Lib.hid hw0
  have hbd := Lib.fresh_isBuilder 47 5 ((w.alloc (.cells #[.int .i64 0, .int .i64 0, .string ⟨#[]⟩] 31)).alloc (.cells #[.int .i64 k, .int .i64 0, .string ⟨#[]⟩] 31))
  rw [size_alloc, size_alloc] at hbd
  have HBD := Lib.hid hbd
  have HSI : Hid (w.heap.size + 3 ≤ (((w.alloc (.cells #[.int .i64 0, .int .i64 0, .string ⟨#[]⟩] 31)).alloc (.cells #[.int .i64 k, .int .i64 0, .string ⟨#[]⟩] 31)).alloc (.cells #[.pointer none, .slice none 0 0] 47)).heap.size) := Lib.hid (by rw [size_alloc, size_alloc, size_alloc]; omega)
  have HE0 : Hid (Ext w (((w.alloc (.cells #[.int .i64 0, .int .i64 0, .string ⟨#[]⟩] 31)).alloc (.cells #[.int .i64 k, .int .i64 0, .string ⟨#[]⟩] 31)).alloc (.cells #[.pointer none, .slice none 0 0] 47))) := Lib.hid ((((Ext.refl w).alloc _).alloc _).alloc _)
  clear hw0 hbd
  go_loopw [14] (fun z wr => ∃ j : Nat, j ≤ q ∧ z = .int .i64 j ∧ Lib.IsBuilder 47 5 (w.heap.size + 1 + 1) (w.heap.size + 1 + 1) (Lib.byteCells (bs (catT (l.take j)))) wr ∧
    wr.heap[w.heap.size + 1]? = some (.cells #[.int .i64 k, .int .i64 (sumN (l.take j)), .string ⟨#[]⟩] 31 (0, 0)) ∧ wr.heap[w.heap.size]? = some (.cells #[.int .i64 0, .int .i64 0, .string ⟨#[]⟩] 31 (0, 0)) ∧
    Ext w wr ∧ w.heap.size + 3 ≤ wr.heap.size) (fun z _ => q - (intOf z).toNat)
  case atStart => exact ⟨0, by omega, rfl, HBD.out, HW0.out.2, HW0.out.1, HE0.out, HSI.out⟩
  case round =>
    obtain ⟨j, hj, rfl, hbd, hh1, hh0, hxr, hsz⟩ := hrel
    have HBD := Lib.hid hbd; have HH1 := Lib.hid hh1; have HH0 := Lib.hid hh0
    clear hbd hh1 hh0 HW0 HE0 HSI r0 r1
    by_cases hlt : j < q
    · have hjl : j < l.length := by have := HL.out; omega
      obtain ⟨b', off', hA, hb', q0, q1, q2⟩ := sp_at (H.out.ext hxr) HL.out hlt
      injection hA with hA
      injection hA with e1 e2
      subst e1; subst e2
      have dn : decide (j < q) = true := by rw [decide_eq_true_eq]; exact hlt
      have j0 : (0 : Int) ≤ (j : Int) := by omega
      have j1 : (j : Int) < (q : Int) := by omega
      have hokt := (HO.out.take (j + 1))
      have hp := sumN_pos _ (HO.out.take j).pos
      have hpj := HO.out.pos l[j] (List.getElem_mem hjl)
      have hsn := sumN_take l j hjl
      have hct := catT_take l j hjl
      have hb1 := hokt.n
      have hb2 := hokt.t
      rw [← catT_size, hct, ba_size] at hb2
      rw [hsn] at hb1
      have HSN := Lib.hid hsn; have HCT := Lib.hid hct
      obtain ⟨a1, ha1⟩ : ∃ a1, l[j].1 = a1 := ⟨_, rfl⟩
      obtain ⟨a2, ha2⟩ : ∃ a2, l[j].2.1 = a2 := ⟨_, rfl⟩
      obtain ⟨a3, ha3⟩ : ∃ a3, l[j].2.2 = a3 := ⟨_, rfl⟩
      rw [ha1] at q0; rw [ha2] at q1 hpj hb1 HSN; rw [ha3] at q2 hb2 HCT
      generalize sumN (l.take j) = S at *
      generalize catT (l.take j) = C at *
      have hG1 : w.heap.size + 1 < wr.heap.size := by omega
      have hcs : (wr.setCell ⟨w.heap.size + 1, 1, none⟩ (.int .i64 (S + a2))).heap.size = wr.heap.size := by simp
      have y1 := Lib.cell_of_heap HH1.out 1
      have f1 := Lib.frozen_of_heap HH1.out 1
      have hs0 : (-9223372036854775808 : Int) ≤ S + a2 := by omega
      have hs1 : S + a2 ≤ (9223372036854775807 : Int) := by omega
      simp at y1
      have hN1 := heap_setCell_same _ _ 1 _ _ (Value.int .i64 (S + a2)) HH1.out
      have hN0 : (wr.setCell ⟨w.heap.size + 1, 1, none⟩ (.int .i64 (S + a2))).heap[w.heap.size]? = some (.cells #[.int .i64 0, .int .i64 0, .string ⟨#[]⟩] 31 (0, 0)) := by rw [heap_setCell_other _ _ _ _ (by simp)]; exact HH0.out
      have hX := (Ext.refl (wr.setCell ⟨w.heap.size + 1, 1, none⟩ (.int .i64 (S + a2)))).alloc (.cells #[.int .i64 a1, .int .i64 a2, .string a3] 31)
      have z1 := box_at wr _ #[.int .i64 a1, .int .i64 a2, .string a3] 31 (Ext.refl _) 1 _ rfl
      have z2 := box_at (wr.setCell ⟨w.heap.size + 1, 1, none⟩ (.int .i64 (S + a2))) _ #[.int .i64 a1, .int .i64 a2, .string a3] 31 (Ext.refl _) 2 _ rfl
      rw [hcs] at z2
      have HHN : Hid (((wr.setCell ⟨w.heap.size + 1, 1, none⟩ (.int .i64 (S + a2))).alloc (.cells #[.int .i64 a1, .int .i64 a2, .string a3] 31)).heap[w.heap.size + 1]? = some (.cells #[.int .i64 k, .int .i64 (S + a2), .string ⟨#[]⟩] 31 (0, 0))) := Lib.hid (by rw [hX.block _ (by rw [hcs]; omega)]; exact hN1)
      have HH0N : Hid (((wr.setCell ⟨w.heap.size + 1, 1, none⟩ (.int .i64 (S + a2))).alloc (.cells #[.int .i64 a1, .int .i64 a2, .string a3] 31)).heap[w.heap.size]? = some (.cells #[.int .i64 0, .int .i64 0, .string ⟨#[]⟩] 31 (0, 0))) := Lib.hid (by rw [hX.block _ (by rw [hcs]; omega)]; exact hN0)
      have HBW : Hid (Lib.IsBuilder 47 5 (w.heap.size + 1 + 1) (w.heap.size + 1 + 1) (Lib.byteCells (bs C)) ((wr.setCell ⟨w.heap.size + 1, 1, none⟩ (.int .i64 (S + a2))).alloc (.cells #[.int .i64 a1, .int .i64 a2, .string a3] 31))) :=
        Lib.hid (bld_kept HBD.out (fun g hg hl => by rw [hX.block _ (by rw [hcs]; exact hl), heap_setCell_other _ _ _ _ (by simp; omega)]))
      have HXW : Hid (Ext w ((wr.setCell ⟨w.heap.size + 1, 1, none⟩ (.int .i64 (S + a2))).alloc (.cells #[.int .i64 a1, .int .i64 a2, .string a3] 31))) := Lib.hid ((Below.setCell hxr (p := ⟨w.heap.size + 1, 1, none⟩) (by simp) _).trans (Below.mono hX (by rw [hcs]; omega)))
      have HSZ : Hid (w.heap.size + 3 ≤ ((wr.setCell ⟨w.heap.size + 1, 1, none⟩ (.int .i64 (S + a2))).alloc (.cells #[.int .i64 a1, .int .i64 a2, .string a3] 31)).heap.size) := Lib.hid (by rw [size_alloc, hcs]; omega)
      have HW := Lib.hid (fun W hW hs => wstr_c (w.heap.size + 1 + 1) (w.heap.size + 1 + 1) (Lib.byteCells (bs C)) a3 W hW (by rw [Lib.byteCells_length, bs_length]; omega) hs)
      clear ha1 ha2 ha3 hokt hsn hct hb2 hN1 hN0 hX hcs hpj hp hb1
      go_wp2_with fail
      refine (HW.out _ HBW.out (by have := HSZ.out; omega)).mono ?_; rintro e w2 ⟨⟨v, rfl⟩, hb2, hbel2⟩
      have h1 := (hbel2.block (w.heap.size + 1) (by omega)).trans HHN.out
      have h2 := (hbel2.block w.heap.size (by omega)).trans HH0N.out
      have HHH := Lib.hid (And.intro h1 h2)
      have HBB := Lib.hid hb2
      have HXX : Hid (Ext w w2) := Lib.hid (Below.trans HXW.out (Below.mono hbel2 (by omega)))
      have HSS : Hid (w.heap.size + 3 ≤ w2.heap.size) := Lib.hid (Nat.le_trans HSZ.out hbel2.size)
      clear h1 h2 hb2 hbel2
      go_wp2_with fail
      go_roundw
      case rel => exact ⟨j + 1, by omega, by go_num, by rw [HCT.out, bs_append, bcells_append]; exact HBB.out, by rw [HSN.out]; exact HHH.out.1, HHH.out.2, HXX.out, HSS.out⟩
      case measure => simp [intOf]; omega
    · obtain rfl : j = q := by omega
      have dn : decide (j < j) = false := by rw [decide_eq_false_iff_not]; exact hlt
      have hall : l.take j = l := by rw [← HL.out]; exact List.take_length
      rw [hall] at HBD HH1
      have HST : Hid (Calls Try.prog 22 #[.pointer (some ⟨w.heap.size + 1 + 1, 0, none⟩)] wr fun e w' => e = .returned (.string (catT l)) ∧ Below (w.heap.size + 1 + 1) wr w') :=
        Lib.hid (by
          have h := Try.Builder_String_any (w.heap.size + 1 + 1) (w.heap.size + 1 + 1) (bs (catT l)) wr HBD.out (by omega)
          have e : (⟨(bs (catT l)).toArray⟩ : ByteArray) = catT l := mkS_bs _
          rw [e] at h; exact h)
      obtain ⟨S, hS⟩ : ∃ S, sumN l = S := ⟨_, rfl⟩
      obtain ⟨C, hC⟩ : ∃ C, catT l = C := ⟨_, rfl⟩
      rw [hS] at HH1
      rw [hC] at HST
      have HSE := Lib.hid hS; have HCE := Lib.hid hC
      clear hS hC
      clear hlt hall hj
      go_wp2_with fail
      refine HST.out.mono ?_; rintro e w2 ⟨rfl, hbel2⟩
      have h1 := (hbel2.block (w.heap.size + 1) (by omega)).trans HH1.out
      have h2 := (hbel2.block w.heap.size (by omega)).trans HH0.out
      have HXX : Hid (Ext w w2) := Lib.hid (Below.trans hxr (Below.mono hbel2 (by omega)))
      have HH2 := Lib.hid h2
      have y2 : w2.cell? ⟨w.heap.size + 1, 2, none⟩ = some (.string ⟨#[]⟩) := by rw [Lib.cell_of_heap h1]; rfl
      have f2 := Lib.frozen_of_heap h1 2
      have hN1 := heap_setCell_same _ _ 2 _ _ (Value.string C) h1
      have hN0 : (w2.setCell ⟨w.heap.size + 1, 2, none⟩ (.string C)).heap[w.heap.size]? = some (.cells #[.int .i64 0, .int .i64 0, .string ⟨#[]⟩] 31 (0, 0)) := by rw [heap_setCell_other _ _ _ _ (by simp)]; exact h2
      have HXN : Hid (Ext w (w2.setCell ⟨w.heap.size + 1, 2, none⟩ (.string C))) := Lib.hid (Below.setCell HXX.out (p := ⟨w.heap.size + 1, 2, none⟩) (by simp) _)
      have y0 : w2.cell? ⟨w.heap.size + 1, 0, none⟩ = some (.int .i64 k) := by rw [Lib.cell_of_heap h1]; rfl
      have y1 : w2.cell? ⟨w.heap.size + 1, 1, none⟩ = some (.int .i64 S) := by rw [Lib.cell_of_heap h1]; rfl
      have x0 : w2.cell? ⟨w.heap.size, 0, none⟩ = some (.int .i64 0) := by rw [Lib.cell_of_heap h2]; rfl
      have x1 : w2.cell? ⟨w.heap.size, 1, none⟩ = some (.int .i64 0) := by rw [Lib.cell_of_heap h2]; rfl
      have x2 : w2.cell? ⟨w.heap.size, 2, none⟩ = some (.string ⟨#[]⟩) := by rw [Lib.cell_of_heap h2]; rfl
      have g0 := Lib.frozen_of_heap h2 0
      have g1 := Lib.frozen_of_heap h2 1
      have g2 := Lib.frozen_of_heap h2 2
      have HN0 := Lib.hid hN0
      clear hbel2 h1 h2 hN0 hN1
      go_wp2_with fail
      refine bodyPost_ret (results_cell_row rfl _ _ w.heap.size _ _ (0, 0) _ rfl (heap_setCell_same _ _ 2 _ _ (Value.string C) (heap_setCell_same _ _ 1 _ _ (Value.int .i64 S) (heap_setCell_same _ _ 0 _ _ (Value.int .i64 k) HN0.out))) Try.underlying31 rfl (by kernel_rfl)) rfl ?_
      rw [HSE.out, HCE.out]
      exact ⟨rfl, Below.setCell (Below.setCell (Below.setCell HXN.out (p := ⟨w.heap.size, 0, none⟩) (Nat.le_refl _) _) (p := ⟨w.heap.size, 1, none⟩) (Nat.le_refl _) _) (p := ⟨w.heap.size, 2, none⟩) (Nat.le_refl _) _⟩
end Go.Proofs.Ythlhjjgmncbplaa
