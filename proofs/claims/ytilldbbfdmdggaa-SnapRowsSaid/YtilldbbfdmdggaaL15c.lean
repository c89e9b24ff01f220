/- Layer 15, SnapRows. -/
import Derived.Test.YtilldbbfdmdggaaL15a
namespace Go.Proofs.Ytilldbbfdmdggaa
open Go.RowKit
set_option maxRecDepth 100000
set_option maxHeartbeats 4000000
set_option linter.unusedSimpArgs false
theorem snapRows_c (A0 : Option Addr) (q0 c0 : Nat) (ys : List Int) (A1 : Option Addr) (q1 c1 : Nat) (zs : List Int) (w : World) (h0 : IsInts .i64 w A0 q0 c0 ys) (h1 : IsInts .u8 w A1 q1 c1 zs) :
    Calls Try.prog 4 #[.slice A0 q0 c0, .slice A1 q1 c1] w fun e w' => e = .returned (.bool true) ∧ Below w.heap.size w w' := by
  obtain ⟨M, bl, hM, hbl, hbr, hfo⟩ := few15_in h1
  obtain ⟨K, il, hK, hil, hir, hso⟩ := short15_in h0
  have HFO := Lib.hid hfo; have HSO := Lib.hid hso
  have RB := Lib.hid hbr; have RI := Lib.hid hir
  have HP1 : Hid (∀ w', Rd w' 1 (.slice A0 K c0) K (nV il) → Calls Try.prog 14 #[.slice A0 K c0] w' _) := Lib.hid fun w' hr => rwPutP_c _ _ _ _ w' hr (by omega)
  have HP2 : Hid (∀ w', Rd w' 1 (.slice A0 K c0) K (nV il) → Calls Try.prog 16 #[.slice A0 K c0] w' _) := Lib.hid fun w' hr => rwPutR_c _ _ _ _ w' hr (by omega)
  have HT1 : Hid (∀ w', Rd w' 1 (.slice A1 M c1) M (Lib.byteCells bl) → Calls Try.prog 17 #[.slice A1 M c1] w' (RowR w' (takeRw bl))) := Lib.hid fun w' hr => rwTakeP_c A1 M c1 bl w' hr (by omega)
  have HT2 : Hid (∀ w', Rd w' 1 (.slice A1 M c1) M (Lib.byteCells bl) → Calls Try.prog 18 #[.slice A1 M c1] w' (RowR w' (takeRw bl))) := Lib.hid fun w' hr => rwTakeR_c A1 M c1 bl w' hr (by omega)
  have LT : Hid ((takeRw bl).2.1.length ≤ 1000) := Lib.hid (by have := (takeRw_len bl).1; omega)
  clear h0 h1 hfo hbr hso hir hM hbl hK hil
  generalize (takeRw bl) = TB at *
  go_enter Try.func4, Try.ntmps4
  go_wp2_with fail
  refine (shown15_c _).mono ?_; rintro e w1 ⟨rfl, hx1⟩
  have e1 : Ext w w1 := hx1
  replace RB := Lib.hid (RB.out.ext hx1)
  replace RI := Lib.hid (RI.out.ext hx1)
  clear hx1
  go_wp2_with fail
  refine (HSO.out _).mono ?_; rintro e w2 ⟨rfl, hx2⟩
  have e2 : Ext w w2 := e1.trans hx2
  replace RB := Lib.hid (RB.out.ext hx2)
  replace RI := Lib.hid (RI.out.ext hx2)
  clear hx2
  go_wp2_with fail
  refine (HP1.out _ RI.out).mono ?_; rintro e w3 ⟨hx3, vP, rfl, oP⟩
  have e3 : Ext w w3 := e2.trans hx3
  replace RB := Lib.hid (RB.out.ext hx3)
  replace RI := Lib.hid (RI.out.ext hx3)
  have SP := Lib.hid oP.rd
  clear hx3 oP
  go_wp2_with fail
  refine (HSO.out _).mono ?_; rintro e w4 ⟨rfl, hx4⟩
  have e4 : Ext w w4 := e3.trans hx4
  replace RB := Lib.hid (RB.out.ext hx4)
  replace RI := Lib.hid (RI.out.ext hx4)
  replace SP := Lib.hid (SP.out.ext hx4)
  clear hx4
  go_wp2_with fail
  refine (HP2.out _ RI.out).mono ?_; rintro e w5 ⟨hx5, vQ, rfl, oQ⟩
  have e5 : Ext w w5 := e4.trans hx5
  replace RB := Lib.hid (RB.out.ext hx5)
  replace RI := Lib.hid (RI.out.ext hx5)
  replace SP := Lib.hid (SP.out.ext hx5)
  have SQ := Lib.hid oQ.rd
  clear hx5 oQ
  go_wp2_with fail
  refine (HFO.out _).mono ?_; rintro e w6 ⟨rfl, hx6⟩
  have e6 : Ext w w6 := e5.trans hx6
  replace RB := Lib.hid (RB.out.ext hx6)
  replace RI := Lib.hid (RI.out.ext hx6)
  replace SP := Lib.hid (SP.out.ext hx6)
  replace SQ := Lib.hid (SQ.out.ext hx6)
  clear hx6
  go_wp2_with fail
  refine (HT1.out _ RB.out).mono ?_; rintro e w7 ⟨hx7, aT, nT, cT, rfl, rT⟩
  have e7 : Ext w w7 := e6.trans hx7
  replace RB := Lib.hid (RB.out.ext hx7)
  replace RI := Lib.hid (RI.out.ext hx7)
  replace SP := Lib.hid (SP.out.ext hx7)
  replace SQ := Lib.hid (SQ.out.ext hx7)
  have NT := Lib.hid rT
  clear hx7 rT
  go_wp2_with fail
  refine (HFO.out _).mono ?_; rintro e w8 ⟨rfl, hx8⟩
  have e8 : Ext w w8 := e7.trans hx8
  replace RB := Lib.hid (RB.out.ext hx8)
  replace RI := Lib.hid (RI.out.ext hx8)
  replace SP := Lib.hid (SP.out.ext hx8)
  replace SQ := Lib.hid (SQ.out.ext hx8)
  replace NT := Lib.hid (NT.out.ext hx8)
  clear hx8
  go_wp2_with fail
  refine (HT2.out _ RB.out).mono ?_; rintro e w9 ⟨hx9, aU, nU, cU, rfl, rU⟩
  have e9 : Ext w w9 := e8.trans hx9
  replace RB := Lib.hid (RB.out.ext hx9)
  replace RI := Lib.hid (RI.out.ext hx9)
  replace SP := Lib.hid (SP.out.ext hx9)
  replace SQ := Lib.hid (SQ.out.ext hx9)
  replace NT := Lib.hid (NT.out.ext hx9)
  have NU := Lib.hid rU
  clear hx9 rU
  have HSP := Lib.hid (str_run15 w9 SP.out)
  have HSQ := Lib.hid (str_run15 w9 SQ.out)
  generalize rowE il = E1 at *
  generalize mkS (rwB il) = B1 at *
  go_wp2_with (first | ((with_reducible refine wpList_convert_g ?_ rfl HSP.out rfl ?_); rfl) | ((with_reducible refine wpList_convert_g ?_ rfl HSQ.out rfl ?_); rfl))
  refine (sameTrue15 rfl LT.out NT.out NU.out).mono ?_; rintro e w10 ⟨rfl, hx10⟩
  have e10 : Ext w w10 := e9.trans hx10
  replace RB := Lib.hid (RB.out.ext hx10)
  replace RI := Lib.hid (RI.out.ext hx10)
  replace SP := Lib.hid (SP.out.ext hx10)
  replace SQ := Lib.hid (SQ.out.ext hx10)
  replace NT := Lib.hid (NT.out.ext hx10)
  replace NU := Lib.hid (NU.out.ext hx10)
  clear hx10
  go_wp2_with fail
  go_ret
  exact ⟨rfl, e10⟩
end Go.Proofs.Ytilldbbfdmdggaa
