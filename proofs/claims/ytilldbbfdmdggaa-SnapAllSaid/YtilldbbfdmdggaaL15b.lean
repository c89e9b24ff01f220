/- Layer 15, SnapAll. -/
import Derived.Test.YtilldbbfdmdggaaL15a
namespace Go.Proofs.Ytilldbbfdmdggaa
open Go.RowKit
set_option maxRecDepth 100000
set_option maxHeartbeats 4000000
set_option linter.unusedSimpArgs false
theorem snapAll_c (s : ByteArray) (A1 : Option Addr) (q1 c1 : Nat) (zs : List Int) (w : World) (hs : s.size ≤ maxLen) (h1 : IsInts .u8 w A1 q1 c1 zs) :
    Calls Try.prog 3 #[.string s, .slice A1 q1 c1] w fun e w' => e = .returned (.bool true) ∧ Below w.heap.size w w' := by
  unfold maxLen at hs
  obtain ⟨M, bl, hM, hbl, hbr, hfo⟩ := few15_in h1
  have HFO := Lib.hid hfo
  have RB := Lib.hid hbr
  obtain ⟨T, hT⟩ : ∃ T, min s.size 200 = T := ⟨_, rfl⟩
  have hmn : min (s.size : Int) 200 = (T : Int) := by omega
  have hmi : (if (200 : Int) < (s.size : Int) then (200 : Int) else (s.size : Int)) = (T : Int) := by split <;> omega
  have hT0 : (0 : Int) ≤ (T : Int) := by omega
  have hT1 : (T : Int) ≤ (s.size : Int) := by omega
  have hT2 : T ≤ 200 := by omega
  have hX : (s.extract 0 T).size ≤ 200 := by simp; omega
  have HP1 : Hid (∀ w', Calls Try.prog 9 #[.string (s.extract 0 T)] w' _) := Lib.hid fun w' => snPutP_c _ w' (by omega)
  have HP2 : Hid (∀ w', Calls Try.prog 10 #[.string (s.extract 0 T)] w' _) := Lib.hid fun w' => snPutR_c _ w' (by omega)
  have HT1 : Hid (∀ w', Rd w' 1 (.slice A1 M c1) M (Lib.byteCells bl) → Calls Try.prog 11 #[.slice A1 M c1] w' (TextR w' (takeT bl))) := Lib.hid fun w' hr => snTakeP_c A1 M c1 bl w' hr (by omega)
  have HT2 : Hid (∀ w', Rd w' 1 (.slice A1 M c1) M (Lib.byteCells bl) → Calls Try.prog 13 #[.slice A1 M c1] w' (TextR w' (takeT bl))) := Lib.hid fun w' hr => snTakeR_c A1 M c1 bl w' hr (by omega)
  clear h1 hfo hbr hM hbl hX hT
  generalize (takeT bl) = TB at *
  go_enter Try.func3, Try.ntmps3
  go_wp2_with fail
  refine (shown15_c _).mono ?_; rintro e w1 ⟨rfl, hx1⟩
  have e1 : Ext w w1 := hx1
  replace RB := Lib.hid (RB.out.ext hx1)
  clear hx1
  go_wp2_with fail
  refine (HP1.out _).mono ?_; rintro e w2 ⟨hx2, vP, rfl, oP⟩
  have e2 : Ext w w2 := e1.trans hx2
  replace RB := Lib.hid (RB.out.ext hx2)
  have SP := Lib.hid oP.rd
  clear hx2 oP
  go_wp2_with fail
  refine (HP2.out _).mono ?_; rintro e w3 ⟨hx3, vQ, rfl, oQ⟩
  have e3 : Ext w w3 := e2.trans hx3
  replace RB := Lib.hid (RB.out.ext hx3)
  replace SP := Lib.hid (SP.out.ext hx3)
  have SQ := Lib.hid oQ.rd
  clear hx3 oQ
  go_wp2_with fail
  refine (HFO.out _).mono ?_; rintro e w4 ⟨rfl, hx4⟩
  have e4 : Ext w w4 := e3.trans hx4
  replace RB := Lib.hid (RB.out.ext hx4)
  replace SP := Lib.hid (SP.out.ext hx4)
  replace SQ := Lib.hid (SQ.out.ext hx4)
  clear hx4
  go_wp2_with fail
  refine (HT1.out _ RB.out).mono ?_; rintro e w5 ⟨hx5, rfl⟩
  have e5 : Ext w w5 := e4.trans hx5
  replace RB := Lib.hid (RB.out.ext hx5)
  replace SP := Lib.hid (SP.out.ext hx5)
  replace SQ := Lib.hid (SQ.out.ext hx5)
  clear hx5
  go_wp2_with fail
  refine (HFO.out _).mono ?_; rintro e w6 ⟨rfl, hx6⟩
  have e6 : Ext w w6 := e5.trans hx6
  replace RB := Lib.hid (RB.out.ext hx6)
  replace SP := Lib.hid (SP.out.ext hx6)
  replace SQ := Lib.hid (SQ.out.ext hx6)
  clear hx6
  go_wp2_with fail
  refine (HT2.out _ RB.out).mono ?_; rintro e w7 ⟨hx7, rfl⟩
  have e7 : Ext w w7 := e6.trans hx7
  replace RB := Lib.hid (RB.out.ext hx7)
  replace SP := Lib.hid (SP.out.ext hx7)
  replace SQ := Lib.hid (SQ.out.ext hx7)
  clear hx7
  have HSP := Lib.hid (str_run15 w7 SP.out)
  have HSQ := Lib.hid (str_run15 w7 SQ.out)
  generalize snE (s.extract 0 T) = E1 at *
  generalize mkS (snB (s.extract 0 T)) = B1 at *
  generalize mkS TB.2.1 = B2 at *
  go_wp2_with (first | ((with_reducible refine wpList_convert_g ?_ rfl HSP.out rfl ?_); rfl) | ((with_reducible refine wpList_convert_g ?_ rfl HSQ.out rfl ?_); rfl))
  go_ret
  exact ⟨rfl, e7⟩
end Go.Proofs.Ytilldbbfdmdggaa
