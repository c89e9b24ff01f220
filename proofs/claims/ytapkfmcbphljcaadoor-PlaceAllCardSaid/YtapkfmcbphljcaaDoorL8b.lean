/- Layer 8, PlaceAll. -/
import Derived.Test.YtapkfmcbphljcaaDoorL8a
import Derived.Test.YtapkfmcbphljcaaDoorL5b
import Derived.Test.YtapkfmcbphljcaaDoorBs
namespace Go.Proofs.YtapkfmcbphljcaaDoor
open Go.RowKit
set_option maxRecDepth 100000
set_option maxHeartbeats 4000000
theorem placeAll_c (A : Option Addr) (q c : Nat) (l : List Sp) (gap at' : Int) (w : World) [Tab w] (h : Rd w 3 (.slice A q c) q (spCells l)) (hl : l.length = q) (hls : ∀ s ∈ l, s.2.2.size ≤ maxLen) (hg : (Lit.int .i64 gap).wf = true) (ha : (Lit.int .i64 at').wf = true) :
    Calls Tryd.prog 3 #[.slice A q c, .int .i64 gap, .int .i64 at'] w fun e w' => e = .returned (.bool true) ∧ Below w.heap.size w w' := by
  obtain ⟨g0, g1⟩ := bounds_i64 hg
  obtain ⟨a0, a1⟩ := bounds_i64 ha
  have HFW : Hid (∀ w', Ext w w' → _) := Lib.hid fun w' hx => few8_c A q c l w' (h.ext hx) hl hls
  have hw1 := fewL8_size l
  have hw2 : (fewL8 l).length ≤ 20 := by rw [fewL8_len]; omega
  have hw3 := sumT_le (fewL8 l) 60 hw1
  generalize fewL8 l = Z at *
  have HWP : Hid (∀ A n k w', Ext w w' → RdO w' A n k Z → _) := Lib.hid fun A n k w' hx hr => have hTb := tab_ext hx; whereP_c A n k Z gap w' hr.2 hr.1 (by have := hr.1; omega) (fun s hs => by have := hw1 s hs; omega) (by omega) g0 g1
  have HWR : Hid (∀ A n k w', RdO w' A n k Z → _) := Lib.hid fun A n k w' hr => whereRR_c A n k Z gap w' hr.2 hr.1 (by have := hr.1; omega) (fun s hs => by have := hw1 s hs; omega) (by omega) g0 g1
  have HLP : Hid (∀ A n k w', Ext w w' → RdO w' A n k Z → _) := Lib.hid fun A n k w' hx hr => have hTb := tab_ext hx; leastP_c A n k Z at' w' hr.2 hr.1 (by have := hr.1; omega) (fun s hs => by have := hw1 s hs; omega) (by omega) a0 a1
  have HLR : Hid (∀ A n k w', RdO w' A n k Z → _) := Lib.hid fun A n k w' hr => leastR_c A n k Z at' w' hr.2 hr.1 (by have := hr.1; omega) (fun s hs => by have := hw1 s hs; omega) (by omega) a0 a1
  unfold whereV at HWP HWR
  unfold leastV at HLP HLR
  clear h hl hls hw1 hw2 hw3 hg ha
  generalize (if whereE Z gap = 0 then ((whereT (tok Z) gap.toNat : Nat) : Int) else 0) = V1 at *
  generalize (if leastE Z at' = 0 then ((leastT (tok Z) at'.toNat : Nat) : Int) else 0) = V2 at *
  generalize whereE Z gap = E1 at *
  generalize leastE Z at' = E2 at *
  go_enter Tryd.func3, Tryd.ntmps3
  go_wp2_with fail
  refine (shown8_c _).mono ?_; rintro e w1 ⟨rfl, hx1⟩
  have e1 : Ext w w1 := hx1
  clear hx1
  go_wp2_with fail
  refine (HFW.out _ e1).mono ?_; rintro e w2 ⟨v2, rfl, hx2, o2⟩
  have e2 : Ext w w2 := e1.trans hx2
  obtain ⟨aZ, nZ, cZ, rfl, rZ⟩ := rdO_own o2
  have RZ := Lib.hid rZ
  clear o2 rZ
  clear hx2
  go_wp2_with fail
  refine (HWP.out _ _ _ _ e2 RZ.out).mono ?_; rintro e w3 ⟨rfl, hx3⟩
  have e3 : Ext w w3 := e2.trans hx3
  replace RZ := Lib.hid (RZ.out.ext hx3)
  clear hx3
  go_wp2_with fail
  refine (HWR.out _ _ _ _ RZ.out).mono ?_; rintro e w4 ⟨rfl, hx4⟩
  have e4 : Ext w w4 := e3.trans hx4
  replace RZ := Lib.hid (RZ.out.ext hx4)
  clear hx4
  go_wp2_with fail
  refine (HLP.out _ _ _ _ e4 RZ.out).mono ?_; rintro e w5 ⟨rfl, hx5⟩
  have e5 : Ext w w5 := e4.trans hx5
  replace RZ := Lib.hid (RZ.out.ext hx5)
  clear hx5
  go_wp2_with fail
  refine (HLR.out _ _ _ _ RZ.out).mono ?_; rintro e w6 ⟨rfl, hx6⟩
  have e6 : Ext w w6 := e5.trans hx6
  replace RZ := Lib.hid (RZ.out.ext hx6)
  clear hx6
  go_wp2_with fail
  go_ret
  exact ⟨rfl, e6⟩
end Go.Proofs.YtapkfmcbphljcaaDoor
