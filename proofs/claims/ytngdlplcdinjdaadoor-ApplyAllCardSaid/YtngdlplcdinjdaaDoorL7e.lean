/- Layer 7, ApplyAll. -/
import Derived.Test.YtngdlplcdinjdaaDoorL7b
namespace Go.Proofs.YtngdlplcdinjdaaDoor
open Go.RowKit
set_option maxRecDepth 100000
set_option maxHeartbeats 4000000
theorem applyAll_c (A : Option Addr) (q c : Nat) (l : List Sp) (s : ByteArray) (w : World) [Tab w] (h : Rd w 3 (.slice A q c) q (spCells l)) (hl : l.length = q) (hls : ∀ s ∈ l, s.2.2.size ≤ maxLen) (hs : s.size ≤ maxLen) :
    Calls Tryd.prog 3 #[.slice A q c, .string s] w fun e w' => e = .returned (.bool true) ∧ Below w.heap.size w w' := by
  obtain ⟨T, cs, hm1, hm2, hTl, hT0, hsz, HFIT, HCP, hcl, hUs, HD⟩ := cut_fit s 60 60 rfl (by omega) hs
  have hV := to_fit l cs (mkS (encs cs)) HD.out (by omega)
  obtain ⟨f1, f2, f3, f4, f5, f6, f7⟩ := fit_all l cs.length (by omega) (by omega)
  have HFL : Hid (∀ w', Ext w w' → _) := Lib.hid fun w' hx => fitR4_c A q c l cs.length w' (h.ext hx) hl hls (by omega) (by omega)
  have HFW : Hid (∀ w', Ext w w' → _) := Lib.hid fun w' hx => few7_c A q c l w' (h.ext hx) hl hls
  have hw1 := fewL7_size l
  have hw2 : (fewL7 l).length ≤ 20 := by rw [fewL7_len]; omega
  have hw3 := sumT_le (fewL7 l) 60 hw1
  have hTs : (s.extract 0 T).size ≤ 60 := by have := hm1; simp; omega
  generalize fewL7 l = Z at *
  generalize fitL l cs.length = X at *
  obtain ⟨M, hM⟩ : ∃ M, cs.length = M := ⟨_, rfl⟩
  have hcU := cnt_U cs _ HD.out
  rw [hM] at hcU HFL
  have HCU : Hid (∀ w', Calls Tryd.prog 15 #[.string (mkS (encs cs))] w' fun e w'' => e = .returned (.int .i64 (M : Int)) ∧ Ext w' w'') := Lib.hid fun w' => by
    have h := count_c (mkS (encs cs)) w' (by omega); rw [hcU] at h; exact h
  have HTX : Hid (∀ A n k w', Ext w w' → RdO w' A n k X → _) := Lib.hid fun A n k w' hx hr => have hTb := tab_ext hx; to_c A n k X (mkS (encs cs)) w' hr.2 hr.1 (by have := hr.1; omega) f6 f7 (by omega)
  have HRX : Hid (∀ A n k w', RdO w' A n k X → _) := Lib.hid fun A n k w' hr => toR_c A n k X (mkS (encs cs)) w' hr.2 hr.1 (by have := hr.1; omega) f6 f7 (by omega)
  have HTZ : Hid (∀ A n k w', Ext w w' → RdO w' A n k Z → _) := Lib.hid fun A n k w' hx hr => have hTb := tab_ext hx; to_c A n k Z (s.extract 0 T) w' hr.2 hr.1 (by have := hr.1; omega) (fun s hs => by have := hw1 s hs; omega) (by omega) (by omega)
  have HRZ : Hid (∀ A n k w', RdO w' A n k Z → _) := Lib.hid fun A n k w' hr => toR_c A n k Z (s.extract 0 T) w' hr.2 hr.1 (by have := hr.1; omega) (fun s hs => by have := hw1 s hs; omega) (by omega) (by omega)
  rw [hV] at HTX HRX
  unfold toV at HTZ HRZ
  clear h hl hls hs hV f1 f2 f3 f4 f6 f7 hM hcU HCP HD hUs hw1 hw3
  generalize mkS (encs (apT (tok X) cs)) = S at *
  generalize mkS (encs cs) = U at *
  generalize toS Z (s.extract 0 T) = P at *
  generalize toE Z (s.extract 0 T) = E at *
  go_enter Tryd.func3, Tryd.ntmps3
  go_wp2_with fail
  refine (shown7_c _).mono ?_; rintro e w1 ⟨rfl, hx1⟩
  have e1 : Ext w w1 := hx1
  clear hx1
  go_wp2_with fail
  refine (HFW.out _ e1).mono ?_; rintro e w2 ⟨v2, rfl, hx2, o2⟩
  have e2 : Ext w w2 := e1.trans hx2
  obtain ⟨aZ, nZ, cZ, rfl, rZ⟩ := rdO_own o2
  have RZ := Lib.hid rZ
  clear o2 rZ
  clear hx2
  go_wp2_with fail
  refine (HTZ.out _ _ _ _ e2 RZ.out).mono ?_; rintro e w3 ⟨rfl, hx3⟩
  have e3 : Ext w w3 := e2.trans hx3
  replace RZ := Lib.hid (RZ.out.ext hx3)
  clear hx3
  clear RZ
  go_wp2_with fail
  refine (HFW.out _ e3).mono ?_; rintro e w4 ⟨v4, rfl, hx4, o4⟩
  have e4 : Ext w w4 := e3.trans hx4
  obtain ⟨aY, nY, cY, rfl, rY⟩ := rdO_own o4
  have RY := Lib.hid rY
  clear o4 rY
  clear hx4
  go_wp2_with fail
  refine (HRZ.out _ _ _ _ RY.out).mono ?_; rintro e w5 ⟨rfl, hx5⟩
  have e5 : Ext w w5 := e4.trans hx5
  replace RY := Lib.hid (RY.out.ext hx5)
  clear hx5
  clear RY
  go_wp2_with fail
  refine (HFIT.out _).mono ?_; rintro e w6 ⟨rfl, hx6⟩
  have e6 : Ext w w6 := e5.trans hx6
  clear hx6
  go_wp2_with fail
  refine (HCU.out _).mono ?_; rintro e w7 ⟨rfl, hx7⟩
  have e7 : Ext w w7 := e6.trans hx7
  clear hx7
  go_wp2_with fail
  refine (HFL.out _ e7).mono ?_; rintro e w8 ⟨v8, rfl, hx8, o8⟩
  have e8 : Ext w w8 := e7.trans hx8
  obtain ⟨aX, nX, cX, rfl, rX⟩ := rdO_own o8
  have RX := Lib.hid rX
  clear o8 rX
  clear hx8
  go_wp2_with fail
  refine (HTX.out _ _ _ _ e8 RX.out).mono ?_; rintro e w9 ⟨rfl, hx9⟩
  have e9 : Ext w w9 := e8.trans hx9
  replace RX := Lib.hid (RX.out.ext hx9)
  clear hx9
  go_wp2_with fail
  refine (HRX.out _ _ _ _ RX.out).mono ?_; rintro e w10 ⟨rfl, hx10⟩
  have e10 : Ext w w10 := e9.trans hx10
  replace RX := Lib.hid (RX.out.ext hx10)
  clear hx10
  go_wp2_with fail
  go_ret
  exact ⟨rfl, e10⟩
end Go.Proofs.YtngdlplcdinjdaaDoor
