/- Layer 12, UnderMeets. -/
import Derived.Test.YtmhkglkpkpkpoaaDoorL12a
import Derived.Test.YtmhkglkpkpkpoaaDoorL7a
namespace Go.Proofs.YtmhkglkpkpkpoaaDoor
open Go.RowKit
set_option maxRecDepth 100000
set_option maxHeartbeats 4000000
theorem underMeets_c (s : ByteArray) (A0 : Option Addr) (q0 c0 : Nat) (l0 : List Sp) (A1 : Option Addr) (q1 c1 : Nat) (l1 : List Sp) (w : World) [Tab w] (hs : s.size ≤ maxLen) (h0 : Rd w 3 (.slice A0 q0 c0) q0 (spCells l0)) (hl0 : l0.length = q0) (hls0 : ∀ s ∈ l0, s.2.2.size ≤ maxLen) (h1 : Rd w 3 (.slice A1 q1 c1) q1 (spCells l1)) (hl1 : l1.length = q1) (hls1 : ∀ s ∈ l1, s.2.2.size ≤ maxLen) :
    Calls Tryd.prog 4 #[.string s, .slice A0 q0 c0, .slice A1 q1 c1] w fun e w' => e = .returned (.bool true) ∧ Below w.heap.size w w' := by
  obtain ⟨T, cs, hm1, hm2, hTl, hT0, hsz, HFIT, HCP, hcl, hUs, HD⟩ := cut_fit s 30 30 rfl (by omega) hs
  have FX : Hid (∀ w', Ext w w' → Calls Tryd.prog 10 #[.slice A0 q0 c0, .int .i64 (cs.length : Int)] w' (TellsL w' (fitL l0 cs.length))) := Lib.hid fun w' hx => fitG A0 q0 c0 l0 _ h0 hl0 hls0 (by omega) (by omega) hx
  have FY : Hid (∀ w', Ext w w' → Calls Tryd.prog 10 #[.slice A1 q1 c1, .int .i64 (cs.length : Int)] w' (TellsL w' (fitL l1 cs.length))) := Lib.hid fun w' hx => fitG A1 q1 c1 l1 _ h1 hl1 hls1 (by omega) (by omega) hx
  obtain ⟨gX, iX, oX0, oX1, lX, tX⟩ := good_fit l0 (cs.length : Int) (by omega) (by omega)
  obtain ⟨gY, iY, oY0, oY1, lY, tY⟩ := good_fit l1 (cs.length : Int) (by omega) (by omega)
  clear h0 hl0 hls0 h1 hl1 hls1 hs
  generalize fitL l0 cs.length = X at *
  generalize fitL l1 cs.length = Y at *
  obtain ⟨gB, B2, B3, B4, B5, B6⟩ := good_over gX gY (by omega) (by omega) (by omega)
  obtain ⟨gA, A2, A3, A4, A5, A6⟩ := good_under gY gX (by omega) (by omega) (by omega)
  have hmt := meets _ (tok Y) (tok X) cs (Nat.le_refl _) (by have := gX.tin; have := gY.tin; omega) (by have := gY.tin; omega)
  have HM : Hid (∀ A n k B m d w', Ext w w' → RdO w' A n k X → RdO w' B m d Y → Calls Tryd.prog 14 #[.slice A n k, .slice B m d] w' (TellsM w' (overL X Y) (underL Y X))) := Lib.hid fun A n k B m d w' hx hr hs => meetG gX gY (by omega) hx hr hs
  have HP : Hid (∀ A c w', Ext w w' → RdSS w' A 2 c [Y, overL X Y] → _) := Lib.hid fun A c w' hx hr => @allG _ _ gY gB B4.symm cs HCP.out (by omega) w w' _ hx A c hr
  have HQ : Hid (∀ A c w', Ext w w' → RdSS w' A 2 c [X, underL Y X] → _) := Lib.hid fun A c w' hx hr => @allG _ _ gX gA A4.symm cs HCP.out (by omega) w w' _ hx A c hr
  rw [B2, hmt] at HP
  rw [A2] at HQ
  have CB : Hid (∀ A n k w', Ext w w' → RdO w' A n k (overL X Y) → Calls Tryd.prog 20 #[.slice A n k] w' fun e w'' => e = .returned (.int .i64 (outL Y)) ∧ Ext w' w'') := Lib.hid fun A n k w' hx hr => by
    have h := inG gB hx hr
    rw [B4] at h; exact h
  have CA : Hid (∀ A n k w', Ext w w' → RdO w' A n k (underL Y X) → Calls Tryd.prog 20 #[.slice A n k] w' fun e w'' => e = .returned (.int .i64 (outL X)) ∧ Ext w' w'') := Lib.hid fun A n k w' hx hr => by
    have h := inG gA hx hr
    rw [A4] at h; exact h
  have NB := Lib.hid B3; have NA := Lib.hid A3
  have LB : Hid ((overL X Y).length ≤ 300) := Lib.hid gB.len
  have LA : Hid ((underL Y X).length ≤ 300) := Lib.hid gA.len
  have hcn := cnt_U cs _ HD.out
  have HC : Hid (∀ w', Calls Tryd.prog 18 #[.string (mkS (encs cs))] w' fun e w'' => e = .returned (.int .i64 (cs.length : Int)) ∧ Ext w' w'') := Lib.hid fun w' => by
    have h := count_c (mkS (encs cs)) w' (by omega); rw [hcn] at h; exact h
  clear iX iY oX0 oX1 lX tX oY0 oY1 lY tY B2 B3 B4 B5 B6 A2 A3 A4 A5 A6 hmt hcn gA gB
  generalize apT (underT (tok Y) (tok X)) (apT (tok X) cs) = OUT at *
  generalize overL X Y = B at *
  generalize underL Y X = Z at *
  go_enter Tryd.func4, Tryd.ntmps4
  go_wp2_with fail
  refine (shown12_c _).mono ?_; rintro e w1 ⟨rfl, hx1⟩
  have e1 : Ext w w1 := hx1
  clear hx1
  go_wp2_with fail
  refine (HFIT.out _).mono ?_; rintro e w2 ⟨rfl, hx2⟩
  have e2 : Ext w w2 := e1.trans hx2
  clear hx2
  go_wp2_with fail
  refine (HC.out _).mono ?_; rintro e w3 ⟨rfl, hx3⟩
  have e3 : Ext w w3 := e2.trans hx3
  clear hx3
  go_wp2_with fail
  refine (FX.out _ e3).mono ?_; rintro e w4 ⟨hx4, aX, nX, cX, rfl, rX⟩
  have e4 : Ext w w4 := e3.trans hx4
  have RX := Lib.hid rX
  clear hx4 rX
  go_wp2_with fail
  refine (HC.out _).mono ?_; rintro e w5 ⟨rfl, hx5⟩
  have e5 : Ext w w5 := e4.trans hx5
  replace RX := Lib.hid (RX.out.ext hx5)
  clear hx5
  go_wp2_with fail
  refine (FY.out _ e5).mono ?_; rintro e w6 ⟨hx6, aY, nY, cY, rfl, rY⟩
  have e6 : Ext w w6 := e5.trans hx6
  replace RX := Lib.hid (RX.out.ext hx6)
  have RY := Lib.hid rY
  clear hx6 rY
  go_wp2_with fail
  refine (HM.out _ _ _ _ _ _ _ e6 RX.out RY.out).mono ?_; rintro e w7 ⟨hx7, aB, nB, cB, aZ, nZ, cZ, rfl, rB, rZ⟩
  have e7 : Ext w w7 := e6.trans hx7
  replace RX := Lib.hid (RX.out.ext hx7)
  replace RY := Lib.hid (RY.out.ext hx7)
  have RB := Lib.hid rB; have RZ := Lib.hid rZ
  clear hx7 rB rZ
  have RSS := Lib.hid (rdSS_two RY.out RB.out 22)
  replace RX := Lib.hid (RX.out.ext ((Ext.refl w7).alloc (.cells #[.slice aY nY cY, .slice aB nB cB] 22)))
  replace RY := Lib.hid (RY.out.ext ((Ext.refl w7).alloc (.cells #[.slice aY nY cY, .slice aB nB cB] 22)))
  replace RB := Lib.hid (RB.out.ext ((Ext.refl w7).alloc (.cells #[.slice aY nY cY, .slice aB nB cB] 22)))
  replace RZ := Lib.hid (RZ.out.ext ((Ext.refl w7).alloc (.cells #[.slice aY nY cY, .slice aB nB cB] 22)))
  have e8 : Ext w (w7.alloc (.cells #[.slice aY nY cY, .slice aB nB cB] 22)) := e7.alloc _
  go_wp2_with fail
  refine (HP.out _ _ _ e8 RSS.out).mono ?_; rintro e w9 ⟨rfl, hx9⟩
  have e9 : Ext w w9 := e8.trans hx9
  replace RX := Lib.hid (RX.out.ext hx9)
  replace RY := Lib.hid (RY.out.ext hx9)
  replace RB := Lib.hid (RB.out.ext hx9)
  replace RZ := Lib.hid (RZ.out.ext hx9)
  clear hx9
  clear RSS
  have RSS := Lib.hid (rdSS_two RX.out RZ.out 22)
  replace RX := Lib.hid (RX.out.ext ((Ext.refl w9).alloc (.cells #[.slice aX nX cX, .slice aZ nZ cZ] 22)))
  replace RY := Lib.hid (RY.out.ext ((Ext.refl w9).alloc (.cells #[.slice aX nX cX, .slice aZ nZ cZ] 22)))
  replace RB := Lib.hid (RB.out.ext ((Ext.refl w9).alloc (.cells #[.slice aX nX cX, .slice aZ nZ cZ] 22)))
  replace RZ := Lib.hid (RZ.out.ext ((Ext.refl w9).alloc (.cells #[.slice aX nX cX, .slice aZ nZ cZ] 22)))
  have e10 : Ext w (w9.alloc (.cells #[.slice aX nX cX, .slice aZ nZ cZ] 22)) := e9.alloc _
  go_wp2_with fail
  refine (HQ.out _ _ _ e10 RSS.out).mono ?_; rintro e w11 ⟨rfl, hx11⟩
  have e11 : Ext w w11 := e10.trans hx11
  replace RX := Lib.hid (RX.out.ext hx11)
  replace RY := Lib.hid (RY.out.ext hx11)
  replace RB := Lib.hid (RB.out.ext hx11)
  replace RZ := Lib.hid (RZ.out.ext hx11)
  clear hx11
  clear RSS
  go_wp2_with fail
  refine (CA.out _ _ _ _ e11 RZ.out).mono ?_; rintro e w12 ⟨rfl, hx12⟩
  have e12 : Ext w w12 := e11.trans hx12
  replace RX := Lib.hid (RX.out.ext hx12)
  replace RY := Lib.hid (RY.out.ext hx12)
  replace RB := Lib.hid (RB.out.ext hx12)
  replace RZ := Lib.hid (RZ.out.ext hx12)
  clear hx12
  go_wp2_with fail
  refine (outG gX e12 RX.out).mono ?_; rintro e w13 ⟨rfl, hx13⟩
  have e13 : Ext w w13 := e12.trans hx13
  replace RX := Lib.hid (RX.out.ext hx13)
  replace RY := Lib.hid (RY.out.ext hx13)
  replace RB := Lib.hid (RB.out.ext hx13)
  replace RZ := Lib.hid (RZ.out.ext hx13)
  clear hx13
  go_wp2_with fail
  refine (CB.out _ _ _ _ e13 RB.out).mono ?_; rintro e w14 ⟨rfl, hx14⟩
  have e14 : Ext w w14 := e13.trans hx14
  replace RX := Lib.hid (RX.out.ext hx14)
  replace RY := Lib.hid (RY.out.ext hx14)
  replace RB := Lib.hid (RB.out.ext hx14)
  replace RZ := Lib.hid (RZ.out.ext hx14)
  clear hx14
  go_wp2_with fail
  refine (outG gY e14 RY.out).mono ?_; rintro e w15 ⟨rfl, hx15⟩
  have e15 : Ext w w15 := e14.trans hx15
  replace RX := Lib.hid (RX.out.ext hx15)
  replace RY := Lib.hid (RY.out.ext hx15)
  replace RB := Lib.hid (RB.out.ext hx15)
  replace RZ := Lib.hid (RZ.out.ext hx15)
  clear hx15
  go_wp2_with fail
  refine (isG NA.out LA.out RZ.out).mono ?_; rintro e w16 ⟨rfl, hx16⟩
  have e16 : Ext w w16 := e15.trans hx16
  replace RX := Lib.hid (RX.out.ext hx16)
  replace RY := Lib.hid (RY.out.ext hx16)
  replace RB := Lib.hid (RB.out.ext hx16)
  replace RZ := Lib.hid (RZ.out.ext hx16)
  clear hx16
  go_wp2_with fail
  refine (isG NB.out LB.out RB.out).mono ?_; rintro e w17 ⟨rfl, hx17⟩
  have e17 : Ext w w17 := e16.trans hx17
  replace RX := Lib.hid (RX.out.ext hx17)
  replace RY := Lib.hid (RY.out.ext hx17)
  replace RB := Lib.hid (RB.out.ext hx17)
  replace RZ := Lib.hid (RZ.out.ext hx17)
  clear hx17
  go_wp2_with fail
  go_ret
  exact ⟨rfl, e17⟩
end Go.Proofs.YtmhkglkpkpkpoaaDoor
