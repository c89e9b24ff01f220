/- Layer 13, ThroughNone. -/
import Derived.Test.YtfjiookndleaeaaDoorL13a
namespace Go.Proofs.YtfjiookndleaeaaDoor
open Go.RowKit
set_option maxRecDepth 100000
set_option maxHeartbeats 4000000
theorem rdSS_nil (w : World) : RdSS w none 0 0 [] := ⟨rfl, [], Rd.nil _ _, fun i l h => by cases h⟩
theorem none13 {X : List Sp} (gX : Good X) : thruL X [] = normL X ∧ patL X [] = keepL (outL X) := by
  have h1 := thruJ_zero gX.ok []
  have h2 : thruJ X [] 0 = thruL X [] := @thruJ_all X []
  refine ⟨by rw [← h2]; exact h1, ?_⟩
  have h3 := gX.tin
  have h4 := gX.tout
  have h5 := gX.out0
  have e : (inL X).toNat = tin (tok X) := by omega
  have e2 : (outL X).toNat = tout (tok X) := by omega
  show spT (underT (List.replicate (inL X).toNat Tok.keep) (tok X)) = _
  rw [e, under_keepL, ← e2, keepL_spT _ h5]
theorem one13 {X Y : List Sp} (gX : Good X) (gY : Good Y) (hf : inL X = inL Y) : thruL X [Y] = overL X Y ∧ patL X [Y] = underL (normL Y) X ∧ Thru (inL X) [Y] (outL Y) := by
  have e : fR (inL X) [Y] = tok Y := by rw [hf]; exact fR_one gY.ok
  refine ⟨by unfold thruL overL; rw [e], by unfold patL underL; rw [e, (norm_okW Y gY.ok).2], gY.ok, hf.symm, gX.in0, by have := gX.inb; omega, rfl, gY.out0⟩
theorem throughNone_c (A0 : Option Addr) (q0 c0 : Nat) (l0 : List Sp) (A1 : Option Addr) (q1 c1 : Nat) (l1 : List Sp) (n : Int) (w : World) [Tab w] (h0 : Rd w 3 (.slice A0 q0 c0) q0 (spCells l0)) (hl0 : l0.length = q0) (hls0 : ∀ s ∈ l0, s.2.2.size ≤ maxLen) (h1 : Rd w 3 (.slice A1 q1 c1) q1 (spCells l1)) (hl1 : l1.length = q1) (hls1 : ∀ s ∈ l1, s.2.2.size ≤ maxLen) (hn : (Lit.int .u8 n).wf = true) :
    Calls Tryd.prog 6 #[.slice A0 q0 c0, .slice A1 q1 c1, .int .u8 n] w fun e w' => e = .returned (.bool true) ∧ Below w.heap.size w w' := by
  obtain ⟨n0, n1⟩ := bounds_u8 hn
  obtain ⟨M, hM, hM0, hM1⟩ : ∃ M : Int, n % 64 = M ∧ 0 ≤ M ∧ M ≤ 63 := ⟨n % 64, rfl, by omega, by omega⟩
  have HFX : Hid (∀ w', Ext w w' → Calls Tryd.prog 9 #[.slice A0 q0 c0, .int .i64 M] w' (TellsL w' (fitL l0 M))) := Lib.hid fun w' hx => fitG A0 q0 c0 l0 M h0 hl0 hls0 hM0 (by omega) hx
  have HFY : Hid (∀ w', Ext w w' → Calls Tryd.prog 9 #[.slice A1 q1 c1, .int .i64 M] w' (TellsL w' (fitL l1 M))) := Lib.hid fun w' hx => fitG A1 q1 c1 l1 M h1 hl1 hls1 hM0 (by omega) hx
  obtain ⟨gX, iX, oX0, oX1, lX, tX⟩ := good_fit l0 M hM0 (by omega)
  obtain ⟨gY, iY, oY0, oY1, lY, tY⟩ := good_fit l1 M hM0 (by omega)
  clear h0 hl0 hls0 h1 hl1 hls1 hn
  generalize fitL l0 M = X at *
  generalize fitL l1 M = Y at *
  obtain ⟨z1, z2⟩ := none13 gX
  obtain ⟨o1, o2, o3⟩ := one13 gX gY (by omega)
  obtain ⟨gN, N2, N3, N4, N5, N6, N7⟩ := good_norm gX
  obtain ⟨gM, M2, M3, M4, M5, M6, M7⟩ := good_norm gY
  have SM0 : SmT X [] := ⟨by have := gX.len; simp [lenS]; omega, by have := gX.txt; omega, ⟨by simp [lenS], by simp [sumTT], by simp⟩⟩
  have e1 : lenS [Y] = Y.length := by simp [lenS]
  have e2 : sumTT [Y] = sumT Y := by simp [sumTT]
  have SM1 : SmT X [Y] := ⟨by have := gX.len; have := gY.len; omega, by have := gX.txt; omega, ⟨by have := gY.len; omega, by have := gY.txt; omega, by simp⟩⟩
  have T0 : Thru (inL X) [] (inL X) := ⟨rfl, gX.in0⟩
  have HA : Hid (∀ A k c w', Ext w w' → RdO w' A k c X → Calls Tryd.prog 11 #[.slice A k c, .slice none 0 0] w' (TellsE w' (normL X))) := Lib.hid fun A k c w' hx hr => by
    have h := thruG gX SM0 T0 hx hr (rdSS_nil w')
    rw [z1] at h; exact h
  have HB : Hid (∀ A k c w', Ext w w' → RdO w' A k c X → Calls Tryd.prog 13 #[.slice A k c, .slice none 0 0] w' (TellsE w' (keepL (outL X)))) := Lib.hid fun A k c w' hx hr => by
    have h := patG gX SM0 T0 hx hr (rdSS_nil w')
    rw [z2] at h; exact h
  have HC : Hid (∀ A k c B m d w', Ext w w' → RdO w' A k c X → RdSS w' B m d [Y] → Calls Tryd.prog 11 #[.slice A k c, .slice B m d] w' (TellsE w' (overL X Y))) := Lib.hid fun A k c B m d w' hx hr hs => by
    have h := thruG gX SM1 o3 hx hr hs
    rw [o1] at h; exact h
  have HD : Hid (∀ A k c B m d w', Ext w w' → RdO w' A k c X → RdSS w' B m d [Y] → Calls Tryd.prog 13 #[.slice A k c, .slice B m d] w' (TellsE w' (underL (normL Y) X))) := Lib.hid fun A k c B m d w' hx hr hs => by
    have h := patG gX SM1 o3 hx hr hs
    rw [o2] at h; exact h
  obtain ⟨v1, v2, v3, v4, v5, v6⟩ := good_over gX gY (by omega) (by omega) (by omega)
  have hf2 : inL (normL Y) = inL X := by omega
  obtain ⟨u1, u2, u3, u4, u5, u6⟩ := good_under gM gX hf2 (by have := gM.len; omega) (by omega)
  have LN : Hid ((normL X).length ≤ 300) := Lib.hid gN.len
  have LW : Hid ((keepL (outL X)).length ≤ 300) := Lib.hid (by have := keepL_len (outL X); omega)
  have LO : Hid ((overL X Y).length ≤ 300) := Lib.hid v1.len
  have LU : Hid ((underL (normL Y) X).length ≤ 300) := Lib.hid u1.len
  have F0 : Hid (inL X = inL Y) := Lib.hid (by omega)
  have F1 : Hid (inL (normL Y) = inL X) := Lib.hid hf2
  have oXb : outL X ≤ 100000 := by omega
  clear z1 z2 o1 o2 o3 N2 N3 N4 N5 N6 N7 M2 M3 M4 M5 M6 M7 SM0 SM1 e1 e2 T0 v1 v2 v3 v4 v5 v6 u1 u2 u3 u4 u5 u6 hf2 iX iY oX1 oY0 oY1 lX lY tX tY
  go_enter Tryd.func6, Tryd.ntmps6
  go_wp2_with fail
  refine (shown13_c _).mono ?_; rintro e w1 ⟨rfl, hx1⟩
  have e1 : Ext w w1 := hx1
  clear hx1
  go_wp2_with fail
  refine (HFX.out _ e1).mono ?_; rintro e w2 ⟨hx2, aX, nX, cX, rfl, rX⟩
  have e2 : Ext w w2 := e1.trans hx2
  have RX := Lib.hid rX
  clear hx2 rX
  go_wp2_with fail
  refine (HFY.out _ e2).mono ?_; rintro e w3 ⟨hx3, aY, nY, cY, rfl, rY⟩
  have e3 : Ext w w3 := e2.trans hx3
  replace RX := Lib.hid (RX.out.ext hx3)
  have RY := Lib.hid rY
  clear hx3 rY
  go_wp2_with fail
  refine (HA.out _ _ _ _ e3 RX.out).mono ?_; rintro e w4 ⟨hx4, aA, nA, cA, rfl, rA⟩
  have e4 : Ext w w4 := e3.trans hx4
  replace RX := Lib.hid (RX.out.ext hx4)
  replace RY := Lib.hid (RY.out.ext hx4)
  have RA := Lib.hid rA
  clear hx4 rA
  go_wp2_with fail
  refine (HB.out _ _ _ _ e4 RX.out).mono ?_; rintro e w5 ⟨hx5, aB, nB, cB, rfl, rB⟩
  have e5 : Ext w w5 := e4.trans hx5
  replace RX := Lib.hid (RX.out.ext hx5)
  replace RY := Lib.hid (RY.out.ext hx5)
  replace RA := Lib.hid (RA.out.ext hx5)
  have RB := Lib.hid rB
  clear hx5 rB
  go_wp2_with fail
  refine (outG gX e5 RX.out).mono ?_; rintro e w6 ⟨rfl, hx6⟩
  have e6 : Ext w w6 := e5.trans hx6
  replace RX := Lib.hid (RX.out.ext hx6)
  replace RY := Lib.hid (RY.out.ext hx6)
  replace RA := Lib.hid (RA.out.ext hx6)
  replace RB := Lib.hid (RB.out.ext hx6)
  clear hx6
  go_wp2_with fail
  refine (keepG (outL X) oX0 oXb _).mono ?_; rintro e w7 ⟨hx7, aK, nK, cK, rfl, rK⟩
  have e7 : Ext w w7 := e6.trans hx7
  replace RX := Lib.hid (RX.out.ext hx7)
  replace RY := Lib.hid (RY.out.ext hx7)
  replace RA := Lib.hid (RA.out.ext hx7)
  replace RB := Lib.hid (RB.out.ext hx7)
  have RK := Lib.hid rK
  clear hx7 rK
  have RS := Lib.hid (rdSS1 22 RY.out)
  replace RX := Lib.hid (RX.out.ext ((Ext.refl w7).alloc (.cells #[.slice aY nY cY] 22)))
  replace RY := Lib.hid (RY.out.ext ((Ext.refl w7).alloc (.cells #[.slice aY nY cY] 22)))
  replace RA := Lib.hid (RA.out.ext ((Ext.refl w7).alloc (.cells #[.slice aY nY cY] 22)))
  replace RB := Lib.hid (RB.out.ext ((Ext.refl w7).alloc (.cells #[.slice aY nY cY] 22)))
  replace RK := Lib.hid (RK.out.ext ((Ext.refl w7).alloc (.cells #[.slice aY nY cY] 22)))
  have e8 : Ext w (w7.alloc (.cells #[.slice aY nY cY] 22)) := e7.alloc _
  go_wp2_with fail
  refine (HC.out _ _ _ _ _ _ _ e8 RX.out RS.out).mono ?_; rintro e w9 ⟨hx9, aC, nC, cC, rfl, rC⟩
  have e9 : Ext w w9 := e8.trans hx9
  replace RX := Lib.hid (RX.out.ext hx9)
  replace RY := Lib.hid (RY.out.ext hx9)
  replace RA := Lib.hid (RA.out.ext hx9)
  replace RB := Lib.hid (RB.out.ext hx9)
  replace RK := Lib.hid (RK.out.ext hx9)
  have RC := Lib.hid rC
  clear hx9 rC
  go_wp2_with fail
  refine (overG gX gY F0.out e9 RX.out RY.out).mono ?_; rintro e w10 ⟨hx10, aD, nD, cD, rfl, rD⟩
  have e10 : Ext w w10 := e9.trans hx10
  replace RX := Lib.hid (RX.out.ext hx10)
  replace RY := Lib.hid (RY.out.ext hx10)
  replace RA := Lib.hid (RA.out.ext hx10)
  replace RB := Lib.hid (RB.out.ext hx10)
  replace RK := Lib.hid (RK.out.ext hx10)
  replace RC := Lib.hid (RC.out.ext hx10)
  have RD := Lib.hid rD
  clear hx10 rD
  have RS := Lib.hid (rdSS1 22 RY.out)
  replace RX := Lib.hid (RX.out.ext ((Ext.refl w10).alloc (.cells #[.slice aY nY cY] 22)))
  replace RY := Lib.hid (RY.out.ext ((Ext.refl w10).alloc (.cells #[.slice aY nY cY] 22)))
  replace RA := Lib.hid (RA.out.ext ((Ext.refl w10).alloc (.cells #[.slice aY nY cY] 22)))
  replace RB := Lib.hid (RB.out.ext ((Ext.refl w10).alloc (.cells #[.slice aY nY cY] 22)))
  replace RK := Lib.hid (RK.out.ext ((Ext.refl w10).alloc (.cells #[.slice aY nY cY] 22)))
  replace RC := Lib.hid (RC.out.ext ((Ext.refl w10).alloc (.cells #[.slice aY nY cY] 22)))
  replace RD := Lib.hid (RD.out.ext ((Ext.refl w10).alloc (.cells #[.slice aY nY cY] 22)))
  have e11 : Ext w (w10.alloc (.cells #[.slice aY nY cY] 22)) := e10.alloc _
  go_wp2_with fail
  refine (HD.out _ _ _ _ _ _ _ e11 RX.out RS.out).mono ?_; rintro e w12 ⟨hx12, aQ, nQ, cQ, rfl, rQ⟩
  have e12 : Ext w w12 := e11.trans hx12
  replace RX := Lib.hid (RX.out.ext hx12)
  replace RY := Lib.hid (RY.out.ext hx12)
  replace RA := Lib.hid (RA.out.ext hx12)
  replace RB := Lib.hid (RB.out.ext hx12)
  replace RK := Lib.hid (RK.out.ext hx12)
  replace RC := Lib.hid (RC.out.ext hx12)
  replace RD := Lib.hid (RD.out.ext hx12)
  have RQ := Lib.hid rQ
  clear hx12 rQ
  go_wp2_with fail
  refine (normG gY RY.out).mono ?_; rintro e w13 ⟨hx13, aM, nM, cM, rfl, rM⟩
  have e13 : Ext w w13 := e12.trans hx13
  replace RX := Lib.hid (RX.out.ext hx13)
  replace RY := Lib.hid (RY.out.ext hx13)
  replace RA := Lib.hid (RA.out.ext hx13)
  replace RB := Lib.hid (RB.out.ext hx13)
  replace RK := Lib.hid (RK.out.ext hx13)
  replace RC := Lib.hid (RC.out.ext hx13)
  replace RD := Lib.hid (RD.out.ext hx13)
  replace RQ := Lib.hid (RQ.out.ext hx13)
  have RM := Lib.hid rM
  clear hx13 rM
  go_wp2_with fail
  refine (underG gM gX F1.out e13 RM.out RX.out).mono ?_; rintro e w14 ⟨hx14, aU, nU, cU, rfl, rU⟩
  have e14 : Ext w w14 := e13.trans hx14
  replace RX := Lib.hid (RX.out.ext hx14)
  replace RY := Lib.hid (RY.out.ext hx14)
  replace RA := Lib.hid (RA.out.ext hx14)
  replace RB := Lib.hid (RB.out.ext hx14)
  replace RK := Lib.hid (RK.out.ext hx14)
  replace RC := Lib.hid (RC.out.ext hx14)
  replace RD := Lib.hid (RD.out.ext hx14)
  replace RQ := Lib.hid (RQ.out.ext hx14)
  replace RM := Lib.hid (RM.out.ext hx14)
  have RU := Lib.hid rU
  clear hx14 rU
  go_wp2_with fail
  refine (normG gX RX.out).mono ?_; rintro e w15 ⟨hx15, aN, nN, cN, rfl, rN⟩
  have e15 : Ext w w15 := e14.trans hx15
  replace RX := Lib.hid (RX.out.ext hx15)
  replace RY := Lib.hid (RY.out.ext hx15)
  replace RA := Lib.hid (RA.out.ext hx15)
  replace RB := Lib.hid (RB.out.ext hx15)
  replace RK := Lib.hid (RK.out.ext hx15)
  replace RC := Lib.hid (RC.out.ext hx15)
  replace RD := Lib.hid (RD.out.ext hx15)
  replace RQ := Lib.hid (RQ.out.ext hx15)
  replace RM := Lib.hid (RM.out.ext hx15)
  replace RU := Lib.hid (RU.out.ext hx15)
  have RN := Lib.hid rN
  clear hx15 rN
  go_wp2_with fail
  refine (sameTrueG rfl LN.out RA.out RN.out).mono ?_; rintro e w16 ⟨rfl, hx16⟩
  have e16 : Ext w w16 := e15.trans hx16
  replace RX := Lib.hid (RX.out.ext hx16)
  replace RY := Lib.hid (RY.out.ext hx16)
  replace RA := Lib.hid (RA.out.ext hx16)
  replace RB := Lib.hid (RB.out.ext hx16)
  replace RK := Lib.hid (RK.out.ext hx16)
  replace RC := Lib.hid (RC.out.ext hx16)
  replace RD := Lib.hid (RD.out.ext hx16)
  replace RQ := Lib.hid (RQ.out.ext hx16)
  replace RM := Lib.hid (RM.out.ext hx16)
  replace RU := Lib.hid (RU.out.ext hx16)
  replace RN := Lib.hid (RN.out.ext hx16)
  clear hx16
  go_wp2_with fail
  refine (sameTrueG rfl LW.out RB.out RK.out).mono ?_; rintro e w17 ⟨rfl, hx17⟩
  have e17 : Ext w w17 := e16.trans hx17
  replace RX := Lib.hid (RX.out.ext hx17)
  replace RY := Lib.hid (RY.out.ext hx17)
  replace RA := Lib.hid (RA.out.ext hx17)
  replace RB := Lib.hid (RB.out.ext hx17)
  replace RK := Lib.hid (RK.out.ext hx17)
  replace RC := Lib.hid (RC.out.ext hx17)
  replace RD := Lib.hid (RD.out.ext hx17)
  replace RQ := Lib.hid (RQ.out.ext hx17)
  replace RM := Lib.hid (RM.out.ext hx17)
  replace RU := Lib.hid (RU.out.ext hx17)
  replace RN := Lib.hid (RN.out.ext hx17)
  clear hx17
  go_wp2_with fail
  refine (sameTrueG rfl LO.out RC.out RD.out).mono ?_; rintro e w18 ⟨rfl, hx18⟩
  have e18 : Ext w w18 := e17.trans hx18
  replace RX := Lib.hid (RX.out.ext hx18)
  replace RY := Lib.hid (RY.out.ext hx18)
  replace RA := Lib.hid (RA.out.ext hx18)
  replace RB := Lib.hid (RB.out.ext hx18)
  replace RK := Lib.hid (RK.out.ext hx18)
  replace RC := Lib.hid (RC.out.ext hx18)
  replace RD := Lib.hid (RD.out.ext hx18)
  replace RQ := Lib.hid (RQ.out.ext hx18)
  replace RM := Lib.hid (RM.out.ext hx18)
  replace RU := Lib.hid (RU.out.ext hx18)
  replace RN := Lib.hid (RN.out.ext hx18)
  clear hx18
  go_wp2_with fail
  refine (sameTrueG rfl LU.out RQ.out RU.out).mono ?_; rintro e w19 ⟨rfl, hx19⟩
  have e19 : Ext w w19 := e18.trans hx19
  replace RX := Lib.hid (RX.out.ext hx19)
  replace RY := Lib.hid (RY.out.ext hx19)
  replace RA := Lib.hid (RA.out.ext hx19)
  replace RB := Lib.hid (RB.out.ext hx19)
  replace RK := Lib.hid (RK.out.ext hx19)
  replace RC := Lib.hid (RC.out.ext hx19)
  replace RD := Lib.hid (RD.out.ext hx19)
  replace RQ := Lib.hid (RQ.out.ext hx19)
  replace RM := Lib.hid (RM.out.ext hx19)
  replace RU := Lib.hid (RU.out.ext hx19)
  replace RN := Lib.hid (RN.out.ext hx19)
  clear hx19
  go_wp2_with fail
  go_ret
  exact ⟨rfl, e19⟩
end Go.Proofs.YtfjiookndleaeaaDoor
