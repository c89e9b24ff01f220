/- Layer 12, UnderAll. -/
import Derived.Test.YtmhkglkpkpkpoaaDoorL12a
namespace Go.Proofs.YtmhkglkpkpkpoaaDoor
open Go.RowKit
set_option maxRecDepth 100000
set_option maxHeartbeats 4000000
theorem underV_len (X Y : List Sp) (hx : X.length ≤ 20) (hy : Y.length ≤ 20) : (if overE X Y = 0 then underL X Y else []).length ≤ 300 := by
  split
  · rename_i hE
    obtain ⟨hm, hm2, hf⟩ := overE_ok hE
    obtain ⟨ha, _, _⟩ := mayL_all hm (by omega)
    obtain ⟨hb, _, _⟩ := mayL_all hm2 (by omega)
    have h := underL_len X Y (fun s hs => okW_of_may (ha s hs)) (fun s hs => okW_of_may (hb s hs)) hf
    have e1 := norm_len X
    have e2 := norm_len Y
    omega
  · simp
theorem underAll_c (A0 : Option Addr) (q0 c0 : Nat) (l0 : List Sp) (A1 : Option Addr) (q1 c1 : Nat) (l1 : List Sp) (n : Int) (w : World) [Tab w] (h0 : Rd w 3 (.slice A0 q0 c0) q0 (spCells l0)) (hl0 : l0.length = q0) (hls0 : ∀ s ∈ l0, s.2.2.size ≤ maxLen) (h1 : Rd w 3 (.slice A1 q1 c1) q1 (spCells l1)) (hl1 : l1.length = q1) (hls1 : ∀ s ∈ l1, s.2.2.size ≤ maxLen) (hn : (Lit.int .u8 n).wf = true) :
    Calls Tryd.prog 3 #[.slice A0 q0 c0, .slice A1 q1 c1, .int .u8 n] w fun e w' => e = .returned (.bool true) ∧ Below w.heap.size w w' := by
  obtain ⟨n0, n1⟩ := bounds_u8 hn
  obtain ⟨M, hM, hM0, hM1⟩ : ∃ M : Int, n % 64 = M ∧ 0 ≤ M ∧ M ≤ 63 := ⟨n % 64, rfl, by omega, by omega⟩
  have HFX : Hid (∀ w', Ext w w' → Calls Tryd.prog 10 #[.slice A0 q0 c0, .int .i64 M] w' (TellsL w' (fitL l0 M))) := Lib.hid fun w' hx => fitG A0 q0 c0 l0 M h0 hl0 hls0 hM0 (by omega) hx
  have HFY : Hid (∀ w', Ext w w' → Calls Tryd.prog 10 #[.slice A1 q1 c1, .int .i64 M] w' (TellsL w' (fitL l1 M))) := Lib.hid fun w' hx => fitG A1 q1 c1 l1 M h1 hl1 hls1 hM0 (by omega) hx
  have HU : Hid (∀ w', Ext w w' → _) := Lib.hid fun w' hx => few12G A0 q0 c0 l0 h0 hl0 hls0 hx
  have HV : Hid (∀ w', Ext w w' → _) := Lib.hid fun w' hx => few12G A1 q1 c1 l1 h1 hl1 hls1 hx
  obtain ⟨gX, iX, oX0, oX1, lX, tX⟩ := good_fit l0 M hM0 (by omega)
  obtain ⟨gY, iY, oY0, oY1, lY, tY⟩ := good_fit l1 M hM0 (by omega)
  clear h0 hl0 hls0 h1 hl1 hls1 hn
  generalize fitL l0 M = X at *
  generalize fitL l1 M = Y at *
  have F0 : Hid (inL X = inL Y) := Lib.hid (by omega)
  have F1 : Hid (inL Y = inL X) := Lib.hid (by omega)
  obtain ⟨_, _, _, _, lZ, _⟩ := good_under gX gY F0.out (by omega) (by omega)
  obtain ⟨_, _, _, _, lO, _⟩ := good_over gY gX F1.out (by omega) (by omega)
  have LZ : Hid ((underL X Y).length ≤ 300) := Lib.hid (by omega)
  have LO : Hid ((overL Y X).length ≤ 300) := Lib.hid (by omega)
  have s0 := fewL12_size l0
  have s1 := fewL12_size l1
  have k0 : (fewL12 l0).length ≤ 20 := by rw [fewL12_len]; omega
  have k1 : (fewL12 l1).length ≤ 20 := by rw [fewL12_len]; omega
  have t0 := sumT_le (fewL12 l0) 60 s0
  have t1 := sumT_le (fewL12 l1) 60 s1
  have z0 : ∀ s ∈ fewL12 l0, s.2.2.size ≤ 1000000000 := fun s hs => by have := s0 s hs; omega
  have z1 : ∀ s ∈ fewL12 l1, s.2.2.size ≤ 1000000000 := fun s hs => by have := s1 s hs; omega
  have LV := Lib.hid (underV_len (fewL12 l0) (fewL12 l1) k0 k1)
  have HP : Hid (∀ A n k B m d w', Ext w w' → RdO w' A n k (fewL12 l0) → RdO w' B m d (fewL12 l1) → Calls Tryd.prog 11 #[.slice A n k, .slice B m d] w' (OpR w' (overE (fewL12 l0) (fewL12 l1)) (underL (fewL12 l0) (fewL12 l1)))) := Lib.hid fun A n k B m d w' hx r0 r1 => by
    have hTb := tab_ext hx
    have e0 := r0.1; have e1 := r1.1
    exact underP_c A n k _ B m d _ w' r0 r1 (by omega) (by omega) z0 z1 (by omega)
  have HQ : Hid (∀ A n k B m d w', RdO w' A n k (fewL12 l0) → RdO w' B m d (fewL12 l1) → Calls Tryd.prog 12 #[.slice A n k, .slice B m d] w' (OpR w' (overE (fewL12 l0) (fewL12 l1)) (underL (fewL12 l0) (fewL12 l1)))) := Lib.hid fun A n k B m d w' r0 r1 => by
    have e0 := r0.1; have e1 := r1.1
    exact underR_c A n k _ B m d _ w' r0 r1 (by omega) (by omega) z0 z1 (by omega)
  have HM : Hid (∀ A n k B m d w', Ext w w' → RdO w' A n k (fewL12 l1) → RdO w' B m d (fewL12 l0) → Calls Tryd.prog 14 #[.slice A n k, .slice B m d] w' (MeetR w' (fewL12 l1) (fewL12 l0))) := Lib.hid fun A n k B m d w' hx r0 r1 => by
    have hTb := tab_ext hx
    have e0 := r0.1; have e1 := r1.1
    exact meetP_c A n k _ B m d _ w' r0 r1 (by omega) (by omega) z1 z0 (by omega)
  have HR : Hid (∀ A n k B m d w', RdO w' A n k (fewL12 l1) → RdO w' B m d (fewL12 l0) → Calls Tryd.prog 15 #[.slice A n k, .slice B m d] w' (OpR w' (overE (fewL12 l1) (fewL12 l0)) (overL (fewL12 l1) (fewL12 l0)))) := Lib.hid fun A n k B m d w' r0 r1 => by
    have e0 := r0.1; have e1 := r1.1
    exact overR_c A n k _ B m d _ w' r0 r1 (by omega) (by omega) z1 z0 (by omega)
  unfold MeetR at HM
  clear iX oX0 oX1 lX tX iY oY0 oY1 lY tY lZ lO s0 s1 k0 k1 t0 t1 z0 z1
  generalize overE (fewL12 l0) (fewL12 l1) = E at *
  generalize overE (fewL12 l1) (fewL12 l0) = E2 at *
  go_enter Tryd.func3, Tryd.ntmps3
  go_wp2_with fail
  refine (shown12_c _).mono ?_; rintro e w1 ⟨rfl, hx1⟩
  have e1 : Ext w w1 := hx1
  clear hx1
  go_wp2_with fail
  refine (HFX.out _ e1).mono ?_; rintro e w2 ⟨hx2, aX, nX, cX, rfl, rX⟩
  have e2 : Ext w w2 := e1.trans hx2
  have RX := Lib.hid rX
  clear hx2 rX
  go_wp2_with fail
  refine (HFY.out _ e2).mono ?_; rintro e w3 ⟨hx3, aY, nY, cY, rfl, rY⟩
  have e3 : Ext w w3 := e2.trans hx3
  replace RX := Lib.hid (RX.out.ext hx3)
  have RY := Lib.hid rY
  clear hx3 rY
  go_wp2_with fail
  refine (underG gX gY F0.out e3 RX.out RY.out).mono ?_; rintro e w4 ⟨hx4, aC, nC, cC, rfl, rC⟩
  have e4 : Ext w w4 := e3.trans hx4
  replace RX := Lib.hid (RX.out.ext hx4)
  replace RY := Lib.hid (RY.out.ext hx4)
  have RC := Lib.hid rC
  clear hx4 rC
  go_wp2_with fail
  refine (underRG gX gY F0.out RX.out RY.out).mono ?_; rintro e w5 ⟨hx5, aD, nD, cD, rfl, rD⟩
  have e5 : Ext w w5 := e4.trans hx5
  replace RX := Lib.hid (RX.out.ext hx5)
  replace RY := Lib.hid (RY.out.ext hx5)
  replace RC := Lib.hid (RC.out.ext hx5)
  have RD := Lib.hid rD
  clear hx5 rD
  go_wp2_with fail
  refine (HU.out _ e5).mono ?_; rintro e w6 ⟨hx6, aU, nU, cU, rfl, rU⟩
  have e6 : Ext w w6 := e5.trans hx6
  replace RX := Lib.hid (RX.out.ext hx6)
  replace RY := Lib.hid (RY.out.ext hx6)
  replace RC := Lib.hid (RC.out.ext hx6)
  replace RD := Lib.hid (RD.out.ext hx6)
  have RU := Lib.hid rU
  clear hx6 rU
  go_wp2_with fail
  refine (HV.out _ e6).mono ?_; rintro e w7 ⟨hx7, aV, nV, cV, rfl, rV⟩
  have e7 : Ext w w7 := e6.trans hx7
  replace RX := Lib.hid (RX.out.ext hx7)
  replace RY := Lib.hid (RY.out.ext hx7)
  replace RC := Lib.hid (RC.out.ext hx7)
  replace RD := Lib.hid (RD.out.ext hx7)
  replace RU := Lib.hid (RU.out.ext hx7)
  have RV := Lib.hid rV
  clear hx7 rV
  go_wp2_with fail
  refine (HP.out _ _ _ _ _ _ _ e7 RU.out RV.out).mono ?_; rintro e w8 ⟨hx8, aP, nP, cP, rfl, rP⟩
  have e8 : Ext w w8 := e7.trans hx8
  replace RX := Lib.hid (RX.out.ext hx8)
  replace RY := Lib.hid (RY.out.ext hx8)
  replace RC := Lib.hid (RC.out.ext hx8)
  replace RD := Lib.hid (RD.out.ext hx8)
  replace RU := Lib.hid (RU.out.ext hx8)
  replace RV := Lib.hid (RV.out.ext hx8)
  have RP := Lib.hid rP
  clear hx8 rP
  clear RU RV
  go_wp2_with fail
  refine (HU.out _ e8).mono ?_; rintro e w9 ⟨hx9, aU, nU, cU, rfl, rU⟩
  have e9 : Ext w w9 := e8.trans hx9
  replace RX := Lib.hid (RX.out.ext hx9)
  replace RY := Lib.hid (RY.out.ext hx9)
  replace RC := Lib.hid (RC.out.ext hx9)
  replace RD := Lib.hid (RD.out.ext hx9)
  replace RP := Lib.hid (RP.out.ext hx9)
  have RU := Lib.hid rU
  clear hx9 rU
  go_wp2_with fail
  refine (HV.out _ e9).mono ?_; rintro e w10 ⟨hx10, aV, nV, cV, rfl, rV⟩
  have e10 : Ext w w10 := e9.trans hx10
  replace RX := Lib.hid (RX.out.ext hx10)
  replace RY := Lib.hid (RY.out.ext hx10)
  replace RC := Lib.hid (RC.out.ext hx10)
  replace RD := Lib.hid (RD.out.ext hx10)
  replace RP := Lib.hid (RP.out.ext hx10)
  replace RU := Lib.hid (RU.out.ext hx10)
  have RV := Lib.hid rV
  clear hx10 rV
  go_wp2_with fail
  refine (HQ.out _ _ _ _ _ _ _ RU.out RV.out).mono ?_; rintro e w11 ⟨hx11, aS, nS, cS, rfl, rS⟩
  have e11 : Ext w w11 := e10.trans hx11
  replace RX := Lib.hid (RX.out.ext hx11)
  replace RY := Lib.hid (RY.out.ext hx11)
  replace RC := Lib.hid (RC.out.ext hx11)
  replace RD := Lib.hid (RD.out.ext hx11)
  replace RP := Lib.hid (RP.out.ext hx11)
  replace RU := Lib.hid (RU.out.ext hx11)
  replace RV := Lib.hid (RV.out.ext hx11)
  have RS := Lib.hid rS
  clear hx11 rS
  clear RU RV
  go_wp2_with fail
  refine (meetG gY gX F1.out e11 RY.out RX.out).mono ?_; rintro e w12 ⟨hx12, aB, nB, cB, aA, nA, cA, rfl, rB, rA⟩
  have e12 : Ext w w12 := e11.trans hx12
  replace RX := Lib.hid (RX.out.ext hx12)
  replace RY := Lib.hid (RY.out.ext hx12)
  replace RC := Lib.hid (RC.out.ext hx12)
  replace RD := Lib.hid (RD.out.ext hx12)
  replace RP := Lib.hid (RP.out.ext hx12)
  replace RS := Lib.hid (RS.out.ext hx12)
  have RB := Lib.hid rB; have RA := Lib.hid rA
  clear hx12 rB rA
  go_wp2_with fail
  refine (overRG gY gX F1.out RY.out RX.out).mono ?_; rintro e w13 ⟨hx13, aW, nW, cW, rfl, rW⟩
  have e13 : Ext w w13 := e12.trans hx13
  replace RX := Lib.hid (RX.out.ext hx13)
  replace RY := Lib.hid (RY.out.ext hx13)
  replace RC := Lib.hid (RC.out.ext hx13)
  replace RD := Lib.hid (RD.out.ext hx13)
  replace RP := Lib.hid (RP.out.ext hx13)
  replace RS := Lib.hid (RS.out.ext hx13)
  replace RB := Lib.hid (RB.out.ext hx13)
  replace RA := Lib.hid (RA.out.ext hx13)
  have RW := Lib.hid rW
  clear hx13 rW
  clear RX RY
  go_wp2_with fail
  refine (HV.out _ e13).mono ?_; rintro e w14 ⟨hx14, aV, nV, cV, rfl, rV⟩
  have e14 : Ext w w14 := e13.trans hx14
  replace RC := Lib.hid (RC.out.ext hx14)
  replace RD := Lib.hid (RD.out.ext hx14)
  replace RP := Lib.hid (RP.out.ext hx14)
  replace RS := Lib.hid (RS.out.ext hx14)
  replace RB := Lib.hid (RB.out.ext hx14)
  replace RA := Lib.hid (RA.out.ext hx14)
  replace RW := Lib.hid (RW.out.ext hx14)
  have RV := Lib.hid rV
  clear hx14 rV
  go_wp2_with fail
  refine (HU.out _ e14).mono ?_; rintro e w15 ⟨hx15, aU, nU, cU, rfl, rU⟩
  have e15 : Ext w w15 := e14.trans hx15
  replace RC := Lib.hid (RC.out.ext hx15)
  replace RD := Lib.hid (RD.out.ext hx15)
  replace RP := Lib.hid (RP.out.ext hx15)
  replace RS := Lib.hid (RS.out.ext hx15)
  replace RB := Lib.hid (RB.out.ext hx15)
  replace RA := Lib.hid (RA.out.ext hx15)
  replace RW := Lib.hid (RW.out.ext hx15)
  replace RV := Lib.hid (RV.out.ext hx15)
  have RU := Lib.hid rU
  clear hx15 rU
  go_wp2_with fail
  refine (HM.out _ _ _ _ _ _ _ e15 RV.out RU.out).mono ?_; rintro e w16 ⟨hx16, aH, nH, cH, aI, nI, cI, rfl, rH, rI⟩
  have e16 : Ext w w16 := e15.trans hx16
  replace RC := Lib.hid (RC.out.ext hx16)
  replace RD := Lib.hid (RD.out.ext hx16)
  replace RP := Lib.hid (RP.out.ext hx16)
  replace RS := Lib.hid (RS.out.ext hx16)
  replace RB := Lib.hid (RB.out.ext hx16)
  replace RA := Lib.hid (RA.out.ext hx16)
  replace RW := Lib.hid (RW.out.ext hx16)
  replace RV := Lib.hid (RV.out.ext hx16)
  replace RU := Lib.hid (RU.out.ext hx16)
  have RH := Lib.hid rH; have RI := Lib.hid rI
  clear hx16 rH rI
  clear RU RV RH RI
  go_wp2_with fail
  refine (HV.out _ e16).mono ?_; rintro e w17 ⟨hx17, aV, nV, cV, rfl, rV⟩
  have e17 : Ext w w17 := e16.trans hx17
  replace RC := Lib.hid (RC.out.ext hx17)
  replace RD := Lib.hid (RD.out.ext hx17)
  replace RP := Lib.hid (RP.out.ext hx17)
  replace RS := Lib.hid (RS.out.ext hx17)
  replace RB := Lib.hid (RB.out.ext hx17)
  replace RA := Lib.hid (RA.out.ext hx17)
  replace RW := Lib.hid (RW.out.ext hx17)
  have RV := Lib.hid rV
  clear hx17 rV
  go_wp2_with fail
  refine (HU.out _ e17).mono ?_; rintro e w18 ⟨hx18, aU, nU, cU, rfl, rU⟩
  have e18 : Ext w w18 := e17.trans hx18
  replace RC := Lib.hid (RC.out.ext hx18)
  replace RD := Lib.hid (RD.out.ext hx18)
  replace RP := Lib.hid (RP.out.ext hx18)
  replace RS := Lib.hid (RS.out.ext hx18)
  replace RB := Lib.hid (RB.out.ext hx18)
  replace RA := Lib.hid (RA.out.ext hx18)
  replace RW := Lib.hid (RW.out.ext hx18)
  replace RV := Lib.hid (RV.out.ext hx18)
  have RU := Lib.hid rU
  clear hx18 rU
  go_wp2_with fail
  refine (HR.out _ _ _ _ _ _ _ RV.out RU.out).mono ?_; rintro e w19 ⟨hx19, aJ, nJ, cJ, rfl, rJ⟩
  have e19 : Ext w w19 := e18.trans hx19
  replace RC := Lib.hid (RC.out.ext hx19)
  replace RD := Lib.hid (RD.out.ext hx19)
  replace RP := Lib.hid (RP.out.ext hx19)
  replace RS := Lib.hid (RS.out.ext hx19)
  replace RB := Lib.hid (RB.out.ext hx19)
  replace RA := Lib.hid (RA.out.ext hx19)
  replace RW := Lib.hid (RW.out.ext hx19)
  replace RV := Lib.hid (RV.out.ext hx19)
  replace RU := Lib.hid (RU.out.ext hx19)
  have RJ := Lib.hid rJ
  clear hx19 rJ
  clear RU RV RJ
  go_wp2_with fail
  refine (sameTrueG rfl LZ.out RC.out RD.out).mono ?_; rintro e w20 ⟨rfl, hx20⟩
  have e20 : Ext w w20 := e19.trans hx20
  replace RC := Lib.hid (RC.out.ext hx20)
  replace RD := Lib.hid (RD.out.ext hx20)
  replace RP := Lib.hid (RP.out.ext hx20)
  replace RS := Lib.hid (RS.out.ext hx20)
  replace RB := Lib.hid (RB.out.ext hx20)
  replace RA := Lib.hid (RA.out.ext hx20)
  replace RW := Lib.hid (RW.out.ext hx20)
  clear hx20
  go_wp2_with fail
  refine (sameTrueG rfl LV.out RP.out RS.out).mono ?_; rintro e w21 ⟨rfl, hx21⟩
  have e21 : Ext w w21 := e20.trans hx21
  replace RC := Lib.hid (RC.out.ext hx21)
  replace RD := Lib.hid (RD.out.ext hx21)
  replace RP := Lib.hid (RP.out.ext hx21)
  replace RS := Lib.hid (RS.out.ext hx21)
  replace RB := Lib.hid (RB.out.ext hx21)
  replace RA := Lib.hid (RA.out.ext hx21)
  replace RW := Lib.hid (RW.out.ext hx21)
  clear hx21
  go_wp2_with fail
  refine (sameTrueG rfl LO.out RB.out RW.out).mono ?_; rintro e w22 ⟨rfl, hx22⟩
  have e22 : Ext w w22 := e21.trans hx22
  replace RC := Lib.hid (RC.out.ext hx22)
  replace RD := Lib.hid (RD.out.ext hx22)
  replace RP := Lib.hid (RP.out.ext hx22)
  replace RS := Lib.hid (RS.out.ext hx22)
  replace RB := Lib.hid (RB.out.ext hx22)
  replace RA := Lib.hid (RA.out.ext hx22)
  replace RW := Lib.hid (RW.out.ext hx22)
  clear hx22
  go_wp2_with fail
  refine (sameTrueG rfl LZ.out RA.out RD.out).mono ?_; rintro e w23 ⟨rfl, hx23⟩
  have e23 : Ext w w23 := e22.trans hx23
  replace RC := Lib.hid (RC.out.ext hx23)
  replace RD := Lib.hid (RD.out.ext hx23)
  replace RP := Lib.hid (RP.out.ext hx23)
  replace RS := Lib.hid (RS.out.ext hx23)
  replace RB := Lib.hid (RB.out.ext hx23)
  replace RA := Lib.hid (RA.out.ext hx23)
  replace RW := Lib.hid (RW.out.ext hx23)
  clear hx23
  go_wp2_with fail
  go_ret
  exact ⟨rfl, e23⟩
end Go.Proofs.YtmhkglkpkpkpoaaDoor
