/- Layer 13, ThroughAll. -/
import Derived.Test.YtfjiookndleaeaaDoorL13a
namespace Go.Proofs.YtfjiookndleaeaaDoor
open Go.RowKit
set_option maxRecDepth 100000
set_option maxHeartbeats 4000000
theorem few13_one (X : List Sp) : fewR [X] = [fewL13 X] := rfl
theorem odd_len (a : List Sp) (ls : List (List Sp)) (hS : SmT a ls) (h300 : a.length + lenS ls ≤ 299) : (if thruE a ls = 0 then thruL a ls else []).length ≤ 300 ∧ (if thruE a ls = 0 then patL a ls else []).length ≤ 300 := by
  by_cases h : thruE a ls = 0
  · rw [if_pos h, if_pos h]
    obtain ⟨hma, ok, hi, hce, hth⟩ := thruE_ok h (by have := hS.len; omega) hS.row.each
    have h1 := thruJ_len ok hth ls.length (Nat.le_refl _)
    rw [thruJ_all, List.take_length] at h1
    obtain ⟨s1, s2, s3, s4, s5, s6, s7⟩ := fR_small hth hi.2
    obtain ⟨u1, u2, u3, u4, u5, u6⟩ := underL_all _ a s1 ok s4
    have e : underL (spT (fR (inL a) ls)) a = patL a ls := by unfold underL patL; rw [s2]
    rw [e] at u5
    have e1 := norm_len a
    have e2 := norm_len (spT (fR (inL a) ls))
    exact ⟨by omega, by omega⟩
  · rw [if_neg h, if_neg h]; simp
theorem throughAll_c (A0 : Option Addr) (q0 c0 : Nat) (l0 : List Sp) (A1 : Option Addr) (q1 c1 : Nat) (ls : List (List Sp)) (n : Int) (w : World) [Tab w] (h0 : Rd w 3 (.slice A0 q0 c0) q0 (spCells l0)) (hl0 : l0.length = q0) (hls0 : ∀ s ∈ l0, s.2.2.size ≤ maxLen) (h1 : RdSS w A1 q1 c1 ls) (hls : ∀ l ∈ ls, ∀ s ∈ l, s.2.2.size ≤ maxLen) (hn : (Lit.int .u8 n).wf = true) :
    Calls Tryd.prog 3 #[.slice A0 q0 c0, .slice A1 q1 c1, .int .u8 n] w fun e w' => e = .returned (.bool true) ∧ Below w.heap.size w w' := by
  obtain ⟨n0, n1⟩ := bounds_u8 hn
  obtain ⟨M, hM, hM0, hM1⟩ : ∃ M : Int, n % 64 = M ∧ 0 ≤ M ∧ M ≤ 63 := ⟨n % 64, rfl, by omega, by omega⟩
  have HFX : Hid (∀ w', Ext w w' → Calls Tryd.prog 9 #[.slice A0 q0 c0, .int .i64 M] w' (TellsL w' (fitL l0 M))) := Lib.hid fun w' hx => fitG A0 q0 c0 l0 M h0 hl0 hls0 hM0 (by omega) hx
  have HW : Hid (∀ w', Ext w w' → Calls Tryd.prog 10 #[.slice A1 q1 c1, .int .i64 M] w' (TellsSS w' (chainL (ls.take 20) M))) := Lib.hid fun w' hx => chainRG (h1.ext hx) hls hM0 (by omega)
  have HFE : Hid (∀ w', Ext w w' → Calls Tryd.prog 15 #[.slice A1 q1 c1] w' (TellsSS w' (fewR ls))) := Lib.hid fun w' hx => few13G (h1.ext hx) hls
  have HOD : Hid (∀ B w', Ext w w' → RdSS w' B 1 1 [l0] → Calls Tryd.prog 15 #[.slice B 1 1] w' (TellsSS w' [fewL13 l0])) := Lib.hid fun B w' hx hr => few13G hr (fun l hl s hs => by rw [List.mem_singleton] at hl; subst hl; exact hls0 s hs)
  have R00 : Hid (RdO w A0 q0 c0 l0) := Lib.hid ⟨hl0, h0⟩
  obtain ⟨gX, iX, oX0, oX1, lX, tX⟩ := good_fit l0 M hM0 (by omega)
  obtain ⟨k, SW, TW, lW, tW, nW⟩ := made_chain ls M hM0 (by omega)
  have SX := smT_of gX SW (by omega)
  have TX : Thru (inL (fitL l0 M)) (chainL (ls.take 20) M) k := by rw [iX]; exact TW
  have LO : Hid ((thruL (fitL l0 M) (chainL (ls.take 20) M)).length ≤ 300) := Lib.hid (by have := (thruL_len gX TX).1; omega)
  have LP : Hid ((patL (fitL l0 M) (chainL (ls.take 20) M)).length ≤ 300) := Lib.hid (by have := (patL_len gX TX).1; omega)
  obtain ⟨SF, lF⟩ := fewR_small ls
  have k0 : (fewL13 l0).length ≤ 20 := by rw [fewL13_len]; omega
  have t0 := sumT_le (fewL13 l0) 60 (fewL13_size l0)
  have SO : SmT (fewL13 l0) (fewR ls) := ⟨by omega, by omega, SF⟩
  obtain ⟨od1, od2⟩ := odd_len _ _ SO (by omega)
  have OA : Hid (∀ A n c B m d w', Ext w w' → RdO w' A n c (fewL13 l0) → RdSS w' B m d (fewR ls) → Calls Tryd.prog 11 #[.slice A n c, .slice B m d] w' (OpR w' (thruE (fewL13 l0) (fewR ls)) (thruL (fewL13 l0) (fewR ls)))) := Lib.hid fun A n c B m d w' hx hX hr => have hTb := tab_ext hx; thruP_c A n c _ B m d _ w' hX hr SO
  have OB : Hid (∀ A n c B m d w', RdO w' A n c (fewL13 l0) → RdSS w' B m d (fewR ls) → Calls Tryd.prog 12 #[.slice A n c, .slice B m d] w' (OpR w' (thruE (fewL13 l0) (fewR ls)) (thruL (fewL13 l0) (fewR ls)))) := Lib.hid fun A n c B m d w' hX hr => thruR_c A n c _ B m d _ w' hX hr SO
  have OC : Hid (∀ A n c B m d w', Ext w w' → RdO w' A n c (fewL13 l0) → RdSS w' B m d (fewR ls) → Calls Tryd.prog 13 #[.slice A n c, .slice B m d] w' (OpR w' (thruE (fewL13 l0) (fewR ls)) (patL (fewL13 l0) (fewR ls)))) := Lib.hid fun A n c B m d w' hx hX hr => have hTb := tab_ext hx; patP_c A n c _ B m d _ w' hX hr SO
  have OD : Hid (∀ A n c B m d w', RdO w' A n c (fewL13 l0) → RdSS w' B m d (fewR ls) → Calls Tryd.prog 14 #[.slice A n c, .slice B m d] w' (OpR w' (thruE (fewL13 l0) (fewR ls)) (patL (fewL13 l0) (fewR ls)))) := Lib.hid fun A n c B m d w' hX hr => patR_c A n c _ B m d _ w' hX hr SO
  have OD1 := Lib.hid od1; have OD2 := Lib.hid od2; have HSX := Lib.hid SX; have HTX := Lib.hid TX; have HGX := Lib.hid gX
  clear h0 hl0 hls0 h1 hls hn gX iX oX0 oX1 lX tX SW TW lW tW nW SX TX SF lF k0 t0 SO od1 od2
  generalize fitL l0 M = X at *
  generalize chainL (ls.take 20) M = CW at *
  generalize thruE (fewL13 l0) (fewR ls) = EE at *
  generalize thruL (fewL13 l0) (fewR ls) = L1 at *
  generalize patL (fewL13 l0) (fewR ls) = L2 at *
  generalize fewL13 l0 = O at *
  generalize fewR ls = FS at *
  go_enter Tryd.func3, Tryd.ntmps3
  go_wp2_with fail
  refine (shown13_c _).mono ?_; rintro e w1 ⟨rfl, hx1⟩
  have e1 : Ext w w1 := hx1
  replace R00 := Lib.hid (R00.out.ext hx1)
  clear hx1
  go_wp2_with fail
  refine (HFX.out _ e1).mono ?_; rintro e w2 ⟨hx2, aX, nX, cX, rfl, rX⟩
  have e2 : Ext w w2 := e1.trans hx2
  replace R00 := Lib.hid (R00.out.ext hx2)
  have RX := Lib.hid rX
  clear hx2 rX
  go_wp2_with fail
  refine (HW.out _ e2).mono ?_; rintro e w3 ⟨hx3, aW, nW, cW, rfl, rW⟩
  have e3 : Ext w w3 := e2.trans hx3
  replace R00 := Lib.hid (R00.out.ext hx3)
  replace RX := Lib.hid (RX.out.ext hx3)
  have RW := Lib.hid rW
  clear hx3 rW
  go_wp2_with fail
  refine (thruG HGX.out HSX.out HTX.out e3 RX.out RW.out).mono ?_; rintro e w4 ⟨hx4, aC, nC, cC, rfl, rC⟩
  have e4 : Ext w w4 := e3.trans hx4
  replace R00 := Lib.hid (R00.out.ext hx4)
  replace RX := Lib.hid (RX.out.ext hx4)
  replace RW := Lib.hid (RW.out.ext hx4)
  have RC := Lib.hid rC
  clear hx4 rC
  go_wp2_with fail
  refine (thruRG HGX.out HSX.out HTX.out RX.out RW.out).mono ?_; rintro e w5 ⟨hx5, aD, nD, cD, rfl, rD⟩
  have e5 : Ext w w5 := e4.trans hx5
  replace R00 := Lib.hid (R00.out.ext hx5)
  replace RX := Lib.hid (RX.out.ext hx5)
  replace RW := Lib.hid (RW.out.ext hx5)
  replace RC := Lib.hid (RC.out.ext hx5)
  have RD := Lib.hid rD
  clear hx5 rD
  go_wp2_with fail
  refine (patG HGX.out HSX.out HTX.out e5 RX.out RW.out).mono ?_; rintro e w6 ⟨hx6, aP, nP, cP, rfl, rP⟩
  have e6 : Ext w w6 := e5.trans hx6
  replace R00 := Lib.hid (R00.out.ext hx6)
  replace RX := Lib.hid (RX.out.ext hx6)
  replace RW := Lib.hid (RW.out.ext hx6)
  replace RC := Lib.hid (RC.out.ext hx6)
  replace RD := Lib.hid (RD.out.ext hx6)
  have RP := Lib.hid rP
  clear hx6 rP
  go_wp2_with fail
  refine (patRG HGX.out HSX.out HTX.out RX.out RW.out).mono ?_; rintro e w7 ⟨hx7, aQ, nQ, cQ, rfl, rQ⟩
  have e7 : Ext w w7 := e6.trans hx7
  replace R00 := Lib.hid (R00.out.ext hx7)
  replace RX := Lib.hid (RX.out.ext hx7)
  replace RW := Lib.hid (RW.out.ext hx7)
  replace RC := Lib.hid (RC.out.ext hx7)
  replace RD := Lib.hid (RD.out.ext hx7)
  replace RP := Lib.hid (RP.out.ext hx7)
  have RQ := Lib.hid rQ
  clear hx7 rQ
  clear RX RW
  have RS0 := Lib.hid (rdSS1 22 R00.out)
  replace R00 := Lib.hid (R00.out.ext ((Ext.refl w7).alloc (.cells #[.slice A0 q0 c0] 22)))
  replace RC := Lib.hid (RC.out.ext ((Ext.refl w7).alloc (.cells #[.slice A0 q0 c0] 22)))
  replace RD := Lib.hid (RD.out.ext ((Ext.refl w7).alloc (.cells #[.slice A0 q0 c0] 22)))
  replace RP := Lib.hid (RP.out.ext ((Ext.refl w7).alloc (.cells #[.slice A0 q0 c0] 22)))
  replace RQ := Lib.hid (RQ.out.ext ((Ext.refl w7).alloc (.cells #[.slice A0 q0 c0] 22)))
  have e8 : Ext w (w7.alloc (.cells #[.slice A0 q0 c0] 22)) := e7.alloc _
  go_wp2_with fail
  refine (HOD.out _ _ e8 RS0.out).mono ?_; rintro e w9 ⟨hx9, aO, nO, cO, rfl, rO⟩
  have e9 : Ext w w9 := e8.trans hx9
  replace R00 := Lib.hid (R00.out.ext hx9)
  replace RC := Lib.hid (RC.out.ext hx9)
  replace RD := Lib.hid (RD.out.ext hx9)
  replace RP := Lib.hid (RP.out.ext hx9)
  replace RQ := Lib.hid (RQ.out.ext hx9)
  have RO := Lib.hid rO
  clear hx9 rO
  have hl1 := RO.out.1
  simp only [List.length_cons, List.length_nil] at hl1
  subst hl1
  obtain ⟨bO, oO, aK, kK, rfl, hbO, q0O, rzO⟩ := RO.out.at_ (show 0 < 0 + 1 by omega) (show 0 < [O].length from Nat.succ_pos _)
  simp only [List.getElem_cons_zero, Nat.add_zero] at q0O rzO
  obtain ⟨nK, hnK⟩ : ∃ nK, O.length = nK := ⟨_, rfl⟩
  rw [hnK] at q0O rzO
  have RK := Lib.hid (show RdO w9 aK nK kK O from ⟨hnK, rzO⟩)
  clear rzO hnK
  go_wp2_with fail
  refine (HFE.out _ e9).mono ?_; rintro e w10 ⟨hx10, aF, nF, cF, rfl, rF⟩
  have e10 : Ext w w10 := e9.trans hx10
  replace R00 := Lib.hid (R00.out.ext hx10)
  replace RC := Lib.hid (RC.out.ext hx10)
  replace RD := Lib.hid (RD.out.ext hx10)
  replace RP := Lib.hid (RP.out.ext hx10)
  replace RQ := Lib.hid (RQ.out.ext hx10)
  replace RO := Lib.hid (RO.out.ext hx10)
  replace RK := Lib.hid (RK.out.ext hx10)
  have RF := Lib.hid rF
  clear hx10 rF
  go_wp2_with fail
  refine (OA.out _ _ _ _ _ _ _ e10 RK.out RF.out).mono ?_; rintro e w11 ⟨hx11, aR, nR, cR, rfl, rR⟩
  have e11 : Ext w w11 := e10.trans hx11
  replace R00 := Lib.hid (R00.out.ext hx11)
  replace RC := Lib.hid (RC.out.ext hx11)
  replace RD := Lib.hid (RD.out.ext hx11)
  replace RP := Lib.hid (RP.out.ext hx11)
  replace RQ := Lib.hid (RQ.out.ext hx11)
  replace RO := Lib.hid (RO.out.ext hx11)
  replace RK := Lib.hid (RK.out.ext hx11)
  replace RF := Lib.hid (RF.out.ext hx11)
  have RR := Lib.hid rR
  clear hx11 rR
  clear RF
  go_wp2_with fail
  refine (HFE.out _ e11).mono ?_; rintro e w12 ⟨hx12, aF, nF, cF, rfl, rF⟩
  have e12 : Ext w w12 := e11.trans hx12
  replace R00 := Lib.hid (R00.out.ext hx12)
  replace RC := Lib.hid (RC.out.ext hx12)
  replace RD := Lib.hid (RD.out.ext hx12)
  replace RP := Lib.hid (RP.out.ext hx12)
  replace RQ := Lib.hid (RQ.out.ext hx12)
  replace RO := Lib.hid (RO.out.ext hx12)
  replace RK := Lib.hid (RK.out.ext hx12)
  replace RR := Lib.hid (RR.out.ext hx12)
  have RF := Lib.hid rF
  clear hx12 rF
  go_wp2_with fail
  refine (OB.out _ _ _ _ _ _ _ RK.out RF.out).mono ?_; rintro e w13 ⟨hx13, aS, nS, cS, rfl, rS⟩
  have e13 : Ext w w13 := e12.trans hx13
  replace R00 := Lib.hid (R00.out.ext hx13)
  replace RC := Lib.hid (RC.out.ext hx13)
  replace RD := Lib.hid (RD.out.ext hx13)
  replace RP := Lib.hid (RP.out.ext hx13)
  replace RQ := Lib.hid (RQ.out.ext hx13)
  replace RO := Lib.hid (RO.out.ext hx13)
  replace RK := Lib.hid (RK.out.ext hx13)
  replace RR := Lib.hid (RR.out.ext hx13)
  replace RF := Lib.hid (RF.out.ext hx13)
  have RS := Lib.hid rS
  clear hx13 rS
  clear RF
  go_wp2_with fail
  refine (HFE.out _ e13).mono ?_; rintro e w14 ⟨hx14, aF, nF, cF, rfl, rF⟩
  have e14 : Ext w w14 := e13.trans hx14
  replace R00 := Lib.hid (R00.out.ext hx14)
  replace RC := Lib.hid (RC.out.ext hx14)
  replace RD := Lib.hid (RD.out.ext hx14)
  replace RP := Lib.hid (RP.out.ext hx14)
  replace RQ := Lib.hid (RQ.out.ext hx14)
  replace RO := Lib.hid (RO.out.ext hx14)
  replace RK := Lib.hid (RK.out.ext hx14)
  replace RR := Lib.hid (RR.out.ext hx14)
  replace RS := Lib.hid (RS.out.ext hx14)
  have RF := Lib.hid rF
  clear hx14 rF
  go_wp2_with fail
  refine (OC.out _ _ _ _ _ _ _ e14 RK.out RF.out).mono ?_; rintro e w15 ⟨hx15, aT, nT, cT, rfl, rT⟩
  have e15 : Ext w w15 := e14.trans hx15
  replace R00 := Lib.hid (R00.out.ext hx15)
  replace RC := Lib.hid (RC.out.ext hx15)
  replace RD := Lib.hid (RD.out.ext hx15)
  replace RP := Lib.hid (RP.out.ext hx15)
  replace RQ := Lib.hid (RQ.out.ext hx15)
  replace RO := Lib.hid (RO.out.ext hx15)
  replace RK := Lib.hid (RK.out.ext hx15)
  replace RR := Lib.hid (RR.out.ext hx15)
  replace RS := Lib.hid (RS.out.ext hx15)
  replace RF := Lib.hid (RF.out.ext hx15)
  have RT := Lib.hid rT
  clear hx15 rT
  clear RF
  go_wp2_with fail
  refine (HFE.out _ e15).mono ?_; rintro e w16 ⟨hx16, aF, nF, cF, rfl, rF⟩
  have e16 : Ext w w16 := e15.trans hx16
  replace R00 := Lib.hid (R00.out.ext hx16)
  replace RC := Lib.hid (RC.out.ext hx16)
  replace RD := Lib.hid (RD.out.ext hx16)
  replace RP := Lib.hid (RP.out.ext hx16)
  replace RQ := Lib.hid (RQ.out.ext hx16)
  replace RO := Lib.hid (RO.out.ext hx16)
  replace RK := Lib.hid (RK.out.ext hx16)
  replace RR := Lib.hid (RR.out.ext hx16)
  replace RS := Lib.hid (RS.out.ext hx16)
  replace RT := Lib.hid (RT.out.ext hx16)
  have RF := Lib.hid rF
  clear hx16 rF
  go_wp2_with fail
  refine (OD.out _ _ _ _ _ _ _ RK.out RF.out).mono ?_; rintro e w17 ⟨hx17, aU, nU, cU, rfl, rU⟩
  have e17 : Ext w w17 := e16.trans hx17
  replace R00 := Lib.hid (R00.out.ext hx17)
  replace RC := Lib.hid (RC.out.ext hx17)
  replace RD := Lib.hid (RD.out.ext hx17)
  replace RP := Lib.hid (RP.out.ext hx17)
  replace RQ := Lib.hid (RQ.out.ext hx17)
  replace RO := Lib.hid (RO.out.ext hx17)
  replace RK := Lib.hid (RK.out.ext hx17)
  replace RR := Lib.hid (RR.out.ext hx17)
  replace RS := Lib.hid (RS.out.ext hx17)
  replace RT := Lib.hid (RT.out.ext hx17)
  replace RF := Lib.hid (RF.out.ext hx17)
  have RU := Lib.hid rU
  clear hx17 rU
  clear RF RK
  go_wp2_with fail
  refine (sameTrueG rfl LO.out RC.out RD.out).mono ?_; rintro e w18 ⟨rfl, hx18⟩
  have e18 : Ext w w18 := e17.trans hx18
  replace R00 := Lib.hid (R00.out.ext hx18)
  replace RC := Lib.hid (RC.out.ext hx18)
  replace RD := Lib.hid (RD.out.ext hx18)
  replace RP := Lib.hid (RP.out.ext hx18)
  replace RQ := Lib.hid (RQ.out.ext hx18)
  replace RO := Lib.hid (RO.out.ext hx18)
  replace RR := Lib.hid (RR.out.ext hx18)
  replace RS := Lib.hid (RS.out.ext hx18)
  replace RT := Lib.hid (RT.out.ext hx18)
  replace RU := Lib.hid (RU.out.ext hx18)
  clear hx18
  go_wp2_with fail
  refine (sameTrueG rfl LP.out RP.out RQ.out).mono ?_; rintro e w19 ⟨rfl, hx19⟩
  have e19 : Ext w w19 := e18.trans hx19
  replace R00 := Lib.hid (R00.out.ext hx19)
  replace RC := Lib.hid (RC.out.ext hx19)
  replace RD := Lib.hid (RD.out.ext hx19)
  replace RP := Lib.hid (RP.out.ext hx19)
  replace RQ := Lib.hid (RQ.out.ext hx19)
  replace RO := Lib.hid (RO.out.ext hx19)
  replace RR := Lib.hid (RR.out.ext hx19)
  replace RS := Lib.hid (RS.out.ext hx19)
  replace RT := Lib.hid (RT.out.ext hx19)
  replace RU := Lib.hid (RU.out.ext hx19)
  clear hx19
  go_wp2_with fail
  refine (sameTrueG rfl OD1.out RR.out RS.out).mono ?_; rintro e w20 ⟨rfl, hx20⟩
  have e20 : Ext w w20 := e19.trans hx20
  replace R00 := Lib.hid (R00.out.ext hx20)
  replace RC := Lib.hid (RC.out.ext hx20)
  replace RD := Lib.hid (RD.out.ext hx20)
  replace RP := Lib.hid (RP.out.ext hx20)
  replace RQ := Lib.hid (RQ.out.ext hx20)
  replace RO := Lib.hid (RO.out.ext hx20)
  replace RR := Lib.hid (RR.out.ext hx20)
  replace RS := Lib.hid (RS.out.ext hx20)
  replace RT := Lib.hid (RT.out.ext hx20)
  replace RU := Lib.hid (RU.out.ext hx20)
  clear hx20
  go_wp2_with fail
  refine (sameTrueG rfl OD2.out RT.out RU.out).mono ?_; rintro e w21 ⟨rfl, hx21⟩
  have e21 : Ext w w21 := e20.trans hx21
  replace R00 := Lib.hid (R00.out.ext hx21)
  replace RC := Lib.hid (RC.out.ext hx21)
  replace RD := Lib.hid (RD.out.ext hx21)
  replace RP := Lib.hid (RP.out.ext hx21)
  replace RQ := Lib.hid (RQ.out.ext hx21)
  replace RO := Lib.hid (RO.out.ext hx21)
  replace RR := Lib.hid (RR.out.ext hx21)
  replace RS := Lib.hid (RS.out.ext hx21)
  replace RT := Lib.hid (RT.out.ext hx21)
  replace RU := Lib.hid (RU.out.ext hx21)
  clear hx21
  go_wp2_with fail
  go_ret
  exact ⟨rfl, e21⟩
end Go.Proofs.YtfjiookndleaeaaDoor
