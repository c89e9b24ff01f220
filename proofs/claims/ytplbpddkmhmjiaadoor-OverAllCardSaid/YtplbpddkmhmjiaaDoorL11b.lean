/- Layer 11, OverAll. -/
import Derived.Test.YtplbpddkmhmjiaaDoorL11a
namespace Go.Proofs.YtplbpddkmhmjiaaDoor
open Go.RowKit
set_option maxRecDepth 100000
set_option maxHeartbeats 4000000
theorem overV_len (X Y : List Sp) (hx : X.length ≤ 20) (hy : Y.length ≤ 20) : (if overE X Y = 0 then overL X Y else []).length ≤ 300 := by
  split
  · rename_i hE
    obtain ⟨hm, hm2, hf⟩ := overE_ok hE
    obtain ⟨ha, _, _⟩ := mayL_all hm (by omega)
    obtain ⟨hb, _, _⟩ := mayL_all hm2 (by omega)
    have h := overL_len X Y (fun s hs => okW_of_may (ha s hs)) (fun s hs => okW_of_may (hb s hs)) hf
    have e1 := norm_len X
    have e2 := norm_len Y
    omega
  · simp
theorem overAll_c (A0 : Option Addr) (q0 c0 : Nat) (l0 : List Sp) (A1 : Option Addr) (q1 c1 : Nat) (l1 : List Sp) (n : Int) (w : World) [Tab w] (h0 : Rd w 3 (.slice A0 q0 c0) q0 (spCells l0)) (hl0 : l0.length = q0) (hls0 : ∀ s ∈ l0, s.2.2.size ≤ maxLen) (h1 : Rd w 3 (.slice A1 q1 c1) q1 (spCells l1)) (hl1 : l1.length = q1) (hls1 : ∀ s ∈ l1, s.2.2.size ≤ maxLen) (hn : (Lit.int .u8 n).wf = true) :
    Calls Tryd.prog 3 #[.slice A0 q0 c0, .slice A1 q1 c1, .int .u8 n] w fun e w' => e = .returned (.bool true) ∧ Below w.heap.size w w' := by
  obtain ⟨n0, n1⟩ := bounds_u8 hn
  obtain ⟨M, hM, hM0, hM1⟩ : ∃ M : Int, n % 64 = M ∧ 0 ≤ M ∧ M ≤ 63 := ⟨n % 64, rfl, by omega, by omega⟩
  have H0 := Lib.hid h0; have HL0 := Lib.hid hl0; have HS0 := Lib.hid hls0
  have H1 := Lib.hid h1; have HL1 := Lib.hid hl1; have HS1 := Lib.hid hls1
  clear hn h0 hl0 hls0 h1 hl1 hls1
  obtain ⟨gX, iX, oX0, oX1, lX, tX⟩ := good_fit l0 M hM0 (by omega)
  obtain ⟨gY, iY, oY0, oY1, lY, tY⟩ := good_fit l1 M hM0 (by omega)
  have F0 : Hid (inL (fitL l0 M) = inL (fitL l1 M)) := Lib.hid (by omega)
  obtain ⟨_, _, _, _, lZ, _⟩ := good_over gX gY F0.out (by omega) (by omega)
  have LZ : Hid ((overL (fitL l0 M) (fitL l1 M)).length ≤ 300) := Lib.hid (by omega)
  have s0 := fewL11_size l0
  have s1 := fewL11_size l1
  have k0 : (fewL11 l0).length ≤ 20 := by rw [fewL11_len]; omega
  have k1 : (fewL11 l1).length ≤ 20 := by rw [fewL11_len]; omega
  have t0 := sumT_le (fewL11 l0) 60 s0
  have t1 := sumT_le (fewL11 l1) 60 s1
  have z0 : ∀ s ∈ fewL11 l0, s.2.2.size ≤ 1000000000 := fun s hs => by have := s0 s hs; omega
  have z1 : ∀ s ∈ fewL11 l1, s.2.2.size ≤ 1000000000 := fun s hs => by have := s1 s hs; omega
  have LV := Lib.hid (overV_len (fewL11 l0) (fewL11 l1) k0 k1)
  have HP : Hid (∀ A n k B m d w', Ext w w' → RdO w' A n k (fewL11 l0) → RdO w' B m d (fewL11 l1) → Calls Tryd.prog 12 #[.slice A n k, .slice B m d] w' (OpR w' (overE (fewL11 l0) (fewL11 l1)) (overL (fewL11 l0) (fewL11 l1)))) := Lib.hid fun A n k B m d w' hx r0 r1 => by
    have hTb := tab_ext hx
    have e0 := r0.1; have e1 := r1.1
    exact overP_c A n k _ B m d _ w' r0 r1 (by omega) (by omega) z0 z1 (by omega)
  have HQ : Hid (∀ A n k B m d w', RdO w' A n k (fewL11 l0) → RdO w' B m d (fewL11 l1) → Calls Tryd.prog 14 #[.slice A n k, .slice B m d] w' (OpR w' (overE (fewL11 l0) (fewL11 l1)) (overL (fewL11 l0) (fewL11 l1)))) := Lib.hid fun A n k B m d w' r0 r1 => by
    have e0 := r0.1; have e1 := r1.1
    exact overR_c A n k _ B m d _ w' r0 r1 (by omega) (by omega) z0 z1 (by omega)
  clear iX iY s0 s1 k0 k1 t0 t1 z0 z1 lX lY lZ tX tY oX0 oX1 oY0 oY1
  generalize overE (fewL11 l0) (fewL11 l1) = E at *
  go_enter Tryd.func3, Tryd.ntmps3
  go_wp2_with fail
  refine (shown11_c _).mono ?_; rintro e w1 ⟨rfl, hx1⟩
  have e1 : Ext w w1 := hx1
  clear hx1
  go_wp2_with fail
  refine (fitG A0 q0 c0 l0 M H0.out HL0.out HS0.out hM0 (by omega) e1).mono ?_; rintro e w2 ⟨hx2, aX, nX, cX, rfl, rX⟩
  have e2 : Ext w w2 := e1.trans hx2
  have RX := Lib.hid rX
  clear hx2 rX
  go_wp2_with fail
  refine (fitG A1 q1 c1 l1 M H1.out HL1.out HS1.out hM0 (by omega) e2).mono ?_; rintro e w3 ⟨hx3, aY, nY, cY, rfl, rY⟩
  have e3 : Ext w w3 := e2.trans hx3
  replace RX := Lib.hid (RX.out.ext hx3)
  have RY := Lib.hid rY
  clear hx3 rY
  go_wp2_with fail
  refine (overG gX gY F0.out e3 RX.out RY.out).mono ?_; rintro e w4 ⟨hx4, aZ, nZ, cZ, rfl, rZ⟩
  have e4 : Ext w w4 := e3.trans hx4
  replace RX := Lib.hid (RX.out.ext hx4)
  replace RY := Lib.hid (RY.out.ext hx4)
  have RZ := Lib.hid rZ
  clear hx4 rZ
  clear RX RY
  go_wp2_with fail
  refine (fitG A0 q0 c0 l0 M H0.out HL0.out HS0.out hM0 (by omega) e4).mono ?_; rintro e w5 ⟨hx5, aX, nX, cX, rfl, rX⟩
  have e5 : Ext w w5 := e4.trans hx5
  replace RZ := Lib.hid (RZ.out.ext hx5)
  have RX := Lib.hid rX
  clear hx5 rX
  go_wp2_with fail
  refine (fitG A1 q1 c1 l1 M H1.out HL1.out HS1.out hM0 (by omega) e5).mono ?_; rintro e w6 ⟨hx6, aY, nY, cY, rfl, rY⟩
  have e6 : Ext w w6 := e5.trans hx6
  replace RZ := Lib.hid (RZ.out.ext hx6)
  replace RX := Lib.hid (RX.out.ext hx6)
  have RY := Lib.hid rY
  clear hx6 rY
  go_wp2_with fail
  refine (overRG gX gY F0.out RX.out RY.out).mono ?_; rintro e w7 ⟨hx7, aQ, nQ, cQ, rfl, rQ⟩
  have e7 : Ext w w7 := e6.trans hx7
  replace RZ := Lib.hid (RZ.out.ext hx7)
  replace RX := Lib.hid (RX.out.ext hx7)
  replace RY := Lib.hid (RY.out.ext hx7)
  have RQ := Lib.hid rQ
  clear hx7 rQ
  clear RX RY
  go_wp2_with fail
  refine (few11G A0 q0 c0 l0 H0.out HL0.out HS0.out e7).mono ?_; rintro e w8 ⟨hx8, aU, nU, cU, rfl, rU⟩
  have e8 : Ext w w8 := e7.trans hx8
  replace RZ := Lib.hid (RZ.out.ext hx8)
  replace RQ := Lib.hid (RQ.out.ext hx8)
  have RU := Lib.hid rU
  clear hx8 rU
  go_wp2_with fail
  refine (few11G A1 q1 c1 l1 H1.out HL1.out HS1.out e8).mono ?_; rintro e w9 ⟨hx9, aV, nV, cV, rfl, rV⟩
  have e9 : Ext w w9 := e8.trans hx9
  replace RZ := Lib.hid (RZ.out.ext hx9)
  replace RQ := Lib.hid (RQ.out.ext hx9)
  replace RU := Lib.hid (RU.out.ext hx9)
  have RV := Lib.hid rV
  clear hx9 rV
  go_wp2_with fail
  refine (HP.out _ _ _ _ _ _ _ e9 RU.out RV.out).mono ?_; rintro e w10 ⟨hx10, aP, nP, cP, rfl, rP⟩
  have e10 : Ext w w10 := e9.trans hx10
  replace RZ := Lib.hid (RZ.out.ext hx10)
  replace RQ := Lib.hid (RQ.out.ext hx10)
  replace RU := Lib.hid (RU.out.ext hx10)
  replace RV := Lib.hid (RV.out.ext hx10)
  have RP := Lib.hid rP
  clear hx10 rP
  clear RU RV
  go_wp2_with fail
  refine (few11G A0 q0 c0 l0 H0.out HL0.out HS0.out e10).mono ?_; rintro e w11 ⟨hx11, aU, nU, cU, rfl, rU⟩
  have e11 : Ext w w11 := e10.trans hx11
  replace RZ := Lib.hid (RZ.out.ext hx11)
  replace RQ := Lib.hid (RQ.out.ext hx11)
  replace RP := Lib.hid (RP.out.ext hx11)
  have RU := Lib.hid rU
  clear hx11 rU
  go_wp2_with fail
  refine (few11G A1 q1 c1 l1 H1.out HL1.out HS1.out e11).mono ?_; rintro e w12 ⟨hx12, aV, nV, cV, rfl, rV⟩
  have e12 : Ext w w12 := e11.trans hx12
  replace RZ := Lib.hid (RZ.out.ext hx12)
  replace RQ := Lib.hid (RQ.out.ext hx12)
  replace RP := Lib.hid (RP.out.ext hx12)
  replace RU := Lib.hid (RU.out.ext hx12)
  have RV := Lib.hid rV
  clear hx12 rV
  go_wp2_with fail
  refine (HQ.out _ _ _ _ _ _ _ RU.out RV.out).mono ?_; rintro e w13 ⟨hx13, aS, nS, cS, rfl, rS⟩
  have e13 : Ext w w13 := e12.trans hx13
  replace RZ := Lib.hid (RZ.out.ext hx13)
  replace RQ := Lib.hid (RQ.out.ext hx13)
  replace RP := Lib.hid (RP.out.ext hx13)
  replace RU := Lib.hid (RU.out.ext hx13)
  replace RV := Lib.hid (RV.out.ext hx13)
  have RS := Lib.hid rS
  clear hx13 rS
  clear RU RV
  go_wp2_with fail
  refine (sameTrueG rfl LZ.out RZ.out RQ.out).mono ?_; rintro e w14 ⟨rfl, hx14⟩
  have e14 : Ext w w14 := e13.trans hx14
  replace RZ := Lib.hid (RZ.out.ext hx14)
  replace RQ := Lib.hid (RQ.out.ext hx14)
  replace RP := Lib.hid (RP.out.ext hx14)
  replace RS := Lib.hid (RS.out.ext hx14)
  clear hx14
  go_wp2_with fail
  refine (sameTrueG rfl LV.out RP.out RS.out).mono ?_; rintro e w15 ⟨rfl, hx15⟩
  have e15 : Ext w w15 := e14.trans hx15
  replace RZ := Lib.hid (RZ.out.ext hx15)
  replace RQ := Lib.hid (RQ.out.ext hx15)
  replace RP := Lib.hid (RP.out.ext hx15)
  replace RS := Lib.hid (RS.out.ext hx15)
  clear hx15
  go_wp2_with fail
  go_ret
  exact ⟨rfl, e15⟩
end Go.Proofs.YtplbpddkmhmjiaaDoor
