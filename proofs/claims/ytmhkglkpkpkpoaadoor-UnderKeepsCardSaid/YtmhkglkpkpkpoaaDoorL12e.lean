/- Layer 12, UnderKeeps. -/
import Derived.Test.YtmhkglkpkpkpoaaDoorL12a
namespace Go.Proofs.YtmhkglkpkpkpoaaDoor
open Go.RowKit
set_option maxRecDepth 100000
set_option maxHeartbeats 4000000
theorem keeps12 {X : List Sp} (gX : Good X) : underL X (keepL (inL X)) = normL X ∧ underL (keepL (inL X)) X = keepL (outL X) ∧ overL X (keepL (inL X)) = normL X := by
  have h1 := gX.tin
  have h2 := gX.tout
  have h3 := gX.out0
  have e : (inL X).toNat = tin (tok X) := by omega
  have e2 : (outL X).toNat = tout (tok X) := by omega
  unfold underL overL
  rw [keepL_tok, e, under_keepR, under_keepL, over_keepR, ← e2, keepL_spT _ h3, norm_tok X gX.ok]
  exact ⟨rfl, rfl, rfl⟩
theorem underKeeps_c (A0 : Option Addr) (q0 c0 : Nat) (l0 : List Sp) (n : Int) (w : World) [Tab w] (h0 : Rd w 3 (.slice A0 q0 c0) q0 (spCells l0)) (hl0 : l0.length = q0) (hls0 : ∀ s ∈ l0, s.2.2.size ≤ maxLen) (hn : (Lit.int .u8 n).wf = true) :
    Calls Tryd.prog 7 #[.slice A0 q0 c0, .int .u8 n] w fun e w' => e = .returned (.bool true) ∧ Below w.heap.size w w' := by
  obtain ⟨n0, n1⟩ := bounds_u8 hn
  obtain ⟨M, hM, hM0, hM1⟩ : ∃ M : Int, n % 64 = M ∧ 0 ≤ M ∧ M ≤ 63 := ⟨n % 64, rfl, by omega, by omega⟩
  have HFX : Hid (∀ w', Ext w w' → Calls Tryd.prog 10 #[.slice A0 q0 c0, .int .i64 M] w' (TellsL w' (fitL l0 M))) := Lib.hid fun w' hx => fitG A0 q0 c0 l0 M h0 hl0 hls0 hM0 (by omega) hx
  obtain ⟨gX, iX, oX0, oX1, lX, tX⟩ := good_fit l0 M hM0 (by omega)
  clear h0 hl0 hls0 hn
  generalize fitL l0 M = X at *
  obtain ⟨gK, iK, oK, tK, lK, sK⟩ := good_keep M hM0 (by omega)
  obtain ⟨k1, k2, k3⟩ := keeps12 gX
  rw [iX] at k1 k2 k3
  obtain ⟨gN, N2, N3, N4, N5, N6, N7⟩ := good_norm gX
  have LN : Hid ((normL X).length ≤ 300) := Lib.hid gN.len
  have LW : Hid ((keepL (outL X)).length ≤ 300) := Lib.hid (by have := keepL_len (outL X); omega)
  have HA : Hid (∀ A n k B m d w', Ext w w' → RdO w' A n k X → RdO w' B m d (keepL M) → Calls Tryd.prog 11 #[.slice A n k, .slice B m d] w' (TellsE w' (normL X))) := Lib.hid fun A n k B m d w' hx hr hs => by
    have h := underG gX gK (by omega) hx hr hs
    rw [k1] at h; exact h
  have HB : Hid (∀ A n k B m d w', Ext w w' → RdO w' A n k (keepL M) → RdO w' B m d X → Calls Tryd.prog 11 #[.slice A n k, .slice B m d] w' (TellsE w' (keepL (outL X)))) := Lib.hid fun A n k B m d w' hx hr hs => by
    have h := underG gK gX (by omega) hx hr hs
    rw [k2] at h; exact h
  have HM : Hid (∀ A n k B m d w', Ext w w' → RdO w' A n k X → RdO w' B m d (keepL M) → Calls Tryd.prog 14 #[.slice A n k, .slice B m d] w' (TellsM w' (normL X) (keepL (outL X)))) := Lib.hid fun A n k B m d w' hx hr hs => by
    have h := meetG gX gK (by omega) hx hr hs
    rw [k2, k3] at h; exact h
  have oXb : outL X ≤ 100000 := by omega
  clear iX oX1 lX tX iK oK tK lK sK k1 k2 k3 gN N2 N3 N4 N5 N6 N7
  go_enter Tryd.func7, Tryd.ntmps7
  go_wp2_with fail
  refine (shown12_c _).mono ?_; rintro e w1 ⟨rfl, hx1⟩
  have e1 : Ext w w1 := hx1
  clear hx1
  go_wp2_with fail
  refine (HFX.out _ e1).mono ?_; rintro e w2 ⟨hx2, aX, nX, cX, rfl, rX⟩
  have e2 : Ext w w2 := e1.trans hx2
  have RX := Lib.hid rX
  clear hx2 rX
  go_wp2_with fail
  refine (keepG M hM0 (by omega) _).mono ?_; rintro e w3 ⟨hx3, aK, nK, cK, rfl, rK⟩
  have e3 : Ext w w3 := e2.trans hx3
  replace RX := Lib.hid (RX.out.ext hx3)
  have RK := Lib.hid rK
  clear hx3 rK
  go_wp2_with fail
  refine (HA.out _ _ _ _ _ _ _ e3 RX.out RK.out).mono ?_; rintro e w4 ⟨hx4, aA, nA, cA, rfl, rA⟩
  have e4 : Ext w w4 := e3.trans hx4
  replace RX := Lib.hid (RX.out.ext hx4)
  replace RK := Lib.hid (RK.out.ext hx4)
  have RA := Lib.hid rA
  clear hx4 rA
  go_wp2_with fail
  refine (HB.out _ _ _ _ _ _ _ e4 RK.out RX.out).mono ?_; rintro e w5 ⟨hx5, aB, nB, cB, rfl, rB⟩
  have e5 : Ext w w5 := e4.trans hx5
  replace RX := Lib.hid (RX.out.ext hx5)
  replace RK := Lib.hid (RK.out.ext hx5)
  replace RA := Lib.hid (RA.out.ext hx5)
  have RB := Lib.hid rB
  clear hx5 rB
  go_wp2_with fail
  refine (outG gX e5 RX.out).mono ?_; rintro e w6 ⟨rfl, hx6⟩
  have e6 : Ext w w6 := e5.trans hx6
  replace RX := Lib.hid (RX.out.ext hx6)
  replace RK := Lib.hid (RK.out.ext hx6)
  replace RA := Lib.hid (RA.out.ext hx6)
  replace RB := Lib.hid (RB.out.ext hx6)
  clear hx6
  go_wp2_with fail
  refine (keepG (outL X) oX0 oXb _).mono ?_; rintro e w7 ⟨hx7, aW, nW, cW, rfl, rW⟩
  have e7 : Ext w w7 := e6.trans hx7
  replace RX := Lib.hid (RX.out.ext hx7)
  replace RK := Lib.hid (RK.out.ext hx7)
  replace RA := Lib.hid (RA.out.ext hx7)
  replace RB := Lib.hid (RB.out.ext hx7)
  have RW := Lib.hid rW
  clear hx7 rW
  go_wp2_with fail
  refine (HM.out _ _ _ _ _ _ _ e7 RX.out RK.out).mono ?_; rintro e w8 ⟨hx8, aC, nC, cC, aD, nD, cD, rfl, rC, rD⟩
  have e8 : Ext w w8 := e7.trans hx8
  replace RX := Lib.hid (RX.out.ext hx8)
  replace RK := Lib.hid (RK.out.ext hx8)
  replace RA := Lib.hid (RA.out.ext hx8)
  replace RB := Lib.hid (RB.out.ext hx8)
  replace RW := Lib.hid (RW.out.ext hx8)
  have RC := Lib.hid rC; have RD := Lib.hid rD
  clear hx8 rC rD
  go_wp2_with fail
  refine (normG gX RX.out).mono ?_; rintro e w9 ⟨hx9, aN, nN, cN, rfl, rN⟩
  have e9 : Ext w w9 := e8.trans hx9
  replace RX := Lib.hid (RX.out.ext hx9)
  replace RK := Lib.hid (RK.out.ext hx9)
  replace RA := Lib.hid (RA.out.ext hx9)
  replace RB := Lib.hid (RB.out.ext hx9)
  replace RW := Lib.hid (RW.out.ext hx9)
  replace RC := Lib.hid (RC.out.ext hx9)
  replace RD := Lib.hid (RD.out.ext hx9)
  have RN := Lib.hid rN
  clear hx9 rN
  go_wp2_with fail
  refine (sameTrueG rfl LN.out RA.out RN.out).mono ?_; rintro e w10 ⟨rfl, hx10⟩
  have e10 : Ext w w10 := e9.trans hx10
  replace RX := Lib.hid (RX.out.ext hx10)
  replace RK := Lib.hid (RK.out.ext hx10)
  replace RA := Lib.hid (RA.out.ext hx10)
  replace RB := Lib.hid (RB.out.ext hx10)
  replace RW := Lib.hid (RW.out.ext hx10)
  replace RC := Lib.hid (RC.out.ext hx10)
  replace RD := Lib.hid (RD.out.ext hx10)
  replace RN := Lib.hid (RN.out.ext hx10)
  clear hx10
  clear RN
  go_wp2_with fail
  refine (sameTrueG rfl LW.out RB.out RW.out).mono ?_; rintro e w11 ⟨rfl, hx11⟩
  have e11 : Ext w w11 := e10.trans hx11
  replace RX := Lib.hid (RX.out.ext hx11)
  replace RK := Lib.hid (RK.out.ext hx11)
  replace RA := Lib.hid (RA.out.ext hx11)
  replace RB := Lib.hid (RB.out.ext hx11)
  replace RW := Lib.hid (RW.out.ext hx11)
  replace RC := Lib.hid (RC.out.ext hx11)
  replace RD := Lib.hid (RD.out.ext hx11)
  clear hx11
  go_wp2_with fail
  refine (normG gX RX.out).mono ?_; rintro e w12 ⟨hx12, aP, nP, cP, rfl, rP⟩
  have e12 : Ext w w12 := e11.trans hx12
  replace RX := Lib.hid (RX.out.ext hx12)
  replace RK := Lib.hid (RK.out.ext hx12)
  replace RA := Lib.hid (RA.out.ext hx12)
  replace RB := Lib.hid (RB.out.ext hx12)
  replace RW := Lib.hid (RW.out.ext hx12)
  replace RC := Lib.hid (RC.out.ext hx12)
  replace RD := Lib.hid (RD.out.ext hx12)
  have RP := Lib.hid rP
  clear hx12 rP
  go_wp2_with fail
  refine (sameTrueG rfl LN.out RC.out RP.out).mono ?_; rintro e w13 ⟨rfl, hx13⟩
  have e13 : Ext w w13 := e12.trans hx13
  replace RX := Lib.hid (RX.out.ext hx13)
  replace RK := Lib.hid (RK.out.ext hx13)
  replace RA := Lib.hid (RA.out.ext hx13)
  replace RB := Lib.hid (RB.out.ext hx13)
  replace RW := Lib.hid (RW.out.ext hx13)
  replace RC := Lib.hid (RC.out.ext hx13)
  replace RD := Lib.hid (RD.out.ext hx13)
  replace RP := Lib.hid (RP.out.ext hx13)
  clear hx13
  go_wp2_with fail
  refine (sameTrueG rfl LW.out RD.out RW.out).mono ?_; rintro e w14 ⟨rfl, hx14⟩
  have e14 : Ext w w14 := e13.trans hx14
  replace RX := Lib.hid (RX.out.ext hx14)
  replace RK := Lib.hid (RK.out.ext hx14)
  replace RA := Lib.hid (RA.out.ext hx14)
  replace RB := Lib.hid (RB.out.ext hx14)
  replace RW := Lib.hid (RW.out.ext hx14)
  replace RC := Lib.hid (RC.out.ext hx14)
  replace RD := Lib.hid (RD.out.ext hx14)
  replace RP := Lib.hid (RP.out.ext hx14)
  clear hx14
  go_wp2_with fail
  go_ret
  exact ⟨rfl, e14⟩
end Go.Proofs.YtmhkglkpkpkpoaaDoor
