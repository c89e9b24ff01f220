/- Layer 11, OverKeeps. -/
import Derived.Test.YtplbpddkmhmjiaaDoorL11a
import Derived.Test.YtplbpddkmhmjiaaDoorMx
namespace Go.Proofs.YtplbpddkmhmjiaaDoor
open Go.RowKit
set_option maxRecDepth 100000
set_option maxHeartbeats 4000000
theorem keeps11 {X : List Sp} (gX : Good X) : overL X (keepL (inL X)) = normL X ∧ overL (keepL (inL X)) X = keepL (outL X) := by
  have h1 := gX.tin
  have h2 := gX.tout
  have h3 := gX.out0
  have e : (inL X).toNat = tin (tok X) := by omega
  have e2 : (outL X).toNat = tout (tok X) := by omega
  unfold overL
  rw [keepL_tok, e, over_keepR, over_keepL, ← e2, keepL_spT _ h3, norm_tok X gX.ok]
  exact ⟨rfl, rfl⟩
theorem overKeeps_c (A0 : Option Addr) (q0 c0 : Nat) (l0 : List Sp) (A1 : Option Addr) (q1 c1 : Nat) (l1 : List Sp) (n : Int) (w : World) [Tab w] (h0 : Rd w 3 (.slice A0 q0 c0) q0 (spCells l0)) (hl0 : l0.length = q0) (hls0 : ∀ s ∈ l0, s.2.2.size ≤ maxLen) (h1 : Rd w 3 (.slice A1 q1 c1) q1 (spCells l1)) (hl1 : l1.length = q1) (hls1 : ∀ s ∈ l1, s.2.2.size ≤ maxLen) (hn : (Lit.int .u8 n).wf = true) :
    Calls Tryd.prog 7 #[.slice A0 q0 c0, .slice A1 q1 c1, .int .u8 n] w fun e w' => e = .returned (.bool true) ∧ Below w.heap.size w w' := by
  obtain ⟨n0, n1⟩ := bounds_u8 hn
  obtain ⟨M, hM, hM0, hM1⟩ : ∃ M : Int, n % 64 = M ∧ 0 ≤ M ∧ M ≤ 63 := ⟨n % 64, rfl, by omega, by omega⟩
  have HFX : Hid (∀ w', Ext w w' → Calls Tryd.prog 13 #[.slice A0 q0 c0, .int .i64 M] w' (TellsL w' (fitL l0 M))) := Lib.hid fun w' hx => fitG A0 q0 c0 l0 M h0 hl0 hls0 hM0 (by omega) hx
  have HFY : Hid (∀ w', Ext w w' → Calls Tryd.prog 13 #[.slice A1 q1 c1, .int .i64 M] w' (TellsL w' (fitL l1 M))) := Lib.hid fun w' hx => fitG A1 q1 c1 l1 M h1 hl1 hls1 hM0 (by omega) hx
  obtain ⟨gX, iX, oX0, oX1, lX, tX⟩ := good_fit l0 M hM0 (by omega)
  obtain ⟨gY, iY, oY0, oY1, lY, tY⟩ := good_fit l1 M hM0 (by omega)
  clear h0 hl0 hls0 h1 hl1 hls1 hn
  generalize fitL l0 M = X at *
  generalize fitL l1 M = Y at *
  obtain ⟨gK, iK, oK, tK, lK, sK⟩ := good_keep M hM0 (by omega)
  obtain ⟨gC, C2, C3, C4, C5, C6⟩ := good_over gX gY (by omega) (by omega) (by omega)
  have hb := (keeps11 gX).1
  have hd := (keeps11 gY).2
  rw [iX] at hb
  rw [iY] at hd
  obtain ⟨gN, N2, N3, N4, N5, N6, N7⟩ := good_norm gX
  have LN : Hid ((normL X).length ≤ 300) := Lib.hid gN.len
  have LX : Hid (X.length ≤ 300) := Lib.hid gX.len
  have LY : Hid (Y.length ≤ 300) := Lib.hid gY.len
  have LW : Hid ((keepL (outL Y)).length ≤ 300) := Lib.hid (by have := keepL_len (outL Y); omega)
  have HI : Hid ((insT (tok (overL X Y))).length = (insT (tok X)).length) := Lib.hid (by rw [C2, over_insT _ _ (by have := gX.tin; have := gY.tin; omega)])
  have HOC : Hid (∀ A n k B m d w', Ext w w' → RdO w' A n k X → RdO w' B m d Y → Calls Tryd.prog 12 #[.slice A n k, .slice B m d] w' (TellsE w' (overL X Y))) := Lib.hid fun A n k B m d w' hx hr hs => overG gX gY (by omega) hx hr hs
  have HOB : Hid (∀ A n k B m d w', Ext w w' → RdO w' A n k X → RdO w' B m d (keepL M) → Calls Tryd.prog 12 #[.slice A n k, .slice B m d] w' (TellsE w' (normL X))) := Lib.hid fun A n k B m d w' hx hr hs => by
    have h := overG gX gK (by omega) hx hr hs
    rw [hb] at h; exact h
  have HOD : Hid (∀ A n k B m d w', Ext w w' → RdO w' A n k (keepL M) → RdO w' B m d Y → Calls Tryd.prog 12 #[.slice A n k, .slice B m d] w' (TellsE w' (keepL (outL Y)))) := Lib.hid fun A n k B m d w' hx hr hs => by
    have h := overG gK gY (by omega) hx hr hs
    rw [hd] at h; exact h
  have CI : Hid (∀ A n k w', Ext w w' → RdO w' A n k (overL X Y) → _) := Lib.hid fun A n k w' hx hr => @inG _ gC w w' _ hx A n k hr
  rw [C4] at CI
  have HIS := Lib.hid C3
  have LC : Hid ((overL X Y).length ≤ 300) := Lib.hid gC.len
  have oYb : outL Y ≤ 100000 := by omega
  clear iX iY oX0 oX1 lX tX oY1 lY tY iK oK tK lK sK C2 C3 C4 C5 C6 hb hd gN N2 N3 N4 N5 N6 N7
  generalize overL X Y = C at *
  go_enter Tryd.func7, Tryd.ntmps7
  go_wp2_with fail
  refine (shown11_c _).mono ?_; rintro e w1 ⟨rfl, hx1⟩
  have e1 : Ext w w1 := hx1
  clear hx1
  go_wp2_with fail
  refine (HFX.out _ e1).mono ?_; rintro e w2 ⟨hx2, aX, nX, cX, rfl, rX⟩
  have e2 : Ext w w2 := e1.trans hx2
  have RX := Lib.hid rX
  clear hx2 rX
  go_wp2_with fail
  refine (HFY.out _ e2).mono ?_; rintro e w3 ⟨hx3, aY, nY, cY, rfl, rY⟩
  have e3 : Ext w w3 := e2.trans hx3
  replace RX := Lib.hid (RX.out.ext hx3)
  have RY := Lib.hid rY
  clear hx3 rY
  go_wp2_with fail
  refine (HOC.out _ _ _ _ _ _ _ e3 RX.out RY.out).mono ?_; rintro e w4 ⟨hx4, aC, nC, cC, rfl, rC⟩
  have e4 : Ext w w4 := e3.trans hx4
  replace RX := Lib.hid (RX.out.ext hx4)
  replace RY := Lib.hid (RY.out.ext hx4)
  have RC := Lib.hid rC
  clear hx4 rC
  go_wp2_with fail
  refine (keepG M hM0 (by omega) _).mono ?_; rintro e w5 ⟨hx5, aK, nK, cK, rfl, rK⟩
  have e5 : Ext w w5 := e4.trans hx5
  replace RX := Lib.hid (RX.out.ext hx5)
  replace RY := Lib.hid (RY.out.ext hx5)
  replace RC := Lib.hid (RC.out.ext hx5)
  have RK := Lib.hid rK
  clear hx5 rK
  go_wp2_with fail
  refine (HOB.out _ _ _ _ _ _ _ e5 RX.out RK.out).mono ?_; rintro e w6 ⟨hx6, aB, nB, cB, rfl, rB⟩
  have e6 : Ext w w6 := e5.trans hx6
  replace RX := Lib.hid (RX.out.ext hx6)
  replace RY := Lib.hid (RY.out.ext hx6)
  replace RC := Lib.hid (RC.out.ext hx6)
  replace RK := Lib.hid (RK.out.ext hx6)
  have RB := Lib.hid rB
  clear hx6 rB
  go_wp2_with fail
  refine (HOD.out _ _ _ _ _ _ _ e6 RK.out RY.out).mono ?_; rintro e w7 ⟨hx7, aD, nD, cD, rfl, rD⟩
  have e7 : Ext w w7 := e6.trans hx7
  replace RX := Lib.hid (RX.out.ext hx7)
  replace RY := Lib.hid (RY.out.ext hx7)
  replace RC := Lib.hid (RC.out.ext hx7)
  replace RK := Lib.hid (RK.out.ext hx7)
  replace RB := Lib.hid (RB.out.ext hx7)
  have RD := Lib.hid rD
  clear hx7 rD
  clear RK
  go_wp2_with fail
  refine (outG gY e7 RY.out).mono ?_; rintro e w8 ⟨rfl, hx8⟩
  have e8 : Ext w w8 := e7.trans hx8
  replace RX := Lib.hid (RX.out.ext hx8)
  replace RY := Lib.hid (RY.out.ext hx8)
  replace RC := Lib.hid (RC.out.ext hx8)
  replace RB := Lib.hid (RB.out.ext hx8)
  replace RD := Lib.hid (RD.out.ext hx8)
  clear hx8
  go_wp2_with fail
  refine (keepG (outL Y) oY0 oYb _).mono ?_; rintro e w9 ⟨hx9, aW, nW, cW, rfl, rW⟩
  have e9 : Ext w w9 := e8.trans hx9
  replace RX := Lib.hid (RX.out.ext hx9)
  replace RY := Lib.hid (RY.out.ext hx9)
  replace RC := Lib.hid (RC.out.ext hx9)
  replace RB := Lib.hid (RB.out.ext hx9)
  replace RD := Lib.hid (RD.out.ext hx9)
  have RW := Lib.hid rW
  clear hx9 rW
  go_wp2_with fail
  have HEu := Lib.hid e9
  have hqXu := RX.out.1
  have hq3u := gX.len
  have hq4u : nX ≤ 300 := by omega
  clear hqXu hq3u
  go_loopw [21, 22] (fun v z wr => ∃ j m : Nat, j ≤ nX ∧ z = .int .i64 j ∧ v = .int .i64 m ∧ Hid (m = (insT (tok (X.take j))).length) ∧ Hid (Ext w wr) ∧ Hid (RdO wr aX nX cX X) ∧ Hid (RdO wr aY nY cY Y) ∧ Hid (RdO wr aC nC cC C) ∧ Hid (RdO wr aB nB cB (normL X)) ∧ Hid (RdO wr aD nD cD (keepL (outL Y))) ∧ Hid (RdO wr aW nW cW (keepL (outL Y)))) (fun _ z _ => nX - (intOf z).toNat)
  case atStart => exact ⟨0, 0, by omega, rfl, rfl, Lib.hid rfl, HEu, RX, RY, RC, RB, RD, RW⟩
  case round =>
    clear RX RY RC RB RD RW HEu
    obtain ⟨j, m, hj, rfl, rfl, HM, HXR, RX, RY, RC, RB, RD, RW⟩ := hrel
    by_cases hlt : j < nX
    · have hjl : j < X.length := by have := RX.out.1; omega
      obtain ⟨b, off, rfl, hb, q0, q1, q2⟩ := sp_at RX.out.2 RX.out.1 hlt
      have dn : decide (j < nX) = true := by rw [decide_eq_true_eq]; exact hlt
      have i0 : (0 : Int) ≤ (j : Int) := by omega
      have i1 : (j : Int) < (nX : Int) := by omega
      have hsm := insT_small gX
      have htk := insT_take_le X j
      have htk2 := insT_take_le X (j + 1)
      obtain ⟨a1, a2, a3, hsp, ht, hk⟩ := put_at gX hjl
      rw [hsp] at q0 q1 q2
      simp only at q0 q1 q2
      clear hsp
      rcases hk with ⟨rfl, us, hu, hmn⟩ | ⟨hk, hmn⟩
      · have hcn := count_c a3
        rw [cntF_some hu] at hcn
        have HC := Lib.hid (fun w' => hcn w' ht)
        have hM := HM.out
        have HMN : Hid (m + us.length = (insT (tok (X.take (j + 1)))).length) := Lib.hid (by omega)
        have hul : us.length ≤ 100000 := by omega
        have hml : m ≤ 100000 := by omega
        clear hmn hcn hu hsm htk htk2 hM
        generalize us.length = U at *
        go_wp2_with fail
        refine (HC.out _).mono ?_; rintro e w1 ⟨rfl, hx1⟩
        go_wp2_with fail
        go_roundw
        case rel => exact ⟨j + 1, m + U, by omega, by go_num, by go_num, HMN, Lib.hid (HXR.out.trans hx1), Lib.hid (RX.out.ext hx1), Lib.hid (RY.out.ext hx1), Lib.hid (RC.out.ext hx1), Lib.hid (RB.out.ext hx1), Lib.hid (RD.out.ext hx1), Lib.hid (RW.out.ext hx1)⟩
        case measure => simp [intOf]; omega
      · have hkk : (a1 == 2) = false := by rw [beq_eq_false_iff_ne]; exact hk
        have hM := HM.out
        have HMN : Hid (m = (insT (tok (X.take (j + 1)))).length) := Lib.hid (by omega)
        clear hmn hsm htk htk2 hM hk
        go_wp2_with fail
        go_roundw
        case rel => exact ⟨j + 1, m, by omega, by go_num, rfl, HMN, HXR, RX, RY, RC, RB, RD, RW⟩
        case measure => simp [intOf]; omega
    · obtain rfl : j = nX := by omega
      have hall : X.take j = X := by rw [← RX.out.1]; exact List.take_length
      have dn : decide (j < j) = false := by rw [decide_eq_false_iff_not]; omega
      have hM := HM.out
      rw [hall] at hM
      have HC := Lib.hid hM
      clear hM hall HM
      have exru := HXR.out
      clear hlt
      go_wp2_with fail
      obtain ⟨P, hPm⟩ : ∃ P, P = m := ⟨m, rfl⟩
      subst hPm
      have HPv : Hid ((insT (tok C)).length = P) := Lib.hid (by rw [HI.out]; exact HC.out.symm)
      obtain ⟨nX, hnX⟩ : ∃ nX, nX = j := ⟨j, rfl⟩
      subst hnX
      clear HC HI
      have HEv := Lib.hid exru
      have hqXv := RC.out.1
      have hq3v := gC.len
      have hq4v : nC ≤ 300 := by omega
      clear hqXv hq3v
      go_loopw [21, 23] (fun v z wr => ∃ j m d : Nat, j ≤ nC ∧ z = .int .i64 j ∧ v = .int .i64 d ∧ Hid (m = (insT (tok (C.take j))).length ∧ d + m = P) ∧ Hid (Ext w wr) ∧ Hid (RdO wr aX nX cX X) ∧ Hid (RdO wr aY nY cY Y) ∧ Hid (RdO wr aC nC cC C) ∧ Hid (RdO wr aB nB cB (normL X)) ∧ Hid (RdO wr aD nD cD (keepL (outL Y))) ∧ Hid (RdO wr aW nW cW (keepL (outL Y)))) (fun _ z _ => nC - (intOf z).toNat)
      case atStart => exact ⟨0, 0, P, by omega, rfl, rfl, Lib.hid ⟨rfl, rfl⟩, HEv, RX, RY, RC, RB, RD, RW⟩
      case round =>
        clear RX RY RC RB RD RW HEv
        obtain ⟨j, m, d, hj, rfl, rfl, HM, HXR, RX, RY, RC, RB, RD, RW⟩ := hrel
        by_cases hlt : j < nC
        · have hjl : j < C.length := by have := RC.out.1; omega
          obtain ⟨b, off, rfl, hb, q0, q1, q2⟩ := sp_at RC.out.2 RC.out.1 hlt
          have dn : decide (j < nC) = true := by rw [decide_eq_true_eq]; exact hlt
          have i0 : (0 : Int) ≤ (j : Int) := by omega
          have i1 : (j : Int) < (nC : Int) := by omega
          have hsm := insT_small gC
          have htk := insT_take_le C j
          have htk2 := insT_take_le C (j + 1)
          obtain ⟨a1, a2, a3, hsp, ht, hk⟩ := put_at gC hjl
          rw [hsp] at q0 q1 q2
          simp only at q0 q1 q2
          clear hsp
          rcases hk with ⟨rfl, us, hu, hmn⟩ | ⟨hk, hmn⟩
          · have hcn := count_c a3
            rw [cntF_some hu] at hcn
            have HC := Lib.hid (fun w' => hcn w' ht)
            have hM := HM.out.1; have hD := HM.out.2
            have hP := HPv.out
            obtain ⟨d2, hd2⟩ : ∃ d2, d = d2 + us.length := ⟨d - us.length, by omega⟩
            have HMN : Hid (m + us.length = (insT (tok (C.take (j + 1)))).length ∧ d2 + (m + us.length) = P) := Lib.hid ⟨by omega, by omega⟩
            have hul : us.length ≤ 100000 := by omega
            have hd2l : d2 ≤ 100000 := by omega
            have hds : (d : Int) - (us.length : Int) = (d2 : Int) := by omega
            have hdl : d ≤ 1000000 := by omega
            clear hmn hcn hu hsm htk htk2 hM hD hP hd2
            generalize us.length = U at *
            go_wp2_with fail
            refine (HC.out _).mono ?_; rintro e w1 ⟨rfl, hx1⟩
            go_wp2_with fail
            go_roundw
            case rel => exact ⟨j + 1, m + U, d2, by omega, by go_num, by go_num, HMN, Lib.hid (HXR.out.trans hx1), Lib.hid (RX.out.ext hx1), Lib.hid (RY.out.ext hx1), Lib.hid (RC.out.ext hx1), Lib.hid (RB.out.ext hx1), Lib.hid (RD.out.ext hx1), Lib.hid (RW.out.ext hx1)⟩
            case measure => simp [intOf]; omega
          · have hkk : (a1 == 2) = false := by rw [beq_eq_false_iff_ne]; exact hk
            have hM := HM.out.1; have hD := HM.out.2
            have HMN : Hid (m = (insT (tok (C.take (j + 1)))).length ∧ d + m = P) := Lib.hid ⟨by omega, hD⟩
            clear hmn hsm htk htk2 hM hD hk
            go_wp2_with fail
            go_roundw
            case rel => exact ⟨j + 1, m, d, by omega, by go_num, rfl, HMN, HXR, RX, RY, RC, RB, RD, RW⟩
            case measure => simp [intOf]; omega
        · obtain rfl : j = nC := by omega
          have hall : C.take j = C := by rw [← RC.out.1]; exact List.take_length
          have dn : decide (j < j) = false := by rw [decide_eq_false_iff_not]; omega
          have hM := HM.out
          rw [hall] at hM
          have hP := HPv.out
          obtain rfl : d = 0 := by omega
          clear hM hP hall HM
          have exrv := HXR.out
          clear hlt
          obtain ⟨nC, hnC⟩ : ∃ nC, nC = j := ⟨j, rfl⟩
          subst hnC
          go_wp2_with fail
          refine (CI.out _ _ _ _ exrv RC.out).mono ?_; rintro e w1 ⟨rfl, hx1⟩
          have e1 : Ext w w1 := exrv.trans hx1
          replace RX := Lib.hid (RX.out.ext hx1)
          replace RY := Lib.hid (RY.out.ext hx1)
          replace RC := Lib.hid (RC.out.ext hx1)
          replace RB := Lib.hid (RB.out.ext hx1)
          replace RD := Lib.hid (RD.out.ext hx1)
          replace RW := Lib.hid (RW.out.ext hx1)
          clear hx1
          go_wp2_with fail
          refine (outG gY e1 RY.out).mono ?_; rintro e w2 ⟨rfl, hx2⟩
          have e2 : Ext w w2 := e1.trans hx2
          replace RX := Lib.hid (RX.out.ext hx2)
          replace RY := Lib.hid (RY.out.ext hx2)
          replace RC := Lib.hid (RC.out.ext hx2)
          replace RB := Lib.hid (RB.out.ext hx2)
          replace RD := Lib.hid (RD.out.ext hx2)
          replace RW := Lib.hid (RW.out.ext hx2)
          clear hx2
          go_wp2_with fail
          refine (isG HIS.out LC.out RC.out).mono ?_; rintro e w3 ⟨rfl, hx3⟩
          have e3 : Ext w w3 := e2.trans hx3
          replace RX := Lib.hid (RX.out.ext hx3)
          replace RY := Lib.hid (RY.out.ext hx3)
          replace RC := Lib.hid (RC.out.ext hx3)
          replace RB := Lib.hid (RB.out.ext hx3)
          replace RD := Lib.hid (RD.out.ext hx3)
          replace RW := Lib.hid (RW.out.ext hx3)
          clear hx3
          go_wp2_with fail
          refine (HFX.out _ e3).mono ?_; rintro e w4 ⟨hx4, aE, nE, cE, rfl, rE⟩
          have e4 : Ext w w4 := e3.trans hx4
          replace RX := Lib.hid (RX.out.ext hx4)
          replace RY := Lib.hid (RY.out.ext hx4)
          replace RC := Lib.hid (RC.out.ext hx4)
          replace RB := Lib.hid (RB.out.ext hx4)
          replace RD := Lib.hid (RD.out.ext hx4)
          replace RW := Lib.hid (RW.out.ext hx4)
          have RE := Lib.hid rE
          clear hx4 rE
          go_wp2_with fail
          refine (sameTrueG rfl LX.out RX.out RE.out).mono ?_; rintro e w5 ⟨rfl, hx5⟩
          have e5 : Ext w w5 := e4.trans hx5
          replace RX := Lib.hid (RX.out.ext hx5)
          replace RY := Lib.hid (RY.out.ext hx5)
          replace RC := Lib.hid (RC.out.ext hx5)
          replace RB := Lib.hid (RB.out.ext hx5)
          replace RD := Lib.hid (RD.out.ext hx5)
          replace RW := Lib.hid (RW.out.ext hx5)
          replace RE := Lib.hid (RE.out.ext hx5)
          clear hx5
          go_wp2_with fail
          refine (HFY.out _ e5).mono ?_; rintro e w6 ⟨hx6, aF, nF, cF, rfl, rF⟩
          have e6 : Ext w w6 := e5.trans hx6
          replace RX := Lib.hid (RX.out.ext hx6)
          replace RY := Lib.hid (RY.out.ext hx6)
          replace RC := Lib.hid (RC.out.ext hx6)
          replace RB := Lib.hid (RB.out.ext hx6)
          replace RD := Lib.hid (RD.out.ext hx6)
          replace RW := Lib.hid (RW.out.ext hx6)
          replace RE := Lib.hid (RE.out.ext hx6)
          have RF := Lib.hid rF
          clear hx6 rF
          go_wp2_with fail
          refine (sameTrueG rfl LY.out RY.out RF.out).mono ?_; rintro e w7 ⟨rfl, hx7⟩
          have e7 : Ext w w7 := e6.trans hx7
          replace RX := Lib.hid (RX.out.ext hx7)
          replace RY := Lib.hid (RY.out.ext hx7)
          replace RC := Lib.hid (RC.out.ext hx7)
          replace RB := Lib.hid (RB.out.ext hx7)
          replace RD := Lib.hid (RD.out.ext hx7)
          replace RW := Lib.hid (RW.out.ext hx7)
          replace RE := Lib.hid (RE.out.ext hx7)
          replace RF := Lib.hid (RF.out.ext hx7)
          clear hx7
          go_wp2_with fail
          refine (normG gX RX.out).mono ?_; rintro e w8 ⟨hx8, aN, nN, cN, rfl, rN⟩
          have e8 : Ext w w8 := e7.trans hx8
          replace RX := Lib.hid (RX.out.ext hx8)
          replace RY := Lib.hid (RY.out.ext hx8)
          replace RC := Lib.hid (RC.out.ext hx8)
          replace RB := Lib.hid (RB.out.ext hx8)
          replace RD := Lib.hid (RD.out.ext hx8)
          replace RW := Lib.hid (RW.out.ext hx8)
          replace RE := Lib.hid (RE.out.ext hx8)
          replace RF := Lib.hid (RF.out.ext hx8)
          have RN := Lib.hid rN
          clear hx8 rN
          go_wp2_with fail
          refine (sameTrueG rfl LN.out RB.out RN.out).mono ?_; rintro e w9 ⟨rfl, hx9⟩
          have e9 : Ext w w9 := e8.trans hx9
          replace RX := Lib.hid (RX.out.ext hx9)
          replace RY := Lib.hid (RY.out.ext hx9)
          replace RC := Lib.hid (RC.out.ext hx9)
          replace RB := Lib.hid (RB.out.ext hx9)
          replace RD := Lib.hid (RD.out.ext hx9)
          replace RW := Lib.hid (RW.out.ext hx9)
          replace RE := Lib.hid (RE.out.ext hx9)
          replace RF := Lib.hid (RF.out.ext hx9)
          replace RN := Lib.hid (RN.out.ext hx9)
          clear hx9
          go_wp2_with fail
          refine (sameTrueG rfl LW.out RD.out RW.out).mono ?_; rintro e w10 ⟨rfl, hx10⟩
          have e10 : Ext w w10 := e9.trans hx10
          replace RX := Lib.hid (RX.out.ext hx10)
          replace RY := Lib.hid (RY.out.ext hx10)
          replace RC := Lib.hid (RC.out.ext hx10)
          replace RB := Lib.hid (RB.out.ext hx10)
          replace RD := Lib.hid (RD.out.ext hx10)
          replace RW := Lib.hid (RW.out.ext hx10)
          replace RE := Lib.hid (RE.out.ext hx10)
          replace RF := Lib.hid (RF.out.ext hx10)
          replace RN := Lib.hid (RN.out.ext hx10)
          clear hx10
          go_wp2_with fail
          go_ret
          exact ⟨rfl, e10⟩
end Go.Proofs.YtplbpddkmhmjiaaDoor
