/- Layer 11, OverDrops. -/
import Derived.Test.YtplbpddkmhmjiaaDoorL11a
import Derived.Test.YtplbpddkmhmjiaaDoorMx
namespace Go.Proofs.YtplbpddkmhmjiaaDoor
open Go.RowKit
set_option maxRecDepth 100000
set_option maxHeartbeats 4000000
theorem overDrops_c (A0 : Option Addr) (q0 c0 : Nat) (l0 : List Sp) (n : Int) (w : World) [Tab w] (h0 : Rd w 3 (.slice A0 q0 c0) q0 (spCells l0)) (hl0 : l0.length = q0) (hls0 : ∀ s ∈ l0, s.2.2.size ≤ maxLen) (hn : (Lit.int .u8 n).wf = true) :
    Calls Tryd.prog 9 #[.slice A0 q0 c0, .int .u8 n] w fun e w' => e = .returned (.bool true) ∧ Below w.heap.size w w' := by
  obtain ⟨n0, n1⟩ := bounds_u8 hn
  obtain ⟨M, hM, hM0, hM1⟩ : ∃ M : Int, n % 64 = M ∧ 0 ≤ M ∧ M ≤ 63 := ⟨n % 64, rfl, by omega, by omega⟩
  have HFX : Hid (∀ w', Ext w w' → Calls Tryd.prog 13 #[.slice A0 q0 c0, .int .i64 M] w' (TellsL w' (fitL l0 M))) := Lib.hid fun w' hx => fitG A0 q0 c0 l0 M h0 hl0 hls0 hM0 (by omega) hx
  obtain ⟨gX, iX, oX0, oX1, lX, tX⟩ := good_fit l0 M hM0 (by omega)
  clear h0 hl0 hls0 hn
  generalize fitL l0 M = X at *
  obtain ⟨gL, L2, L3, L4, L5, L6⟩ := good_over gX gX rfl (by omega) (by omega)
  have hself := over_self (tok X)
  rw [← L2] at hself
  have HN : Hid (∀ s ∈ overL X X, s.1 ≠ 3) := Lib.hid fun s hs => noDel_at gL.ok L3 hself.1 hs
  have HI : Hid ((insT (tok (overL X X))).length = (insT (tok X)).length) := Lib.hid (by rw [hself.2])
  have HOV : Hid (∀ A n k w', Ext w w' → RdO w' A n k X → Calls Tryd.prog 12 #[.slice A n k, .slice A n k] w' (TellsE w' (overL X X))) := Lib.hid fun A n k w' hx hr => overG gX gX rfl hx hr hr
  clear iX oX0 oX1 lX tX L2 L3 L4 L5 L6 hself
  generalize overL X X = L at *
  go_enter Tryd.func9, Tryd.ntmps9
  go_wp2_with fail
  refine (shown11_c _).mono ?_; rintro e w1 ⟨rfl, hx1⟩
  have e1 : Ext w w1 := hx1
  clear hx1
  go_wp2_with fail
  refine (HFX.out _ e1).mono ?_; rintro e w2 ⟨hx2, aX, nX, cX, rfl, rX⟩
  have e2 : Ext w w2 := e1.trans hx2
  have RX := Lib.hid rX
  clear hx2 rX
  go_wp2_with fail
  refine (HOV.out _ _ _ _ e2 RX.out).mono ?_; rintro e w3 ⟨hx3, aL, nL, cL, rfl, rL⟩
  have e3 : Ext w w3 := e2.trans hx3
  replace RX := Lib.hid (RX.out.ext hx3)
  have RL := Lib.hid rL
  clear hx3 rL
  go_wp2_with fail
  have HEu := Lib.hid e3
  have hqXu := RX.out.1
  have hq3u := gX.len
  have hq4u : nX ≤ 300 := by omega
  clear hqXu hq3u
  go_loopw [9, 10] (fun v z wr => ∃ j m : Nat, j ≤ nX ∧ z = .int .i64 j ∧ v = .int .i64 m ∧ Hid (m = (insT (tok (X.take j))).length) ∧ Hid (Ext w wr) ∧ Hid (RdO wr aX nX cX X) ∧ Hid (RdO wr aL nL cL L)) (fun _ z _ => nX - (intOf z).toNat)
  case atStart => exact ⟨0, 0, by omega, rfl, rfl, Lib.hid rfl, HEu, RX, RL⟩
  case round =>
    clear RX RL HEu
    obtain ⟨j, m, hj, rfl, rfl, HM, HXR, RX, RL⟩ := hrel
    by_cases hlt : j < nX
    · have hjl : j < X.length := by have := RX.out.1; omega
      obtain ⟨b, off, rfl, hb, q0, q1, q2⟩ := sp_at RX.out.2 RX.out.1 hlt
      have dn : decide (j < nX) = true := by rw [decide_eq_true_eq]; exact hlt
      have i0 : (0 : Int) ≤ (j : Int) := by omega
      have i1 : (j : Int) < (nX : Int) := by omega
      have hsm := insT_small gX
      have htk := insT_take_le X j
      have htk2 := insT_take_le X (j + 1)
      obtain ⟨a1, a2, a3, hsp, ht, hk⟩ := put_at gX hjl
      rw [hsp] at q0 q1 q2
      simp only at q0 q1 q2
      clear hsp
      rcases hk with ⟨rfl, us, hu, hmn⟩ | ⟨hk, hmn⟩
      · have hcn := count_c a3
        rw [cntF_some hu] at hcn
        have HC := Lib.hid (fun w' => hcn w' ht)
        have hM := HM.out
        have HMN : Hid (m + us.length = (insT (tok (X.take (j + 1)))).length) := Lib.hid (by omega)
        have hul : us.length ≤ 100000 := by omega
        have hml : m ≤ 100000 := by omega
        clear hmn hcn hu hsm htk htk2 hM
        generalize us.length = U at *
        go_wp2_with fail
        refine (HC.out _).mono ?_; rintro e w1 ⟨rfl, hx1⟩
        go_wp2_with fail
        go_roundw
        case rel => exact ⟨j + 1, m + U, by omega, by go_num, by go_num, HMN, Lib.hid (HXR.out.trans hx1), Lib.hid (RX.out.ext hx1), Lib.hid (RL.out.ext hx1)⟩
        case measure => simp [intOf]; omega
      · have hkk : (a1 == 2) = false := by rw [beq_eq_false_iff_ne]; exact hk
        have hM := HM.out
        have HMN : Hid (m = (insT (tok (X.take (j + 1)))).length) := Lib.hid (by omega)
        clear hmn hsm htk htk2 hM hk
        go_wp2_with fail
        go_roundw
        case rel => exact ⟨j + 1, m, by omega, by go_num, rfl, HMN, HXR, RX, RL⟩
        case measure => simp [intOf]; omega
    · obtain rfl : j = nX := by omega
      have hall : X.take j = X := by rw [← RX.out.1]; exact List.take_length
      have dn : decide (j < j) = false := by rw [decide_eq_false_iff_not]; omega
      have hM := HM.out
      rw [hall] at hM
      have HC := Lib.hid hM
      clear hM hall HM
      have exru := HXR.out
      clear hlt
      go_wp2_with fail
      obtain ⟨P, hPm⟩ : ∃ P, P = m := ⟨m, rfl⟩
      subst hPm
      have HPv : Hid ((insT (tok L)).length = P) := Lib.hid (by rw [HI.out]; exact HC.out.symm)
      clear HC HI RX
      have HEv := Lib.hid exru
      have hqXv := RL.out.1
      have hq3v := gL.len
      have hq4v : nL ≤ 300 := by omega
      clear hqXv hq3v
      go_loopw [9, 11] (fun v z wr => ∃ j m d : Nat, j ≤ nL ∧ z = .int .i64 j ∧ v = .int .i64 d ∧ Hid (m = (insT (tok (L.take j))).length ∧ d + m = P) ∧ Hid (Ext w wr) ∧ Hid (RdO wr aL nL cL L)) (fun _ z _ => nL - (intOf z).toNat)
      case atStart => exact ⟨0, 0, P, by omega, rfl, rfl, Lib.hid ⟨rfl, rfl⟩, HEv, RL⟩
      case round =>
        clear RL HEv
        obtain ⟨j, m, d, hj, rfl, rfl, HM, HXR, RL⟩ := hrel
        by_cases hlt : j < nL
        · have hjl : j < L.length := by have := RL.out.1; omega
          obtain ⟨b, off, rfl, hb, q0, q1, q2⟩ := sp_at RL.out.2 RL.out.1 hlt
          have dn : decide (j < nL) = true := by rw [decide_eq_true_eq]; exact hlt
          have i0 : (0 : Int) ≤ (j : Int) := by omega
          have i1 : (j : Int) < (nL : Int) := by omega
          have hsm := insT_small gL
          have htk := insT_take_le L j
          have htk2 := insT_take_le L (j + 1)
          obtain ⟨a1, a2, a3, hsp, ht, hk⟩ := put_at gL hjl
          have hk3 := HN.out _ (List.getElem_mem hjl)
          rw [hsp] at hk3
          simp only at hk3
          have t3 : (a1 == 3) = false := by rw [beq_eq_false_iff_ne]; exact hk3
          clear hk3
          rw [hsp] at q0 q1 q2
          simp only at q0 q1 q2
          clear hsp
          rcases hk with ⟨rfl, us, hu, hmn⟩ | ⟨hk, hmn⟩
          · have hcn := count_c a3
            rw [cntF_some hu] at hcn
            have HC := Lib.hid (fun w' => hcn w' ht)
            have hM := HM.out.1; have hD := HM.out.2
            have hP := HPv.out
            obtain ⟨d2, hd2⟩ : ∃ d2, d = d2 + us.length := ⟨d - us.length, by omega⟩
            have HMN : Hid (m + us.length = (insT (tok (L.take (j + 1)))).length ∧ d2 + (m + us.length) = P) := Lib.hid ⟨by omega, by omega⟩
            have hul : us.length ≤ 100000 := by omega
            have hd2l : d2 ≤ 100000 := by omega
            have hds : (d : Int) - (us.length : Int) = (d2 : Int) := by omega
            have hdl : d ≤ 1000000 := by omega
            clear hmn hcn hu hsm htk htk2 hM hD hP hd2
            generalize us.length = U at *
            go_wp2_with fail
            refine (HC.out _).mono ?_; rintro e w1 ⟨rfl, hx1⟩
            go_wp2_with fail
            go_roundw
            case rel => exact ⟨j + 1, m + U, d2, by omega, by go_num, by go_num, HMN, Lib.hid (HXR.out.trans hx1), Lib.hid (RL.out.ext hx1)⟩
            case measure => simp [intOf]; omega
          · have hkk : (a1 == 2) = false := by rw [beq_eq_false_iff_ne]; exact hk
            have hM := HM.out.1; have hD := HM.out.2
            have HMN : Hid (m = (insT (tok (L.take (j + 1)))).length ∧ d + m = P) := Lib.hid ⟨by omega, hD⟩
            clear hmn hsm htk htk2 hM hD hk
            go_wp2_with fail
            go_roundw
            case rel => exact ⟨j + 1, m, d, by omega, by go_num, rfl, HMN, HXR, RL⟩
            case measure => simp [intOf]; omega
        · obtain rfl : j = nL := by omega
          have hall : L.take j = L := by rw [← RL.out.1]; exact List.take_length
          have dn : decide (j < j) = false := by rw [decide_eq_false_iff_not]; omega
          have hM := HM.out
          rw [hall] at hM
          have hP := HPv.out
          obtain rfl : d = 0 := by omega
          clear hM hP hall HM
          have exrv := HXR.out
          clear hlt
          go_wp2_with fail
          go_ret
          exact ⟨rfl, exrv⟩
end Go.Proofs.YtplbpddkmhmjiaaDoor
