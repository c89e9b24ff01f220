/- Layer 9, ComposeKeeps. -/
import Derived.Test.YtlhhcjhjkameoaaDoorL9a
namespace Go.Proofs.YtlhhcjhjkameoaaDoor
open Go.RowKit
set_option maxRecDepth 100000
set_option maxHeartbeats 4000000
theorem comp_keep_l (m : Nat) (y : List Tok) (h : tin y = m) : compT (List.replicate m Tok.keep) y = y := by
  induction y generalizing m with
  | nil => rw [tin_nil] at h; subst h; rw [List.replicate_zero, compT]
  | cons t y ih =>
    rcases t with c | _ | _
    · rw [compT_ins, ih m (by rw [tin_ins] at h; exact h)]
    · rw [tin_keep] at h; subst h
      rw [List.replicate_succ, compT, ih _ rfl]
    · rw [tin_del] at h; subst h
      rw [List.replicate_succ, compT, ih _ rfl]
theorem comp_keep_r (m : Nat) (x : List Tok) (h : tout x = m) : compT x (List.replicate m Tok.keep) = x := by
  induction x generalizing m with
  | nil => rw [tout_nil] at h; subst h; rw [List.replicate_zero, compT]
  | cons t x ih =>
    rcases t with c | _ | _
    · rw [tout_cins] at h; subst h
      rw [List.replicate_succ, compT, ih _ rfl]
    · rw [tout_keep] at h; subst h
      rw [List.replicate_succ, compT, ih _ rfl]
    · rw [tout_del] at h
      cases m with
      | zero => have e := ih 0 h; rw [List.replicate_zero] at *; rw [compT, e]
      | succ m => have e := ih (m + 1) h; rw [List.replicate_succ] at *; rw [compT, e]
theorem keeps9 {X : List Sp} (gX : Good X) : compL (keepL (inL X)) X = normL X ∧ compL X (keepL (outL X)) = normL X := by
  obtain ⟨k1, k2, k3, k4, _⟩ := good_keep (inL X) gX.in0 gX.inb
  have ho : outL X ≤ 1000000 := by have := gX.outb; have := gX.inb; have := gX.txt; omega
  unfold compL
  rw [norm_tok X gX.ok, k4, comp_keep_l _ _ (by have := gX.tin; omega)]
  refine ⟨rfl, ?_⟩
  have e : tok (keepL (outL X)) = List.replicate (outL X).toNat Tok.keep := by
    unfold keepL
    split
    · rename_i e; rw [e]; rfl
    · rw [tok_cons, tok_nil, tokS_num _ _ _ (by decide), List.append_nil]; rfl
  rw [e, comp_keep_r _ _ (by have := gX.tout; omega)]
theorem compBadG {X Y : List Sp} (gX : Good X) (gY : Good Y) (hf : outL X ≠ inL Y) {w w' : World} [Tab w] (hx : Ext w w') {A B : Option Addr} {n c k d : Nat} (hX : RdO w' A n c X) (hY : RdO w' B k d Y) :
    Calls Tryd.prog 13 #[.slice A n c, .slice B k d] w' fun e w'' => Ext w' w'' ∧ ∃ A c, e = .returned (.tuple #[.slice A 0 c, .int .i64 5]) := by
  have hTb := tab_ext hx
  have hE : compE X Y = 5 := by unfold compE; rw [if_pos gX.may, if_pos gY.may, if_neg hf]
  have h1 := hX.1; have h2 := hY.1; have h3 := gX.len; have h4 := gY.len; have h5 := gX.txt; have h6 := gY.txt
  refine (comp9_c A n c X B k d Y w' hX hY (by omega) (by omega) gX.size gY.size (by omega)).mono ?_
  rintro e w'' ⟨hx, A', n', c', rfl, hr⟩
  rw [hE, if_neg (by decide)] at hr
  obtain rfl : 0 = n' := hr.1
  rw [hE]
  exact ⟨hx, A', c', rfl⟩
theorem composeKeeps_c (A0 : Option Addr) (q0 c0 : Nat) (l0 : List Sp) (n odd : Int) (w : World) [Tab w] (h0 : Rd w 3 (.slice A0 q0 c0) q0 (spCells l0)) (hl0 : l0.length = q0) (hls0 : ∀ s ∈ l0, s.2.2.size ≤ maxLen) (hn : (Lit.int .u8 n).wf = true) (ho : (Lit.int .u8 odd).wf = true) :
    Calls Tryd.prog 7 #[.slice A0 q0 c0, .int .u8 n, .int .u8 odd] w fun e w' => e = .returned (.bool true) ∧ Below w.heap.size w w' := by
  obtain ⟨n0, n1⟩ := bounds_u8 hn
  obtain ⟨o0, o1⟩ := bounds_u8 ho
  obtain ⟨M, hM, hM0, hM1⟩ : ∃ M : Int, n % 64 = M ∧ 0 ≤ M ∧ M ≤ 63 := ⟨n % 64, rfl, by omega, by omega⟩
  have H0 := Lib.hid h0; have HL0 := Lib.hid hl0; have HS0 := Lib.hid hls0
  clear h0 hl0 hls0 hn ho
  obtain ⟨gX, iX, oX0, oX1, lX, tX⟩ := good_fit l0 M hM0 (by omega)
  obtain ⟨gN, N2, N3, N4, N5, N6, N7⟩ := good_norm gX
  obtain ⟨gF, F2, F3, F4, F5, F6⟩ := good_keep (inL (fitL l0 M)) gX.in0 gX.inb
  obtain ⟨gE, E2, E3, E4, E5, E6⟩ := good_keep (outL (fitL l0 M)) oX0 (by omega)
  obtain ⟨gO, O2, O3, O4, O5, O6⟩ := good_keep odd o0 (by omega)
  obtain ⟨k1, k2⟩ := keeps9 gX
  have K1 := Lib.hid k1; have K2 := Lib.hid k2
  have J1 : Hid (outL (keepL (inL (fitL l0 M))) = inL (fitL l0 M)) := Lib.hid F3
  have J2 : Hid (outL (fitL l0 M) = inL (keepL (outL (fitL l0 M)))) := Lib.hid E2.symm
  have L1 : Hid ((compL (keepL (inL (fitL l0 M))) (fitL l0 M)).length ≤ 300) := Lib.hid (by rw [k1]; omega)
  have L2 : Hid ((compL (fitL l0 M) (keepL (outL (fitL l0 M)))).length ≤ 300) := Lib.hid (by rw [k2]; omega)
  have HO2 := Lib.hid O2
  have hi0 := gX.in0
  have hi1 := gX.inb
  clear iX N2 N3 N4 N5 N6 N7 F2 F3 F4 F5 F6 E2 E3 E4 E5 E6 O2 O3 O4 O5 O6 k1 k2 lX tX
  by_cases hfit : odd = outL (fitL l0 M)
  · have J3 : Hid (outL (fitL l0 M) = inL (keepL odd)) := Lib.hid (by rw [HO2.out, hfit])
    have hb : (odd == outL (fitL l0 M)) = true := by rw [beq_iff_eq]; exact hfit
    clear hfit
    go_enter Tryd.func7, Tryd.ntmps7
    go_wp2_with fail
    refine (shown9_c _).mono ?_; rintro e w1 ⟨rfl, hx1⟩
    have e1 : Ext w w1 := hx1
    clear hx1
    go_wp2_with fail
    refine (fitG A0 q0 c0 l0 M H0.out HL0.out HS0.out (by omega) (by omega) e1).mono ?_; rintro e w2 ⟨hx2, aX, nX, cX, rfl, rX⟩
    have e2 : Ext w w2 := e1.trans hx2
    have RX := Lib.hid rX
    clear hx2 rX
    go_wp2_with fail
    refine (inG gX e2 RX.out).mono ?_; rintro e w3 ⟨rfl, hx3⟩
    have e3 : Ext w w3 := e2.trans hx3
    replace RX := Lib.hid (RX.out.ext hx3)
    clear hx3
    go_wp2_with fail
    refine (keepG _ hi0 hi1 _).mono ?_; rintro e w4 ⟨hx4, aF, nF, cF, rfl, rF⟩
    have e4 : Ext w w4 := e3.trans hx4
    replace RX := Lib.hid (RX.out.ext hx4)
    have RF := Lib.hid rF
    clear hx4 rF
    go_wp2_with fail
    refine (outG gX e4 RX.out).mono ?_; rintro e w5 ⟨rfl, hx5⟩
    have e5 : Ext w w5 := e4.trans hx5
    replace RX := Lib.hid (RX.out.ext hx5)
    replace RF := Lib.hid (RF.out.ext hx5)
    clear hx5
    go_wp2_with fail
    refine (keepG _ oX0 (by omega) _).mono ?_; rintro e w6 ⟨hx6, aE, nE, cE, rfl, rE⟩
    have e6 : Ext w w6 := e5.trans hx6
    replace RX := Lib.hid (RX.out.ext hx6)
    replace RF := Lib.hid (RF.out.ext hx6)
    have RE := Lib.hid rE
    clear hx6 rE
    go_wp2_with fail
    refine (compG gF gX J1.out e6 RF.out RX.out).mono ?_; rintro e w7 ⟨hx7, aA, nA, cA, rfl, rA⟩
    have e7 : Ext w w7 := e6.trans hx7
    replace RX := Lib.hid (RX.out.ext hx7)
    replace RF := Lib.hid (RF.out.ext hx7)
    replace RE := Lib.hid (RE.out.ext hx7)
    have RA := Lib.hid rA
    clear hx7 rA
    go_wp2_with fail
    refine (compG gX gE J2.out e7 RX.out RE.out).mono ?_; rintro e w8 ⟨hx8, aB, nB, cB, rfl, rB⟩
    have e8 : Ext w w8 := e7.trans hx8
    replace RX := Lib.hid (RX.out.ext hx8)
    replace RF := Lib.hid (RF.out.ext hx8)
    replace RE := Lib.hid (RE.out.ext hx8)
    replace RA := Lib.hid (RA.out.ext hx8)
    have RB := Lib.hid rB
    clear hx8 rB
    go_wp2_with fail
    refine (keepG odd o0 (by omega) _).mono ?_; rintro e w9 ⟨hx9, aO, nO, cO, rfl, rO⟩
    have e9 : Ext w w9 := e8.trans hx9
    replace RX := Lib.hid (RX.out.ext hx9)
    replace RF := Lib.hid (RF.out.ext hx9)
    replace RE := Lib.hid (RE.out.ext hx9)
    replace RA := Lib.hid (RA.out.ext hx9)
    replace RB := Lib.hid (RB.out.ext hx9)
    have RO := Lib.hid rO
    clear hx9 rO
    go_wp2_with fail
    refine (compG gX gO J3.out e9 RX.out RO.out).mono ?_; rintro e w10 ⟨hx10, aC, nC, cC, rfl, rC⟩
    have e10 : Ext w w10 := e9.trans hx10
    replace RX := Lib.hid (RX.out.ext hx10)
    replace RF := Lib.hid (RF.out.ext hx10)
    replace RE := Lib.hid (RE.out.ext hx10)
    replace RA := Lib.hid (RA.out.ext hx10)
    replace RB := Lib.hid (RB.out.ext hx10)
    replace RO := Lib.hid (RO.out.ext hx10)
    have RC := Lib.hid rC
    clear hx10 rC
    go_wp2_with fail
    refine (outG gX e10 RX.out).mono ?_; rintro e w11 ⟨rfl, hx11⟩
    have e11 : Ext w w11 := e10.trans hx11
    replace RX := Lib.hid (RX.out.ext hx11)
    replace RF := Lib.hid (RF.out.ext hx11)
    replace RE := Lib.hid (RE.out.ext hx11)
    replace RA := Lib.hid (RA.out.ext hx11)
    replace RB := Lib.hid (RB.out.ext hx11)
    replace RO := Lib.hid (RO.out.ext hx11)
    replace RC := Lib.hid (RC.out.ext hx11)
    clear hx11
    go_wp2_with fail
    refine (normG gX RX.out).mono ?_; rintro e w12 ⟨hx12, aN, nN, cN, rfl, rN⟩
    have e12 : Ext w w12 := e11.trans hx12
    replace RX := Lib.hid (RX.out.ext hx12)
    replace RF := Lib.hid (RF.out.ext hx12)
    replace RE := Lib.hid (RE.out.ext hx12)
    replace RA := Lib.hid (RA.out.ext hx12)
    replace RB := Lib.hid (RB.out.ext hx12)
    replace RO := Lib.hid (RO.out.ext hx12)
    replace RC := Lib.hid (RC.out.ext hx12)
    have RN := Lib.hid rN
    clear hx12 rN
    go_wp2_with fail
    refine (sameTrueG K1.out L1.out RA.out RN.out).mono ?_; rintro e w13 ⟨rfl, hx13⟩
    have e13 : Ext w w13 := e12.trans hx13
    replace RX := Lib.hid (RX.out.ext hx13)
    replace RF := Lib.hid (RF.out.ext hx13)
    replace RE := Lib.hid (RE.out.ext hx13)
    replace RA := Lib.hid (RA.out.ext hx13)
    replace RB := Lib.hid (RB.out.ext hx13)
    replace RO := Lib.hid (RO.out.ext hx13)
    replace RC := Lib.hid (RC.out.ext hx13)
    replace RN := Lib.hid (RN.out.ext hx13)
    clear hx13
    go_wp2_with fail
    refine (normG gX RX.out).mono ?_; rintro e w14 ⟨hx14, aP, nP, cP, rfl, rP⟩
    have e14 : Ext w w14 := e13.trans hx14
    replace RX := Lib.hid (RX.out.ext hx14)
    replace RF := Lib.hid (RF.out.ext hx14)
    replace RE := Lib.hid (RE.out.ext hx14)
    replace RA := Lib.hid (RA.out.ext hx14)
    replace RB := Lib.hid (RB.out.ext hx14)
    replace RO := Lib.hid (RO.out.ext hx14)
    replace RC := Lib.hid (RC.out.ext hx14)
    replace RN := Lib.hid (RN.out.ext hx14)
    have RP := Lib.hid rP
    clear hx14 rP
    go_wp2_with fail
    refine (sameTrueG K2.out L2.out RB.out RP.out).mono ?_; rintro e w15 ⟨rfl, hx15⟩
    have e15 : Ext w w15 := e14.trans hx15
    replace RX := Lib.hid (RX.out.ext hx15)
    replace RF := Lib.hid (RF.out.ext hx15)
    replace RE := Lib.hid (RE.out.ext hx15)
    replace RA := Lib.hid (RA.out.ext hx15)
    replace RB := Lib.hid (RB.out.ext hx15)
    replace RO := Lib.hid (RO.out.ext hx15)
    replace RC := Lib.hid (RC.out.ext hx15)
    replace RN := Lib.hid (RN.out.ext hx15)
    replace RP := Lib.hid (RP.out.ext hx15)
    clear hx15
    go_wp2_with fail
    go_ret
    exact ⟨rfl, e15⟩
  · have J3 : Hid (outL (fitL l0 M) ≠ inL (keepL odd)) := Lib.hid (by rw [HO2.out]; exact fun e => hfit e.symm)
    have hb : (odd == outL (fitL l0 M)) = false := by rw [beq_eq_false_iff_ne]; exact hfit
    clear hfit
    go_enter Tryd.func7, Tryd.ntmps7
    go_wp2_with fail
    refine (shown9_c _).mono ?_; rintro e w1 ⟨rfl, hx1⟩
    have e1 : Ext w w1 := hx1
    clear hx1
    go_wp2_with fail
    refine (fitG A0 q0 c0 l0 M H0.out HL0.out HS0.out (by omega) (by omega) e1).mono ?_; rintro e w2 ⟨hx2, aX, nX, cX, rfl, rX⟩
    have e2 : Ext w w2 := e1.trans hx2
    have RX := Lib.hid rX
    clear hx2 rX
    go_wp2_with fail
    refine (inG gX e2 RX.out).mono ?_; rintro e w3 ⟨rfl, hx3⟩
    have e3 : Ext w w3 := e2.trans hx3
    replace RX := Lib.hid (RX.out.ext hx3)
    clear hx3
    go_wp2_with fail
    refine (keepG _ hi0 hi1 _).mono ?_; rintro e w4 ⟨hx4, aF, nF, cF, rfl, rF⟩
    have e4 : Ext w w4 := e3.trans hx4
    replace RX := Lib.hid (RX.out.ext hx4)
    have RF := Lib.hid rF
    clear hx4 rF
    go_wp2_with fail
    refine (outG gX e4 RX.out).mono ?_; rintro e w5 ⟨rfl, hx5⟩
    have e5 : Ext w w5 := e4.trans hx5
    replace RX := Lib.hid (RX.out.ext hx5)
    replace RF := Lib.hid (RF.out.ext hx5)
    clear hx5
    go_wp2_with fail
    refine (keepG _ oX0 (by omega) _).mono ?_; rintro e w6 ⟨hx6, aE, nE, cE, rfl, rE⟩
    have e6 : Ext w w6 := e5.trans hx6
    replace RX := Lib.hid (RX.out.ext hx6)
    replace RF := Lib.hid (RF.out.ext hx6)
    have RE := Lib.hid rE
    clear hx6 rE
    go_wp2_with fail
    refine (compG gF gX J1.out e6 RF.out RX.out).mono ?_; rintro e w7 ⟨hx7, aA, nA, cA, rfl, rA⟩
    have e7 : Ext w w7 := e6.trans hx7
    replace RX := Lib.hid (RX.out.ext hx7)
    replace RF := Lib.hid (RF.out.ext hx7)
    replace RE := Lib.hid (RE.out.ext hx7)
    have RA := Lib.hid rA
    clear hx7 rA
    go_wp2_with fail
    refine (compG gX gE J2.out e7 RX.out RE.out).mono ?_; rintro e w8 ⟨hx8, aB, nB, cB, rfl, rB⟩
    have e8 : Ext w w8 := e7.trans hx8
    replace RX := Lib.hid (RX.out.ext hx8)
    replace RF := Lib.hid (RF.out.ext hx8)
    replace RE := Lib.hid (RE.out.ext hx8)
    replace RA := Lib.hid (RA.out.ext hx8)
    have RB := Lib.hid rB
    clear hx8 rB
    go_wp2_with fail
    refine (keepG odd o0 (by omega) _).mono ?_; rintro e w9 ⟨hx9, aO, nO, cO, rfl, rO⟩
    have e9 : Ext w w9 := e8.trans hx9
    replace RX := Lib.hid (RX.out.ext hx9)
    replace RF := Lib.hid (RF.out.ext hx9)
    replace RE := Lib.hid (RE.out.ext hx9)
    replace RA := Lib.hid (RA.out.ext hx9)
    replace RB := Lib.hid (RB.out.ext hx9)
    have RO := Lib.hid rO
    clear hx9 rO
    go_wp2_with fail
    refine (compBadG gX gO J3.out e9 RX.out RO.out).mono ?_; rintro e w10 ⟨hx10, aC, cC, rfl⟩
    have e10 : Ext w w10 := e9.trans hx10
    replace RX := Lib.hid (RX.out.ext hx10)
    replace RF := Lib.hid (RF.out.ext hx10)
    replace RE := Lib.hid (RE.out.ext hx10)
    replace RA := Lib.hid (RA.out.ext hx10)
    replace RB := Lib.hid (RB.out.ext hx10)
    replace RO := Lib.hid (RO.out.ext hx10)
    clear hx10
    go_wp2_with fail
    refine (outG gX e10 RX.out).mono ?_; rintro e w11 ⟨rfl, hx11⟩
    have e11 : Ext w w11 := e10.trans hx11
    replace RX := Lib.hid (RX.out.ext hx11)
    replace RF := Lib.hid (RF.out.ext hx11)
    replace RE := Lib.hid (RE.out.ext hx11)
    replace RA := Lib.hid (RA.out.ext hx11)
    replace RB := Lib.hid (RB.out.ext hx11)
    replace RO := Lib.hid (RO.out.ext hx11)
    clear hx11
    go_wp2_with fail
    refine (normG gX RX.out).mono ?_; rintro e w12 ⟨hx12, aN, nN, cN, rfl, rN⟩
    have e12 : Ext w w12 := e11.trans hx12
    replace RX := Lib.hid (RX.out.ext hx12)
    replace RF := Lib.hid (RF.out.ext hx12)
    replace RE := Lib.hid (RE.out.ext hx12)
    replace RA := Lib.hid (RA.out.ext hx12)
    replace RB := Lib.hid (RB.out.ext hx12)
    replace RO := Lib.hid (RO.out.ext hx12)
    have RN := Lib.hid rN
    clear hx12 rN
    go_wp2_with fail
    refine (sameTrueG K1.out L1.out RA.out RN.out).mono ?_; rintro e w13 ⟨rfl, hx13⟩
    have e13 : Ext w w13 := e12.trans hx13
    replace RX := Lib.hid (RX.out.ext hx13)
    replace RF := Lib.hid (RF.out.ext hx13)
    replace RE := Lib.hid (RE.out.ext hx13)
    replace RA := Lib.hid (RA.out.ext hx13)
    replace RB := Lib.hid (RB.out.ext hx13)
    replace RO := Lib.hid (RO.out.ext hx13)
    replace RN := Lib.hid (RN.out.ext hx13)
    clear hx13
    go_wp2_with fail
    refine (normG gX RX.out).mono ?_; rintro e w14 ⟨hx14, aP, nP, cP, rfl, rP⟩
    have e14 : Ext w w14 := e13.trans hx14
    replace RX := Lib.hid (RX.out.ext hx14)
    replace RF := Lib.hid (RF.out.ext hx14)
    replace RE := Lib.hid (RE.out.ext hx14)
    replace RA := Lib.hid (RA.out.ext hx14)
    replace RB := Lib.hid (RB.out.ext hx14)
    replace RO := Lib.hid (RO.out.ext hx14)
    replace RN := Lib.hid (RN.out.ext hx14)
    have RP := Lib.hid rP
    clear hx14 rP
    go_wp2_with fail
    refine (sameTrueG K2.out L2.out RB.out RP.out).mono ?_; rintro e w15 ⟨rfl, hx15⟩
    have e15 : Ext w w15 := e14.trans hx15
    replace RX := Lib.hid (RX.out.ext hx15)
    replace RF := Lib.hid (RF.out.ext hx15)
    replace RE := Lib.hid (RE.out.ext hx15)
    replace RA := Lib.hid (RA.out.ext hx15)
    replace RB := Lib.hid (RB.out.ext hx15)
    replace RO := Lib.hid (RO.out.ext hx15)
    replace RN := Lib.hid (RN.out.ext hx15)
    replace RP := Lib.hid (RP.out.ext hx15)
    clear hx15
    go_wp2_with fail
    go_ret
    exact ⟨rfl, e15⟩
end Go.Proofs.YtlhhcjhjkameoaaDoor
