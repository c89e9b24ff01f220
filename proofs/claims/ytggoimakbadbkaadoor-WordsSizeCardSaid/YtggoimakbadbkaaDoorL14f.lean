/- Layer 14, WordsSize. -/
import Derived.Test.YtggoimakbadbkaaDoorL14c
namespace Go.Proofs.YtggoimakbadbkaaDoor
open Go.RowKit
set_option maxRecDepth 100000
set_option maxHeartbeats 4000000
theorem wordsSize_c (A0 : Option Addr) (q0 c0 : Nat) (l0 : List Sp) (n : Int) (w : World) [Tab w] (h0 : Rd w 3 (.slice A0 q0 c0) q0 (spCells l0)) (hl0 : l0.length = q0) (hls0 : ∀ s ∈ l0, s.2.2.size ≤ maxLen) (hn : (Lit.int .u8 n).wf = true) :
    Calls Tryd.prog 8 #[.slice A0 q0 c0, .int .u8 n] w fun e w' => e = .returned (.bool true) ∧ Below w.heap.size w w' := by
  obtain ⟨n0, n1⟩ := bounds_u8 hn
  obtain ⟨M, hM, hM0, hM1⟩ : ∃ M : Int, n % 64 = M ∧ 0 ≤ M ∧ M ≤ 63 := ⟨n % 64, rfl, by omega, by omega⟩
  have HFX : Hid (∀ w', Ext w w' → Calls Tryd.prog 14 #[.slice A0 q0 c0, .int .i64 M] w' (TellsL w' (fitL l0 M))) := Lib.hid fun w' hx => fitG A0 q0 c0 l0 M h0 hl0 hls0 hM0 (by omega) hx
  obtain ⟨gX, _⟩ := good_fit l0 M hM0 (by omega)
  have HNO : Hid (∀ A n c w', RdO w' A n c (fitL l0 M) → Calls Tryd.prog 13 #[.slice A n c] w' (TellsL w' (normL (fitL l0 M)))) := Lib.hid fun A n c w' hr => normG gX hr
  obtain ⟨k1, k2, k3, k4, k5, k6⟩ := wok_norm (l := l0) hM0 hM1
  obtain ⟨N, hN⟩ : ∃ N, (wordsL (normL (fitL l0 M))).length = N := ⟨_, rfl⟩
  have HP : Hid (∀ A n c w', Ext w w' → RdO w' A n c (normL (fitL l0 M)) → Calls Tryd.prog 11 #[.slice A n c] w' fun e w'' => Ext w' w'' ∧ ∃ A' c', e = .returned (.tuple #[.slice A' N c', .int .i64 0]) ∧ Rd w'' 1 (.slice A' N c') N (Lib.byteCells (wordsL (normL (fitL l0 M))))) := Lib.hid fun A n c w' hx hr => by
    have hTb := tab_ext hx
    refine (wordPut_c A n c _ w' hr (by have := hr.1; omega) fun s hs => (k1 s hs).txt).mono ?_
    rintro e w'' ⟨hx, v, rfl, ho⟩
    have hB : wordB (normL (fitL l0 M)) = wordsL (normL (fitL l0 M)) := by unfold wordB; rw [if_pos k5]
    rw [hB, hN] at ho
    obtain ⟨A', c', rfl, _⟩ := ho.len
    rw [k5]
    exact ⟨hx, A', c', rfl, ho.rd⟩
  have HW : Hid (∀ s ∈ normL (fitL l0 M), WOk s) := Lib.hid k1
  have hN2 : N = 1 + (wsL (normL (fitL l0 M))).length := by
    rw [← hN]; unfold wordsL putL putF
    rw [if_pos (by omega), List.length_append]; rfl
  have hB0 : nth (wordsL (normL (fitL l0 M))) 0 = (normL (fitL l0 M)).length := by
    unfold wordsL putL putF
    rw [if_pos (by omega)]
    show (u8 _).toNat = _
    unfold u8; simp; omega
  have HN2 := Lib.hid hN2; have HB0 := Lib.hid hB0
  have hNb : N ≤ 400 := by omega
  have hXb : (normL (fitL l0 M)).length ≤ 13 := k4
  clear h0 hl0 hls0 gX k1 k2 k3 k4 k5 k6 hN hN2 hB0
  generalize normL (fitL l0 M) = X at *
  go_enter Tryd.func8, Tryd.ntmps8
  go_wp2_with fail
  refine (shown14_c _).mono ?_; rintro e w1 ⟨rfl, hx1⟩
  have e1 : Ext w w1 := hx1
  clear hx1
  go_wp2_with fail
  refine (HFX.out _ e1).mono ?_; rintro e w2 ⟨hx2, aF, nF, cF, rfl, rF⟩
  have e2 : Ext w w2 := e1.trans hx2
  have RF := Lib.hid rF
  clear hx2 rF
  go_wp2_with fail
  refine (HNO.out _ _ _ _ RF.out).mono ?_; rintro e w3 ⟨hx3, aX, nX, cX, rfl, rX⟩
  have e3 : Ext w w3 := e2.trans hx3
  replace RF := Lib.hid (RF.out.ext hx3)
  have RX := Lib.hid rX
  clear hx3 rX
  clear RF
  go_wp2_with fail
  refine (HP.out _ _ _ _ e3 RX.out).mono ?_; rintro e w4 ⟨hx4, aP, cP, rfl, rP⟩
  have e4 : Ext w w4 := e3.trans hx4
  replace RX := Lib.hid (RX.out.ext hx4)
  have RP := Lib.hid rP
  clear hx4 rP
  obtain ⟨hXl, hXr⟩ := RX.out
  have HXL := Lib.hid hXl; have HXR := Lib.hid hXr
  have hnX : nX ≤ 13 := by omega
  clear hXl hXr RX
  have HE := Lib.hid e4
  go_wp2_with fail
  go_loopw [9, 10] (fun x z wr => ∃ (j : Nat) (W : Nat), j ≤ nX ∧ z = .int .i64 j ∧ x = .int .i64 W ∧ Hid (W = 1 + (wsL (X.take j)).length) ∧ W ≤ 400 ∧ Hid (Ext w4 wr)) (fun _ z _ => nX - (intOf z).toNat)
  case atStart => exact ⟨0, 1, by omega, rfl, rfl, Lib.hid (by simp [wsL]), by omega, Lib.hid (Ext.refl _)⟩
  case round =>
    obtain ⟨j, V, hj, rfl, rfl, HV, hV4, HXX⟩ := hrel
    by_cases hlt : j < nX
    · have dn : decide (j < nX) = true := by rw [decide_eq_true_eq]; exact hlt
      have hjl : j < X.length := by have := HXL.out; omega
      obtain ⟨b, off, rfl, hb, q0, q1, q2⟩ := sp_at (HXR.out.ext HXX.out) HXL.out hlt
      have hok := HW.out _ (List.getElem_mem hjl)
      obtain ⟨v1, v2, v3, v4, v5⟩ := headV X[j] hok.ok hok.txt hok.num
      have vt := hok.txt
      have vn := hok.num
      have hst : V + (wS X[j]).length = 1 + (wsL (X.take (j + 1))).length := by rw [wsL_take X j hjl, List.length_append, HV.out]; omega
      have hws : (wS X[j]).length = (putL (headN X[j])).length + X[j].2.2.size := by unfold wS; rw [List.length_append, bs_length]
      have hle : 1 + (wsL (X.take (j + 1))).length ≤ N := by
        rw [HN2.out]
        have e := List.take_append_drop (j + 1) X
        have : (wsL X).length = (wsL (X.take (j + 1))).length + (wsL (X.drop (j + 1))).length := by rw [← List.length_append, ← wsL_append, e]
        omega
      obtain ⟨H, hH⟩ : ∃ H, headN X[j] = H := ⟨_, rfl⟩
      rw [hH] at v1 v2 hws
      rw [hws] at hst
      have HST := Lib.hid hst
      have hVb : V + (putL H).length + X[j].2.2.size ≤ 400 := by omega
      clear hok hH hws hst hle
      generalize X[j].1 = a1 at *
      generalize X[j].2.1 = a2 at *
      generalize X[j].2.2 = a3 at *
      obtain ⟨S, hS⟩ : ∃ S : Int, a2 + (a3.size : Int) = S := ⟨_, rfl⟩
      have hw1 : IntKind.i64.wrap (a2 + (a3.size : Int)) = S := by rw [IntKind.wrap_i64]; omega
      obtain ⟨S4, hS4⟩ : ∃ S4 : Int, 4 * S = S4 := ⟨_, rfl⟩
      have hw2 : IntKind.i64.wrap (4 * S) = S4 := by rw [IntKind.wrap_i64]; omega
      have hw3 : IntKind.i64.wrap (S4 + a1) = (H : Int) := by rw [IntKind.wrap_i64]; omega
      have hPA : Hid (PutAt H [] H) := Lib.hid (PutAt.start H v2)
      have HQ2 : Hid (∀ nq, (wr.drewN nq).cell? ⟨b, off + j * 3 + 2, none⟩ = some (.string a3)) := Lib.hid fun nq => ext_cell ((Ext.refl wr).drewN nq) q2
      have hVN : V + (putL H).length ≤ 400 := by omega
      clear v1 hS hS4 vn v3 v4 v5
      go_wp2_with fail
      go_quiet (fail)
      obtain ⟨W1, hW1⟩ : ∃ W, wr.drewN nq = W := ⟨_, rfl⟩
      have q2' : W1.cell? ⟨b, off + j * 3 + 2, none⟩ = some (.string a3) := by rw [← hW1]; exact HQ2.out nq
      have HXD : Hid (Ext w4 W1) := Lib.hid (by rw [← hW1]; exact HXX.out.drewN nq)
      rw [hW1]
      clear q0 q1 q2 hW1
      have HQ3 := Lib.hid q2'
      clear q2'
      go_wp2_with fail
      go_loop [11, 9] (fun x z => ∃ (pre : List UInt8) (m V2 : Nat), x = .int .i64 m ∧ z = .int .i64 V2 ∧ Hid (PutAt H pre m) ∧ Hid (V2 = V + 1 + pre.length)) (fun x _ => (intOf x).toNat)
      case atStart => exact ⟨[], H, V + 1, rfl, by go_num, hPA, Lib.hid rfl⟩
      case round =>
        obtain ⟨pre, m, V2, rfl, rfl, HPA2, HV2⟩ := hrel
        have hpl := HPA2.out.len
        have hv2 := HV2.out
        have hV2b : V2 ≤ 404 := by omega
        have hmB : m < 268435456 := by rcases HPA2.out.2 with h | h | h | h <;> omega
        clear hpl hv2
        by_cases hm : 128 ≤ m
        · have t1 : decide ((128 : Int) ≤ (m : Int)) = true := by rw [decide_eq_true_eq]; omega
          have t2 : decide (128 ≤ m) = true := by rw [decide_eq_true_eq]; exact hm
          have HN := Lib.hid (HPA2.out.next hm)
          have HV3 : Hid (V2 + 1 = V + 1 + (pre ++ [u8 (128 + m % 128)]).length) := Lib.hid (by rw [List.length_append, HV2.out]; rfl)
          have hmd : m / 128 < m := by omega
          go_wp2_with fail
          go_round
          case rel => exact ⟨_, m / 128, V2 + 1, by go_num, by go_num, HN, HV3⟩
          case measure => simp [intOf]; omega
        · have t1 : decide ((128 : Int) ≤ (m : Int)) = false := by rw [decide_eq_false_iff_not]; omega
          have t2 : decide (128 ≤ m) = false := by rw [decide_eq_false_iff_not]; exact hm
          have HF : Hid (V2 = V + (putL H).length) := Lib.hid (by rw [HPA2.out.last (by omega), List.length_append, HV2.out]; simp; omega)
          have q2' := HQ3.out
          have hj0 : (0 : Int) ≤ (j : Int) := by omega
          have hj1 : (j : Int) < (nX : Int) := by omega
          have hVx : V2 + a3.size ≤ 400 := by have := HF.out; omega
          have HV4 : Hid (V2 + a3.size = 1 + (wsL (X.take (j + 1))).length) := Lib.hid (by have := HST.out; have := HF.out; omega)
          go_wp2_with fail
          go_roundw
          case rel => exact ⟨j + 1, V2 + a3.size, by omega, by go_num, by go_num, HV4, hVx, HXD⟩
          case measure => simp [intOf]; omega
    · obtain rfl : j = nX := by omega
      have dn : decide (j < j) = false := by rw [decide_eq_false_iff_not]; omega
      have hall : V = N := by
        have h := HV.out
        rw [show X.take j = X by rw [← HXL.out]; exact List.take_length] at h
        rw [h, HN2.out]
      have hV0 : 0 < V := by have := HV.out; omega
      subst hall
      obtain ⟨bp, offp, rfl, r0, hbp⟩ := byte_at (RP.out.ext HXX.out) (j := 0) hV0
      rw [HB0.out, HXL.out, Nat.add_zero] at r0
      have hV1 : (0 : Int) < (V : Int) := by omega
      go_wp2_with fail
      go_ret
      exact ⟨rfl, HE.out.trans HXX.out⟩
end Go.Proofs.YtggoimakbadbkaaDoor
