/- Layer 14, WordsBack. -/
import Derived.Test.YtggoimakbadbkaaDoorL14b
namespace Go.Proofs.YtggoimakbadbkaaDoor
open Go.RowKit
set_option maxRecDepth 100000
set_option maxHeartbeats 4000000
theorem wok_norm {l : List Sp} {M : Int} (h0 : 0 ≤ M) (h1 : M ≤ 63) : (∀ s ∈ normL (fitL l M), WOk s) ∧ isN (normL (fitL l M)) ∧ mayL (normL (fitL l M)) = 0 ∧ (normL (fitL l M)).length ≤ 13 ∧ wordE (normL (fitL l M)) = 0 ∧ (wordsL (normL (fitL l M))).length ≤ 400 := by
  obtain ⟨gX, iX, oX0, oX1, lX, tX⟩ := good_fit l M h0 (by omega)
  obtain ⟨gN, N2, N3, N4, N5, N6, N7⟩ := good_norm gX
  have hs := okW_N _ gN.ok
  have hp := okW_pos _ gN.ok
  have hw : ∀ s ∈ normL (fitL l M), WOk s := fun s hs' => ⟨gN.ok s hs', isN_ne _ N3 s hs', by have := le_sumT _ s hs'; omega, by have := le_sumN _ hp s hs'; omega⟩
  have hl := wsL_len (normL (fitL l M))
  have hq := putL_length (normL (fitL l M)).length
  refine ⟨hw, N3, gN.may, by omega, ?_, by unfold wordsL; rw [List.length_append]; omega⟩
  unfold wordE; rw [if_pos gN.may, if_pos (is_norm _ N3)]
theorem wordsBack_c (A0 : Option Addr) (q0 c0 : Nat) (l0 : List Sp) (n : Int) (A1 : Option Addr) (q1 c1 : Nat) (zs : List Int) (w : World) [Tab w] (h0 : Rd w 3 (.slice A0 q0 c0) q0 (spCells l0)) (hl0 : l0.length = q0) (hls0 : ∀ s ∈ l0, s.2.2.size ≤ maxLen) (hn : (Lit.int .u8 n).wf = true) (h1 : IsInts .u8 w A1 q1 c1 zs) :
    Calls Tryd.prog 4 #[.slice A0 q0 c0, .int .u8 n, .slice A1 q1 c1] w fun e w' => e = .returned (.bool true) ∧ Below w.heap.size w w' := by
  obtain ⟨n0, n1⟩ := bounds_u8 hn
  obtain ⟨M, hM, hM0, hM1⟩ : ∃ M : Int, n % 64 = M ∧ 0 ≤ M ∧ M ≤ 63 := ⟨n % 64, rfl, by omega, by omega⟩
  obtain ⟨M2, bl, hM2, hbl, hbr, hfo⟩ := fewOf_in h1
  have HFO := Lib.hid hfo
  have RB := Lib.hid hbr
  have HFX : Hid (∀ w', Ext w w' → Calls Tryd.prog 14 #[.slice A0 q0 c0, .int .i64 M] w' (TellsL w' (fitL l0 M))) := Lib.hid fun w' hx => fitG A0 q0 c0 l0 M h0 hl0 hls0 hM0 (by omega) hx
  obtain ⟨gX, _⟩ := good_fit l0 M hM0 (by omega)
  have HNO : Hid (∀ A n c w', RdO w' A n c (fitL l0 M) → Calls Tryd.prog 13 #[.slice A n c] w' (TellsL w' (normL (fitL l0 M)))) := Lib.hid fun A n c w' hr => normG gX hr
  obtain ⟨k1, k2, k3, k4, k5, k6⟩ := wok_norm (l := l0) hM0 hM1
  obtain ⟨N, hN⟩ : ∃ N, (wordsL (normL (fitL l0 M))).length = N := ⟨_, rfl⟩
  have HP : Hid (∀ A n c w', Ext w w' → RdO w' A n c (normL (fitL l0 M)) → Calls Tryd.prog 11 #[.slice A n c] w' fun e w'' => Ext w' w'' ∧ ∃ A' c', e = .returned (.tuple #[.slice A' N c', .int .i64 0]) ∧ Rd w'' 1 (.slice A' N c') N (Lib.byteCells (wordsL (normL (fitL l0 M))))) := Lib.hid fun A n c w' hx hr => by
    have hTb := tab_ext hx
    refine (wordPut_c A n c _ w' hr (by have := hr.1; omega) fun s hs => (k1 s hs).txt).mono ?_
    rintro e w'' ⟨hx, v, rfl, ho⟩
    have hB : wordB (normL (fitL l0 M)) = wordsL (normL (fitL l0 M)) := by unfold wordB; rw [if_pos k5]
    rw [hB, hN] at ho
    obtain ⟨A', c', rfl, _⟩ := ho.len
    rw [k5]
    exact ⟨hx, A', c', rfl, ho.rd⟩
  have HT : Hid (∀ A c w', Ext w w' → Rd w' 1 (.slice A (N + M2) c) (N + M2) (Lib.byteCells (wordsL (normL (fitL l0 M)) ++ bl)) → Calls Tryd.prog 15 #[.slice A (N + M2) c] w' (TakeR w' (0, normL (fitL l0 M), N))) := Lib.hid fun A c w' hx hr => by
    have hTb := tab_ext hx
    have h := takeWP_c A (N + M2) c _ w' hr (by omega)
    rw [takeW_put _ k1 k2 k3 (by omega), hN] at h
    exact h
  have HTI : Hid (∀ A j c w', j < N → Ext w w' → Rd w' 1 (.slice A j c) j (Lib.byteCells ((wordsL (normL (fitL l0 M))).take j)) → Calls Tryd.prog 15 #[.slice A j c] w' (TakeR w' (7, [], 0))) := Lib.hid fun A j c w' hj hx hr => by
    have hTb := tab_ext hx
    have h := takeWP_c A j c _ w' hr (by omega)
    rw [takeW_pre _ k1 k2 (by omega) j (by omega)] at h
    exact h
  have LX : Hid ((normL (fitL l0 M)).length ≤ 300) := Lib.hid (by omega)
  obtain ⟨i, hi, hz0, hz1, hz2⟩ := info_parts info_u8b
  have hNb : N ≤ 400 := by omega
  have hMb : M2 ≤ 200 := by omega
  clear h0 hl0 hls0 h1 hfo hbr hM2 hbl gX k1 k2 k3 k4 k5 k6 hN
  generalize wordsL (normL (fitL l0 M)) = P at *
  generalize normL (fitL l0 M) = X at *
  go_enter Tryd.func4, Tryd.ntmps4
  go_wp2_with fail
  refine (shown14_c _).mono ?_; rintro e w1 ⟨rfl, hx1⟩
  have e1 : Ext w w1 := hx1
  replace RB := Lib.hid (RB.out.ext hx1)
  clear hx1
  go_wp2_with fail
  refine (HFX.out _ e1).mono ?_; rintro e w2 ⟨hx2, aF, nF, cF, rfl, rF⟩
  have e2 : Ext w w2 := e1.trans hx2
  replace RB := Lib.hid (RB.out.ext hx2)
  have RF := Lib.hid rF
  clear hx2 rF
  go_wp2_with fail
  refine (HNO.out _ _ _ _ RF.out).mono ?_; rintro e w3 ⟨hx3, aX, nX, cX, rfl, rX⟩
  have e3 : Ext w w3 := e2.trans hx3
  replace RB := Lib.hid (RB.out.ext hx3)
  replace RF := Lib.hid (RF.out.ext hx3)
  have RX := Lib.hid rX
  clear hx3 rX
  clear RF
  go_wp2_with fail
  refine (HP.out _ _ _ _ e3 RX.out).mono ?_; rintro e w4 ⟨hx4, aP, cP, rfl, rP⟩
  have e4 : Ext w w4 := e3.trans hx4
  replace RB := Lib.hid (RB.out.ext hx4)
  replace RX := Lib.hid (RX.out.ext hx4)
  have RP := Lib.hid rP
  clear hx4 rP
  have bel0 : Below w4.heap.size w4 (w4.alloc (.cells #[] 5)) := (Below.refl _ _).alloc (Nat.le_refl _) _
  have own0 : Own (w4.alloc (.cells #[] 5)) w4.heap.size 5 1 (.slice (some ⟨w4.heap.size, 0, none⟩) 0 0) 0 [] := Own.made w4 w4.heap.size 5 1 0 #[] (Nat.le_refl _) (by omega) rfl
  obtain ⟨u1, x1, ha1, ow1, be1⟩ := app_rd (P := Tryd.prog) 23 23 5 i _ 1 1 Tryd.underlying23 hi hz0 hz1 hz2 rfl (by omega) (by omega) bel0 own0 (by omega) (RP.out.ext bel0) (by omega) (byteCells_one _)
  rw [Nat.zero_add, List.nil_append] at ow1
  have HA1 := Lib.hid ha1
  have e50 : Ext w x1 := e4.trans be1
  go_wp2_with (at_builtin; refine wpList_append_run rfl rfl HA1.out rfl rfl ?_)
  refine (HFO.out _).mono ?_; rintro e x2 ⟨rfl, hx51⟩
  have e51 := e50.trans hx51
  obtain ⟨u2, x3, ha2, ow2, be2⟩ := app_rd (P := Tryd.prog) 23 23 5 i _ 1 1 Tryd.underlying23 hi hz0 hz1 hz2 rfl (by omega) (by omega) (Below.trans be1 (Below.mono hx51 be1.size)) (ow1.ext hx51) (by omega) (RB.out.ext (Below.trans be1 (Below.mono hx51 be1.size))) (by omega) (byteCells_one _)
  rw [← byteCells_append2] at ow2
  obtain ⟨aO, cO, rfl, _⟩ := ow2.len
  have HA2 := Lib.hid ha2
  have e52 : Ext w x3 := e4.trans be2
  have RO := Lib.hid ow2.rd
  have RX2 := Lib.hid (RX.out.ext be2); have RP2 := Lib.hid (RP.out.ext be2)
  clear bel0 own0 ha1 ow1 be1 ha2 ow2 be2 hx51 e50 e51 RX RP RB
  go_wp2_with (at_builtin; refine wpList_append_run rfl rfl HA2.out rfl rfl ?_)
  refine (HT.out _ _ _ e52 RO.out).mono ?_; rintro e x4 ⟨hx53, aM, nM, cM, rfl, rM⟩
  have e53 := e52.trans hx53
  replace RX2 := Lib.hid (RX2.out.ext hx53); replace RP2 := Lib.hid (RP2.out.ext hx53)
  have RM := Lib.hid rM
  clear rM hx53 RO
  have hcp : N ≤ cP := by obtain ⟨_, _, hv, hc⟩ := RP2.out.len; injection hv with _ _ e; omega
  have HE53 := Lib.hid e53
  go_wp2_with fail
  go_loopw [14] (fun z wr => ∃ j : Nat, j ≤ N ∧ z = .int .i64 j ∧ Hid (Ext x4 wr)) (fun z _ => N - (intOf z).toNat)
  case atStart => exact ⟨0, by omega, rfl, Lib.hid (Ext.refl _)⟩
  case round =>
    obtain ⟨j, hj, rfl, HXR⟩ := hrel
    by_cases hlt : j < N
    · have dn : decide (j < N) = true := by rw [decide_eq_true_eq]; exact hlt
      have i0 : (0 : Int) ≤ (j : Int) := by omega
      have i1 : (j : Int) < (N : Int) := by omega
      have i2 : (j : Int) ≤ (cP : Int) := by omega
      have HC := Lib.hid (HTI.out aP j cP wr hlt (HE53.out.trans HXR.out) (bytes_front (RP2.out.ext HXR.out) hj))
      go_wp2_with fail
      refine HC.out.mono ?_; rintro e y1 ⟨hy1, aZ, nZ, cZ, rfl, _⟩
      go_wp2_with fail
      go_roundw
      case rel => exact ⟨j + 1, by omega, by go_num, Lib.hid (HXR.out.trans hy1)⟩
      case measure => simp [intOf]; omega
    · obtain rfl : j = N := by omega
      have dn : decide (j < j) = false := by rw [decide_eq_false_iff_not]; omega
      have exr := HXR.out
      go_wp2_with fail
      refine (sameTrueG rfl LX.out (RM.out.ext exr) (RX2.out.ext exr)).mono ?_; rintro e y1 ⟨rfl, hy1⟩
      go_wp2_with fail
      go_ret
      exact ⟨rfl, (HE53.out.trans exr).trans hy1⟩
end Go.Proofs.YtggoimakbadbkaaDoor
