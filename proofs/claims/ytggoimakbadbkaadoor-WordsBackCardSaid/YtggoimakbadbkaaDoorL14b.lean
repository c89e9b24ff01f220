/- Layer 14, WordsAll. -/
import Derived.Test.YtggoimakbadbkaaDoorL14a
namespace Go.Proofs.YtggoimakbadbkaaDoor
open Go.RowKit
set_option maxRecDepth 100000
set_option maxHeartbeats 4000000
/-- What fewOf makes of bytes that came in. -/
theorem fewOf_in {A : Option Addr} {n c : Nat} {zs : List Int} {w : World} (h : IsInts .u8 w A n c zs) : ∃ (m : Nat) (l : List UInt8), m = min n 200 ∧ l.length = m ∧ Rd w 1 (.slice A m c) m (Lib.byteCells l) ∧
    ∀ w', Calls Tryd.prog 16 #[.slice A n c] w' fun e w'' => e = .returned (.slice A m c) ∧ Ext w' w'' := by
  obtain ⟨hl, hcm, hrd, hwf⟩ := h
  obtain ⟨l, h1, h2⟩ := ints_bytes zs (fun z hz => bounds_u8 (hwf z hz))
  rw [h1] at hrd
  have hb : n ≤ c ∧ n ≤ maxLen := by
    obtain ⟨A', c', hv, hc⟩ := hrd.len
    injection hv with _ _ h3
    subst h3
    exact ⟨hc, by omega⟩
  refine ⟨min n 200, l.take (min n 200), rfl, by rw [List.length_take]; omega, ?_, fun w' => (fewOf14_c A n c hb.1 hb.2 w').mono fun e w'' h => ⟨h.1, by rw [← h.2]; exact Ext.refl _⟩⟩
  have := hrd.take (m := min n 200) (by omega)
  rw [Nat.mul_one, byteCells_take] at this
  exact this
theorem wordsAll_c (A0 : Option Addr) (q0 c0 : Nat) (l0 : List Sp) (A1 : Option Addr) (q1 c1 : Nat) (zs : List Int) (w : World) [Tab w] (h0 : Rd w 3 (.slice A0 q0 c0) q0 (spCells l0)) (hl0 : l0.length = q0) (hls0 : ∀ s ∈ l0, s.2.2.size ≤ maxLen) (h1 : IsInts .u8 w A1 q1 c1 zs) :
    Calls Tryd.prog 3 #[.slice A0 q0 c0, .slice A1 q1 c1] w fun e w' => e = .returned (.bool true) ∧ Below w.heap.size w w' := by
  obtain ⟨M, bl, hM, hbl, hbr, hfo⟩ := fewOf_in h1
  have hM2 : M ≤ 1000 := by omega
  have HFO := Lib.hid hfo
  have RB := Lib.hid hbr
  have HFE : Hid (∀ w', Ext w w' → _) := Lib.hid fun w' hx => few14G A0 q0 c0 l0 h0 hl0 hls0 hx
  have HFX : Hid (∀ w', Ext w w' → Calls Tryd.prog 14 #[.slice A0 q0 c0, .int .i64 9] w' (TellsL w' (fitL l0 9))) := Lib.hid fun w' hx => fitG A0 q0 c0 l0 9 h0 hl0 hls0 (by omega) (by omega) hx
  obtain ⟨gX, iX, oX0, oX1, lX, tX⟩ := good_fit l0 9 (by omega) (by omega)
  obtain ⟨gN, N2, N3, N4, N5, N6, N7⟩ := good_norm gX
  have s0 := fewL14_size l0
  have k0 : (fewL14 l0).length ≤ 20 := by rw [fewL14_len]; omega
  have HP1 : Hid (∀ A n c w', Ext w w' → RdO w' A n c (fewL14 l0) → Calls Tryd.prog 11 #[.slice A n c] w' (WordR w' (fewL14 l0))) := Lib.hid fun A n c w' hx hr => have hTb := tab_ext hx; wordPut_c A n c _ w' hr (by have := hr.1; omega) fun s hs => by have := s0 s hs; omega
  have HP2 : Hid (∀ A n c w', RdO w' A n c (fewL14 l0) → Calls Tryd.prog 12 #[.slice A n c] w' (WordR w' (fewL14 l0))) := Lib.hid fun A n c w' hr => wordPutR_c A n c _ w' hr (by have := hr.1; omega) fun s hs => by have := s0 s hs; omega
  have tN : ∀ s ∈ normL (fitL l0 9), s.2.2.size ≤ 65536 := fun s hs => by have := le_sumT _ s hs; omega
  have HP3 : Hid (∀ A n c w', Ext w w' → RdO w' A n c (normL (fitL l0 9)) → Calls Tryd.prog 11 #[.slice A n c] w' (WordR w' (normL (fitL l0 9)))) := Lib.hid fun A n c w' hx hr => have hTb := tab_ext hx; wordPut_c A n c _ w' hr (by have := hr.1; omega) tN
  have HP4 : Hid (∀ A n c w', RdO w' A n c (normL (fitL l0 9)) → Calls Tryd.prog 12 #[.slice A n c] w' (WordR w' (normL (fitL l0 9)))) := Lib.hid fun A n c w' hr => wordPutR_c A n c _ w' hr (by have := hr.1; omega) tN
  have HT1 : Hid (∀ w', Ext w w' → Rd w' 1 (.slice A1 M c1) M (Lib.byteCells bl) → Calls Tryd.prog 15 #[.slice A1 M c1] w' (TakeR w' (takeW bl))) := Lib.hid fun w' hx hr => have hTb := tab_ext hx; takeWP_c A1 M c1 bl w' hr hM2
  have HT2 : Hid (∀ w', Rd w' 1 (.slice A1 M c1) M (Lib.byteCells bl) → Calls Tryd.prog 17 #[.slice A1 M c1] w' (TakeR w' (takeW bl))) := Lib.hid fun w' hr => takeWR_c A1 M c1 bl w' hr hM2
  have LT : Hid ((takeW bl).2.1.length ≤ 300) := Lib.hid (by
    rcases takeW_err bl with h | ⟨_, h, _⟩
    · obtain ⟨⟨f, q, i⟩, hr⟩ : ∃ r, takeW bl = r := ⟨_, rfl⟩
      rw [hr] at h ⊢
      simp only at h
      subst h
      obtain ⟨b1, b2, b3, b4, b5, b6, b7⟩ := takeW_some hr
      have b8 : (wordsL q).length = i := by rw [b5, List.length_take]; omega
      have b9 : q.length ≤ (wsL q).length := by
        clear b1 b2 b3 b4 b5 hr b8
        induction q with
        | nil => exact Nat.zero_le _
        | cons s r ih => rw [wsL_cons, List.length_append, List.length_cons]; have := wS_pos s; omega
      unfold wordsL at b8
      rw [List.length_append] at b8
      simp only
      omega
    · rw [h]; simp)
  clear h0 hl0 hls0 h1 hfo hbr hM hbl iX oX0 oX1 lX tX N2 N3 N4 N5 N6 N7 s0 k0 tN
  generalize (takeW bl) = TB at *
  generalize fewL14 l0 = F at *
  generalize fitL l0 9 = X at *
  go_enter Tryd.func3, Tryd.ntmps3
  go_wp2_with fail
  refine (shown14_c _).mono ?_; rintro e w1 ⟨rfl, hx1⟩
  have e1 : Ext w w1 := hx1
  replace RB := Lib.hid (RB.out.ext hx1)
  clear hx1
  go_wp2_with fail
  refine (HFE.out _ e1).mono ?_; rintro e w2 ⟨hx2, aF, nF, cF, rfl, rF⟩
  have e2 : Ext w w2 := e1.trans hx2
  replace RB := Lib.hid (RB.out.ext hx2)
  have RF := Lib.hid rF
  clear hx2 rF
  go_wp2_with fail
  refine (HP1.out _ _ _ _ e2 RF.out).mono ?_; rintro e w3 ⟨hx3, vP, rfl, oP⟩
  have e3 : Ext w w3 := e2.trans hx3
  replace RB := Lib.hid (RB.out.ext hx3)
  replace RF := Lib.hid (RF.out.ext hx3)
  have SP := Lib.hid oP.rd
  clear hx3 oP
  go_wp2_with fail
  refine (HP2.out _ _ _ _ RF.out).mono ?_; rintro e w4 ⟨hx4, vQ, rfl, oQ⟩
  have e4 : Ext w w4 := e3.trans hx4
  replace RB := Lib.hid (RB.out.ext hx4)
  replace RF := Lib.hid (RF.out.ext hx4)
  replace SP := Lib.hid (SP.out.ext hx4)
  have SQ := Lib.hid oQ.rd
  clear hx4 oQ
  clear RF
  go_wp2_with fail
  refine (HFX.out _ e4).mono ?_; rintro e w5 ⟨hx5, aX, nX, cX, rfl, rX⟩
  have e5 : Ext w w5 := e4.trans hx5
  replace RB := Lib.hid (RB.out.ext hx5)
  replace SP := Lib.hid (SP.out.ext hx5)
  replace SQ := Lib.hid (SQ.out.ext hx5)
  have RX := Lib.hid rX
  clear hx5 rX
  go_wp2_with fail
  refine (normG gX RX.out).mono ?_; rintro e w6 ⟨hx6, aN, nN, cN, rfl, rN⟩
  have e6 : Ext w w6 := e5.trans hx6
  replace RB := Lib.hid (RB.out.ext hx6)
  replace SP := Lib.hid (SP.out.ext hx6)
  replace SQ := Lib.hid (SQ.out.ext hx6)
  replace RX := Lib.hid (RX.out.ext hx6)
  have RN := Lib.hid rN
  clear hx6 rN
  clear RX
  go_wp2_with fail
  refine (HP3.out _ _ _ _ e6 RN.out).mono ?_; rintro e w7 ⟨hx7, vR, rfl, oR⟩
  have e7 : Ext w w7 := e6.trans hx7
  replace RB := Lib.hid (RB.out.ext hx7)
  replace SP := Lib.hid (SP.out.ext hx7)
  replace SQ := Lib.hid (SQ.out.ext hx7)
  replace RN := Lib.hid (RN.out.ext hx7)
  have SR := Lib.hid oR.rd
  clear hx7 oR
  go_wp2_with fail
  refine (HP4.out _ _ _ _ RN.out).mono ?_; rintro e w8 ⟨hx8, vS, rfl, oS⟩
  have e8 : Ext w w8 := e7.trans hx8
  replace RB := Lib.hid (RB.out.ext hx8)
  replace SP := Lib.hid (SP.out.ext hx8)
  replace SQ := Lib.hid (SQ.out.ext hx8)
  replace RN := Lib.hid (RN.out.ext hx8)
  replace SR := Lib.hid (SR.out.ext hx8)
  have SS := Lib.hid oS.rd
  clear hx8 oS
  clear RN
  go_wp2_with fail
  refine (HFO.out _).mono ?_; rintro e w9 ⟨rfl, hx9⟩
  have e9 : Ext w w9 := e8.trans hx9
  replace RB := Lib.hid (RB.out.ext hx9)
  replace SP := Lib.hid (SP.out.ext hx9)
  replace SQ := Lib.hid (SQ.out.ext hx9)
  replace SR := Lib.hid (SR.out.ext hx9)
  replace SS := Lib.hid (SS.out.ext hx9)
  clear hx9
  go_wp2_with fail
  refine (HT1.out _ e9 RB.out).mono ?_; rintro e w10 ⟨hx10, aT, nT, cT, rfl, rT⟩
  have e10 : Ext w w10 := e9.trans hx10
  replace RB := Lib.hid (RB.out.ext hx10)
  replace SP := Lib.hid (SP.out.ext hx10)
  replace SQ := Lib.hid (SQ.out.ext hx10)
  replace SR := Lib.hid (SR.out.ext hx10)
  replace SS := Lib.hid (SS.out.ext hx10)
  have RT := Lib.hid rT
  clear hx10 rT
  go_wp2_with fail
  refine (HFO.out _).mono ?_; rintro e w11 ⟨rfl, hx11⟩
  have e11 : Ext w w11 := e10.trans hx11
  replace RB := Lib.hid (RB.out.ext hx11)
  replace SP := Lib.hid (SP.out.ext hx11)
  replace SQ := Lib.hid (SQ.out.ext hx11)
  replace SR := Lib.hid (SR.out.ext hx11)
  replace SS := Lib.hid (SS.out.ext hx11)
  replace RT := Lib.hid (RT.out.ext hx11)
  clear hx11
  go_wp2_with fail
  refine (HT2.out _ RB.out).mono ?_; rintro e w12 ⟨hx12, aU, nU, cU, rfl, rU⟩
  have e12 : Ext w w12 := e11.trans hx12
  replace RB := Lib.hid (RB.out.ext hx12)
  replace SP := Lib.hid (SP.out.ext hx12)
  replace SQ := Lib.hid (SQ.out.ext hx12)
  replace SR := Lib.hid (SR.out.ext hx12)
  replace SS := Lib.hid (SS.out.ext hx12)
  replace RT := Lib.hid (RT.out.ext hx12)
  have RU := Lib.hid rU
  clear hx12 rU
  have HSP := Lib.hid (str_run14 w12 SP.out)
  have HSQ := Lib.hid (str_run14 w12 SQ.out)
  have HSR := Lib.hid (str_run14 w12 SR.out)
  have HSS := Lib.hid (str_run14 w12 SS.out)
  generalize wordE F = E1 at *
  generalize wordE (normL X) = E2 at *
  generalize mkS (wordB F) = B1 at *
  generalize mkS (wordB (normL X)) = B2 at *
  go_wp2_with (first | ((with_reducible refine wpList_convert_g ?_ rfl HSP.out rfl ?_); rfl) | ((with_reducible refine wpList_convert_g ?_ rfl HSQ.out rfl ?_); rfl) | ((with_reducible refine wpList_convert_g ?_ rfl HSR.out rfl ?_); rfl) | ((with_reducible refine wpList_convert_g ?_ rfl HSS.out rfl ?_); rfl))
  refine (sameTrueG rfl LT.out RT.out RU.out).mono ?_; rintro e w13 ⟨rfl, hx13⟩
  have e13 : Ext w w13 := e12.trans hx13
  replace RB := Lib.hid (RB.out.ext hx13)
  replace SP := Lib.hid (SP.out.ext hx13)
  replace SQ := Lib.hid (SQ.out.ext hx13)
  replace SR := Lib.hid (SR.out.ext hx13)
  replace SS := Lib.hid (SS.out.ext hx13)
  replace RT := Lib.hid (RT.out.ext hx13)
  replace RU := Lib.hid (RU.out.ext hx13)
  clear hx13
  go_wp2_with fail
  go_ret
  exact ⟨rfl, e13⟩
end Go.Proofs.YtggoimakbadbkaaDoor
