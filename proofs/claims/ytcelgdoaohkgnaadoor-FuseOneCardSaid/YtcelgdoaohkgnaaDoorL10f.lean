/- Layer 10, FuseOne. -/
import Derived.Test.YtcelgdoaohkgnaaDoorL10b
import Derived.Test.YtcelgdoaohkgnaaDoorC10w
namespace Go.Proofs.YtcelgdoaohkgnaaDoor
open Go.RowKit
set_option maxRecDepth 100000
set_option maxHeartbeats 4000000
theorem one10 {X : List Sp} {M : Int} (gX : Good X) (hi : inL X = M) (h0 : 0 ≤ M) : Thru M [X] (outL X) ∧ Small [X] ∧ spT (fR M [X]) = normL X := by
  have := gX.inb; have := gX.len; have := gX.txt
  refine ⟨⟨gX.ok, hi, h0, by omega, rfl, gX.out0⟩, ⟨?_, ?_, ?_⟩, ?_⟩
  · show X.length + 0 ≤ 800; omega
  · show sumT X + 0 ≤ 400000000; omega
  · show 1 ≤ 100000; omega
  · rw [← hi, fR_one gX.ok, norm_tok X gX.ok]
theorem odd10 (odd : Int) : ((odd < 0 ∨ 1048576 < odd) ∧ chainE odd [[]] = 2) ∨ (odd = 0 ∧ chainE odd [[]] = 0) ∨ (0 < odd ∧ odd ≤ 1048576 ∧ chainE odd [[]] = 5) := by
  have hm : mayL [] = 0 := by decide +kernel
  have hi : inL [] = 0 := rfl
  by_cases h : 0 ≤ odd ∧ odd ≤ 1048576
  · have e : chainE odd [[]] = if mayL [] = 0 then (if inL [] = odd then chE (outL []) [] else 5) else mayL [] := by unfold chainE; rw [if_pos h]; rfl
    rw [if_pos hm, hi] at e
    by_cases hz : odd = 0
    · rw [if_pos hz.symm] at e
      exact .inr (.inl ⟨hz, e⟩)
    · rw [if_neg (fun h => hz h.symm)] at e
      exact .inr (.inr ⟨by omega, h.2, e⟩)
  · refine .inl ⟨by omega, ?_⟩
    unfold chainE; rw [if_neg h]
theorem fuseOne_c (A0 : Option Addr) (q0 c0 : Nat) (l0 : List Sp) (m odd : Int) (w : World) [Tab w] (h0 : Rd w 3 (.slice A0 q0 c0) q0 (spCells l0)) (hl0 : l0.length = q0) (hls0 : ∀ s ∈ l0, s.2.2.size ≤ maxLen) (hm : (Lit.int .u8 m).wf = true) (_ho : (Lit.int .i64 odd).wf = true) (hq : q0 ≤ maxLen) :
    Calls Tryd.prog 8 #[.slice A0 q0 c0, .int .u8 m, .int .i64 odd] w fun e w' => e = .returned (.bool true) ∧ Below w.heap.size w w' := by
  obtain ⟨n0, n1⟩ := bounds_u8 hm
  obtain ⟨M, hM, hM0, hM1⟩ : ∃ M : Int, m % 64 = M ∧ 0 ≤ M ∧ M ≤ 63 := ⟨m % 64, rfl, by omega, by omega⟩
  obtain ⟨gX, iX, oX0, oX1, lX, tX⟩ := good_fit l0 M hM0 (by omega)
  obtain ⟨t1, S1, e1⟩ := one10 gX iX hM0
  have FX : Hid (∀ w', Ext w w' → Calls Tryd.prog 11 #[.slice A0 q0 c0, .int .i64 M] w' (TellsL w' (fitL l0 M))) := Lib.hid fun w' hx => fitG A0 q0 c0 l0 M h0 hl0 hls0 hM0 (by omega) hx
  have O0 : Hid (∀ w', Ext w w' → Calls Tryd.prog 20 #[.int .i64 M, .slice none 0 0] w' (TellsE w' (keepL M))) := Lib.hid fun w' hx => by
    have h := fuseG (ls := []) (m := M) (k := M) ⟨by decide, by decide, by decide⟩ ⟨rfl, hM0⟩ (by omega) hx (RdSS.nil w')
    rw [fR_nil M hM0] at h
    exact h
  have CK : Hid (∀ w', Calls Tryd.prog 33 #[.int .i64 M] w' (TellsE w' (keepL M))) := Lib.hid fun w' => keepG M hM0 (by omega) w'
  have O1 : Hid (∀ A n c w', Ext w w' → RdSS w' A n c [fitL l0 M] → Calls Tryd.prog 20 #[.int .i64 M, .slice A n c] w' (TellsE w' (normL (fitL l0 M)))) := Lib.hid fun A n c w' hx hr => by
    have h := fuseG S1 t1 (by omega) hx hr
    rw [e1] at h
    exact h
  have OD : Hid (∀ A n c w', Ext w w' → RdSS w' A n c [[]] → Calls Tryd.prog 20 #[.int .i64 odd, .slice A n c] w' (TellsX w' (chainE odd [[]]) (fuseL odd [[]]))) := Lib.hid fun A n c w' hx hr => have hTb := tab_ext hx; (of10_c A n c _ odd w' hr ⟨by decide, by decide, by decide⟩).mono fun _ _ h => h.fuse
  have CA : Hid (∀ b w', Ext w w' → w'.cell? ⟨b, 0, none⟩ = some (.slice A0 q0 c0) → _) := Lib.hid fun b w' hx hc => have hTb := tab_ext hx; chainAny_c A0 q0 c0 l0 odd w' b hc ⟨hl0, h0.ext hx⟩ (by unfold maxLen at hq; omega) (fun s hs => by have := hls0 s hs; unfold maxLen at this; omega)
  have CN : Hid (∀ A n c w', RdO w' A n c (fitL l0 M) → _) := Lib.hid fun A n c w' hr => @normG _ gX w' A n c hr
  have LK : Hid ((keepL M).length ≤ 300) := Lib.hid (by have := keepL_len M; omega)
  have LN : Hid ((normL (fitL l0 M)).length ≤ 300) := Lib.hid (by have := norm_len (fitL l0 M); omega)
  have hodd := odd10 odd
  have HFE : Hid (chainE odd [[]] ≠ 0 → fuseL odd [[]] = []) := Lib.hid fun h => by unfold fuseL; rw [if_neg h]
  clear gX iX oX0 oX1 lX tX t1 S1 e1 h0 hl0 hls0 hm hq
  generalize fuseL odd [[]] = FO at *
  generalize chainE odd [[]] = EO at *
  generalize normL (fitL l0 M) = NP at *
  generalize keepL M = KP at *
  generalize fitL l0 M = X at *
  rcases hodd with ⟨ho, rfl⟩ | ⟨rfl, rfl⟩ | ⟨ho1, ho2, rfl⟩
  · skip
    obtain rfl : FO = [] := HFE.out (by decide)
    go_enter Tryd.func8, Tryd.ntmps8
    go_wp2_with fail
    refine (shown10_c _).mono ?_; rintro e w1 ⟨rfl, hx1⟩
    have e1 : Ext w w1 := hx1
    clear hx1
    go_wp2_with fail
    refine (FX.out _ e1).mono ?_; rintro e w2 ⟨hx2, aX, nX, cX, rfl, rX⟩
    have e2 : Ext w w2 := e1.trans hx2
    have RX := Lib.hid rX
    clear hx2 rX
    go_wp2_with fail
    refine (O0.out _ e2).mono ?_; rintro e w3 ⟨hx3, aA, nA, cA, rfl, rA⟩
    have e3 : Ext w w3 := e2.trans hx3
    replace RX := Lib.hid (RX.out.ext hx3)
    have RA := Lib.hid rA
    clear hx3 rA
    go_wp2_with fail
    refine (CK.out _).mono ?_; rintro e w4 ⟨hx4, aK, nK, cK, rfl, rK⟩
    have e4 : Ext w w4 := e3.trans hx4
    replace RX := Lib.hid (RX.out.ext hx4)
    replace RA := Lib.hid (RA.out.ext hx4)
    have RK := Lib.hid rK
    clear hx4 rK
    have RS1 := Lib.hid (rdSS1 22 RX.out)
    replace RX := Lib.hid (RX.out.ext ((Ext.refl w4).alloc (.cells #[.slice aX nX cX] 22)))
    replace RA := Lib.hid (RA.out.ext ((Ext.refl w4).alloc (.cells #[.slice aX nX cX] 22)))
    replace RK := Lib.hid (RK.out.ext ((Ext.refl w4).alloc (.cells #[.slice aX nX cX] 22)))
    have e5 : Ext w (w4.alloc (.cells #[.slice aX nX cX] 22)) := e4.alloc _
    go_wp2_with fail
    refine (O1.out _ _ _ _ e5 RS1.out).mono ?_; rintro e w6 ⟨hx6, aB, nB, cB, rfl, rB⟩
    have e6 : Ext w w6 := e5.trans hx6
    replace RX := Lib.hid (RX.out.ext hx6)
    replace RA := Lib.hid (RA.out.ext hx6)
    replace RK := Lib.hid (RK.out.ext hx6)
    have RB := Lib.hid rB
    clear hx6 rB
    clear RS1
    have RS2 := Lib.hid (rdSS1 22 (X := []) (⟨rfl, Rd.nil w6 3⟩ : RdO w6 none 0 0 []))
    replace RX := Lib.hid (RX.out.ext ((Ext.refl w6).alloc (.cells #[.slice none 0 0] 22)))
    replace RA := Lib.hid (RA.out.ext ((Ext.refl w6).alloc (.cells #[.slice none 0 0] 22)))
    replace RK := Lib.hid (RK.out.ext ((Ext.refl w6).alloc (.cells #[.slice none 0 0] 22)))
    replace RB := Lib.hid (RB.out.ext ((Ext.refl w6).alloc (.cells #[.slice none 0 0] 22)))
    have e7 : Ext w (w6.alloc (.cells #[.slice none 0 0] 22)) := e6.alloc _
    go_wp2_with fail
    refine (OD.out _ _ _ _ e7 RS2.out).mono ?_; rintro e w8 ⟨hx8, aC, nC, cC, rfl, rC⟩
    have e8 : Ext w w8 := e7.trans hx8
    replace RX := Lib.hid (RX.out.ext hx8)
    replace RA := Lib.hid (RA.out.ext hx8)
    replace RK := Lib.hid (RK.out.ext hx8)
    replace RB := Lib.hid (RB.out.ext hx8)
    have RC := Lib.hid rC
    clear hx8 rC
    clear RS2
    have BX9 := Lib.hid (BoxG.made w8 #[.slice A0 q0 c0] 22)
    replace RX := Lib.hid (RX.out.ext ((Ext.refl w8).alloc (.cells #[.slice A0 q0 c0] 22)))
    replace RA := Lib.hid (RA.out.ext ((Ext.refl w8).alloc (.cells #[.slice A0 q0 c0] 22)))
    replace RK := Lib.hid (RK.out.ext ((Ext.refl w8).alloc (.cells #[.slice A0 q0 c0] 22)))
    replace RB := Lib.hid (RB.out.ext ((Ext.refl w8).alloc (.cells #[.slice A0 q0 c0] 22)))
    replace RC := Lib.hid (RC.out.ext ((Ext.refl w8).alloc (.cells #[.slice A0 q0 c0] 22)))
    have e9 : Ext w (w8.alloc (.cells #[.slice A0 q0 c0] 22)) := e8.alloc _
    go_wp2_with fail
    refine (CA.out _ _ e9 (BX9.out.2 0 _ rfl)).mono ?_; rintro e w10 ⟨⟨N9, E9, rfl, h9⟩, hx10⟩
    have e10 : Ext w w10 := e9.trans hx10
    replace RX := Lib.hid (RX.out.ext hx10)
    replace RA := Lib.hid (RA.out.ext hx10)
    replace RK := Lib.hid (RK.out.ext hx10)
    replace RB := Lib.hid (RB.out.ext hx10)
    replace RC := Lib.hid (RC.out.ext hx10)
    clear hx10
    clear BX9
    obtain rfl : E9 = 2 := h9 ho
    obtain rfl : 0 = nC := RC.out.1
    have hE := Lib.hid e10
    rcases (by omega : odd < 0 ∨ (0 ≤ odd ∧ 1048576 < odd)) with hc | ⟨hc1, hc2⟩
    · skip
      have hz0 : ¬ (0 ≤ odd) := by omega
      have hz : (odd == 0) = false := by rw [beq_eq_false_iff_ne]; omega
      have hz2 : (odd != 0) = true := by rw [bne_iff_ne]; omega
      go_wp2_with fail
      refine (sameTrueG rfl LK.out RA.out RK.out).mono ?_; rintro e w11 ⟨rfl, hx11⟩
      have e11 : Ext w w11 := e10.trans hx11
      replace RX := Lib.hid (RX.out.ext hx11)
      replace RA := Lib.hid (RA.out.ext hx11)
      replace RK := Lib.hid (RK.out.ext hx11)
      replace RB := Lib.hid (RB.out.ext hx11)
      replace RC := Lib.hid (RC.out.ext hx11)
      clear hx11
      go_wp2_with fail
      refine (CN.out _ _ _ _ RX.out).mono ?_; rintro e w12 ⟨hx12, aN, nN, cN, rfl, rN⟩
      have e12 : Ext w w12 := e11.trans hx12
      replace RX := Lib.hid (RX.out.ext hx12)
      replace RA := Lib.hid (RA.out.ext hx12)
      replace RK := Lib.hid (RK.out.ext hx12)
      replace RB := Lib.hid (RB.out.ext hx12)
      replace RC := Lib.hid (RC.out.ext hx12)
      have RN := Lib.hid rN
      clear hx12 rN
      go_wp2_with fail
      refine (sameTrueG rfl LN.out RB.out RN.out).mono ?_; rintro e w13 ⟨rfl, hx13⟩
      have e13 : Ext w w13 := e12.trans hx13
      replace RX := Lib.hid (RX.out.ext hx13)
      replace RA := Lib.hid (RA.out.ext hx13)
      replace RK := Lib.hid (RK.out.ext hx13)
      replace RB := Lib.hid (RB.out.ext hx13)
      replace RC := Lib.hid (RC.out.ext hx13)
      replace RN := Lib.hid (RN.out.ext hx13)
      clear hx13
      go_wp2_with fail
      go_ret
      exact ⟨rfl, e13⟩
    · skip
      have hz0 : ¬ (odd ≤ 1048576) := by omega
      have hz : (odd == 0) = false := by rw [beq_eq_false_iff_ne]; omega
      have hz2 : (odd != 0) = true := by rw [bne_iff_ne]; omega
      go_wp2_with fail
      refine (sameTrueG rfl LK.out RA.out RK.out).mono ?_; rintro e w11 ⟨rfl, hx11⟩
      have e11 : Ext w w11 := e10.trans hx11
      replace RX := Lib.hid (RX.out.ext hx11)
      replace RA := Lib.hid (RA.out.ext hx11)
      replace RK := Lib.hid (RK.out.ext hx11)
      replace RB := Lib.hid (RB.out.ext hx11)
      replace RC := Lib.hid (RC.out.ext hx11)
      clear hx11
      go_wp2_with fail
      refine (CN.out _ _ _ _ RX.out).mono ?_; rintro e w12 ⟨hx12, aN, nN, cN, rfl, rN⟩
      have e12 : Ext w w12 := e11.trans hx12
      replace RX := Lib.hid (RX.out.ext hx12)
      replace RA := Lib.hid (RA.out.ext hx12)
      replace RK := Lib.hid (RK.out.ext hx12)
      replace RB := Lib.hid (RB.out.ext hx12)
      replace RC := Lib.hid (RC.out.ext hx12)
      have RN := Lib.hid rN
      clear hx12 rN
      go_wp2_with fail
      refine (sameTrueG rfl LN.out RB.out RN.out).mono ?_; rintro e w13 ⟨rfl, hx13⟩
      have e13 : Ext w w13 := e12.trans hx13
      replace RX := Lib.hid (RX.out.ext hx13)
      replace RA := Lib.hid (RA.out.ext hx13)
      replace RK := Lib.hid (RK.out.ext hx13)
      replace RB := Lib.hid (RB.out.ext hx13)
      replace RC := Lib.hid (RC.out.ext hx13)
      replace RN := Lib.hid (RN.out.ext hx13)
      clear hx13
      go_wp2_with fail
      go_ret
      exact ⟨rfl, e13⟩
  · skip
    go_enter Tryd.func8, Tryd.ntmps8
    go_wp2_with fail
    refine (shown10_c _).mono ?_; rintro e w1 ⟨rfl, hx1⟩
    have e1 : Ext w w1 := hx1
    clear hx1
    go_wp2_with fail
    refine (FX.out _ e1).mono ?_; rintro e w2 ⟨hx2, aX, nX, cX, rfl, rX⟩
    have e2 : Ext w w2 := e1.trans hx2
    have RX := Lib.hid rX
    clear hx2 rX
    go_wp2_with fail
    refine (O0.out _ e2).mono ?_; rintro e w3 ⟨hx3, aA, nA, cA, rfl, rA⟩
    have e3 : Ext w w3 := e2.trans hx3
    replace RX := Lib.hid (RX.out.ext hx3)
    have RA := Lib.hid rA
    clear hx3 rA
    go_wp2_with fail
    refine (CK.out _).mono ?_; rintro e w4 ⟨hx4, aK, nK, cK, rfl, rK⟩
    have e4 : Ext w w4 := e3.trans hx4
    replace RX := Lib.hid (RX.out.ext hx4)
    replace RA := Lib.hid (RA.out.ext hx4)
    have RK := Lib.hid rK
    clear hx4 rK
    have RS1 := Lib.hid (rdSS1 22 RX.out)
    replace RX := Lib.hid (RX.out.ext ((Ext.refl w4).alloc (.cells #[.slice aX nX cX] 22)))
    replace RA := Lib.hid (RA.out.ext ((Ext.refl w4).alloc (.cells #[.slice aX nX cX] 22)))
    replace RK := Lib.hid (RK.out.ext ((Ext.refl w4).alloc (.cells #[.slice aX nX cX] 22)))
    have e5 : Ext w (w4.alloc (.cells #[.slice aX nX cX] 22)) := e4.alloc _
    go_wp2_with fail
    refine (O1.out _ _ _ _ e5 RS1.out).mono ?_; rintro e w6 ⟨hx6, aB, nB, cB, rfl, rB⟩
    have e6 : Ext w w6 := e5.trans hx6
    replace RX := Lib.hid (RX.out.ext hx6)
    replace RA := Lib.hid (RA.out.ext hx6)
    replace RK := Lib.hid (RK.out.ext hx6)
    have RB := Lib.hid rB
    clear hx6 rB
    clear RS1
    have RS2 := Lib.hid (rdSS1 22 (X := []) (⟨rfl, Rd.nil w6 3⟩ : RdO w6 none 0 0 []))
    replace RX := Lib.hid (RX.out.ext ((Ext.refl w6).alloc (.cells #[.slice none 0 0] 22)))
    replace RA := Lib.hid (RA.out.ext ((Ext.refl w6).alloc (.cells #[.slice none 0 0] 22)))
    replace RK := Lib.hid (RK.out.ext ((Ext.refl w6).alloc (.cells #[.slice none 0 0] 22)))
    replace RB := Lib.hid (RB.out.ext ((Ext.refl w6).alloc (.cells #[.slice none 0 0] 22)))
    have e7 : Ext w (w6.alloc (.cells #[.slice none 0 0] 22)) := e6.alloc _
    go_wp2_with fail
    refine (OD.out _ _ _ _ e7 RS2.out).mono ?_; rintro e w8 ⟨hx8, aC, nC, cC, rfl, rC⟩
    have e8 : Ext w w8 := e7.trans hx8
    replace RX := Lib.hid (RX.out.ext hx8)
    replace RA := Lib.hid (RA.out.ext hx8)
    replace RK := Lib.hid (RK.out.ext hx8)
    replace RB := Lib.hid (RB.out.ext hx8)
    have RC := Lib.hid rC
    clear hx8 rC
    clear RS2
    have BX9 := Lib.hid (BoxG.made w8 #[.slice A0 q0 c0] 22)
    replace RX := Lib.hid (RX.out.ext ((Ext.refl w8).alloc (.cells #[.slice A0 q0 c0] 22)))
    replace RA := Lib.hid (RA.out.ext ((Ext.refl w8).alloc (.cells #[.slice A0 q0 c0] 22)))
    replace RK := Lib.hid (RK.out.ext ((Ext.refl w8).alloc (.cells #[.slice A0 q0 c0] 22)))
    replace RB := Lib.hid (RB.out.ext ((Ext.refl w8).alloc (.cells #[.slice A0 q0 c0] 22)))
    replace RC := Lib.hid (RC.out.ext ((Ext.refl w8).alloc (.cells #[.slice A0 q0 c0] 22)))
    have e9 : Ext w (w8.alloc (.cells #[.slice A0 q0 c0] 22)) := e8.alloc _
    go_wp2_with fail
    refine (CA.out _ _ e9 (BX9.out.2 0 _ rfl)).mono ?_; rintro e w10 ⟨⟨N9, E9, rfl, h9⟩, hx10⟩
    have e10 : Ext w w10 := e9.trans hx10
    replace RX := Lib.hid (RX.out.ext hx10)
    replace RA := Lib.hid (RA.out.ext hx10)
    replace RK := Lib.hid (RK.out.ext hx10)
    replace RB := Lib.hid (RB.out.ext hx10)
    replace RC := Lib.hid (RC.out.ext hx10)
    clear hx10
    clear BX9
    go_wp2_with fail
    refine (sameTrueG rfl LK.out RA.out RK.out).mono ?_; rintro e w11 ⟨rfl, hx11⟩
    have e11 : Ext w w11 := e10.trans hx11
    replace RX := Lib.hid (RX.out.ext hx11)
    replace RA := Lib.hid (RA.out.ext hx11)
    replace RK := Lib.hid (RK.out.ext hx11)
    replace RB := Lib.hid (RB.out.ext hx11)
    replace RC := Lib.hid (RC.out.ext hx11)
    clear hx11
    go_wp2_with fail
    refine (CN.out _ _ _ _ RX.out).mono ?_; rintro e w12 ⟨hx12, aN, nN, cN, rfl, rN⟩
    have e12 : Ext w w12 := e11.trans hx12
    replace RX := Lib.hid (RX.out.ext hx12)
    replace RA := Lib.hid (RA.out.ext hx12)
    replace RK := Lib.hid (RK.out.ext hx12)
    replace RB := Lib.hid (RB.out.ext hx12)
    replace RC := Lib.hid (RC.out.ext hx12)
    have RN := Lib.hid rN
    clear hx12 rN
    go_wp2_with fail
    refine (sameTrueG rfl LN.out RB.out RN.out).mono ?_; rintro e w13 ⟨rfl, hx13⟩
    have e13 : Ext w w13 := e12.trans hx13
    replace RX := Lib.hid (RX.out.ext hx13)
    replace RA := Lib.hid (RA.out.ext hx13)
    replace RK := Lib.hid (RK.out.ext hx13)
    replace RB := Lib.hid (RB.out.ext hx13)
    replace RC := Lib.hid (RC.out.ext hx13)
    replace RN := Lib.hid (RN.out.ext hx13)
    clear hx13
    go_wp2_with fail
    go_ret
    exact ⟨rfl, e13⟩
  · skip
    go_enter Tryd.func8, Tryd.ntmps8
    go_wp2_with fail
    refine (shown10_c _).mono ?_; rintro e w1 ⟨rfl, hx1⟩
    have e1 : Ext w w1 := hx1
    clear hx1
    go_wp2_with fail
    refine (FX.out _ e1).mono ?_; rintro e w2 ⟨hx2, aX, nX, cX, rfl, rX⟩
    have e2 : Ext w w2 := e1.trans hx2
    have RX := Lib.hid rX
    clear hx2 rX
    go_wp2_with fail
    refine (O0.out _ e2).mono ?_; rintro e w3 ⟨hx3, aA, nA, cA, rfl, rA⟩
    have e3 : Ext w w3 := e2.trans hx3
    replace RX := Lib.hid (RX.out.ext hx3)
    have RA := Lib.hid rA
    clear hx3 rA
    go_wp2_with fail
    refine (CK.out _).mono ?_; rintro e w4 ⟨hx4, aK, nK, cK, rfl, rK⟩
    have e4 : Ext w w4 := e3.trans hx4
    replace RX := Lib.hid (RX.out.ext hx4)
    replace RA := Lib.hid (RA.out.ext hx4)
    have RK := Lib.hid rK
    clear hx4 rK
    have RS1 := Lib.hid (rdSS1 22 RX.out)
    replace RX := Lib.hid (RX.out.ext ((Ext.refl w4).alloc (.cells #[.slice aX nX cX] 22)))
    replace RA := Lib.hid (RA.out.ext ((Ext.refl w4).alloc (.cells #[.slice aX nX cX] 22)))
    replace RK := Lib.hid (RK.out.ext ((Ext.refl w4).alloc (.cells #[.slice aX nX cX] 22)))
    have e5 : Ext w (w4.alloc (.cells #[.slice aX nX cX] 22)) := e4.alloc _
    go_wp2_with fail
    refine (O1.out _ _ _ _ e5 RS1.out).mono ?_; rintro e w6 ⟨hx6, aB, nB, cB, rfl, rB⟩
    have e6 : Ext w w6 := e5.trans hx6
    replace RX := Lib.hid (RX.out.ext hx6)
    replace RA := Lib.hid (RA.out.ext hx6)
    replace RK := Lib.hid (RK.out.ext hx6)
    have RB := Lib.hid rB
    clear hx6 rB
    clear RS1
    have RS2 := Lib.hid (rdSS1 22 (X := []) (⟨rfl, Rd.nil w6 3⟩ : RdO w6 none 0 0 []))
    replace RX := Lib.hid (RX.out.ext ((Ext.refl w6).alloc (.cells #[.slice none 0 0] 22)))
    replace RA := Lib.hid (RA.out.ext ((Ext.refl w6).alloc (.cells #[.slice none 0 0] 22)))
    replace RK := Lib.hid (RK.out.ext ((Ext.refl w6).alloc (.cells #[.slice none 0 0] 22)))
    replace RB := Lib.hid (RB.out.ext ((Ext.refl w6).alloc (.cells #[.slice none 0 0] 22)))
    have e7 : Ext w (w6.alloc (.cells #[.slice none 0 0] 22)) := e6.alloc _
    go_wp2_with fail
    refine (OD.out _ _ _ _ e7 RS2.out).mono ?_; rintro e w8 ⟨hx8, aC, nC, cC, rfl, rC⟩
    have e8 : Ext w w8 := e7.trans hx8
    replace RX := Lib.hid (RX.out.ext hx8)
    replace RA := Lib.hid (RA.out.ext hx8)
    replace RK := Lib.hid (RK.out.ext hx8)
    replace RB := Lib.hid (RB.out.ext hx8)
    have RC := Lib.hid rC
    clear hx8 rC
    clear RS2
    have BX9 := Lib.hid (BoxG.made w8 #[.slice A0 q0 c0] 22)
    replace RX := Lib.hid (RX.out.ext ((Ext.refl w8).alloc (.cells #[.slice A0 q0 c0] 22)))
    replace RA := Lib.hid (RA.out.ext ((Ext.refl w8).alloc (.cells #[.slice A0 q0 c0] 22)))
    replace RK := Lib.hid (RK.out.ext ((Ext.refl w8).alloc (.cells #[.slice A0 q0 c0] 22)))
    replace RB := Lib.hid (RB.out.ext ((Ext.refl w8).alloc (.cells #[.slice A0 q0 c0] 22)))
    replace RC := Lib.hid (RC.out.ext ((Ext.refl w8).alloc (.cells #[.slice A0 q0 c0] 22)))
    have e9 : Ext w (w8.alloc (.cells #[.slice A0 q0 c0] 22)) := e8.alloc _
    go_wp2_with fail
    refine (CA.out _ _ e9 (BX9.out.2 0 _ rfl)).mono ?_; rintro e w10 ⟨⟨N9, E9, rfl, h9⟩, hx10⟩
    have e10 : Ext w w10 := e9.trans hx10
    replace RX := Lib.hid (RX.out.ext hx10)
    replace RA := Lib.hid (RA.out.ext hx10)
    replace RK := Lib.hid (RK.out.ext hx10)
    replace RB := Lib.hid (RB.out.ext hx10)
    replace RC := Lib.hid (RC.out.ext hx10)
    clear hx10
    clear BX9
    have hc1 : 0 ≤ odd := by omega
    have hz : (odd == 0) = false := by rw [beq_eq_false_iff_ne]; omega
    have hz2 : (odd != 0) = true := by rw [bne_iff_ne]; omega
    go_wp2_with fail
    refine (sameTrueG rfl LK.out RA.out RK.out).mono ?_; rintro e w11 ⟨rfl, hx11⟩
    have e11 : Ext w w11 := e10.trans hx11
    replace RX := Lib.hid (RX.out.ext hx11)
    replace RA := Lib.hid (RA.out.ext hx11)
    replace RK := Lib.hid (RK.out.ext hx11)
    replace RB := Lib.hid (RB.out.ext hx11)
    replace RC := Lib.hid (RC.out.ext hx11)
    clear hx11
    go_wp2_with fail
    refine (CN.out _ _ _ _ RX.out).mono ?_; rintro e w12 ⟨hx12, aN, nN, cN, rfl, rN⟩
    have e12 : Ext w w12 := e11.trans hx12
    replace RX := Lib.hid (RX.out.ext hx12)
    replace RA := Lib.hid (RA.out.ext hx12)
    replace RK := Lib.hid (RK.out.ext hx12)
    replace RB := Lib.hid (RB.out.ext hx12)
    replace RC := Lib.hid (RC.out.ext hx12)
    have RN := Lib.hid rN
    clear hx12 rN
    go_wp2_with fail
    refine (sameTrueG rfl LN.out RB.out RN.out).mono ?_; rintro e w13 ⟨rfl, hx13⟩
    have e13 : Ext w w13 := e12.trans hx13
    replace RX := Lib.hid (RX.out.ext hx13)
    replace RA := Lib.hid (RA.out.ext hx13)
    replace RK := Lib.hid (RK.out.ext hx13)
    replace RB := Lib.hid (RB.out.ext hx13)
    replace RC := Lib.hid (RC.out.ext hx13)
    replace RN := Lib.hid (RN.out.ext hx13)
    clear hx13
    go_wp2_with fail
    go_ret
    exact ⟨rfl, e13⟩
end Go.Proofs.YtcelgdoaohkgnaaDoor
