/- Layer 13, ThroughParts. -/
import Derived.Test.YtfjiookndleaeaaDoorL13a
import Derived.Test.YtfjiookndleaeaaDoorL10c
namespace Go.Proofs.YtfjiookndleaeaaDoor
open Go.RowKit
set_option maxRecDepth 100000
set_option maxHeartbeats 4000000
theorem throughParts_c (A0 : Option Addr) (q0 c0 : Nat) (l0 : List Sp) (A1 : Option Addr) (q1 c1 : Nat) (ls : List (List Sp)) (z : List Int) (w : World) [Tab w] (h0 : Rd w 3 (.slice A0 q0 c0) q0 (spCells l0)) (hl0 : l0.length = q0) (hls0 : ∀ s ∈ l0, s.2.2.size ≤ maxLen) (h1 : RdSS w A1 q1 c1 ls) (hls : ∀ l ∈ ls, ∀ s ∈ l, s.2.2.size ≤ maxLen) (hz : z.length = 2) (hw : ∀ x ∈ z, (Lit.int .u8 x).wf = true) :
    Calls Tryd.prog 5 #[.slice A0 q0 c0, .slice A1 q1 c1, .agg (z.map (Value.int .u8)).toArray] w fun e w' => e = .returned (.bool true) ∧ Below w.heap.size w w' := by
  match z, hz with
  | [z0, z1], _ =>
    obtain ⟨n0, n1⟩ := bounds_u8 (hw z0 (by simp))
    obtain ⟨o0, o1⟩ := bounds_u8 (hw z1 (by simp))
    obtain ⟨M, hM, hM0, hM1⟩ : ∃ M : Int, z0 % 64 = M ∧ 0 ≤ M ∧ M ≤ 63 := ⟨z0 % 64, rfl, by omega, by omega⟩
    have HFX : Hid (∀ w', Ext w w' → Calls Tryd.prog 9 #[.slice A0 q0 c0, .int .i64 M] w' (TellsL w' (fitL l0 M))) := Lib.hid fun w' hx => fitG A0 q0 c0 l0 M h0 hl0 hls0 hM0 (by omega) hx
    obtain ⟨N, hN⟩ : ∃ N, (chainL (ls.take 20) M).length = N := ⟨_, rfl⟩
    have HW : Hid (∀ w', Ext w w' → Calls Tryd.prog 10 #[.slice A1 q1 c1, .int .i64 M] w' (TellsC w' N (chainL (ls.take 20) M))) := Lib.hid fun w' hx => chainRC (h1.ext hx) hls hM0 (by omega) hN
    obtain ⟨K, hK, hKN⟩ : ∃ K : Nat, z1 % ((N : Int) + 1) = (K : Int) ∧ K ≤ N := by
      have h1 := Int.emod_nonneg z1 (show ((N : Int) + 1) ≠ 0 by omega)
      have h2 := Int.emod_lt_of_pos z1 (show (0 : Int) < (N : Int) + 1 by omega)
      exact ⟨(z1 % ((N : Int) + 1)).toNat, by omega, by omega⟩
    have hK2 : z1.tmod ((N : Int) + 1) = (K : Int) := by rw [Int.tmod_eq_emod_of_nonneg o0]; exact hK
    obtain ⟨gX, iX, oX0, oX1, lX, tX⟩ := good_fit l0 M hM0 (by omega)
    obtain ⟨k, SW, TW, lW, tW, nW⟩ := made_chain ls M hM0 (by omega)
    obtain ⟨k1, t1, t2, p0, p1, S1, S2, GA, oA, t3, S3, heq⟩ := parts10 lW tW nW TW (by omega) K
    have hN20 : N ≤ 20 := by omega
    have OA : Hid (∀ A c w', Ext w w' → RdSS w' A K c ((chainL (ls.take 20) M).take K) → Calls Tryd.prog 20 #[.int .i64 M, .slice A K c] w' (TellsE w' (spT (fR M ((chainL (ls.take 20) M).take K))))) := Lib.hid fun A c w' hx hr => fuseG S1 t1 (by omega) hx hr
    have OB : Hid (∀ A n c w', Ext w w' → RdSS w' A n c ((chainL (ls.take 20) M).drop K) → Calls Tryd.prog 20 #[.int .i64 k1, .slice A n c] w' (TellsE w' (spT (fR k1 ((chainL (ls.take 20) M).drop K))))) := Lib.hid fun A n c w' hx hr => fuseG S2 t2 (by omega) hx hr
    have CO : Hid (∀ A n c w', Ext w w' → RdO w' A n c (spT (fR M ((chainL (ls.take 20) M).take K))) → Calls Tryd.prog 21 #[.slice A n c] w' fun e w'' => e = .returned (.int .i64 k1) ∧ Ext w' w'') := Lib.hid fun A n c w' hx hr => by
      have h := outG GA hx hr
      rw [oA] at h
      exact h
    have SX := smT_of gX SW (by omega)
    have TX : Thru (inL (fitL l0 M)) (chainL (ls.take 20) M) k := by rw [iX]; exact TW
    have SP := smT_of gX S3 (by have := S3.len; omega)
    have TP : Thru (inL (fitL l0 M)) [spT (fR M ((chainL (ls.take 20) M).take K)), spT (fR k1 ((chainL (ls.take 20) M).drop K))] k := by rw [iX]; exact t3
    have q1' : thruL (fitL l0 M) [spT (fR M ((chainL (ls.take 20) M).take K)), spT (fR k1 ((chainL (ls.take 20) M).drop K))] = thruL (fitL l0 M) (chainL (ls.take 20) M) := by unfold thruL; rw [iX, heq]
    have q2' : patL (fitL l0 M) [spT (fR M ((chainL (ls.take 20) M).take K)), spT (fR k1 ((chainL (ls.take 20) M).drop K))] = patL (fitL l0 M) (chainL (ls.take 20) M) := by unfold patL; rw [iX, heq]
    have OC : Hid (∀ A n c B d w', Ext w w' → RdO w' A n c (fitL l0 M) → RdSS w' B N d (chainL (ls.take 20) M) → Calls Tryd.prog 11 #[.slice A n c, .slice B N d] w' (TellsE w' (thruL (fitL l0 M) (chainL (ls.take 20) M)))) := Lib.hid fun A n c B d w' hx hX hr => thruG gX SX TX hx hX hr
    have OD : Hid (∀ A n c B m d w', Ext w w' → RdO w' A n c (fitL l0 M) → RdSS w' B m d [spT (fR M ((chainL (ls.take 20) M).take K)), spT (fR k1 ((chainL (ls.take 20) M).drop K))] → Calls Tryd.prog 11 #[.slice A n c, .slice B m d] w' (TellsE w' (thruL (fitL l0 M) (chainL (ls.take 20) M)))) := Lib.hid fun A n c B m d w' hx hX hr => by
      have h := thruG gX SP TP hx hX hr
      rw [q1'] at h; exact h
    have OE : Hid (∀ A n c B d w', Ext w w' → RdO w' A n c (fitL l0 M) → RdSS w' B N d (chainL (ls.take 20) M) → Calls Tryd.prog 13 #[.slice A n c, .slice B N d] w' (TellsE w' (patL (fitL l0 M) (chainL (ls.take 20) M)))) := Lib.hid fun A n c B d w' hx hX hr => patG gX SX TX hx hX hr
    have OF : Hid (∀ A n c B m d w', Ext w w' → RdO w' A n c (fitL l0 M) → RdSS w' B m d [spT (fR M ((chainL (ls.take 20) M).take K)), spT (fR k1 ((chainL (ls.take 20) M).drop K))] → Calls Tryd.prog 13 #[.slice A n c, .slice B m d] w' (TellsE w' (patL (fitL l0 M) (chainL (ls.take 20) M)))) := Lib.hid fun A n c B m d w' hx hX hr => by
      have h := patG gX SP TP hx hX hr
      rw [q2'] at h; exact h
    have LO : Hid ((thruL (fitL l0 M) (chainL (ls.take 20) M)).length ≤ 300) := Lib.hid (by have := (thruL_len gX TX).1; omega)
    have LP : Hid ((patL (fitL l0 M) (chainL (ls.take 20) M)).length ≤ 300) := Lib.hid (by have := (patL_len gX TX).1; omega)
    clear SW TW lW tW nW t1 t2 S1 S2 GA oA t3 S3 heq h0 hl0 hls0 h1 hls hw hN hK gX iX oX0 oX1 lX tX SX TX SP TP q1' q2'
    generalize thruL (fitL l0 M) (chainL (ls.take 20) M) = L1 at *
    generalize patL (fitL l0 M) (chainL (ls.take 20) M) = L2 at *
    generalize spT (fR k1 ((chainL (ls.take 20) M).drop K)) = B at *
    generalize spT (fR M ((chainL (ls.take 20) M).take K)) = A at *
    generalize fitL l0 M = X at *
    generalize chainL (ls.take 20) M = CW at *
    go_enter Tryd.func5, Tryd.ntmps5
    have ZBX := Lib.hid (BoxG.made w #[.int .u8 z0, .int .u8 z1] 39)
    have e1 : Ext w (w.alloc (.cells #[.int .u8 z0, .int .u8 z1] 39)) := (Ext.refl _).alloc _
    go_wp2_with fail
    refine (shown13_c _).mono ?_; rintro e w2 ⟨rfl, hx2⟩
    have e2 : Ext w w2 := e1.trans hx2
    replace ZBX := Lib.hid (ZBX.out.ext hx2)
    clear hx2
    have y0 := ZBX.out.2 0 _ rfl
    go_wp2_with fail
    refine (HFX.out _ e2).mono ?_; rintro e w3 ⟨hx3, aX, nX, cX, rfl, rX⟩
    have e3 : Ext w w3 := e2.trans hx3
    replace ZBX := Lib.hid (ZBX.out.ext hx3)
    have RX := Lib.hid rX
    clear hx3 rX
    go_wp2_with fail
    refine (HW.out _ e3).mono ?_; rintro e w4 ⟨hx4, aW, cW, rfl, rW, hAW⟩
    have e4 : Ext w w4 := e3.trans hx4
    replace ZBX := Lib.hid (ZBX.out.ext hx4)
    replace RX := Lib.hid (RX.out.ext hx4)
    have RW := Lib.hid rW
    clear hx4 rW
    have y1 := ZBX.out.2 1 _ rfl
    clear y0
    clear ZBX
    have hKi : (0 : Int) ≤ (K : Int) := by omega
    have hKn : (K : Int) ≤ (N : Int) := by omega
    rcases hAW with ⟨rfl, hz, rfl⟩ | ⟨g, rfl, hc⟩
    · subst hz
      obtain rfl : K = 0 := by omega
      have RT := Lib.hid (RW.out.take hKN)
      go_wp2_with fail
      refine (OA.out _ _ _ e4 RT.out).mono ?_; rintro e w5 ⟨hx5, aA, nA, cA, rfl, rA⟩
      have e5 : Ext w w5 := e4.trans hx5
      replace RX := Lib.hid (RX.out.ext hx5)
      replace RW := Lib.hid (RW.out.ext hx5)
      replace RT := Lib.hid (RT.out.ext hx5)
      have RA := Lib.hid rA
      clear hx5 rA
      clear y1
      clear RT
      have RD := Lib.hid (RW.out.zero (w' := w5) none 0)
      rw [show ([] : List (List Sp)) = CW.drop 0 by rw [List.drop_zero]; exact (List.eq_nil_of_length_eq_zero RW.out.1).symm] at RD
      go_wp2_with fail
      have hrr := Ext.refl w5
      go_region_held3 (fun W => Ext w5 W ∧ True)
        ((go_split_ands; refine ⟨?_, ?_⟩ <;> first | (exact True.intro) | (exact Ext.drew ‹_›) | (exact Ext.trans ‹_› hxk) | (exact ext_cell hxk ‹_›) | go_keep))
        (first
        | (go_at_call 21; go_split_ands; refine (CO.out _ _ _ _ (e5.trans ‹Ext w5 _›) (RA.out.ext ‹Ext w5 _›)).mono ?_; rintro e wO ⟨rfl, hxk⟩)
        | (go_at_call 20; go_split_ands; refine (OB.out _ _ _ _ (e5.trans ‹Ext w5 _›) (RD.out.ext ‹Ext w5 _›)).mono ?_; rintro e wF ⟨hxk, aB, nB, cB, rfl, rB⟩))
      go_split_ands
      have hx6 : Ext w5 wF := by first | assumption | exact Ext.trans ‹Ext w5 _› hxk
      have e6 : Ext w wF := e5.trans hx6
      replace RX := Lib.hid (RX.out.ext hx6)
      replace RW := Lib.hid (RW.out.ext hx6)
      replace RA := Lib.hid (RA.out.ext hx6)
      replace RD := Lib.hid (RD.out.ext hx6)
      have RB := Lib.hid rB
      clear rB
      clear RD
      go_wp2_with fail
      refine (OC.out _ _ _ _ _ _ e6 RX.out RW.out).mono ?_; rintro e w7 ⟨hx7, aC, nC, cC, rfl, rC⟩
      have e7 : Ext w w7 := e6.trans hx7
      replace RX := Lib.hid (RX.out.ext hx7)
      replace RW := Lib.hid (RW.out.ext hx7)
      replace RA := Lib.hid (RA.out.ext hx7)
      replace RB := Lib.hid (RB.out.ext hx7)
      have RC := Lib.hid rC
      clear hx7 rC
      have RSS := Lib.hid (rdSS2 22 RA.out RB.out)
      replace RX := Lib.hid (RX.out.ext ((Ext.refl w7).alloc (.cells #[.slice aA nA cA, .slice aB nB cB] 22)))
      replace RW := Lib.hid (RW.out.ext ((Ext.refl w7).alloc (.cells #[.slice aA nA cA, .slice aB nB cB] 22)))
      replace RA := Lib.hid (RA.out.ext ((Ext.refl w7).alloc (.cells #[.slice aA nA cA, .slice aB nB cB] 22)))
      replace RB := Lib.hid (RB.out.ext ((Ext.refl w7).alloc (.cells #[.slice aA nA cA, .slice aB nB cB] 22)))
      replace RC := Lib.hid (RC.out.ext ((Ext.refl w7).alloc (.cells #[.slice aA nA cA, .slice aB nB cB] 22)))
      have e8 : Ext w (w7.alloc (.cells #[.slice aA nA cA, .slice aB nB cB] 22)) := e7.alloc _
      go_wp2_with fail
      refine (OD.out _ _ _ _ _ _ _ e8 RX.out RSS.out).mono ?_; rintro e w9 ⟨hx9, aD, nD, cD, rfl, rD⟩
      have e9 : Ext w w9 := e8.trans hx9
      replace RX := Lib.hid (RX.out.ext hx9)
      replace RW := Lib.hid (RW.out.ext hx9)
      replace RA := Lib.hid (RA.out.ext hx9)
      replace RB := Lib.hid (RB.out.ext hx9)
      replace RC := Lib.hid (RC.out.ext hx9)
      have RD := Lib.hid rD
      clear hx9 rD
      go_wp2_with fail
      refine (OE.out _ _ _ _ _ _ e9 RX.out RW.out).mono ?_; rintro e w10 ⟨hx10, aP, nP, cP, rfl, rP⟩
      have e10 : Ext w w10 := e9.trans hx10
      replace RX := Lib.hid (RX.out.ext hx10)
      replace RW := Lib.hid (RW.out.ext hx10)
      replace RA := Lib.hid (RA.out.ext hx10)
      replace RB := Lib.hid (RB.out.ext hx10)
      replace RC := Lib.hid (RC.out.ext hx10)
      replace RD := Lib.hid (RD.out.ext hx10)
      have RP := Lib.hid rP
      clear hx10 rP
      have RSS2 := Lib.hid (rdSS2 22 RA.out RB.out)
      replace RX := Lib.hid (RX.out.ext ((Ext.refl w10).alloc (.cells #[.slice aA nA cA, .slice aB nB cB] 22)))
      replace RW := Lib.hid (RW.out.ext ((Ext.refl w10).alloc (.cells #[.slice aA nA cA, .slice aB nB cB] 22)))
      replace RA := Lib.hid (RA.out.ext ((Ext.refl w10).alloc (.cells #[.slice aA nA cA, .slice aB nB cB] 22)))
      replace RB := Lib.hid (RB.out.ext ((Ext.refl w10).alloc (.cells #[.slice aA nA cA, .slice aB nB cB] 22)))
      replace RC := Lib.hid (RC.out.ext ((Ext.refl w10).alloc (.cells #[.slice aA nA cA, .slice aB nB cB] 22)))
      replace RD := Lib.hid (RD.out.ext ((Ext.refl w10).alloc (.cells #[.slice aA nA cA, .slice aB nB cB] 22)))
      replace RP := Lib.hid (RP.out.ext ((Ext.refl w10).alloc (.cells #[.slice aA nA cA, .slice aB nB cB] 22)))
      have e11 : Ext w (w10.alloc (.cells #[.slice aA nA cA, .slice aB nB cB] 22)) := e10.alloc _
      go_wp2_with fail
      refine (OF.out _ _ _ _ _ _ _ e11 RX.out RSS2.out).mono ?_; rintro e w12 ⟨hx12, aQ, nQ, cQ, rfl, rQ⟩
      have e12 : Ext w w12 := e11.trans hx12
      replace RX := Lib.hid (RX.out.ext hx12)
      replace RW := Lib.hid (RW.out.ext hx12)
      replace RA := Lib.hid (RA.out.ext hx12)
      replace RB := Lib.hid (RB.out.ext hx12)
      replace RC := Lib.hid (RC.out.ext hx12)
      replace RD := Lib.hid (RD.out.ext hx12)
      replace RP := Lib.hid (RP.out.ext hx12)
      have RQ := Lib.hid rQ
      clear hx12 rQ
      go_wp2_with fail
      refine (sameTrueG rfl LO.out RC.out RD.out).mono ?_; rintro e w13 ⟨rfl, hx13⟩
      have e13 : Ext w w13 := e12.trans hx13
      replace RX := Lib.hid (RX.out.ext hx13)
      replace RW := Lib.hid (RW.out.ext hx13)
      replace RA := Lib.hid (RA.out.ext hx13)
      replace RB := Lib.hid (RB.out.ext hx13)
      replace RC := Lib.hid (RC.out.ext hx13)
      replace RD := Lib.hid (RD.out.ext hx13)
      replace RP := Lib.hid (RP.out.ext hx13)
      replace RQ := Lib.hid (RQ.out.ext hx13)
      clear hx13
      go_wp2_with fail
      refine (sameTrueG rfl LP.out RP.out RQ.out).mono ?_; rintro e w14 ⟨rfl, hx14⟩
      have e14 : Ext w w14 := e13.trans hx14
      replace RX := Lib.hid (RX.out.ext hx14)
      replace RW := Lib.hid (RW.out.ext hx14)
      replace RA := Lib.hid (RA.out.ext hx14)
      replace RB := Lib.hid (RB.out.ext hx14)
      replace RC := Lib.hid (RC.out.ext hx14)
      replace RD := Lib.hid (RD.out.ext hx14)
      replace RP := Lib.hid (RP.out.ext hx14)
      replace RQ := Lib.hid (RQ.out.ext hx14)
      clear hx14
      go_wp2_with fail
      go_ret
      exact ⟨rfl, e14⟩
    · have hKc : (K : Int) ≤ (cW : Int) := by omega
      have hNc : (N : Int) ≤ (cW : Int) := by omega
      have hKc' : K ≤ cW := by omega
      rcases (by omega : ¬ cW = K ∨ (cW = K ∧ N = K)) with hne | ⟨rfl, rfl⟩
      · skip
        have RT := Lib.hid (RW.out.take hKN)
        go_wp2_with fail
        refine (OA.out _ _ _ e4 RT.out).mono ?_; rintro e w5 ⟨hx5, aA, nA, cA, rfl, rA⟩
        have e5 : Ext w w5 := e4.trans hx5
        replace RX := Lib.hid (RX.out.ext hx5)
        replace RW := Lib.hid (RW.out.ext hx5)
        replace RT := Lib.hid (RT.out.ext hx5)
        have RA := Lib.hid rA
        clear hx5 rA
        clear y1
        clear RT
        have RD := Lib.hid (RW.out.behind hKN hc)
        rw [if_neg hne, Nat.zero_add] at RD
        go_wp2_with fail
        have hrr := Ext.refl w5
        go_region_held3 (fun W => Ext w5 W ∧ True)
          ((go_split_ands; refine ⟨?_, ?_⟩ <;> first | (exact True.intro) | (exact Ext.drew ‹_›) | (exact Ext.trans ‹_› hxk) | (exact ext_cell hxk ‹_›) | go_keep))
          (first
          | (go_at_call 21; go_split_ands; refine (CO.out _ _ _ _ (e5.trans ‹Ext w5 _›) (RA.out.ext ‹Ext w5 _›)).mono ?_; rintro e wO ⟨rfl, hxk⟩)
          | (go_at_call 20; go_split_ands; refine (OB.out _ _ _ _ (e5.trans ‹Ext w5 _›) (RD.out.ext ‹Ext w5 _›)).mono ?_; rintro e wF ⟨hxk, aB, nB, cB, rfl, rB⟩))
        go_split_ands
        have hx6 : Ext w5 wF := by first | assumption | exact Ext.trans ‹Ext w5 _› hxk
        have e6 : Ext w wF := e5.trans hx6
        replace RX := Lib.hid (RX.out.ext hx6)
        replace RW := Lib.hid (RW.out.ext hx6)
        replace RA := Lib.hid (RA.out.ext hx6)
        replace RD := Lib.hid (RD.out.ext hx6)
        have RB := Lib.hid rB
        clear rB
        clear RD
        go_wp2_with fail
        refine (OC.out _ _ _ _ _ _ e6 RX.out RW.out).mono ?_; rintro e w7 ⟨hx7, aC, nC, cC, rfl, rC⟩
        have e7 : Ext w w7 := e6.trans hx7
        replace RX := Lib.hid (RX.out.ext hx7)
        replace RW := Lib.hid (RW.out.ext hx7)
        replace RA := Lib.hid (RA.out.ext hx7)
        replace RB := Lib.hid (RB.out.ext hx7)
        have RC := Lib.hid rC
        clear hx7 rC
        have RSS := Lib.hid (rdSS2 22 RA.out RB.out)
        replace RX := Lib.hid (RX.out.ext ((Ext.refl w7).alloc (.cells #[.slice aA nA cA, .slice aB nB cB] 22)))
        replace RW := Lib.hid (RW.out.ext ((Ext.refl w7).alloc (.cells #[.slice aA nA cA, .slice aB nB cB] 22)))
        replace RA := Lib.hid (RA.out.ext ((Ext.refl w7).alloc (.cells #[.slice aA nA cA, .slice aB nB cB] 22)))
        replace RB := Lib.hid (RB.out.ext ((Ext.refl w7).alloc (.cells #[.slice aA nA cA, .slice aB nB cB] 22)))
        replace RC := Lib.hid (RC.out.ext ((Ext.refl w7).alloc (.cells #[.slice aA nA cA, .slice aB nB cB] 22)))
        have e8 : Ext w (w7.alloc (.cells #[.slice aA nA cA, .slice aB nB cB] 22)) := e7.alloc _
        go_wp2_with fail
        refine (OD.out _ _ _ _ _ _ _ e8 RX.out RSS.out).mono ?_; rintro e w9 ⟨hx9, aD, nD, cD, rfl, rD⟩
        have e9 : Ext w w9 := e8.trans hx9
        replace RX := Lib.hid (RX.out.ext hx9)
        replace RW := Lib.hid (RW.out.ext hx9)
        replace RA := Lib.hid (RA.out.ext hx9)
        replace RB := Lib.hid (RB.out.ext hx9)
        replace RC := Lib.hid (RC.out.ext hx9)
        have RD := Lib.hid rD
        clear hx9 rD
        go_wp2_with fail
        refine (OE.out _ _ _ _ _ _ e9 RX.out RW.out).mono ?_; rintro e w10 ⟨hx10, aP, nP, cP, rfl, rP⟩
        have e10 : Ext w w10 := e9.trans hx10
        replace RX := Lib.hid (RX.out.ext hx10)
        replace RW := Lib.hid (RW.out.ext hx10)
        replace RA := Lib.hid (RA.out.ext hx10)
        replace RB := Lib.hid (RB.out.ext hx10)
        replace RC := Lib.hid (RC.out.ext hx10)
        replace RD := Lib.hid (RD.out.ext hx10)
        have RP := Lib.hid rP
        clear hx10 rP
        have RSS2 := Lib.hid (rdSS2 22 RA.out RB.out)
        replace RX := Lib.hid (RX.out.ext ((Ext.refl w10).alloc (.cells #[.slice aA nA cA, .slice aB nB cB] 22)))
        replace RW := Lib.hid (RW.out.ext ((Ext.refl w10).alloc (.cells #[.slice aA nA cA, .slice aB nB cB] 22)))
        replace RA := Lib.hid (RA.out.ext ((Ext.refl w10).alloc (.cells #[.slice aA nA cA, .slice aB nB cB] 22)))
        replace RB := Lib.hid (RB.out.ext ((Ext.refl w10).alloc (.cells #[.slice aA nA cA, .slice aB nB cB] 22)))
        replace RC := Lib.hid (RC.out.ext ((Ext.refl w10).alloc (.cells #[.slice aA nA cA, .slice aB nB cB] 22)))
        replace RD := Lib.hid (RD.out.ext ((Ext.refl w10).alloc (.cells #[.slice aA nA cA, .slice aB nB cB] 22)))
        replace RP := Lib.hid (RP.out.ext ((Ext.refl w10).alloc (.cells #[.slice aA nA cA, .slice aB nB cB] 22)))
        have e11 : Ext w (w10.alloc (.cells #[.slice aA nA cA, .slice aB nB cB] 22)) := e10.alloc _
        go_wp2_with fail
        refine (OF.out _ _ _ _ _ _ _ e11 RX.out RSS2.out).mono ?_; rintro e w12 ⟨hx12, aQ, nQ, cQ, rfl, rQ⟩
        have e12 : Ext w w12 := e11.trans hx12
        replace RX := Lib.hid (RX.out.ext hx12)
        replace RW := Lib.hid (RW.out.ext hx12)
        replace RA := Lib.hid (RA.out.ext hx12)
        replace RB := Lib.hid (RB.out.ext hx12)
        replace RC := Lib.hid (RC.out.ext hx12)
        replace RD := Lib.hid (RD.out.ext hx12)
        replace RP := Lib.hid (RP.out.ext hx12)
        have RQ := Lib.hid rQ
        clear hx12 rQ
        go_wp2_with fail
        refine (sameTrueG rfl LO.out RC.out RD.out).mono ?_; rintro e w13 ⟨rfl, hx13⟩
        have e13 : Ext w w13 := e12.trans hx13
        replace RX := Lib.hid (RX.out.ext hx13)
        replace RW := Lib.hid (RW.out.ext hx13)
        replace RA := Lib.hid (RA.out.ext hx13)
        replace RB := Lib.hid (RB.out.ext hx13)
        replace RC := Lib.hid (RC.out.ext hx13)
        replace RD := Lib.hid (RD.out.ext hx13)
        replace RP := Lib.hid (RP.out.ext hx13)
        replace RQ := Lib.hid (RQ.out.ext hx13)
        clear hx13
        go_wp2_with fail
        refine (sameTrueG rfl LP.out RP.out RQ.out).mono ?_; rintro e w14 ⟨rfl, hx14⟩
        have e14 : Ext w w14 := e13.trans hx14
        replace RX := Lib.hid (RX.out.ext hx14)
        replace RW := Lib.hid (RW.out.ext hx14)
        replace RA := Lib.hid (RA.out.ext hx14)
        replace RB := Lib.hid (RB.out.ext hx14)
        replace RC := Lib.hid (RC.out.ext hx14)
        replace RD := Lib.hid (RD.out.ext hx14)
        replace RP := Lib.hid (RP.out.ext hx14)
        replace RQ := Lib.hid (RQ.out.ext hx14)
        clear hx14
        go_wp2_with fail
        go_ret
        exact ⟨rfl, e14⟩
      · skip
        have RT := Lib.hid (RW.out.take hKN)
        go_wp2_with fail
        refine (OA.out _ _ _ e4 RT.out).mono ?_; rintro e w5 ⟨hx5, aA, nA, cA, rfl, rA⟩
        have e5 : Ext w w5 := e4.trans hx5
        replace RX := Lib.hid (RX.out.ext hx5)
        replace RW := Lib.hid (RW.out.ext hx5)
        replace RT := Lib.hid (RT.out.ext hx5)
        have RA := Lib.hid rA
        clear hx5 rA
        clear y1
        clear RT
        have RD := Lib.hid (RW.out.behind hKN hc)
        rw [if_pos rfl, Nat.sub_self] at RD
        go_wp2_with fail
        have hrr := Ext.refl w5
        go_region_held3 (fun W => Ext w5 W ∧ True)
          ((go_split_ands; refine ⟨?_, ?_⟩ <;> first | (exact True.intro) | (exact Ext.drew ‹_›) | (exact Ext.trans ‹_› hxk) | (exact ext_cell hxk ‹_›) | go_keep))
          (first
          | (go_at_call 21; go_split_ands; refine (CO.out _ _ _ _ (e5.trans ‹Ext w5 _›) (RA.out.ext ‹Ext w5 _›)).mono ?_; rintro e wO ⟨rfl, hxk⟩)
          | (go_at_call 20; go_split_ands; refine (OB.out _ _ _ _ (e5.trans ‹Ext w5 _›) (RD.out.ext ‹Ext w5 _›)).mono ?_; rintro e wF ⟨hxk, aB, nB, cB, rfl, rB⟩))
        go_split_ands
        have hx6 : Ext w5 wF := by first | assumption | exact Ext.trans ‹Ext w5 _› hxk
        have e6 : Ext w wF := e5.trans hx6
        replace RX := Lib.hid (RX.out.ext hx6)
        replace RW := Lib.hid (RW.out.ext hx6)
        replace RA := Lib.hid (RA.out.ext hx6)
        replace RD := Lib.hid (RD.out.ext hx6)
        have RB := Lib.hid rB
        clear rB
        clear RD
        go_wp2_with fail
        refine (OC.out _ _ _ _ _ _ e6 RX.out RW.out).mono ?_; rintro e w7 ⟨hx7, aC, nC, cC, rfl, rC⟩
        have e7 : Ext w w7 := e6.trans hx7
        replace RX := Lib.hid (RX.out.ext hx7)
        replace RW := Lib.hid (RW.out.ext hx7)
        replace RA := Lib.hid (RA.out.ext hx7)
        replace RB := Lib.hid (RB.out.ext hx7)
        have RC := Lib.hid rC
        clear hx7 rC
        have RSS := Lib.hid (rdSS2 22 RA.out RB.out)
        replace RX := Lib.hid (RX.out.ext ((Ext.refl w7).alloc (.cells #[.slice aA nA cA, .slice aB nB cB] 22)))
        replace RW := Lib.hid (RW.out.ext ((Ext.refl w7).alloc (.cells #[.slice aA nA cA, .slice aB nB cB] 22)))
        replace RA := Lib.hid (RA.out.ext ((Ext.refl w7).alloc (.cells #[.slice aA nA cA, .slice aB nB cB] 22)))
        replace RB := Lib.hid (RB.out.ext ((Ext.refl w7).alloc (.cells #[.slice aA nA cA, .slice aB nB cB] 22)))
        replace RC := Lib.hid (RC.out.ext ((Ext.refl w7).alloc (.cells #[.slice aA nA cA, .slice aB nB cB] 22)))
        have e8 : Ext w (w7.alloc (.cells #[.slice aA nA cA, .slice aB nB cB] 22)) := e7.alloc _
        go_wp2_with fail
        refine (OD.out _ _ _ _ _ _ _ e8 RX.out RSS.out).mono ?_; rintro e w9 ⟨hx9, aD, nD, cD, rfl, rD⟩
        have e9 : Ext w w9 := e8.trans hx9
        replace RX := Lib.hid (RX.out.ext hx9)
        replace RW := Lib.hid (RW.out.ext hx9)
        replace RA := Lib.hid (RA.out.ext hx9)
        replace RB := Lib.hid (RB.out.ext hx9)
        replace RC := Lib.hid (RC.out.ext hx9)
        have RD := Lib.hid rD
        clear hx9 rD
        go_wp2_with fail
        refine (OE.out _ _ _ _ _ _ e9 RX.out RW.out).mono ?_; rintro e w10 ⟨hx10, aP, nP, cP, rfl, rP⟩
        have e10 : Ext w w10 := e9.trans hx10
        replace RX := Lib.hid (RX.out.ext hx10)
        replace RW := Lib.hid (RW.out.ext hx10)
        replace RA := Lib.hid (RA.out.ext hx10)
        replace RB := Lib.hid (RB.out.ext hx10)
        replace RC := Lib.hid (RC.out.ext hx10)
        replace RD := Lib.hid (RD.out.ext hx10)
        have RP := Lib.hid rP
        clear hx10 rP
        have RSS2 := Lib.hid (rdSS2 22 RA.out RB.out)
        replace RX := Lib.hid (RX.out.ext ((Ext.refl w10).alloc (.cells #[.slice aA nA cA, .slice aB nB cB] 22)))
        replace RW := Lib.hid (RW.out.ext ((Ext.refl w10).alloc (.cells #[.slice aA nA cA, .slice aB nB cB] 22)))
        replace RA := Lib.hid (RA.out.ext ((Ext.refl w10).alloc (.cells #[.slice aA nA cA, .slice aB nB cB] 22)))
        replace RB := Lib.hid (RB.out.ext ((Ext.refl w10).alloc (.cells #[.slice aA nA cA, .slice aB nB cB] 22)))
        replace RC := Lib.hid (RC.out.ext ((Ext.refl w10).alloc (.cells #[.slice aA nA cA, .slice aB nB cB] 22)))
        replace RD := Lib.hid (RD.out.ext ((Ext.refl w10).alloc (.cells #[.slice aA nA cA, .slice aB nB cB] 22)))
        replace RP := Lib.hid (RP.out.ext ((Ext.refl w10).alloc (.cells #[.slice aA nA cA, .slice aB nB cB] 22)))
        have e11 : Ext w (w10.alloc (.cells #[.slice aA nA cA, .slice aB nB cB] 22)) := e10.alloc _
        go_wp2_with fail
        refine (OF.out _ _ _ _ _ _ _ e11 RX.out RSS2.out).mono ?_; rintro e w12 ⟨hx12, aQ, nQ, cQ, rfl, rQ⟩
        have e12 : Ext w w12 := e11.trans hx12
        replace RX := Lib.hid (RX.out.ext hx12)
        replace RW := Lib.hid (RW.out.ext hx12)
        replace RA := Lib.hid (RA.out.ext hx12)
        replace RB := Lib.hid (RB.out.ext hx12)
        replace RC := Lib.hid (RC.out.ext hx12)
        replace RD := Lib.hid (RD.out.ext hx12)
        replace RP := Lib.hid (RP.out.ext hx12)
        have RQ := Lib.hid rQ
        clear hx12 rQ
        go_wp2_with fail
        refine (sameTrueG rfl LO.out RC.out RD.out).mono ?_; rintro e w13 ⟨rfl, hx13⟩
        have e13 : Ext w w13 := e12.trans hx13
        replace RX := Lib.hid (RX.out.ext hx13)
        replace RW := Lib.hid (RW.out.ext hx13)
        replace RA := Lib.hid (RA.out.ext hx13)
        replace RB := Lib.hid (RB.out.ext hx13)
        replace RC := Lib.hid (RC.out.ext hx13)
        replace RD := Lib.hid (RD.out.ext hx13)
        replace RP := Lib.hid (RP.out.ext hx13)
        replace RQ := Lib.hid (RQ.out.ext hx13)
        clear hx13
        go_wp2_with fail
        refine (sameTrueG rfl LP.out RP.out RQ.out).mono ?_; rintro e w14 ⟨rfl, hx14⟩
        have e14 : Ext w w14 := e13.trans hx14
        replace RX := Lib.hid (RX.out.ext hx14)
        replace RW := Lib.hid (RW.out.ext hx14)
        replace RA := Lib.hid (RA.out.ext hx14)
        replace RB := Lib.hid (RB.out.ext hx14)
        replace RC := Lib.hid (RC.out.ext hx14)
        replace RD := Lib.hid (RD.out.ext hx14)
        replace RP := Lib.hid (RP.out.ext hx14)
        replace RQ := Lib.hid (RQ.out.ext hx14)
        clear hx14
        go_wp2_with fail
        go_ret
        exact ⟨rfl, e14⟩
end Go.Proofs.YtfjiookndleaeaaDoor
