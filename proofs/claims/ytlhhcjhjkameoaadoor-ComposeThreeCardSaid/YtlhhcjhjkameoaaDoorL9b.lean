/- Layer 9, ComposeThree. -/
import Derived.Test.YtlhhcjhjkameoaaDoorL9a
namespace Go.Proofs.YtlhhcjhjkameoaaDoor
open Go.RowKit
set_option maxRecDepth 100000
set_option maxHeartbeats 4000000
theorem three9 (X Y Z : List Sp) (gX : Good X) (gY : Good Y) (gZ : Good Z) (h1 : outL X = inL Y) (h2 : outL Y = inL Z) (hl : X.length + Y.length + Z.length ≤ 300) (ht : sumT X + sumT Y + sumT Z ≤ 100000) :
    Good (compL X Y) ∧ Good (compL Y Z) ∧ outL (compL X Y) = inL Z ∧ outL X = inL (compL Y Z) ∧ compL (compL X Y) Z = compL X (compL Y Z) ∧ (compL (compL X Y) Z).length ≤ 300 := by
  obtain ⟨a1, a2, a3, a4, a5, a6, a7⟩ := good_comp gX gY h1 (by omega) (by omega)
  obtain ⟨b1, b2, b3, b4, b5, b6, b7⟩ := good_comp gY gZ h2 (by omega) (by omega)
  have c1 : outL (compL X Y) = inL Z := by omega
  have c2 : outL X = inL (compL Y Z) := by omega
  obtain ⟨d1, d2, d3, d4, d5, d6, d7⟩ := good_comp a1 gZ c1 (by omega) (by omega)
  refine ⟨a1, b1, c1, c2, ?_, by omega⟩
  show spT (compT (tok (compL X Y)) (tok Z)) = spT (compT (tok X) (tok (compL Y Z)))
  rw [a2, b2, compT_assoc _ _ _ _ (Nat.le_refl _) (by have := gX.tout; have := gY.tin; omega) (by have := gY.tout; have := gZ.tin; omega)]
theorem composeThree_c (A0 : Option Addr) (q0 c0 : Nat) (l0 : List Sp) (A1 : Option Addr) (q1 c1 : Nat) (l1 : List Sp) (A2 : Option Addr) (q2 c2 : Nat) (l2 : List Sp) (n : Int) (w : World) [Tab w] (h0 : Rd w 3 (.slice A0 q0 c0) q0 (spCells l0)) (hl0 : l0.length = q0) (hls0 : ∀ s ∈ l0, s.2.2.size ≤ maxLen) (h1 : Rd w 3 (.slice A1 q1 c1) q1 (spCells l1)) (hl1 : l1.length = q1) (hls1 : ∀ s ∈ l1, s.2.2.size ≤ maxLen) (h2 : Rd w 3 (.slice A2 q2 c2) q2 (spCells l2)) (hl2 : l2.length = q2) (hls2 : ∀ s ∈ l2, s.2.2.size ≤ maxLen) (hn : (Lit.int .u8 n).wf = true) :
    Calls Tryd.prog 5 #[.agg #[.slice A0 q0 c0, .slice A1 q1 c1, .slice A2 q2 c2], .int .u8 n] w fun e w' => e = .returned (.bool true) ∧ Below w.heap.size w w' := by
  obtain ⟨n0, n1⟩ := bounds_u8 hn
  obtain ⟨M, hM, hM0, hM1⟩ : ∃ M : Int, n % 64 = M ∧ 0 ≤ M ∧ M ≤ 63 := ⟨n % 64, rfl, by omega, by omega⟩
  have H0 := Lib.hid h0; have H1 := Lib.hid h1; have H2 := Lib.hid h2
  have HL0 := Lib.hid hl0; have HL1 := Lib.hid hl1; have HL2 := Lib.hid hl2
  have HS0 := Lib.hid hls0; have HS1 := Lib.hid hls1; have HS2 := Lib.hid hls2
  clear h0 h1 h2 hl0 hl1 hl2 hls0 hls1 hls2 hn
  obtain ⟨gX, iX, oX0, oX1, lX, tX⟩ := good_fit l0 M hM0 (by omega)
  obtain ⟨gY, iY, oY0, oY1, lY, tY⟩ := good_fit l1 (outL (fitL l0 M)) oX0 (by omega)
  obtain ⟨gZ, iZ, oZ0, oZ1, lZ, tZ⟩ := good_fit l2 (outL (fitL l1 (outL (fitL l0 M)))) oY0 (by omega)
  obtain ⟨gA, gB, f1, f2, heq, hlen⟩ := three9 _ _ _ gX gY gZ iY.symm iZ.symm (by omega) (by omega)
  have F0 := Lib.hid iY.symm; have F1 := Lib.hid iZ.symm; have F2 := Lib.hid f1; have F3 := Lib.hid f2; have HEQ := Lib.hid heq; have HLEN := Lib.hid hlen
  clear iX iY iZ f1 f2 heq hlen lX lY lZ tX tY tZ
  go_enter Tryd.func5, Tryd.ntmps5
  have BArr := Lib.hid (BoxG.made w #[.slice A0 q0 c0, .slice A1 q1 c1, .slice A2 q2 c2] 39)
  have e1 : Ext w (w.alloc (.cells #[.slice A0 q0 c0, .slice A1 q1 c1, .slice A2 q2 c2] 39)) := (Ext.refl _).alloc _
  go_wp2_with fail
  refine (shown9_c _).mono ?_; rintro e w2 ⟨rfl, hx2⟩
  have e2 : Ext w w2 := e1.trans hx2
  replace BArr := Lib.hid (BArr.out.ext hx2)
  clear hx2
  have d0 : w2.cell? ⟨w.heap.size, 0, none⟩ = some (.slice A0 q0 c0) := BArr.out.2 0 _ rfl
  go_wp2_with fail
  refine (fitG A0 q0 c0 l0 M H0.out HL0.out HS0.out (by omega) (by omega) e2).mono ?_; rintro e w3 ⟨hx3, aX, nX, cX, rfl, rX⟩
  have e3 : Ext w w3 := e2.trans hx3
  replace BArr := Lib.hid (BArr.out.ext hx3)
  have RX := Lib.hid rX
  clear hx3 rX
  clear d0
  have d1 : w3.cell? ⟨w.heap.size, 1, none⟩ = some (.slice A1 q1 c1) := BArr.out.2 1 _ rfl
  go_wp2_with fail
  have hrr := Ext.refl w3
  go_region_held3 (fun W => Ext w3 W ∧ W.cell? ⟨w.heap.size, 1, none⟩ = some (.slice A1 q1 c1))
    ((go_split_ands; refine ⟨?_, ?_⟩ <;> first | (exact Ext.drew ‹_›) | (exact Ext.trans ‹_› hxk) | (exact ext_cell hxk ‹_›) | go_keep))
    (first
    | (go_at_call 12; go_split_ands; refine (outG gX (e3.trans ‹Ext w3 _›) (RX.out.ext ‹Ext w3 _›)).mono ?_; rintro e w' ⟨rfl, hxk⟩)
    | (go_at_call 11; go_split_ands; refine (fitG A1 q1 c1 l1 _ H1.out HL1.out HS1.out oX0 (by omega) (e3.trans ‹Ext w3 _›)).mono ?_; rintro e wF ⟨hxk, aY, nY, cY, rfl, rY⟩))
  go_split_ands
  have hx4 : Ext w3 wF := by first | assumption | exact Ext.trans ‹Ext w3 _› hxk
  have e4 : Ext w wF := e3.trans hx4
  replace BArr := Lib.hid (BArr.out.ext hx4)
  replace RX := Lib.hid (RX.out.ext hx4)
  have RY := Lib.hid rY
  clear rY
  have d2 : wF.cell? ⟨w.heap.size, 2, none⟩ = some (.slice A2 q2 c2) := BArr.out.2 2 _ rfl
  go_wp2_with fail
  have hrr := Ext.refl wF
  go_region_held3 (fun W => Ext wF W ∧ W.cell? ⟨w.heap.size, 2, none⟩ = some (.slice A2 q2 c2))
    ((go_split_ands; refine ⟨?_, ?_⟩ <;> first | (exact Ext.drew ‹_›) | (exact Ext.trans ‹_› hxk) | (exact ext_cell hxk ‹_›) | go_keep))
    (first
    | (go_at_call 12; go_split_ands; refine (outG gY (e4.trans ‹Ext wF _›) (RY.out.ext ‹Ext wF _›)).mono ?_; rintro e w' ⟨rfl, hxk⟩)
    | (go_at_call 11; go_split_ands; refine (fitG A2 q2 c2 l2 _ H2.out HL2.out HS2.out oY0 (by omega) (e4.trans ‹Ext wF _›)).mono ?_; rintro e wG ⟨hxk, aZ, nZ, cZ, rfl, rZ⟩))
  go_split_ands
  have hx5 : Ext wF wG := by first | assumption | exact Ext.trans ‹Ext wF _› hxk
  have e5 : Ext w wG := e4.trans hx5
  replace BArr := Lib.hid (BArr.out.ext hx5)
  replace RX := Lib.hid (RX.out.ext hx5)
  replace RY := Lib.hid (RY.out.ext hx5)
  have RZ := Lib.hid rZ
  clear rZ
  clear BArr
  go_wp2_with fail
  refine (compG gX gY F0.out e5 RX.out RY.out).mono ?_; rintro e w6 ⟨hx6, aA, nA, cA, rfl, rA⟩
  have e6 : Ext w w6 := e5.trans hx6
  replace RX := Lib.hid (RX.out.ext hx6)
  replace RY := Lib.hid (RY.out.ext hx6)
  replace RZ := Lib.hid (RZ.out.ext hx6)
  have RA := Lib.hid rA
  clear hx6 rA
  go_wp2_with fail
  refine (compG gY gZ F1.out e6 RY.out RZ.out).mono ?_; rintro e w7 ⟨hx7, aB, nB, cB, rfl, rB⟩
  have e7 : Ext w w7 := e6.trans hx7
  replace RX := Lib.hid (RX.out.ext hx7)
  replace RY := Lib.hid (RY.out.ext hx7)
  replace RZ := Lib.hid (RZ.out.ext hx7)
  replace RA := Lib.hid (RA.out.ext hx7)
  have RB := Lib.hid rB
  clear hx7 rB
  go_wp2_with fail
  refine (compG gA gZ F2.out e7 RA.out RZ.out).mono ?_; rintro e w8 ⟨hx8, aC, nC, cC, rfl, rC⟩
  have e8 : Ext w w8 := e7.trans hx8
  replace RX := Lib.hid (RX.out.ext hx8)
  replace RY := Lib.hid (RY.out.ext hx8)
  replace RZ := Lib.hid (RZ.out.ext hx8)
  replace RA := Lib.hid (RA.out.ext hx8)
  replace RB := Lib.hid (RB.out.ext hx8)
  have RC := Lib.hid rC
  clear hx8 rC
  go_wp2_with fail
  refine (compG gX gB F3.out e8 RX.out RB.out).mono ?_; rintro e w9 ⟨hx9, aD, nD, cD, rfl, rD⟩
  have e9 : Ext w w9 := e8.trans hx9
  replace RX := Lib.hid (RX.out.ext hx9)
  replace RY := Lib.hid (RY.out.ext hx9)
  replace RZ := Lib.hid (RZ.out.ext hx9)
  replace RA := Lib.hid (RA.out.ext hx9)
  replace RB := Lib.hid (RB.out.ext hx9)
  replace RC := Lib.hid (RC.out.ext hx9)
  have RD := Lib.hid rD
  clear hx9 rD
  go_wp2_with fail
  refine (sameTrueG HEQ.out HLEN.out RC.out RD.out).mono ?_; rintro e w10 ⟨rfl, hx10⟩
  have e10 : Ext w w10 := e9.trans hx10
  replace RX := Lib.hid (RX.out.ext hx10)
  replace RY := Lib.hid (RY.out.ext hx10)
  replace RZ := Lib.hid (RZ.out.ext hx10)
  replace RA := Lib.hid (RA.out.ext hx10)
  replace RB := Lib.hid (RB.out.ext hx10)
  replace RC := Lib.hid (RC.out.ext hx10)
  replace RD := Lib.hid (RD.out.ext hx10)
  clear hx10
  go_wp2_with fail
  go_ret
  exact ⟨rfl, e10⟩
end Go.Proofs.YtlhhcjhjkameoaaDoor
