/- Layer 11, OverOne. -/
import Derived.Test.YtplbpddkmhmjiaaDoorL11a
namespace Go.Proofs.YtplbpddkmhmjiaaDoor
open Go.RowKit
set_option maxRecDepth 100000
set_option maxHeartbeats 4000000
theorem one11 {X S T : List Sp} (gX : Good X) (gS : Good S) (gT : Good T) (h1 : inL X = inL S) (h2 : outL S = inL T) (hl : X.length + S.length + T.length ≤ 300) (ht : sumT S + sumT T ≤ 100000) (hb : outL S ≤ 100000) (hb2 : outL T ≤ 100000) :
    Good (compL S T) ∧ Good (overL X S) ∧ inL (overL X S) = inL T ∧ inL X = inL (compL S T) ∧ overL (overL X S) T = overL X (compL S T) ∧ (overL (overL X S) T).length ≤ 300 := by
  obtain ⟨a1, a2, a3, a4, a5, a6, a7⟩ := good_comp gS gT h2 (by omega) (by omega)
  obtain ⟨b1, b2, b3, b4, b5, b6⟩ := good_over gX gS h1 (by omega) hb
  have c1 : inL (overL X S) = inL T := by omega
  obtain ⟨d1, d2, d3, d4, d5, d6⟩ := good_over b1 gT c1 (by omega) hb2
  refine ⟨a1, b1, c1, by omega, ?_, by omega⟩
  show spT (overT (tok (overL X S)) (tok T)) = spT (overT (tok X) (tok (compL S T)))
  rw [a2, b2, over_one _ _ _ _ (Nat.le_refl _) (by have := gX.tin; have := gS.tin; omega) (by have := gS.tout; have := gT.tin; omega)]
theorem overOne_c (A0 : Option Addr) (q0 c0 : Nat) (l0 : List Sp) (A1 : Option Addr) (q1 c1 : Nat) (l1 : List Sp) (A2 : Option Addr) (q2 c2 : Nat) (l2 : List Sp) (n : Int) (w : World) [Tab w] (h0 : Rd w 3 (.slice A0 q0 c0) q0 (spCells l0)) (hl0 : l0.length = q0) (hls0 : ∀ s ∈ l0, s.2.2.size ≤ maxLen) (h1 : Rd w 3 (.slice A1 q1 c1) q1 (spCells l1)) (hl1 : l1.length = q1) (hls1 : ∀ s ∈ l1, s.2.2.size ≤ maxLen) (h2 : Rd w 3 (.slice A2 q2 c2) q2 (spCells l2)) (hl2 : l2.length = q2) (hls2 : ∀ s ∈ l2, s.2.2.size ≤ maxLen) (hn : (Lit.int .u8 n).wf = true) :
    Calls Tryd.prog 4 #[.slice A0 q0 c0, .agg #[.slice A1 q1 c1, .slice A2 q2 c2], .int .u8 n] w fun e w' => e = .returned (.bool true) ∧ Below w.heap.size w w' := by
  obtain ⟨n0, n1⟩ := bounds_u8 hn
  obtain ⟨M, hM, hM0, hM1⟩ : ∃ M : Int, n % 64 = M ∧ 0 ≤ M ∧ M ≤ 63 := ⟨n % 64, rfl, by omega, by omega⟩
  have H0 := Lib.hid h0; have HL0 := Lib.hid hl0; have HS0 := Lib.hid hls0
  have H1 := Lib.hid h1; have HL1 := Lib.hid hl1; have HS1 := Lib.hid hls1
  have H2 := Lib.hid h2; have HL2 := Lib.hid hl2; have HS2 := Lib.hid hls2
  clear hn h0 hl0 hls0 h1 hl1 hls1 h2 hl2 hls2
  obtain ⟨gX, iX, oX0, oX1, lX, tX⟩ := good_fit l0 M hM0 (by omega)
  obtain ⟨gS, iS, oS0, oS1, lS, tS⟩ := good_fit l1 M hM0 (by omega)
  obtain ⟨gT, iT, oT0, oT1, lT, tT⟩ := good_fit l2 (outL (fitL l1 M)) oS0 (by omega)
  have F1 : Hid (inL (fitL l0 M) = inL (fitL l1 M)) := Lib.hid (by omega)
  have F2 := Lib.hid iT.symm
  obtain ⟨gC, gP, f3, f4, heq, hlen⟩ := one11 gX gS gT F1.out F2.out (by omega) (by omega) (by omega) (by omega)
  have F3 := Lib.hid f3; have F4 := Lib.hid f4; have HEQ := Lib.hid heq; have HLEN := Lib.hid hlen
  clear iX iS iT f3 f4 heq hlen lX lS lT tX tS tT
  go_enter Tryd.func4, Tryd.ntmps4
  have BArr := Lib.hid (BoxG.made w #[.slice A1 q1 c1, .slice A2 q2 c2] 31)
  have e1 : Ext w (w.alloc (.cells #[.slice A1 q1 c1, .slice A2 q2 c2] 31)) := (Ext.refl _).alloc _
  go_wp2_with fail
  refine (shown11_c _).mono ?_; rintro e w2 ⟨rfl, hx2⟩
  have e2 : Ext w w2 := e1.trans hx2
  replace BArr := Lib.hid (BArr.out.ext hx2)
  clear hx2
  go_wp2_with fail
  refine (fitG A0 q0 c0 l0 M H0.out HL0.out HS0.out hM0 (by omega) e2).mono ?_; rintro e w3 ⟨hx3, aX, nX, cX, rfl, rX⟩
  have e3 : Ext w w3 := e2.trans hx3
  replace BArr := Lib.hid (BArr.out.ext hx3)
  have RX := Lib.hid rX
  clear hx3 rX
  have d0 : w3.cell? ⟨w.heap.size, 0, none⟩ = some (.slice A1 q1 c1) := BArr.out.2 0 _ rfl
  go_wp2_with fail
  refine (fitG A1 q1 c1 l1 M H1.out HL1.out HS1.out hM0 (by omega) e3).mono ?_; rintro e w4 ⟨hx4, aS, nS, cS, rfl, rS⟩
  have e4 : Ext w w4 := e3.trans hx4
  replace BArr := Lib.hid (BArr.out.ext hx4)
  replace RX := Lib.hid (RX.out.ext hx4)
  have RS := Lib.hid rS
  clear hx4 rS
  clear d0
  have d1 : w4.cell? ⟨w.heap.size, 1, none⟩ = some (.slice A2 q2 c2) := BArr.out.2 1 _ rfl
  go_wp2_with fail
  have hrr := Ext.refl w4
  go_region_held3 (fun W => Ext w4 W ∧ W.cell? ⟨w.heap.size, 1, none⟩ = some (.slice A2 q2 c2))
    ((go_split_ands; refine ⟨?_, ?_⟩ <;> first | (exact True.intro) | (exact Ext.drew ‹_›) | (exact Ext.trans ‹_› hxk) | (exact ext_cell hxk ‹_›) | go_keep))
    (first
    | (go_at_call 17; go_split_ands; refine (outG gS (e4.trans ‹Ext w4 _›) (RS.out.ext ‹Ext w4 _›)).mono ?_; rintro e w' ⟨rfl, hxk⟩)
    | (go_at_call 13; go_split_ands; refine (fitG A2 q2 c2 l2 _ H2.out HL2.out HS2.out oS0 (by omega) (e4.trans ‹Ext w4 _›)).mono ?_; rintro e wF ⟨hxk, aT, nT, cT, rfl, rT⟩))
  go_split_ands
  have hx5 : Ext w4 wF := by first | assumption | exact Ext.trans ‹Ext w4 _› hxk
  have e5 : Ext w wF := e4.trans hx5
  replace BArr := Lib.hid (BArr.out.ext hx5)
  replace RX := Lib.hid (RX.out.ext hx5)
  replace RS := Lib.hid (RS.out.ext hx5)
  have RT := Lib.hid rT
  clear rT
  clear BArr
  go_wp2_with fail
  refine (compG gS gT F2.out e5 RS.out RT.out).mono ?_; rintro e w6 ⟨hx6, aC, nC, cC, rfl, rC⟩
  have e6 : Ext w w6 := e5.trans hx6
  replace RX := Lib.hid (RX.out.ext hx6)
  replace RS := Lib.hid (RS.out.ext hx6)
  replace RT := Lib.hid (RT.out.ext hx6)
  have RC := Lib.hid rC
  clear hx6 rC
  go_wp2_with fail
  refine (overG gX gS F1.out e6 RX.out RS.out).mono ?_; rintro e w7 ⟨hx7, aP, nP, cP, rfl, rP⟩
  have e7 : Ext w w7 := e6.trans hx7
  replace RX := Lib.hid (RX.out.ext hx7)
  replace RS := Lib.hid (RS.out.ext hx7)
  replace RT := Lib.hid (RT.out.ext hx7)
  replace RC := Lib.hid (RC.out.ext hx7)
  have RP := Lib.hid rP
  clear hx7 rP
  go_wp2_with fail
  refine (overG gP gT F3.out e7 RP.out RT.out).mono ?_; rintro e w8 ⟨hx8, aQ, nQ, cQ, rfl, rQ⟩
  have e8 : Ext w w8 := e7.trans hx8
  replace RX := Lib.hid (RX.out.ext hx8)
  replace RS := Lib.hid (RS.out.ext hx8)
  replace RT := Lib.hid (RT.out.ext hx8)
  replace RC := Lib.hid (RC.out.ext hx8)
  replace RP := Lib.hid (RP.out.ext hx8)
  have RQ := Lib.hid rQ
  clear hx8 rQ
  go_wp2_with fail
  refine (overG gX gC F4.out e8 RX.out RC.out).mono ?_; rintro e w9 ⟨hx9, aD, nD, cD, rfl, rD⟩
  have e9 : Ext w w9 := e8.trans hx9
  replace RX := Lib.hid (RX.out.ext hx9)
  replace RS := Lib.hid (RS.out.ext hx9)
  replace RT := Lib.hid (RT.out.ext hx9)
  replace RC := Lib.hid (RC.out.ext hx9)
  replace RP := Lib.hid (RP.out.ext hx9)
  replace RQ := Lib.hid (RQ.out.ext hx9)
  have RD := Lib.hid rD
  clear hx9 rD
  go_wp2_with fail
  refine (sameTrueG HEQ.out HLEN.out RQ.out RD.out).mono ?_; rintro e w10 ⟨rfl, hx10⟩
  have e10 : Ext w w10 := e9.trans hx10
  replace RX := Lib.hid (RX.out.ext hx10)
  replace RS := Lib.hid (RS.out.ext hx10)
  replace RT := Lib.hid (RT.out.ext hx10)
  replace RC := Lib.hid (RC.out.ext hx10)
  replace RP := Lib.hid (RP.out.ext hx10)
  replace RQ := Lib.hid (RQ.out.ext hx10)
  replace RD := Lib.hid (RD.out.ext hx10)
  clear hx10
  go_wp2_with fail
  go_ret
  exact ⟨rfl, e10⟩
end Go.Proofs.YtplbpddkmhmjiaaDoor
