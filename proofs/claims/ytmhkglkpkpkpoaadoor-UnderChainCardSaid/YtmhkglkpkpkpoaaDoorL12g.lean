/- Layer 12, UnderChain. -/
import Derived.Test.YtmhkglkpkpkpoaaDoorL12a
import Derived.Test.YtmhkglkpkpkpoaaDoorL11d
namespace Go.Proofs.YtmhkglkpkpkpoaaDoor
open Go.RowKit
set_option maxRecDepth 100000
set_option maxHeartbeats 4000000
/-- The rows of the loop, and its texts. -/
def rowC (X : List Sp) (M : Int) (CW : List (List Sp)) (j : Nat) : List Sp := if j = 0 then X else manyL X M CW j
def txtC (X : List Sp) (M : Int) (CW : List (List Sp)) (cs : List Nat) (j : Nat) : List Nat := apT (overT (tok X) (fR M (CW.take j))) (apT (fR M (CW.take j)) cs)
theorem fR_zero {X : List Sp} (gX : Good X) {M : Int} (hi : inL X = M) (CW : List (List Sp)) : fR M (CW.take 0) = List.replicate (tin (tok X)) Tok.keep := by
  have h0 := gX.in0
  have ht := gX.tin
  rw [List.take_zero]
  show List.replicate M.toNat Tok.keep = _
  rw [show M.toNat = tin (tok X) by omega]
theorem end_le {M m : Int} {CW : List (List Sp)} (hM : M ≤ 63) (htx : sumTT CW ≤ 6240) (j : Nat) (h1 : Thru M (CW.take j) m) : 0 ≤ m ∧ m ≤ 10000 := by
  obtain ⟨s1, s2, s3, s4, s5, s6, s7⟩ := fR_small h1 (by omega)
  have h2 := outL_le _ s1
  have h3 := lenS_take CW j
  have h4 := h1.pos
  omega
theorem row_ok {X : List Sp} (gX : Good X) {M k : Int} (hi : inL X = M) {CW : List (List Sp)} (hT : Thru M CW k) (hM : M ≤ 63) (htx : sumTT CW ≤ 6240) (hlx : lenS CW ≤ 260) (hl : X.length ≤ 20) (j : Nat) (hj : j ≤ CW.length) :
    Good (rowC X M CW j) ∧ tok (rowC X M CW j) = overT (tok X) (fR M (CW.take j)) ∧ (rowC X M CW j).length ≤ X.length + lenS (CW.take j) := by
  induction j with
  | zero =>
    unfold rowC
    rw [if_pos rfl, fR_zero gX hi CW, over_keepR]
    exact ⟨gX, rfl, by omega⟩
  | succ j ih =>
    obtain ⟨i1, i2, i3⟩ := ih (by omega)
    have hj2 : j < CW.length := by omega
    obtain ⟨a1, a2, a3, a4, a5⟩ := many_step gX hi hT hM htx hlx hj2
    obtain ⟨m, h1, h2, h3, h4, h5⟩ := many_ok gX hi hT (j + 1)
    obtain ⟨m', g1, g2, g3, g4, g5⟩ := many_ok gX hi hT j
    have e1 := end_le hM htx (j + 1) h1
    have ho : overL (rowC X M CW j) CW[j] = manyL X M CW (j + 1) := by
      rw [← a3]; unfold overL; rw [i2, g3]
    have hin : inL (rowC X M CW j) = inL CW[j] := by
      have t1 := i1.tin
      have t2 := (tin_ok _ g2).1
      rw [i2] at t1; rw [g3] at t2
      omega
    have h6 := overL_len _ _ i1.ok a1.ok hin
    have h7 := norm_len (rowC X M CW j)
    have h8 := norm_len CW[j]
    have e := take_snoc hj2
    have hlen : (rowC X M CW (j + 1)).length ≤ X.length + lenS (CW.take (j + 1)) := by
      unfold rowC
      rw [if_neg (by omega), ← ho, e, lenS_append]
      have e2 : lenS [CW[j]] = CW[j].length := by simp [lenS]
      omega
    have h9 := lenS_take CW (j + 1)
    have h10 := gX.txt
    refine ⟨?_, ?_, hlen⟩
    · unfold rowC at hlen ⊢
      rw [if_neg (by omega)] at hlen ⊢
      exact ⟨h2, by omega, by omega, by omega⟩
    · unfold rowC
      rw [if_neg (by omega)]
      exact h3
theorem chain_step {X : List Sp} (gX : Good X) {M k : Int} (hi : inL X = M) {CW : List (List Sp)} (hT : Thru M CW k) (hM : M ≤ 63) (htx : sumTT CW ≤ 6240) (hlx : lenS CW ≤ 260) (hl : X.length ≤ 20) (hst : sumT X ≤ 312) (cs : List Nat) (hcs : (cs.length : Int) = M) (hcp : ∀ c ∈ cs, IsCp c) (j : Nat) (hj : j < CW.length) :
    Good (rowC X M CW j) ∧ Good CW[j] ∧ inL (rowC X M CW j) = inL CW[j] ∧ overL (rowC X M CW j) CW[j] = rowC X M CW (j + 1) ∧ Good (underL CW[j] (rowC X M CW j)) ∧
    ((txtC X M CW cs j).length : Int) = inL (underL CW[j] (rowC X M CW j)) ∧ apT (tok (underL CW[j] (rowC X M CW j))) (txtC X M CW cs j) = txtC X M CW cs (j + 1) ∧ ∀ c ∈ txtC X M CW cs j, IsCp c := by
  obtain ⟨i1, i2, i3⟩ := row_ok gX hi hT hM htx hlx hl j (by omega)
  obtain ⟨a1, a2, a3, a4, a5⟩ := many_step gX hi hT hM htx hlx hj
  obtain ⟨m, g1, g2, g3, g4, g5⟩ := many_ok gX hi hT j
  have t1 := i1.tin
  have t2 := (tin_ok _ g2).1
  have t3 := a1.tin
  rw [i2] at t1; rw [g3] at t2
  have hin : inL (rowC X M CW j) = inL CW[j] := by omega
  have h9 := lenS_take CW j
  have h9' := lenS_take CW (j + 1)
  rw [take_snoc hj, lenS_append] at h9'
  have e2 : lenS [CW[j]] = CW[j].length := by simp [lenS]
  have e1 := end_le hM htx j g1
  obtain ⟨u1, u2, u3, u4, u5, u6⟩ := good_under a1 i1 hin.symm (by omega) (by have h := (outL_le _ i1.ok).2; have hs : sumT (rowC X M CW j) ≤ 312 := (by unfold rowC; split; exact hst; omega); omega)
  obtain ⟨f1, f2⟩ := fR_len g1
  have ht := gX.tin
  have hv : (apT (fR M (CW.take j)) cs).length = tout (fR M (CW.take j)) := apT_length _ _ (by omega)
  have hlt : (txtC X M CW cs j).length = tout (overT (tok X) (fR M (CW.take j))) := apT_length _ _ (by omega)
  have ho : overL (rowC X M CW j) CW[j] = rowC X M CW (j + 1) := by
    unfold rowC
    rw [if_neg (show ¬ j + 1 = 0 by omega), ← a3]
    have i2' := i2
    unfold rowC at i2'
    unfold overL
    rw [i2', g3]
  refine ⟨i1, a1, hin, ho, u1, ?_, ?_, ?_⟩
  · have t4 := i1.tout
    rw [i2] at t4
    rw [u4, ← t4, hlt]
  · rw [u2, i2]
    obtain ⟨k1, w1, _⟩ := thru_take hT (j + 1)
    rw [take_snoc hj] at w1
    obtain ⟨w2, o1, o2, o3, o4, o5⟩ := thru_snoc.1 w1
    have hone : Thru (inL CW[j]) [CW[j]] k1 := ⟨o1, rfl, o2, o3, o4, o5⟩
    obtain ⟨w3, w4⟩ := fR_len w2
    have hm := over_many (tok X) (by omega) w2 hone
    have hf : fR M (CW.take (j + 1)) = compT (fR M (CW.take j)) (tok CW[j]) := by
      rw [take_snoc hj, fR_append w2 hone, fR_one o1]
    have hmt := meets _ (tok CW[j]) (overT (tok X) (fR M (CW.take j))) (apT (fR M (CW.take j)) cs) (Nat.le_refl _) (by omega) (by omega)
    unfold txtC
    rw [← hmt, hf, apT_comp _ _ _ _ (Nat.le_refl _) (by omega) (by omega)]
    rw [← take_snoc hj] at hm
    rw [← hf, hm]
  · exact apT_cp _ _ (overT_okT _ _ (tok_okT X gX.ok)) (apT_cp _ _ (fR_okT g1) hcp)
theorem chain_all12 {X : List Sp} (gX : Good X) {M k : Int} (hi : inL X = M) {CW : List (List Sp)} (hT : Thru M CW k) (hM : M ≤ 63) (htx : sumTT CW ≤ 6240) (hlx : lenS CW ≤ 260) (hl : X.length ≤ 20) (hob : outL X ≤ 1000) (cs : List Nat) (hcs : (cs.length : Int) = M) :
    Good (spT (fR M CW)) ∧ inL X = inL (spT (fR M CW)) ∧ Good (overL X (spT (fR M CW))) ∧ Good (underL (spT (fR M CW)) X) ∧ outL (spT (fR M CW)) = inL (overL X (spT (fR M CW))) ∧ outL X = inL (underL (spT (fR M CW)) X) ∧
    apT (tok (overL X (spT (fR M CW)))) (apT (tok (spT (fR M CW))) cs) = txtC X M CW cs CW.length ∧ apT (tok (underL (spT (fR M CW)) X)) (apT (tok X) cs) = txtC X M CW cs CW.length ∧ apT (tok X) cs = txtC X M CW cs 0 := by
  have h0 := gX.in0
  have ht := gX.tin
  obtain ⟨s1, s2, s3, s4, s5, s6, s7⟩ := fR_small hT (by omega)
  have hout := outL_le _ s1
  have gF : Good (spT (fR M CW)) := ⟨s1, by omega, by omega, by omega⟩
  have hin : inL X = inL (spT (fR M CW)) := by omega
  obtain ⟨o1, o2, o3, o4, o5, o6⟩ := good_over gX gF hin (by omega) (by omega)
  obtain ⟨u1, u2, u3, u4, u5, u6⟩ := good_under gF gX hin.symm (by omega) (by omega)
  obtain ⟨f1, f2⟩ := fR_len hT
  have hmt := meets _ (fR M CW) (tok X) cs (Nat.le_refl _) (by omega) (by omega)
  refine ⟨gF, hin, o1, u1, o4.symm, u4.symm, ?_, ?_, ?_⟩
  · rw [o2, s2]; unfold txtC; rw [List.take_length]
  · rw [u2, s2, ← hmt]; unfold txtC; rw [List.take_length]
  · unfold txtC
    rw [fR_zero gX hi CW, over_keepR, apT_keep, List.take_of_length_le (by omega)]
theorem underChain_c (s : ByteArray) (A0 : Option Addr) (q0 c0 : Nat) (l0 : List Sp) (A1 : Option Addr) (q1 c1 : Nat) (ls : List (List Sp)) (w : World) [Tab w] (hs : s.size ≤ maxLen) (h0 : Rd w 3 (.slice A0 q0 c0) q0 (spCells l0)) (hl0 : l0.length = q0) (hls0 : ∀ s ∈ l0, s.2.2.size ≤ maxLen) (h1 : RdSS w A1 q1 c1 ls) (hls : ∀ l ∈ ls, ∀ s ∈ l, s.2.2.size ≤ maxLen) :
    Calls Tryd.prog 5 #[.string s, .slice A0 q0 c0, .slice A1 q1 c1] w fun e w' => e = .returned (.bool true) ∧ Below w.heap.size w w' := by
  obtain ⟨T, cs, hm1, hm2, hTl, hT0, hsz, HFIT, HCP, hcl, hUs, HD⟩ := cut_fit s 20 20 rfl (by omega) hs
  have FX : Hid (∀ w', Ext w w' → Calls Tryd.prog 10 #[.slice A0 q0 c0, .int .i64 (cs.length : Int)] w' (TellsL w' (fitL l0 cs.length))) := Lib.hid fun w' hx => fitG A0 q0 c0 l0 _ h0 hl0 hls0 (by omega) (by omega) hx
  have HW : Hid (∀ w', Ext w w' → Calls Tryd.prog 23 #[.slice A1 q1 c1, .int .i64 (cs.length : Int)] w' (TellsSS w' (chainL (ls.take 20) (cs.length : Int)))) := Lib.hid fun w' hx => chainRG (h1.ext hx) hls (by omega) (by omega)
  obtain ⟨k, SW, TW, lW, tW, nW⟩ := made_chain ls (cs.length : Int) (by omega) (by omega)
  obtain ⟨gX, iX, oX0, oX1, lX, tX⟩ := good_fit l0 (cs.length : Int) (by omega) (by omega)
  clear h0 hl0 hls0 h1 hls hs
  generalize fitL l0 cs.length = X at *
  generalize chainL (ls.take 20) (cs.length : Int) = CW at *
  have hM63 : (cs.length : Int) ≤ 63 := by omega
  have hX40 : X.length ≤ 20 := by omega
  obtain ⟨gF, hin, gB, gA, oB, oA, tB, tA, t0⟩ := chain_all12 gX iX TW hM63 tW lW hX40 (by omega) cs rfl
  have OW : Hid (∀ A k c w', Ext w w' → RdSS w' A k c CW → Calls Tryd.prog 24 #[.int .i64 (cs.length : Int), .slice A k c] w' (TellsE w' (spT (fR (cs.length : Int) CW)))) := Lib.hid fun A k c w' hx hr => fuseG SW TW (by omega) hx hr
  have HM : Hid (∀ A n k B m d w', Ext w w' → RdO w' A n k X → RdO w' B m d (spT (fR (cs.length : Int) CW)) → Calls Tryd.prog 14 #[.slice A n k, .slice B m d] w' (TellsM w' (overL X (spT (fR (cs.length : Int) CW))) (underL (spT (fR (cs.length : Int) CW)) X))) := Lib.hid fun A n k B m d w' hx hr hs => meetG gX gF hin hx hr hs
  have HP : Hid (∀ A c w', Ext w w' → RdSS w' A 2 c [spT (fR (cs.length : Int) CW), overL X (spT (fR (cs.length : Int) CW))] → _) := Lib.hid fun A c w' hx hr => @allG _ _ gF gB oB cs HCP.out (by omega) w w' _ hx A c hr
  have HQ : Hid (∀ A c w', Ext w w' → RdSS w' A 2 c [X, underL (spT (fR (cs.length : Int) CW)) X] → _) := Lib.hid fun A c w' hx hr => @allG _ _ gX gA oA cs HCP.out (by omega) w w' _ hx A c hr
  have HT : Hid (∀ A n k w', Ext w w' → RdO w' A n k X → _) := Lib.hid fun A n k w' hx hr => @toG _ gX cs HCP.out (by omega) w w' _ hx A n k hr
  rw [tB] at HP; rw [tA] at HQ; rw [t0] at HT
  have HST : Hid (∀ j (h : j < CW.length) A n k B m d w', Ext w w' → RdO w' A n k (rowC X (cs.length : Int) CW j) → RdO w' B m d CW[j] → Calls Tryd.prog 14 #[.slice A n k, .slice B m d] w' (TellsM w' (rowC X (cs.length : Int) CW (j + 1)) (underL CW[j] (rowC X (cs.length : Int) CW j)))) := Lib.hid fun j hj A n k B m d w' hx hr hs => by
    obtain ⟨a1, a2, a3, a4, a5, a6, a7, a8⟩ := chain_step gX iX TW hM63 tW lW hX40 tX cs rfl HCP.out j hj
    have h := meetG a1 a2 a3 hx hr hs
    rw [a4] at h; exact h
  have HTS : Hid (∀ j (h : j < CW.length) A n k w', Ext w w' → RdO w' A n k (underL CW[j] (rowC X (cs.length : Int) CW j)) → Calls Tryd.prog 25 #[.slice A n k, .string (mkS (encs (txtC X (cs.length : Int) CW cs j)))] w' fun e w'' => e = .returned (.tuple #[.string (mkS (encs (txtC X (cs.length : Int) CW cs (j + 1)))), .int .i64 0]) ∧ Ext w' w'') := Lib.hid fun j hj A n k w' hx hr => by
    obtain ⟨a1, a2, a3, a4, a5, a6, a7, a8⟩ := chain_step gX iX TW hM63 tW lW hX40 tX cs rfl HCP.out j hj
    have h := toG a5 _ a8 a6 hx hr
    rw [a7] at h; exact h
  have hz : rowC X (cs.length : Int) CW 0 = X := if_pos rfl
  have HZ := Lib.hid hz
  have hcn := cnt_U cs _ HD.out
  have HC : Hid (∀ w', Calls Tryd.prog 18 #[.string (mkS (encs cs))] w' fun e w'' => e = .returned (.int .i64 (cs.length : Int)) ∧ Ext w' w'') := Lib.hid fun w' => by
    have h := count_c (mkS (encs cs)) w' (by omega); rw [hcn] at h; exact h
  clear SW TW lW tW iX oX0 oX1 lX tX gF hin gB gA oB oA tB tA t0 hM63 hX40 hz hcn
  generalize overL X (spT (fR (cs.length : Int) CW)) = B at *
  generalize underL (spT (fR (cs.length : Int) CW)) X = Z at *
  generalize spT (fR (cs.length : Int) CW) = C at *
  generalize txtC X (cs.length : Int) CW cs = TX at *
  generalize hRS : rowC X (cs.length : Int) CW = RS at *
  clear hRS
  go_enter Tryd.func5, Tryd.ntmps5
  go_wp2_with fail
  refine (shown12_c _).mono ?_; rintro e w1 ⟨rfl, hx1⟩
  have e1 : Ext w w1 := hx1
  clear hx1
  go_wp2_with fail
  refine (HFIT.out _).mono ?_; rintro e w2 ⟨rfl, hx2⟩
  have e2 : Ext w w2 := e1.trans hx2
  clear hx2
  go_wp2_with fail
  refine (HC.out _).mono ?_; rintro e w3 ⟨rfl, hx3⟩
  have e3 : Ext w w3 := e2.trans hx3
  clear hx3
  go_wp2_with fail
  refine (FX.out _ e3).mono ?_; rintro e w4 ⟨hx4, aX, nX, cX, rfl, rX⟩
  have e4 : Ext w w4 := e3.trans hx4
  have RX := Lib.hid rX
  clear hx4 rX
  go_wp2_with fail
  refine (HW.out _ e4).mono ?_; rintro e w5 ⟨hx5, aW, nW, cW, rfl, rW⟩
  have e5 : Ext w w5 := e4.trans hx5
  replace RX := Lib.hid (RX.out.ext hx5)
  have RW := Lib.hid rW
  clear hx5 rW
  go_wp2_with fail
  refine (OW.out _ _ _ _ e5 RW.out).mono ?_; rintro e w6 ⟨hx6, aC, nC, cC, rfl, rC⟩
  have e6 : Ext w w6 := e5.trans hx6
  replace RX := Lib.hid (RX.out.ext hx6)
  replace RW := Lib.hid (RW.out.ext hx6)
  have RC := Lib.hid rC
  clear hx6 rC
  go_wp2_with fail
  refine (HM.out _ _ _ _ _ _ _ e6 RX.out RC.out).mono ?_; rintro e w7 ⟨hx7, aB, nB, cB, aZ, nZ, cZ, rfl, rB, rZ⟩
  have e7 : Ext w w7 := e6.trans hx7
  replace RX := Lib.hid (RX.out.ext hx7)
  replace RW := Lib.hid (RW.out.ext hx7)
  replace RC := Lib.hid (RC.out.ext hx7)
  have RB := Lib.hid rB; have RZ := Lib.hid rZ
  clear hx7 rB rZ
  have RSS := Lib.hid (rdSS_two RC.out RB.out 22)
  replace RX := Lib.hid (RX.out.ext ((Ext.refl w7).alloc (.cells #[.slice aC nC cC, .slice aB nB cB] 22)))
  replace RW := Lib.hid (RW.out.ext ((Ext.refl w7).alloc (.cells #[.slice aC nC cC, .slice aB nB cB] 22)))
  replace RC := Lib.hid (RC.out.ext ((Ext.refl w7).alloc (.cells #[.slice aC nC cC, .slice aB nB cB] 22)))
  replace RB := Lib.hid (RB.out.ext ((Ext.refl w7).alloc (.cells #[.slice aC nC cC, .slice aB nB cB] 22)))
  replace RZ := Lib.hid (RZ.out.ext ((Ext.refl w7).alloc (.cells #[.slice aC nC cC, .slice aB nB cB] 22)))
  have e8 : Ext w (w7.alloc (.cells #[.slice aC nC cC, .slice aB nB cB] 22)) := e7.alloc _
  go_wp2_with fail
  refine (HP.out _ _ _ e8 RSS.out).mono ?_; rintro e w9 ⟨rfl, hx9⟩
  have e9 : Ext w w9 := e8.trans hx9
  replace RX := Lib.hid (RX.out.ext hx9)
  replace RW := Lib.hid (RW.out.ext hx9)
  replace RC := Lib.hid (RC.out.ext hx9)
  replace RB := Lib.hid (RB.out.ext hx9)
  replace RZ := Lib.hid (RZ.out.ext hx9)
  clear hx9
  clear RSS
  have RSS := Lib.hid (rdSS_two RX.out RZ.out 22)
  replace RX := Lib.hid (RX.out.ext ((Ext.refl w9).alloc (.cells #[.slice aX nX cX, .slice aZ nZ cZ] 22)))
  replace RW := Lib.hid (RW.out.ext ((Ext.refl w9).alloc (.cells #[.slice aX nX cX, .slice aZ nZ cZ] 22)))
  replace RC := Lib.hid (RC.out.ext ((Ext.refl w9).alloc (.cells #[.slice aX nX cX, .slice aZ nZ cZ] 22)))
  replace RB := Lib.hid (RB.out.ext ((Ext.refl w9).alloc (.cells #[.slice aX nX cX, .slice aZ nZ cZ] 22)))
  replace RZ := Lib.hid (RZ.out.ext ((Ext.refl w9).alloc (.cells #[.slice aX nX cX, .slice aZ nZ cZ] 22)))
  have e10 : Ext w (w9.alloc (.cells #[.slice aX nX cX, .slice aZ nZ cZ] 22)) := e9.alloc _
  go_wp2_with fail
  refine (HQ.out _ _ _ e10 RSS.out).mono ?_; rintro e w11 ⟨rfl, hx11⟩
  have e11 : Ext w w11 := e10.trans hx11
  replace RX := Lib.hid (RX.out.ext hx11)
  replace RW := Lib.hid (RW.out.ext hx11)
  replace RC := Lib.hid (RC.out.ext hx11)
  replace RB := Lib.hid (RB.out.ext hx11)
  replace RZ := Lib.hid (RZ.out.ext hx11)
  clear hx11
  clear RSS
  clear RB RZ RC
  go_wp2_with fail
  refine (HT.out _ _ _ _ e11 RX.out).mono ?_; rintro e w12 ⟨rfl, hx12⟩
  have e12 : Ext w w12 := e11.trans hx12
  replace RX := Lib.hid (RX.out.ext hx12)
  replace RW := Lib.hid (RW.out.ext hx12)
  clear hx12
  go_wp2_with fail
  have hqW : nW ≤ 20 := by have := RW.out.1; omega
  rw [← HZ.out] at RX
  have HE0 := Lib.hid e12
  go_loopw [21, 23, 24] (fun h v z wr => ∃ (j : Nat) (aY : Option Addr) (nY cY : Nat), j ≤ nW ∧ h = .string (mkS (encs (TX j))) ∧ v = .slice aY nY cY ∧ z = .int .i64 j ∧ Hid (RdO wr aY nY cY (RS j)) ∧ Hid (RdSS wr aW nW cW CW) ∧ Hid (Ext w wr)) (fun _ _ z _ => nW - (intOf z).toNat)
  case atStart => exact ⟨0, aX, nX, cX, by omega, rfl, rfl, rfl, RX, RW, HE0⟩
  case round =>
    clear RX RW HE0
    obtain ⟨j, aY, nY, cY, hj, rfl, rfl, rfl, RY, RW, HXR⟩ := hrel
    have exr := HXR.out
    by_cases hlt : j < nW
    · have hjl : j < CW.length := by have := RW.out.1; omega
      obtain ⟨b, off, aV, kV, rfl, hb, q0, rz⟩ := RW.out.at_ hlt hjl
      obtain ⟨nV, hnV⟩ : ∃ nV, CW[j].length = nV := ⟨_, rfl⟩
      rw [hnV] at q0 rz
      have RV := Lib.hid (show RdO wr aV nV kV CW[j] from ⟨hnV, rz⟩)
      have dn : decide (j < nW) = true := by rw [decide_eq_true_eq]; exact hlt
      have i0 : (0 : Int) ≤ (j : Int) := by omega
      have i1 : (j : Int) < (nW : Int) := by omega
      have HC1 := Lib.hid (HST.out j hjl)
      have HC2 := Lib.hid (HTS.out j hjl)
      obtain ⟨U0, hU0⟩ : ∃ U0, mkS (encs (TX j)) = U0 := ⟨_, rfl⟩
      rw [hU0] at HC2 ⊢
      clear rz hnV hU0
      go_wp2_with fail
      refine (HC1.out _ _ _ _ _ _ _ exr RY.out RV.out).mono ?_; rintro e w1 ⟨hx1, aP, nP, cP, aQ, nQ, cQ, rfl, rP, rQ⟩
      have e1 : Ext w w1 := exr.trans hx1
      replace RY := Lib.hid (RY.out.ext hx1)
      replace RW := Lib.hid (RW.out.ext hx1)
      replace RV := Lib.hid (RV.out.ext hx1)
      have RP := Lib.hid rP; have RQ := Lib.hid rQ
      clear hx1 rP rQ
      go_wp2_with fail
      refine (HC2.out _ _ _ _ e1 RQ.out).mono ?_; rintro e w2 ⟨rfl, hx2⟩
      have e2 : Ext w w2 := e1.trans hx2
      replace RY := Lib.hid (RY.out.ext hx2)
      replace RW := Lib.hid (RW.out.ext hx2)
      replace RV := Lib.hid (RV.out.ext hx2)
      replace RP := Lib.hid (RP.out.ext hx2)
      replace RQ := Lib.hid (RQ.out.ext hx2)
      clear hx2
      go_wp2_with fail
      go_roundw
      case rel => exact ⟨j + 1, _, _, _, by omega, rfl, rfl, by go_num, RP, RW, Lib.hid e2⟩
      case measure => simp [intOf]; omega
    · obtain rfl : j = nW := by omega
      have hjl := RW.out.1
      have dn : decide (j < j) = false := by rw [decide_eq_false_iff_not]; omega
      rw [← hjl]
      obtain ⟨OUT, hOUT⟩ : ∃ OUT, mkS (encs (TX CW.length)) = OUT := ⟨_, rfl⟩
      rw [hOUT]
      clear hlt hOUT
      go_wp2_with fail
      go_ret
      exact ⟨rfl, exr⟩
end Go.Proofs.YtmhkglkpkpkpoaaDoor
