/- Layer 11, OverMany. -/
import Derived.Test.YtplbpddkmhmjiaaDoorL11a
import Derived.Test.YtplbpddkmhmjiaaDoorL10a
namespace Go.Proofs.YtplbpddkmhmjiaaDoor
open Go.RowKit
set_option maxRecDepth 100000
set_option maxHeartbeats 4000000
/-- What comes behind the first j. -/
def manyL (X : List Sp) (M : Int) (CW : List (List Sp)) (j : Nat) : List Sp := spT (overT (tok X) (fR M (CW.take j)))
theorem many_ok {X : List Sp} (gX : Good X) {M k : Int} (hi : inL X = M) {CW : List (List Sp)} (hT : Thru M CW k) (j : Nat) :
    ∃ m, Thru M (CW.take j) m ∧ (∀ s ∈ manyL X M CW j, OkW s) ∧ tok (manyL X M CW j) = overT (tok X) (fR M (CW.take j)) ∧ inL (manyL X M CW j) = m ∧ sumT (manyL X M CW j) ≤ sumT X := by
  obtain ⟨m, h1, _⟩ := thru_take hT j
  obtain ⟨f1, f2⟩ := fR_len h1
  have ht := gX.tin
  have hok := overT_okT (tok X) (fR M (CW.take j)) (tok_okT X gX.ok)
  have hz : ∀ s ∈ manyL X M CW j, OkW s := spT_okW _ hok
  have e : tok (manyL X M CW j) = overT (tok X) (fR M (CW.take j)) := tok_spT _ hok
  have z1 := (tin_ok _ hz).1
  rw [e, overT_len _ _ (by omega)] at z1
  refine ⟨m, h1, hz, e, by omega, ?_⟩
  unfold manyL
  rw [sumT_spT, over_insT _ _ (by omega)]
  exact insT_sum X gX.ok
theorem many_step {X : List Sp} (gX : Good X) {M k : Int} (hi : inL X = M) {CW : List (List Sp)} (hT : Thru M CW k) (hM : M ≤ 63) (htx : sumTT CW ≤ 6240) (hlx : lenS CW ≤ 260) {j : Nat} (hj : j < CW.length) :
    Good CW[j] ∧ inL (manyL X M CW j) = inL CW[j] ∧ overL (manyL X M CW j) CW[j] = manyL X M CW (j + 1) ∧ 0 ≤ inL CW[j] ∧ inL CW[j] ≤ 10000 := by
  obtain ⟨k1, g1, _⟩ := thru_take hT (j + 1)
  rw [take_snoc hj] at g1
  obtain ⟨g2, o1, o2, o3, o4, o5⟩ := thru_snoc.1 g1
  obtain ⟨m, h1, h2, h3, h4, h5⟩ := many_ok gX hi hT j
  have e1 := (thru_chE h1).2
  have e2 := (thru_chE g2).2
  have hmem := List.getElem_mem hj
  have e3 := le_lenS _ hmem
  have hsm := fR_small g2 (by omega)
  have hol := (outL_le _ hsm.1).2
  have hts := lenS_take CW j
  have hb : inL CW[j] ≤ 10000 := by omega
  refine ⟨⟨o1, by omega, by omega, by omega⟩, by omega, ?_, o2, hb⟩
  have ht := gX.tin
  have hone : Thru (inL CW[j]) [CW[j]] k1 := ⟨o1, rfl, o2, o3, o4, o5⟩
  have hm := over_many (tok X) (by omega) g2 hone
  unfold overL
  rw [h3, ← hm, ← take_snoc hj]
  rfl
theorem many_len {X : List Sp} (gX : Good X) {M k : Int} (hN : isN X) (hi : inL X = M) {CW : List (List Sp)} (hT : Thru M CW k) (hM : M ≤ 63) (htx : sumTT CW ≤ 6240) (hlx : lenS CW ≤ 260) (j : Nat) (hj : j ≤ CW.length) :
    (manyL X M CW j).length ≤ X.length + lenS (CW.take j) := by
  induction j with
  | zero =>
    have h0 := gX.in0
    have ht := gX.tin
    have e : manyL X M CW 0 = X := by
      have hk : fR M (CW.take 0) = List.replicate (tin (tok X)) Tok.keep := by
        rw [List.take_zero]
        show List.replicate M.toNat Tok.keep = _
        rw [show M.toNat = tin (tok X) by omega]
      unfold manyL
      rw [hk, over_keepR]
      exact (spT_isN hN gX.ok).symm
    rw [e]; omega
  | succ j ih =>
    have hj2 : j < CW.length := by omega
    obtain ⟨a1, a2, a3, a4, a5⟩ := many_step gX hi hT hM htx hlx hj2
    obtain ⟨m, h1, h2, h3, h4, h5⟩ := many_ok gX hi hT j
    have h6 := overL_len _ _ h2 a1.ok a2
    have h7 := norm_len (manyL X M CW j)
    have h8 := norm_len CW[j]
    have h9 := ih (by omega)
    rw [a3] at h6
    have e := take_snoc hj2
    rw [e, lenS_append]
    have e2 : lenS [CW[j]] = CW[j].length := by simp [lenS]
    omega
theorem many_all {X : List Sp} (gX : Good X) {M k : Int} (hN : isN X) (hi : inL X = M) {CW : List (List Sp)} (hT : Thru M CW k) (hM : M ≤ 63) (htx : sumTT CW ≤ 6240) (hlx : lenS CW ≤ 260) (hl : X.length ≤ 40) :
    manyL X M CW 0 = X ∧ (∀ j (h : j < CW.length), Good (manyL X M CW j) ∧ Good CW[j] ∧ inL (manyL X M CW j) = inL CW[j] ∧ overL (manyL X M CW j) CW[j] = manyL X M CW (j + 1)) ∧
      overL X (spT (fR M CW)) = manyL X M CW CW.length ∧ (manyL X M CW CW.length).length ≤ 300 ∧ Good (spT (fR M CW)) ∧ inL X = inL (spT (fR M CW)) := by
  have h0 := gX.in0
  have ht := gX.tin
  obtain ⟨s1, s2, s3, s4, s5, s6, s7⟩ := fR_small hT (by omega)
  refine ⟨?_, fun j hj => ?_, ?_, ?_, ⟨s1, by omega, by omega, by omega⟩, by omega⟩
  · have hk : fR M (CW.take 0) = List.replicate (tin (tok X)) Tok.keep := by
      rw [List.take_zero]
      show List.replicate M.toNat Tok.keep = _
      rw [show M.toNat = tin (tok X) by omega]
    unfold manyL
    rw [hk, over_keepR]
    exact (spT_isN hN gX.ok).symm
  · obtain ⟨a1, a2, a3, a4, a5⟩ := many_step gX hi hT hM htx hlx hj
    obtain ⟨m, h1, h2, h3, h4, h5⟩ := many_ok gX hi hT j
    have h6 := many_len gX hN hi hT hM htx hlx j (by omega)
    have h7 := lenS_take CW j
    have h8 := gX.txt
    exact ⟨⟨h2, by omega, by omega, by omega⟩, a1, a2, a3⟩
  · unfold overL manyL
    rw [s2, List.take_length]
  · have h6 := many_len gX hN hi hT hM htx hlx CW.length (Nat.le_refl _)
    rw [List.take_length] at h6
    omega
theorem overMany_c (A0 : Option Addr) (q0 c0 : Nat) (l0 : List Sp) (A1 : Option Addr) (q1 c1 : Nat) (ls : List (List Sp)) (n : Int) (w : World) [Tab w] (h0 : Rd w 3 (.slice A0 q0 c0) q0 (spCells l0)) (hl0 : l0.length = q0) (hls0 : ∀ s ∈ l0, s.2.2.size ≤ maxLen) (h1 : RdSS w A1 q1 c1 ls) (hls : ∀ l ∈ ls, ∀ s ∈ l, s.2.2.size ≤ maxLen) (hn : (Lit.int .u8 n).wf = true) :
    Calls Tryd.prog 5 #[.slice A0 q0 c0, .slice A1 q1 c1, .int .u8 n] w fun e w' => e = .returned (.bool true) ∧ Below w.heap.size w w' := by
  obtain ⟨n0, n1⟩ := bounds_u8 hn
  obtain ⟨M, hM, hM0, hM1⟩ : ∃ M : Int, n % 64 = M ∧ 0 ≤ M ∧ M ≤ 63 := ⟨n % 64, rfl, by omega, by omega⟩
  have HFX : Hid (∀ w', Ext w w' → Calls Tryd.prog 13 #[.slice A0 q0 c0, .int .i64 M] w' (TellsL w' (fitL l0 M))) := Lib.hid fun w' hx => fitG A0 q0 c0 l0 M h0 hl0 hls0 hM0 (by omega) hx
  have HW : Hid (∀ w', Ext w w' → Calls Tryd.prog 20 #[.slice A1 q1 c1, .int .i64 M] w' (TellsSS w' (chainL (ls.take 20) M))) := Lib.hid fun w' hx => chainRG (h1.ext hx) hls hM0 (by omega)
  obtain ⟨k, SW, TW, lW, tW, nW⟩ := made_chain ls M hM0 (by omega)
  obtain ⟨gF, iF, oF0, oF1, lF, tF⟩ := good_fit l0 M hM0 (by omega)
  clear h0 hl0 hls0 h1 hls hn
  generalize fitL l0 M = F at *
  generalize chainL (ls.take 20) M = CW at *
  obtain ⟨gX, X2, X3, X4, X5, X6, X7⟩ := good_norm gF
  have HNF : Hid (∀ A n k w', RdO w' A n k F → Calls Tryd.prog 19 #[.slice A n k] w' (TellsL w' (normL F))) := Lib.hid fun A n k w' hr => normG gF hr
  have hlX : (normL F).length ≤ 40 := by omega
  rw [iF] at X4
  generalize normL F = X at *
  obtain ⟨m0, m1, m2, m3, m4, m5⟩ := many_all gX X3 X4 TW hM1 tW lW hlX
  have OW : Hid (∀ A k c w', Ext w w' → RdSS w' A k c CW → Calls Tryd.prog 21 #[.int .i64 M, .slice A k c] w' (TellsE w' (spT (fR M CW)))) := Lib.hid fun A k c w' hx hr => fuseG SW TW (by omega) hx hr
  have HOC : Hid (∀ A n k B m d w', Ext w w' → RdO w' A n k X → RdO w' B m d (spT (fR M CW)) → Calls Tryd.prog 12 #[.slice A n k, .slice B m d] w' (TellsE w' (manyL X M CW CW.length))) := Lib.hid fun A n k B m d w' hx hr hs => by
    have h := overG gX m4 m5 hx hr hs
    rw [m2] at h; exact h
  have HST : Hid (∀ j (h : j < CW.length) A n k B m d w', Ext w w' → RdO w' A n k (manyL X M CW j) → RdO w' B m d CW[j] → Calls Tryd.prog 12 #[.slice A n k, .slice B m d] w' (TellsE w' (manyL X M CW (j + 1)))) := Lib.hid fun j hj A n k B m d w' hx hr hs => by
    obtain ⟨g1, g2, g3, g4⟩ := m1 j hj
    have h := overG g1 g2 g3 hx hr hs
    rw [g4] at h; exact h
  have LR : Hid ((manyL X M CW CW.length).length ≤ 300) := Lib.hid m3
  have M0 := Lib.hid m0
  clear SW TW lW tW iF oF0 oF1 lF tF X2 X3 X4 X5 X6 X7 hlX m0 m1 m2 m3 m4 m5 gX gF
  generalize spT (fR M CW) = C at *
  generalize manyL X M CW = XS at *
  go_enter Tryd.func5, Tryd.ntmps5
  go_wp2_with fail
  refine (shown11_c _).mono ?_; rintro e w1 ⟨rfl, hx1⟩
  have e1 : Ext w w1 := hx1
  clear hx1
  go_wp2_with fail
  refine (HFX.out _ e1).mono ?_; rintro e w2 ⟨hx2, aF, nF, cF, rfl, rF⟩
  have e2 : Ext w w2 := e1.trans hx2
  have RF := Lib.hid rF
  clear hx2 rF
  go_wp2_with fail
  refine (HNF.out _ _ _ _ RF.out).mono ?_; rintro e w3 ⟨hx3, aX, nX, cX, rfl, rX⟩
  have e3 : Ext w w3 := e2.trans hx3
  replace RF := Lib.hid (RF.out.ext hx3)
  have RX := Lib.hid rX
  clear hx3 rX
  clear RF
  go_wp2_with fail
  refine (HW.out _ e3).mono ?_; rintro e w4 ⟨hx4, aW, nW, cW, rfl, rW⟩
  have e4 : Ext w w4 := e3.trans hx4
  replace RX := Lib.hid (RX.out.ext hx4)
  have RW := Lib.hid rW
  clear hx4 rW
  go_wp2_with fail
  refine (OW.out _ _ _ _ e4 RW.out).mono ?_; rintro e w5 ⟨hx5, aC, nC, cC, rfl, rC⟩
  have e5 : Ext w w5 := e4.trans hx5
  replace RX := Lib.hid (RX.out.ext hx5)
  replace RW := Lib.hid (RW.out.ext hx5)
  have RC := Lib.hid rC
  clear hx5 rC
  go_wp2_with fail
  refine (HOC.out _ _ _ _ _ _ _ e5 RX.out RC.out).mono ?_; rintro e w6 ⟨hx6, aR, nR, cR, rfl, rR⟩
  have e6 : Ext w w6 := e5.trans hx6
  replace RX := Lib.hid (RX.out.ext hx6)
  replace RW := Lib.hid (RW.out.ext hx6)
  replace RC := Lib.hid (RC.out.ext hx6)
  have RR := Lib.hid rR
  clear hx6 rR
  clear RC
  go_wp2_with fail
  have hlW := RW.out.1
  have hqW : nW ≤ 20 := by omega
  rw [← M0.out] at RX
  have HE0 := Lib.hid e6
  clear hlW
  go_loopw [9, 15] (fun v z wr => ∃ (j : Nat) (aY : Option Addr) (nY cY : Nat), j ≤ nW ∧ v = .slice aY nY cY ∧ z = .int .i64 j ∧ Hid (RdO wr aY nY cY (XS j)) ∧ Hid (RdSS wr aW nW cW CW) ∧ Hid (RdO wr aR nR cR (XS CW.length)) ∧ Hid (Ext w wr)) (fun _ z _ => nW - (intOf z).toNat)
  case atStart => exact ⟨0, aX, nX, cX, by omega, rfl, rfl, RX, RW, RR, HE0⟩
  case round =>
    clear RX RW RR HE0
    obtain ⟨j, aY, nY, cY, hj, rfl, rfl, RY, RW, RR, HXR⟩ := hrel
    have exr := HXR.out
    by_cases hlt : j < nW
    · have hjl : j < CW.length := by have := RW.out.1; omega
      obtain ⟨b, off, aZ, kZ, rfl, hb, q0, rz⟩ := RW.out.at_ hlt hjl
      obtain ⟨nZ, hnZ⟩ : ∃ nZ, CW[j].length = nZ := ⟨_, rfl⟩
      rw [hnZ] at q0 rz
      have RZ := Lib.hid (show RdO wr aZ nZ kZ CW[j] from ⟨hnZ, rz⟩)
      have dn : decide (j < nW) = true := by rw [decide_eq_true_eq]; exact hlt
      have i0 : (0 : Int) ≤ (j : Int) := by omega
      have i1 : (j : Int) < (nW : Int) := by omega
      have HC := Lib.hid (HST.out j hjl)
      clear rz hnZ
      go_wp2_with fail
      refine (HC.out _ _ _ _ _ _ _ exr RY.out RZ.out).mono ?_; rintro e w1 ⟨hx1, aV, nV, cV, rfl, rV⟩
      have e1 : Ext w w1 := exr.trans hx1
      replace RY := Lib.hid (RY.out.ext hx1)
      replace RW := Lib.hid (RW.out.ext hx1)
      replace RR := Lib.hid (RR.out.ext hx1)
      replace RZ := Lib.hid (RZ.out.ext hx1)
      have RV := Lib.hid rV
      clear hx1 rV
      go_wp2_with fail
      go_roundw
      case rel => exact ⟨j + 1, _, _, _, by omega, rfl, by go_num, RV, RW, RR, Lib.hid e1⟩
      case measure => simp [intOf]; omega
    · obtain rfl : j = nW := by omega
      have hjl := RW.out.1
      have dn : decide (j < j) = false := by rw [decide_eq_false_iff_not]; omega
      rw [← hjl] at RY
      clear hlt
      obtain ⟨nQ, hnQ⟩ : ∃ nQ, nQ = j := ⟨j, rfl⟩
      subst hnQ
      clear hjl
      go_wp2_with fail
      refine (sameTrueG rfl LR.out RY.out RR.out).mono ?_; rintro e w1 ⟨rfl, hx1⟩
      have e1 : Ext w w1 := exr.trans hx1
      replace RY := Lib.hid (RY.out.ext hx1)
      replace RR := Lib.hid (RR.out.ext hx1)
      clear hx1
      go_wp2_with fail
      go_ret
      exact ⟨rfl, e1⟩
end Go.Proofs.YtplbpddkmhmjiaaDoor
