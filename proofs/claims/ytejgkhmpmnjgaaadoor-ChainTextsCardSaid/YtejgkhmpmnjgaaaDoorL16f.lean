/- Layer 16, ChainTexts. -/
import Derived.Test.YtejgkhmpmnjgaaaDoorL16e
namespace Go.Proofs.YtejgkhmpmnjgaaaDoor
open Go.RowKit
set_option maxRecDepth 100000
set_option maxHeartbeats 4000000
set_option linter.unusedSimpArgs false
theorem chainTexts_c (s : ByteArray) (A : Option Addr) (n c : Nat) (ls : List (List Sp)) (w : World) [Tab w] (hs : s.size ≤ maxLen) (h : RdSS w A n c ls) (hls : ∀ l ∈ ls, ∀ x ∈ l, x.2.2.size ≤ maxLen) :
    Calls Tryd.prog 4 #[.string s, .slice A n c] w fun e w' => e = .returned (.bool true) ∧ Ext w w' := by
  obtain ⟨S, FR, FL, hF, hfit⟩ := fitG16 s A n c ls w hs h hls
  have HSH := Lib.hid (fun w' (hx : Ext w w') => have hTb := tab_ext hx; shown16_c w')
  have HFI := Lib.hid hfit
  have HF := Lib.hid hF
  obtain ⟨FN, hFN⟩ : ∃ n, FL.length = n := ⟨_, rfl⟩
  have h20 := hF.n20
  rw [hFN] at HFI h20
  have HFN := Lib.hid hFN
  have hok := hF.ok
  have s0 := hF.sm
  obtain ⟨TX, hTX⟩ : ∃ f : Nat → ByteArray, (fun j => (allL S (FL.take j)).1) = f := ⟨_, rfl⟩
  have hTJ : ∀ j, (allL S (FL.take j)).1 = TX j := fun j => by rw [← hTX]
  have HTX0 : Hid (0 ≤ FN → S = TX 0) := Lib.hid fun _ => by rw [← hTJ 0, List.take_zero]; rfl
  have hts : ∀ j, (TX j).size ≤ 10000 := fun j => by
    rw [← hTJ j]
    have h1 := allL_size (s := S) (ls := FL.take j)
    have h2 := (sumTT_take16 FL j).1
    have := hF.txt; have := hF.sum
    omega
  have HSL : Hid ((sizesL S FL).length = FN + 1) := Lib.hid (by simp [sizesL, hFN])
  have HAT : Hid (∀ j, j ≤ FN → ∀ V, Ext w V → ∀ {x A nn c B d}, LogB V x A nn c B FN d S FR FL → Calls Tryd.prog 11 #[.agg #[.string S, .slice A nn c, .slice B FN d], .int .i64 (j : Int)] V fun e w' => e = .returned (.tuple #[.string (TX j), .int .i64 0]) ∧ Ext V w') := Lib.hid fun j hj V hx _ _ _ _ _ _ hl => by
    have hTb := tab_ext hx
    have h := atP16_c _ _ _ _ _ _ S FR FL (j : Int) V hl.rev hl.seg s0
    have e := (log_at hok hF.lens (j := j) (by omega)).1
    unfold atV at h
    rw [e, hTJ] at h; exact h
  have HCNT : Hid (∀ j, j ≤ FN → ∀ (hj : j < (sizesL S FL).length), ∀ w', Calls Tryd.prog 19 #[.string (TX j)] w' fun e w'' => e = .returned (.int .i64 (sizesL S FL)[j]) ∧ Ext w' w'') := Lib.hid fun j hj hjs w' => by
    obtain ⟨_, ds, g1, g2⟩ := log_at hok hF.lens (j := j) (by omega)
    have h := count_c (TX j) w' (by have := hts j; omega)
    rw [← hTJ j, cntF_some g1, g2, List.getD_eq_getElem?_getD, List.getElem?_eq_getElem hjs, Option.getD_some, hTJ j] at h
    exact h
  have HTO : Hid (∀ j (hj : j < FL.length) V a k kc, Rd V 3 (.slice a k kc) k (spCells FL[j]) → FL[j].length = k → Ext w V → Calls Tryd.prog 20 #[.slice a k kc, .string (TX j)] V fun e w' => e = .returned (.tuple #[.string (TX (j + 1)), .int .i64 0]) ∧ Ext V w') := Lib.hid fun j hj V a k kc hr hk hx => by
    have hTb := tab_ext hx
    have hm := List.getElem_mem hj
    have hsu := s0.sum1 _ hm
    obtain ⟨g1, g2⟩ := log_step hok hF.lens hj
    have h := to_c a k kc FL[j] (TX j) V hr hk (by have := s0.len _ hm; omega) (s0.text _ hm) (by omega) (by have := hts j; omega)
    rw [hTJ, hTJ] at g2
    rw [hTJ] at g1
    unfold toV at h
    rw [g1, ← g2] at h; exact h
  have HSI : Hid (∀ V, Ext w V → ∀ {x A nn c B d}, LogB V x A nn c B FN d S FR FL → Calls Tryd.prog 13 #[.agg #[.string S, .slice A nn c, .slice B FN d]] V fun e w' => Ext V w' ∧ ∃ A n c, e = .returned (.tuple #[.slice A n c, .int .i64 0]) ∧ Rd w' 1 (.slice A n c) n (nV (sizesL S FL))) := Lib.hid fun V hx _ _ _ _ _ _ hl => by
    have hTb := tab_ext hx
    have h := sizesP16_c _ _ _ _ _ _ S FR FL V hl.rev hl.seg s0
    unfold SizesR at h
    rw [hok, if_pos rfl] at h; exact h
  have HM : Hid (∀ V, Ext w V → ∀ {x A nn c B d}, LogB V x A nn c B FN d S FR FL → Calls Tryd.prog 15 #[.agg #[.string S, .slice A nn c, .slice B FN d]] V fun e w' => e = .returned (.int .i64 0) ∧ Ext V w') := Lib.hid fun V hx _ _ _ _ _ _ hl => by
    have hTb := tab_ext hx
    have h := mayP16_c _ _ _ _ _ _ S FR FL V hl.rev hl.seg s0
    rw [hok] at h; exact h
  have HA1 : Hid (∀ V, Ext w V → ∀ {x A nn c B d}, LogB V x A nn c B FN d S FR FL → Calls Tryd.prog 11 #[.agg #[.string S, .slice A nn c, .slice B FN d], .int .i64 ((FN : Int) + 1)] V fun e w' => e = .returned (.tuple #[.string ⟨#[]⟩, .int .i64 6]) ∧ Ext V w') := Lib.hid fun V hx _ _ _ _ _ _ hl => by
    have hTb := tab_ext hx
    have h := atP16_c _ _ _ _ _ _ S FR FL ((FN : Int) + 1) V hl.rev hl.seg s0
    have e : atL S FR FL ((FN : Int) + 1) = (⟨#[]⟩, 6) := by unfold atL; rw [if_neg (by omega), if_pos (by omega)]
    unfold atV at h
    rw [e] at h; exact h
  have HA2 : Hid (∀ V, Ext w V → ∀ {x A nn c B d}, LogB V x A nn c B FN d S FR FL → Calls Tryd.prog 11 #[.agg #[.string S, .slice A nn c, .slice B FN d], .int .i64 (-1)] V fun e w' => e = .returned (.tuple #[.string ⟨#[]⟩, .int .i64 6]) ∧ Ext V w') := Lib.hid fun V hx _ _ _ _ _ _ hl => by
    have hTb := tab_ext hx
    have h := atP16_c _ _ _ _ _ _ S FR FL (-1) V hl.rev hl.seg s0
    have e : atL S FR FL (-1) = (⟨#[]⟩, 6) := by unfold atL; rw [if_neg (by omega), if_pos (by omega)]
    unfold atV at h
    rw [e] at h; exact h
  clear hTX hTJ hts hok s0
  clear h hls hs hfit hF hFN
  go_enter Tryd.func4, Tryd.ntmps4
  go_wp2_with fail
  refine (HSH.out _ (Ext.refl _)).mono ?_; rintro e w1 ⟨rfl, hx1⟩
  have e1 : Ext w w1 := hx1
  clear hx1
  go_wp2_with fail
  refine (HFI.out _ e1).mono ?_; rintro e w2 ⟨hx2, A2, n2, k2, B2, d2, rfl, r2, q2⟩
  have e2 : Ext w w2 := e1.trans hx2
  clear hx2
  obtain ⟨x2, hx2⟩ : ∃ x, w2.heap.size = x := ⟨_, rfl⟩
  obtain ⟨W2, hW2⟩ : ∃ V, w2.alloc (.cells #[.string S, .slice A2 n2 k2, .slice B2 FN d2] 25) = V := ⟨_, rfl⟩
  have hX2 : Ext w2 W2 := by rw [← hW2]; exact (Ext.refl w2).alloc _
  have HB := Lib.hid (show LogB W2 x2 A2 n2 k2 B2 FN d2 S FR FL by rw [← hW2, ← hx2]; exact LogB.new r2 q2)
  have E2 := Lib.hid (e2.trans hX2 : Ext w W2)
  have HW2 := Lib.hid hW2; have HX2 := Lib.hid hx2
  clear hW2 hx2 hX2
  clear r2 q2
  obtain ⟨c0, c1, c2⟩ := HB.out.cells
  go_wp2_with fail
  rw [HW2.out, HX2.out]
  clear c0 c1 c2
  refine (HSI.out _ E2.out HB.out).mono ?_; rintro e w3 ⟨hx3, A3, n3, k3, rfl, r3⟩
  have e3 : Ext w w3 := E2.out.trans hx3
  replace HB := Lib.hid (HB.out.ext hx3)
  have hn3 := nV_len r3
  rw [HSL.out] at hn3
  subst hn3
  have R3 := Lib.hid r3
  clear r3
  obtain ⟨c0, c1, c2⟩ := HB.out.cells
  clear hx3
  have t1 : (((FN + 1 : Nat) : Int) != (FN : Int) + 1) = false := by rw [bne_eq_false_iff_eq]; omega
  go_wp2_with fail
  clear c0 c1 c2
  refine (HM.out _ e3 HB.out).mono ?_; rintro e w4 ⟨rfl, hx4⟩
  have e4 : Ext w w4 := e3.trans hx4
  replace HB := Lib.hid (HB.out.ext hx4)
  replace R3 := Lib.hid (R3.out.ext hx4)
  obtain ⟨c0, c1, c2⟩ := HB.out.cells
  clear hx4
  go_wp2_with fail
  have HE0 := Lib.hid e4
  clear c0 c1 c2
  go_loopw [9, 10] (fun hv iv wr => ∃ (j : Nat) (HH : ByteArray), j ≤ FN + 1 ∧ iv = .int .i64 j ∧ hv = .string HH ∧ Hid (j ≤ FN → HH = TX j) ∧ Hid (Ext w4 wr)) (fun _ iv _ => FN + 1 - (intOf iv).toNat)
  case atStart => exact ⟨0, S, by omega, rfl, rfl, HTX0, Lib.hid (Ext.refl _)⟩
  case round =>
    obtain ⟨j, HH, hj, rfl, rfl, HHH, HX⟩ := hrel
    have HBr := Lib.hid (HB.out.ext HX.out)
    have HEr := Lib.hid (HE0.out.trans HX.out)
    obtain ⟨c0, c1, c2⟩ := HBr.out.cells
    by_cases hlt : j < FN + 1
    · have dn : decide (j < FN + 1) = true := by rw [decide_eq_true_eq]; exact hlt
      have dn2 : (j : Int) < (FN : Int) + 1 := by omega
      obtain rfl := HHH.out (by omega)
      have hjs : j < (sizesL S FL).length := by have := HSL.out; omega
      obtain ⟨b3, o3, rfl, q3, _⟩ := int_at R3.out hlt hjs
      have HCN := HCNT.out j (by omega) hjs
      obtain ⟨sz, hsz⟩ : ∃ z, (sizesL S FL)[j] = z := ⟨_, rfl⟩
      rw [hsz] at q3 HCN
      have HC2 := Lib.hid HCN
      have HAJ := Lib.hid (HAT.out j (by omega))
      have i0 : (0 : Int) ≤ (j : Int) := by omega
      have i1 : (j : Int) < ((FN + 1 : Nat) : Int) := by omega
      have i2 : (j : Int) < (FN : Int) + 1 := by omega
      clear HCN hsz
      by_cases hl2 : j < FN
      · have hjl : j < FL.length := by have := HFN.out; omega
        obtain ⟨bb, off, a, kc, rfl, hbb, q0, hr⟩ := HBr.out.seg.at_ hl2 hjl
        have d2 : decide (j < FN) = true := by rw [decide_eq_true_eq]; exact hl2
        have d3 : (j : Int) < (FN : Int) := by omega
        have HTO0 := HTO.out j hjl
        obtain ⟨l, hl⟩ : ∃ l, FL[j] = l := ⟨_, rfl⟩
        rw [hl] at q0 hr HTO0
        obtain ⟨k, hk⟩ : ∃ k, l.length = k := ⟨_, rfl⟩
        rw [hk] at q0 hr
        have HR := Lib.hid hr; have HK := Lib.hid hk; have HT2 := Lib.hid HTO0
        obtain ⟨NX, hNX⟩ : ∃ x, TX (j + 1) = x := ⟨_, rfl⟩
        have HTN : Hid (j + 1 ≤ FN → NX = TX (j + 1)) := Lib.hid fun _ => hNX.symm
        rw [hNX] at HT2
        clear hNX
        obtain ⟨TJ, hTJ⟩ : ∃ x, TX j = x := ⟨_, rfl⟩
        rw [hTJ] at HT2 HAJ HC2 ⊢
        clear hTJ
        have HQ0 : Hid (∀ V, Ext wr V → V.cell? ⟨bb, off + j, none⟩ = some (.slice a k kc)) := Lib.hid fun V hx => ext_cell hx q0
        have HQ3 : Hid (∀ V, Ext wr V → V.cell? ⟨b3, o3 + j, none⟩ = some (.int .i64 sz)) := Lib.hid fun V hx => ext_cell (HX.out.trans hx) q3
        clear hr hk hl HTO0 q0 q3
        go_wp2_with fail
        refine (HAJ.out _ HEr.out HBr.out).mono ?_; rintro e u1 ⟨rfl, hx1⟩
        have g3 := HQ3.out _ hx1
        clear c0 c1 c2
        go_wp2_with fail
        have hrr := Ext.refl u1
        go_region_held3 (fun V => Ext u1 V ∧ V.cell? ⟨b3, o3 + j, none⟩ = some (.int .i64 sz))
          ((go_split_ands; refine ⟨?_, ?_⟩ <;> first | (exact Ext.drew ‹_›) | (exact Ext.trans ‹_› hxk) | (exact ext_cell hxk ‹_›) | go_keep))
          (first
          | (go_at_call 19; go_split_ands; refine (HC2.out _).mono ?_; rintro e u2 ⟨rfl, hxk⟩)
          | fail)
        go_split_ands
        have hx2 := hx1.trans ‹Ext u1 u2›
        obtain ⟨c0, c1, c2⟩ := (HBr.out.ext hx2).cells
        have g0 := HQ0.out _ hx2
        go_wp2_with fail
        have hTb := tab_ext (HEr.out.trans hx2)
        refine (HT2.out _ _ _ _ (HR.out.ext hx2) HK.out (HEr.out.trans hx2)).mono ?_; rintro e u3 ⟨rfl, hx3⟩
        have HX3 := Lib.hid (HX.out.trans (hx2.trans hx3))
        go_wp2_with fail
        go_roundw
        case rel => exact ⟨j + 1, NX, by omega, by go_num, rfl, HTN, HX3⟩
        case measure => (simp [intOf]; try omega)
      · obtain rfl : j = FN := by omega
        have d2 : decide (j < j) = false := by rw [decide_eq_false_iff_not]; omega
        generalize hTJ : TX j = TJ at *
        have HQ3 : Hid (∀ V, Ext wr V → V.cell? ⟨b3, o3 + j, none⟩ = some (.int .i64 sz)) := Lib.hid fun V hx => ext_cell (HX.out.trans hx) q3
        clear q3 hTJ
        go_wp2_with fail
        refine (HAJ.out _ HEr.out HBr.out).mono ?_; rintro e u1 ⟨rfl, hx1⟩
        have g3 := HQ3.out _ hx1
        clear c0 c1 c2
        go_wp2_with fail
        have hrr := Ext.refl u1
        go_region_held3 (fun V => Ext u1 V ∧ V.cell? ⟨b3, o3 + j, none⟩ = some (.int .i64 sz))
          ((go_split_ands; refine ⟨?_, ?_⟩ <;> first | (exact Ext.drew ‹_›) | (exact Ext.trans ‹_› hxk) | (exact ext_cell hxk ‹_›) | go_keep))
          (first
          | (go_at_call 19; go_split_ands; refine (HC2.out _).mono ?_; rintro e u2 ⟨rfl, hxk⟩)
          | fail)
        go_split_ands
        have hx2 := hx1.trans ‹Ext u1 u2›
        obtain ⟨c0, c1, c2⟩ := (HBr.out.ext hx2).cells
        have HX3 := Lib.hid (HX.out.trans hx2)
        go_wp2_with fail
        go_roundw
        case rel => exact ⟨j + 1, TJ, by omega, by go_num, rfl, Lib.hid fun h => absurd h (by omega), HX3⟩
        case measure => (simp [intOf]; try omega)
    · obtain rfl : j = FN + 1 := by omega
      have dn : decide (FN + 1 < FN + 1) = false := by rw [decide_eq_false_iff_not]; omega
      go_wp2_with fail
      refine (HA1.out _ HEr.out HBr.out).mono ?_; rintro e u1 ⟨rfl, hx1⟩
      obtain ⟨b0, b1, b2⟩ := (HBr.out.ext hx1).cells
      have hx1e := HEr.out.trans hx1
      go_wp2_with fail
      refine (HA2.out _ hx1e (HBr.out.ext hx1)).mono ?_; rintro e u2 ⟨rfl, hx2⟩
      go_wp2_with fail
      go_ret
      exact ⟨rfl, hx1e.trans hx2⟩
end Go.Proofs.YtejgkhmpmnjgaaaDoor
