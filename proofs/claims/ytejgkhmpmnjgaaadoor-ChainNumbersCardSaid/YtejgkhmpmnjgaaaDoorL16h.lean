/- Layer 16, ChainNumbers. -/
import Derived.Test.YtejgkhmpmnjgaaaDoorL16e
namespace Go.Proofs.YtejgkhmpmnjgaaaDoor
open Go.RowKit
set_option maxRecDepth 100000
set_option maxHeartbeats 4000000
set_option linter.unusedSimpArgs false
theorem rises_f16 (f : Nat → Int) (n : Nat) : ∀ (a : Nat) (was : Int), was < f a → (∀ i, a ≤ i → f i < f (i + 1)) → (∀ i, i < a + n → f i ≤ 268435455) → rises was ((List.range' a n).map f) := by
  induction n with
  | zero => intro a was _ _ _; exact trivial
  | succ n ih =>
    intro a was h1 h2 h3
    exact ⟨h1, h3 a (by omega), ih (a + 1) _ (h2 a (Nat.le_refl _)) (fun i hi => h2 i (by omega)) fun i hi => h3 i (by omega)⟩
theorem rowS_ok16 (zs : List Int) (h : ∀ z ∈ zs, 0 ≤ z ∧ z ≤ 65535) (n : Nat) (hn : n ≤ 30) (h0 : 0 < n) : rowOk (rowS zs n) := by
  refine ⟨fun e => by have := rowS_len zs n; rw [e] at this; simp at this; omega, by rw [rowS_len]; omega, ?_⟩
  unfold rowS
  rw [List.range_eq_range']
  exact rises_f16 (fun i => atS zs (i + 1)) n 0 (-1) (by have := (atS_le zs h 0).2.2; exact this) (fun i _ => (atS_le zs h (i + 1)).2.2) fun i hi => by have := (atS_le zs h (i + 1)).2.1; show atS zs (i + 1) ≤ _; omega
theorem chainNumbers_c (s : ByteArray) (A : Option Addr) (n c : Nat) (ls : List (List Sp)) (ZA : Option Addr) (N ZC : Nat) (zs : List Int) (w : World) [Tab w] (hs : s.size ≤ maxLen) (h : RdSS w A n c ls) (hls : ∀ l ∈ ls, ∀ x ∈ l, x.2.2.size ≤ maxLen) (hz : IsInts .u8 w ZA N ZC zs) :
    Calls Tryd.prog 8 #[.string s, .slice A n c, .slice ZA N ZC] w fun e w' => e = .returned (.bool true) ∧ Ext w w' := by
  obtain ⟨S, FR, FL, hF, hfit⟩ := fitG16 s A n c ls w hs h hls
  have HSH := Lib.hid (fun w' (hx : Ext w w') => have hTb := tab_ext hx; shown16_c w')
  have HFI := Lib.hid hfit
  have HF := Lib.hid hF
  obtain ⟨FN, hFN⟩ : ∃ n, FL.length = n := ⟨_, rfl⟩
  have h20 := hF.n20
  rw [hFN] at HFI h20
  have HFN := Lib.hid hFN
  obtain ⟨ii, hi', hz0', hz1', hz2'⟩ := info_parts info_int
  obtain ⟨zl, zc, zr, zw⟩ := hz
  have hzb : ∀ z ∈ zs, 0 ≤ z ∧ z ≤ 65535 := fun z hz => by have := bounds_u8 (zw z hz); omega
  have HZ := Lib.hid zr; have HZN := Lib.hid zl
  have HZB : Hid (∀ z ∈ zs, 0 ≤ z ∧ z ≤ 255) := Lib.hid fun z hz => bounds_u8 (zw z hz)
  have HAS : Hid (∀ j, -1 ≤ atS zs j ∧ (j ≤ 21 → atS zs j ≤ 1376256)) := Lib.hid fun j => by have h := atS_le zs hzb j; exact ⟨h.1, fun hj => by omega⟩
  have hzN : N ≤ 9223372036854775807 := by
    have h1 := zr.1
    obtain ⟨_, A', c', hv, hc, _⟩ := zr
    injection hv with e1 e2 e3
    unfold maxLen at zc
    omega
  have HFR : Hid (FR.length = FN + 1) := Lib.hid (by rw [hF.rev, revL_len, hFN])
  have hok := hF.ok
  have s0 := hF.sm
  obtain ⟨FR2, hFR2⟩ : ∃ r, rowS zs (FN + 1) = r := ⟨_, rfl⟩
  have HFR2 := Lib.hid hFR2
  have hl2 : FR2.length = FN + 1 := by rw [← hFR2, rowS_len]
  have hok2 : logE S FR2 FL = 0 := by
    obtain ⟨cs, q1, q2, _, _, q5⟩ := logE_ok hok
    exact logE_of q1 q2 (by rw [← hFR2]; exact rowS_ok16 zs hzb _ (by omega) (by omega)) (by rw [hl2, hFN]) q5
  have s1 : SmL S FR2 FL := ⟨s0.base, by omega, s0.segs, s0.len, s0.sum⟩
  obtain ⟨TX, hTX⟩ : ∃ f : Nat → ByteArray, (fun j => (allL S (FL.take j)).1) = f := ⟨_, rfl⟩
  have hTJ : ∀ j, (allL S (FL.take j)).1 = TX j := fun j => by rw [← hTX]
  have HSL : Hid ((sizesL S FL).length ≤ 1000) := Lib.hid (by simp [sizesL, hFN]; omega)
  have HAT : Hid (∀ j, j ≤ FN → ∀ V, Ext w V → ∀ {x A nn c B d}, LogB V x A nn c B FN d S FR FL → Calls Tryd.prog 11 #[.agg #[.string S, .slice A nn c, .slice B FN d], .int .i64 (j : Int)] V fun e w' => e = .returned (.tuple #[.string (TX j), .int .i64 0]) ∧ Ext V w') := Lib.hid fun j hj V hx _ _ _ _ _ _ hl => by
    have hTb := tab_ext hx
    have h := atP16_c _ _ _ _ _ _ S FR FL (j : Int) V hl.rev hl.seg s0
    have e := (log_at hok hF.lens (j := j) (by omega)).1
    unfold atV at h
    rw [e, hTJ] at h; exact h
  have HAU : Hid (∀ j, j ≤ FN → ∀ V, Ext w V → ∀ {x A nn c B d}, LogB V x A nn c B FN d S FR2 FL → Calls Tryd.prog 11 #[.agg #[.string S, .slice A nn c, .slice B FN d], .int .i64 (j : Int)] V fun e w' => e = .returned (.tuple #[.string (TX j), .int .i64 0]) ∧ Ext V w') := Lib.hid fun j hj V hx _ _ _ _ _ _ hl => by
    have hTb := tab_ext hx
    have h := atP16_c _ _ _ _ _ _ S FR2 FL (j : Int) V hl.rev hl.seg s1
    have e := (log_at hok2 hF.lens (j := j) (by omega)).1
    unfold atV at h
    rw [e, hTJ] at h; exact h
  have HSI : Hid (∀ V, Ext w V → ∀ {x A nn c B d}, LogB V x A nn c B FN d S FR FL → Calls Tryd.prog 13 #[.agg #[.string S, .slice A nn c, .slice B FN d]] V fun e w' => Ext V w' ∧ ∃ A n c, e = .returned (.tuple #[.slice A n c, .int .i64 0]) ∧ Rd w' 1 (.slice A n c) n (nV (sizesL S FL))) := Lib.hid fun V hx _ _ _ _ _ _ hl => by
    have hTb := tab_ext hx
    have h := sizesP16_c _ _ _ _ _ _ S FR FL V hl.rev hl.seg s0
    unfold SizesR at h
    rw [hok, if_pos rfl] at h; exact h
  have HSJ : Hid (∀ V, Ext w V → ∀ {x A nn c B d}, LogB V x A nn c B FN d S FR2 FL → Calls Tryd.prog 13 #[.agg #[.string S, .slice A nn c, .slice B FN d]] V fun e w' => Ext V w' ∧ ∃ A n c, e = .returned (.tuple #[.slice A n c, .int .i64 0]) ∧ Rd w' 1 (.slice A n c) n (nV (sizesL S FL))) := Lib.hid fun V hx _ _ _ _ _ _ hl => by
    have hTb := tab_ext hx
    have h := sizesP16_c _ _ _ _ _ _ S FR2 FL V hl.rev hl.seg s1
    unfold SizesR at h
    rw [hok2, if_pos rfl] at h; exact h
  have HMD : Hid (∀ V, Ext w V → ∀ {x A nn c B d}, LogB V x A nn c B FN d S FR2 FL → Calls Tryd.prog 15 #[.agg #[.string S, .slice A nn c, .slice B FN d]] V fun e w' => e = .returned (.int .i64 0) ∧ Ext V w') := Lib.hid fun V hx _ _ _ _ _ _ hl => by
    have hTb := tab_ext hx
    have h := mayP16_c _ _ _ _ _ _ S FR2 FL V hl.rev hl.seg s1
    rw [hok2] at h; exact h
  clear hTX hTJ hok hok2 s0 s1 hl2 hFR2 zr zw zl hzb
  clear h hls hs hfit hF hFN
  go_enter Tryd.func8, Tryd.ntmps8
  go_wp2_with fail
  refine (HSH.out _ (Ext.refl _)).mono ?_; rintro e w1 ⟨rfl, hx1⟩
  have e1 : Ext w w1 := hx1
  clear hx1
  go_wp2_with fail
  refine (HFI.out _ e1).mono ?_; rintro e w2 ⟨hx2, A2, n2, k2, B2, d2, rfl, r2, q2⟩
  have e2 : Ext w w2 := e1.trans hx2
  clear hx2
  obtain ⟨x2, hx2⟩ : ∃ x, w2.heap.size = x := ⟨_, rfl⟩
  obtain ⟨W2, hW2⟩ : ∃ V, w2.alloc (.cells #[.string S, .slice A2 n2 k2, .slice B2 FN d2] 25) = V := ⟨_, rfl⟩
  have hX2 : Ext w2 W2 := by rw [← hW2]; exact (Ext.refl w2).alloc _
  have HB := Lib.hid (show LogB W2 x2 A2 n2 k2 B2 FN d2 S FR FL by rw [← hW2, ← hx2]; exact LogB.new r2 q2)
  have E2 := Lib.hid (e2.trans hX2 : Ext w W2)
  have HW2 := Lib.hid hW2; have HX2 := Lib.hid hx2
  clear hW2 hx2 hX2
  have hn2 := nV_len r2
  rw [HFR.out] at hn2
  subst hn2
  clear r2 q2
  obtain ⟨x9, hx9⟩ : ∃ x, W2.heap.size = x := ⟨_, rfl⟩
  obtain ⟨W9, hW9⟩ : ∃ V, W2.alloc (.cells #[.string S, .slice none 0 0, .slice B2 FN d2] 25) = V := ⟨_, rfl⟩
  have hX9 : Ext W2 W9 := by rw [← hW9]; exact (Ext.refl W2).alloc _
  have hB9 : BxT 25 W9 x9 #[.string S, .slice none 0 0, .slice B2 FN d2] := by rw [← hW9, ← hx9]; exact BxT.new W2 25 _
  have hge : W2.heap.size ≤ x9 := by omega
  have hx29 : x2 + 1 = x9 := by rw [← hx9, ← HW2.out, size_alloc, HX2.out]
  have HX29 := Lib.hid hx29
  have HB9 := Lib.hid hB9; have HX9 := Lib.hid hX9; have HW9 := Lib.hid hW9; have HXE9 := Lib.hid hx9
  clear hB9 hX9 hW9 hx9 hx29
  obtain ⟨c0, c1, c2⟩ := HB.out.cells
  go_wp2_with fail
  rw [HW2.out, HX2.out, HX29.out, HW9.out]
  clear c0 c1 c2
  go_loopw [10, 11] (fun av iv wr => ∃ (j : Nat) (vr : Value), j ≤ FN + 1 ∧ iv = .int .i64 j ∧ av = .int .i64 (atS zs j + 1) ∧ Hid (BxT 25 wr x9 #[.string S, vr, .slice B2 FN d2]) ∧ Hid (Own wr W2.heap.size 3 1 vr j (nV (rowS zs j))) ∧ Hid (Ext W2 wr)) (fun _ iv _ => FN + 1 - (intOf iv).toNat)
  case atStart => exact ⟨0, _, by omega, rfl, rfl, HB9, Lib.hid (Own.nil _ _ _ _ HX9.out.size), HX9⟩
  case round =>
    obtain ⟨j, vr, hj, rfl, rfl, HBD, HO, HX⟩ := hrel
    have HBr := Lib.hid (HB.out.ext HX.out)
    have HEr := Lib.hid (E2.out.trans HX.out)
    obtain ⟨c0, c1, c2⟩ := HBr.out.cells
    obtain ⟨va, vc, rfl, _⟩ := HO.out.len
    by_cases hlt : j < FN + 1
    · have dn : decide (j < FN + 1) = true := by rw [decide_eq_true_eq]; exact hlt
      have dn2 : (j : Int) < (FN : Int) + 1 := by omega
      have hat := HAS.out j
      have hat1 := HAS.out (j + 1)
      have hstep : atS zs (j + 1) = atS zs j + 1 + zs.getD j 0 := rfl
      have e0 : BxT 25 wr x9 #[.string S, .slice va j vc, .slice B2 FN d2] := HBD.out
      have d0 : wr.cell? ⟨x9, 1, none⟩ = some (.slice va j vc) := e0.cell rfl
      obtain ⟨at0, ha0⟩ : ∃ x, atS zs j = x := ⟨_, rfl⟩
      obtain ⟨at1, ha1⟩ : ∃ x, atS zs (j + 1) = x := ⟨_, rfl⟩
      rw [ha0] at hat hstep ⊢
      rw [ha1] at hat1 hstep
      have HRW : Hid (rowS zs (j + 1) = rowS zs j ++ [at1]) := Lib.hid (by rw [rowS_succ, ha1])
      have HA1 : Hid (at1 + 1 = atS zs (j + 1) + 1) := Lib.hid (by rw [ha1])
      obtain ⟨v', w', happ, hown', hbel', hoth⟩ := app_newo (P := Tryd.prog) 22 22 3 ii _ 1 8 Tryd.underlying22 hi' hz0' hz1' hz2' rfl (by omega) (by omega)
        HX.out HO.out (by omega) 1 #[.int .i64 at1] rfl (by omega) (by simp [Value.oneCell']) 3
      obtain ⟨wa, wc, rfl, _⟩ := hown'.len
      have HAP := Lib.hid happ
      have e1 : BxT 25 w' x9 #[.string S, .slice va j vc, .slice B2 FN d2] := hoth.2 x9 _ _ _ (by decide) e0
      have d1 : w'.cell? ⟨x9, 1, none⟩ = some (.slice va j vc) := e1.cell rfl
      have f1 := e1.frozen 1
      have HB3 := Lib.hid (e1.set 1 (.slice wa (j + 1) wc))
      have HO3 : Hid (Own (w'.setCell ⟨x9, 1, none⟩ (.slice wa (j + 1) wc)) W2.heap.size 3 1 (.slice wa (j + 1) wc) (j + 1) (nV (rowS zs (j + 1)))) := Lib.hid (by
        rw [HRW.out, nV_append]
        exact own_cell_other (a := ⟨x9, 1, none⟩) hown' e1 (by decide) _)
      have HX3 : Hid (Ext W2 (w'.setCell ⟨x9, 1, none⟩ (.slice wa (j + 1) wc))) := Lib.hid (Below.setCell (p := ⟨x9, 1, none⟩) hbel' hge _)
      clear happ hown' hbel' hoth e0 e1 ha0 ha1
      by_cases hs2 : j < N
      · have hjz : j < zs.length := by have := HZN.out; omega
        obtain ⟨b, off, u, rfl, hb, hu, q0⟩ := (HZ.out.ext HEr.out).cell hs2
        rw [List.getElem?_map, List.getElem?_eq_getElem hjz] at hu
        injection hu with hu
        have hzj : zs.getD j 0 = zs[j] := by simp [hjz]
        rw [hzj] at hstep
        have hzb := HZB.out _ (List.getElem_mem hjz)
        obtain ⟨z, hz⟩ : ∃ z, zs[j] = z := ⟨_, rfl⟩
        rw [hz] at hu hstep hzb
        subst hu
        have ds : decide (j < N) = true := by rw [decide_eq_true_eq]; exact hs2
        have i0 : (0 : Int) ≤ (j : Int) := by omega
        have i1 : (j : Int) < (N : Int) := by omega
        have hsum : at0 + 1 + z = at1 := by omega
        clear hstep hz hzj
        go_wp2_with (at_builtin; refine wpList_append_run rfl rfl HAP.out rfl rfl ?_)
        go_roundw
        case rel => exact ⟨j + 1, _, by omega, by go_num, by rw [HA1.out], HB3, HO3, HX3⟩
        case measure => (simp [intOf]; try omega)
      · have hzj : zs.getD j 0 = 0 := by rw [List.getD_eq_getElem?_getD, List.getElem?_eq_none (by have := HZN.out; omega)]; rfl
        rw [hzj, Int.add_zero] at hstep
        have ds : decide (j < N) = false := by rw [decide_eq_false_iff_not]; exact hs2
        have hsum : at0 + 1 = at1 := hstep.symm
        clear hstep hzj
        go_wp2_with (at_builtin; refine wpList_append_run rfl rfl HAP.out rfl rfl ?_)
        go_roundw
        case rel => exact ⟨j + 1, _, by omega, by go_num, by rw [HA1.out], HB3, HO3, HX3⟩
        case measure => (simp [intOf]; try omega)
    · obtain rfl : j = FN + 1 := by omega
      have dn : decide (FN + 1 < FN + 1) = false := by rw [decide_eq_false_iff_not]; omega
      have HD : Hid (LogB wr x9 va (FN + 1) vc B2 FN d2 S FR2 FL) := Lib.hid ⟨HBD.out, by rw [← HFR2.out]; exact HO.out.rd, HBr.out.seg⟩
      obtain ⟨V0, hV0⟩ : ∃ V0 : World, V0 = wr := ⟨wr, rfl⟩
      subst hV0
      clear HBD HO
      generalize atS zs (FN + 1) + 1 = az at *
      go_wp2_with fail
      refine (HSI.out _ HEr.out HBr.out).mono ?_; rintro e u1 ⟨hx1, A3, n3, k3, rfl, r3⟩
      obtain ⟨d0, d1, d2'⟩ := (HD.out.ext hx1).cells
      have hx1e := HEr.out.trans hx1
      have R3 := Lib.hid r3
      clear c0 c1 c2 r3
      go_wp2_with fail
      refine (HSJ.out _ hx1e (HD.out.ext hx1)).mono ?_; rintro e u2 ⟨hx2, A4, n4, k4, rfl, r4⟩
      have HX12 := Lib.hid (hx1.trans hx2)
      have HE2 := Lib.hid (hx1e.trans hx2)
      have R3b := Lib.hid (R3.out.ext hx2); have R4 := Lib.hid r4
      clear d0 d1 d2' r4 hx2 hx1 hx1e R3
      go_wp2_with fail
      go_loopw [16] (fun iv wr => ∃ j : Nat, j ≤ FN + 1 ∧ iv = .int .i64 j ∧ Hid (Ext u2 wr)) (fun iv _ => FN + 1 - (intOf iv).toNat)
      case atStart => exact ⟨0, by omega, rfl, Lib.hid (Ext.refl _)⟩
      case round =>
        obtain ⟨j, hj, rfl, HXX⟩ := hrel
        have HC2 := Lib.hid (HBr.out.ext (HX12.out.trans HXX.out)); have HD2 := Lib.hid (HD.out.ext (HX12.out.trans HXX.out))
        have HE3 := Lib.hid (HE2.out.trans HXX.out)
        obtain ⟨c0, c1, c2⟩ := HC2.out.cells
        obtain ⟨d0, d1, d2'⟩ := HD2.out.cells
        by_cases hlt : j ≤ FN
        · have dn : decide (j ≤ FN) = true := by rw [decide_eq_true_eq]; exact hlt
          have dn2 : (j : Int) ≤ (FN : Int) := by omega
          have HA := Lib.hid (HAT.out j hlt); have HB2 := Lib.hid (HAU.out j hlt)
          obtain ⟨TJ, hTJ⟩ : ∃ t, TX j = t := ⟨_, rfl⟩
          rw [hTJ] at HA HB2
          clear hTJ
          go_wp2_with fail
          refine (HA.out _ HE3.out HC2.out).mono ?_; rintro e y1 ⟨rfl, hy1⟩
          obtain ⟨m0, m1, m2⟩ := (HD2.out.ext hy1).cells
          clear c0 c1 c2 d0 d1 d2'
          go_wp2_with fail
          refine (HB2.out _ (HE3.out.trans hy1) (HD2.out.ext hy1)).mono ?_; rintro e y2 ⟨rfl, hy2⟩
          have HY := Lib.hid (HXX.out.trans (hy1.trans hy2))
          go_wp2_with fail
          go_roundw
          case rel => exact ⟨j + 1, by omega, by go_num, HY⟩
          case measure => (simp [intOf]; try omega)
        · obtain rfl : j = FN + 1 := by omega
          have dn : decide (FN + 1 ≤ FN) = false := by rw [decide_eq_false_iff_not]; omega
          have dn2 : ¬ (FN : Int) + 1 ≤ (FN : Int) := by omega
          go_wp2_with fail
          refine (HMD.out _ HE3.out HD2.out).mono ?_; rintro e y1 ⟨rfl, hy1⟩
          go_wp2_with fail
          refine (sameTrue15 rfl HSL.out (R3b.out.ext (HXX.out.trans hy1)) (R4.out.ext (HXX.out.trans hy1))).mono ?_; rintro e y2 ⟨rfl, hy2⟩
          go_wp2_with fail
          go_ret
          exact ⟨rfl, HE3.out.trans (hy1.trans hy2)⟩
end Go.Proofs.YtejgkhmpmnjgaaaDoor
