/- Layer 16, the reference: May, At, Sizes, Fit. -/
import Derived.Test.YtejgkhmpmnjgaaaDoorM16
import Derived.Test.YtejgkhmpmnjgaaaDoorC15
import Derived.Test.YtejgkhmpmnjgaaaDoorC1h
import Derived.Test.YtejgkhmpmnjgaaaDoorFr
namespace Go.Proofs.YtejgkhmpmnjgaaaDoor
open Go.RowKit
set_option maxRecDepth 100000
set_option maxHeartbeats 4000000
set_option linter.unusedSimpArgs false
theorem mayR16_c (A : Option Addr) (n c : Nat) (B : Option Addr) (m d : Nat) (s : ByteArray) (rv : List Int) (ls : List (List Sp)) (w : World) (h1 : Rd w 1 (.slice A n c) n (nV rv)) (h2 : RdSS w B m d ls) (hs : SmL s rv ls) :
    Calls Tryd.prog 16 #[.agg #[.string s, .slice A n c, .slice B m d]] w fun e w' => e = .returned (.int .i64 (logE s rv ls)) ∧ Ext w w' := by
  have hm := h2.1; have hnl := nV_len h1
  have HV := Lib.hid (fun w' => validR_c s w' (by have := hs.base; omega))
  have HC := Lib.hid (fun w' => countR_c s w' (by have := hs.base; omega))
  have HRI := Lib.hid (fun w' (hx : Ext w w') => risesR_c A n c rv w' (h1.ext hx) (by have := hs.revs; omega))
  have HS := Lib.hid hs; have H2 := Lib.hid h2; have HM := Lib.hid hm
  obtain ⟨x, hx⟩ : ∃ x, w.heap.size = x := ⟨_, rfl⟩
  obtain ⟨W1, hW1⟩ : ∃ W, w.alloc (.cells #[.string s, .slice A n c, .slice B m d] 25) = W := ⟨_, rfl⟩
  have hX1 : Ext w W1 := by rw [← hW1]; exact (Ext.refl w).alloc _
  have hB1 : BxT 25 W1 x #[.string s, .slice A n c, .slice B m d] := by rw [← hW1, ← hx]; exact BxT.new w 25 _
  have HW1 := Lib.hid hW1; have HXE := Lib.hid hx; have HX1 := Lib.hid hX1; have HB1 := Lib.hid hB1
  have c0 : W1.cell? ⟨x, 0, none⟩ = some (.string s) := hB1.cell rfl
  have c1 : W1.cell? ⟨x, 1, none⟩ = some (.slice A n c) := hB1.cell rfl
  have c2 : W1.cell? ⟨x, 2, none⟩ = some (.slice B m d) := hB1.cell rfl
  clear hW1 hx hX1 hB1
  by_cases hd : dec (bs s) = none
  · rw [logE_3 hd]
    rw [hd] at HV
    clear hd h1 h2 hs
    go_enter Tryd.func16, Tryd.ntmps16
    go_wp2_with fail
    rw [HW1.out, HXE.out]
    refine (HV.out _).mono ?_; rintro e w1 ⟨rfl, hx1⟩
    go_wp2_with fail
    go_ret
    exact ⟨rfl, HX1.out.trans hx1⟩
  · have hv : (dec (bs s)).isSome = true := by
      cases h : dec (bs s) with
      | none => exact absurd h hd
      | some _ => rfl
    rw [hv] at HV
    by_cases h4 : 1048576 < cntF (bs s)
    · rw [logE_4 hd h4]
      clear hd hv h1 h2 hs
      generalize cntF (bs s) = K at *
      go_enter Tryd.func16, Tryd.ntmps16
      go_wp2_with fail
      rw [HW1.out, HXE.out]
      refine (HV.out _).mono ?_; rintro e w1 ⟨rfl, hx1⟩
      have c0 : w1.cell? ⟨x, 0, none⟩ = some (.string s) := (HB1.out.ext hx1).cell rfl; have c1 : w1.cell? ⟨x, 1, none⟩ = some (.slice A n c) := (HB1.out.ext hx1).cell rfl; have c2 : w1.cell? ⟨x, 2, none⟩ = some (.slice B m d) := (HB1.out.ext hx1).cell rfl
      go_wp2_with fail
      refine (HC.out _).mono ?_; rintro e w2 ⟨rfl, hx2⟩
      go_wp2_with fail
      go_ret
      exact ⟨rfl, (HX1.out.trans hx1).trans hx2⟩
    · by_cases h6 : rowOk rv ∧ rv.length = ls.length + 1
      · rw [logE_s hd h4 h6]
        obtain ⟨o1, o2⟩ := h6
        rw [decide_eq_true o1] at HRI
        have hmb : m ≤ 1000000 := by have := hs.segs; omega
        have hnm : n = m + 1 := by omega
        subst hnm
        have hc0 : 0 ≤ cntF (bs s) := by
          obtain ⟨cs, hcs⟩ := Option.ne_none_iff_exists'.1 hd
          rw [cntF_some hcs]; omega
        obtain ⟨K, hK⟩ : ∃ K, cntF (bs s) = K := ⟨_, rfl⟩
        rw [hK] at HC h4 hc0 ⊢
        obtain ⟨EE, hEE⟩ : ∃ E, segE K ls = E := ⟨_, rfl⟩
        have HE0 : Hid (segE K (ls.drop 0) = EE) := Lib.hid (by rw [List.drop_zero]; exact hEE)
        rw [hEE]
        clear hd hv h1 h2 hs hK hEE o1 o2 hm hnl
        go_enter Tryd.func16, Tryd.ntmps16
        go_wp2_with fail
        rw [HW1.out, HXE.out]
        refine (HV.out _).mono ?_; rintro e w1 ⟨rfl, hx1⟩
        have c0 : w1.cell? ⟨x, 0, none⟩ = some (.string s) := (HB1.out.ext hx1).cell rfl; have c1 : w1.cell? ⟨x, 1, none⟩ = some (.slice A (m + 1) c) := (HB1.out.ext hx1).cell rfl; have c2 : w1.cell? ⟨x, 2, none⟩ = some (.slice B m d) := (HB1.out.ext hx1).cell rfl
        go_wp2_with fail
        refine (HC.out _).mono ?_; rintro e w2 ⟨rfl, hx2⟩
        have hx12 := hx1.trans hx2
        have c0b : w2.cell? ⟨x, 0, none⟩ = some (.string s) := (HB1.out.ext hx12).cell rfl; have c1b : w2.cell? ⟨x, 1, none⟩ = some (.slice A (m + 1) c) := (HB1.out.ext hx12).cell rfl; have c2b : w2.cell? ⟨x, 2, none⟩ = some (.slice B m d) := (HB1.out.ext hx12).cell rfl
        go_wp2_with fail
        refine (HRI.out _ (HX1.out.trans hx12)).mono ?_; rintro e w3 ⟨rfl, hx3⟩
        have hx13 := hx12.trans hx3
        have c0c : w3.cell? ⟨x, 0, none⟩ = some (.string s) := (HB1.out.ext hx13).cell rfl; have c1c : w3.cell? ⟨x, 1, none⟩ = some (.slice A (m + 1) c) := (HB1.out.ext hx13).cell rfl; have c2c : w3.cell? ⟨x, 2, none⟩ = some (.slice B m d) := (HB1.out.ext hx13).cell rfl
        have HX13 := Lib.hid hx13
        clear hx1 hx2 hx12 hx3 c0 c1 c2 c0b c1b c2b
        go_wp2_with fail
        clear c0c c1c c2c
        go_loopw [3, 4] (fun nv iv wr => ∃ (j : Nat) (N : Int), j ≤ m ∧ iv = .int .i64 j ∧ nv = .int .i64 N ∧ 0 ≤ N ∧ N ≤ 1048576 ∧ Hid (segE N (ls.drop j) = EE) ∧ Hid (Ext W1 wr)) (fun _ iv _ => m - (intOf iv).toNat)
        case atStart => exact ⟨0, K, by omega, rfl, rfl, by omega, by omega, HE0, HX13⟩
        case round =>
          clear HE0 HX13 HC HV HRI
          obtain ⟨j, N, hj, rfl, rfl, hN0, hN1, HE, HX⟩ := hrel
          have c0 : wr.cell? ⟨x, 0, none⟩ = some (.string s) := (HB1.out.ext HX.out).cell rfl; have c1 : wr.cell? ⟨x, 1, none⟩ = some (.slice A (m + 1) c) := (HB1.out.ext HX.out).cell rfl; have c2 : wr.cell? ⟨x, 2, none⟩ = some (.slice B m d) := (HB1.out.ext HX.out).cell rfl
          by_cases hlt : j < m
          · have hjl : j < ls.length := by have := HM.out; omega
            obtain ⟨bb, off, a, kc, rfl, hbb, q0, hr⟩ := (H2.out.ext (HX1.out.trans HX.out)).at_ hlt hjl
            have dn : decide (j < m) = true := by rw [decide_eq_true_eq]; exact hlt
            have i0 : (0 : Int) ≤ (j : Int) := by omega
            have i1 : (j : Int) < (m : Int) := by omega
            have hlen := HS.out.len _ (List.getElem_mem hjl)
            have htx := HS.out.text _ (List.getElem_mem hjl)
            have hsu := HS.out.sum1 _ (List.getElem_mem hjl)
            have hst := segE_at (n := N) hjl
            rw [HE.out] at hst
            obtain ⟨l, hl⟩ : ∃ l, ls[j] = l := ⟨_, rfl⟩
            rw [hl] at q0 hr hlen htx hsu hst
            obtain ⟨k, hk⟩ : ∃ k, l.length = k := ⟨_, rfl⟩
            rw [hk] at q0 hr
            have HST := Lib.hid hst
            have HMA := Lib.hid (fun w' (hx : Ext wr w') => mayR4_c a k kc l w' (hr.ext hx) hk (by omega) htx)
            have HIN := Lib.hid (fun w' (hx : Ext wr w') => inR4_c a k kc l w' (hr.ext hx) hk (by omega))
            have HOU := Lib.hid (fun w' (hx : Ext wr w') => outR4_c a k kc l w' (hr.ext hx) hk (by omega) htx)
            have HIS := Lib.hid (fun w' (hx : Ext wr w') => isR5_c a k kc l w' (hr.ext hx) hk (by omega))
            have HQ : Hid (∀ W, Ext wr W → W.cell? ⟨bb, off + j, none⟩ = some (.slice a k kc)) := Lib.hid fun W hx => ext_cell hx q0
            have HBW : Hid (BxT 25 wr x #[.string s, .slice A (m + 1) c, .slice (some ⟨bb, off, none⟩) m d]) := Lib.hid (HB1.out.ext HX.out)
            have HXW := Lib.hid (HX1.out.trans HX.out)
            clear hst hr hl H2 HB1
            by_cases hma : mayL l = 0
            · rw [hma] at HMA
              obtain ⟨hall, in0, in1⟩ := mayL_all hma (by omega)
              have hok : ∀ x ∈ l, OkW x := fun x hx => okW_of_may (hall x hx)
              obtain ⟨ou0, ou1⟩ := outL_le l hok
              have hwi : wrap64 (inL l) = inL l := by unfold wrap64; omega
              have hwo : wrap64 (outL l) = outL l := by unfold wrap64; omega
              rw [hwi] at HIN; rw [hwo] at HOU
              have HNI := Lib.hid (isN_iff16 (okW_pos l hok))
              have hS1 := HST.out
              rw [if_neg (by omega)] at hS1
              have HS1 := Lib.hid hS1
              clear hma hall hok hwi hwo hS1 HST hlen htx
              obtain ⟨IN, hIN⟩ : ∃ v, inL l = v := ⟨_, rfl⟩
              obtain ⟨OU, hOU⟩ : ∃ v, outL l = v := ⟨_, rfl⟩
              rw [hIN] at HIN HS1 in0 in1 ou1; rw [hOU] at HOU HS1 ou0 ou1
              clear hIN hOU
              by_cases hin : IN = N
              · subst hin
                by_cases hou : 1048576 < OU
                · have HR : Hid (EE = 4) := Lib.hid (by have h := HS1.out; rw [if_neg (by omega), if_pos hou] at h; exact h)
                  clear HS1
                  go_wp2_with fail
                  refine (HMA.out _ (Ext.refl _)).mono ?_; rintro e w4 ⟨rfl, hx4⟩
                  have c0b : w4.cell? ⟨x, 0, none⟩ = some (.string s) := (HBW.out.ext hx4).cell rfl; have c1b : w4.cell? ⟨x, 1, none⟩ = some (.slice A (m + 1) c) := (HBW.out.ext hx4).cell rfl; have c2b : w4.cell? ⟨x, 2, none⟩ = some (.slice (some ⟨bb, off, none⟩) m d) := (HBW.out.ext hx4).cell rfl
                  have q4 := HQ.out _ hx4
                  go_wp2_with fail
                  refine (HIN.out _ hx4).mono ?_; rintro e w5 ⟨rfl, hx5⟩
                  have hx45 := hx4.trans hx5
                  have c0d : w5.cell? ⟨x, 0, none⟩ = some (.string s) := (HBW.out.ext hx45).cell rfl; have c1d : w5.cell? ⟨x, 1, none⟩ = some (.slice A (m + 1) c) := (HBW.out.ext hx45).cell rfl; have c2d : w5.cell? ⟨x, 2, none⟩ = some (.slice (some ⟨bb, off, none⟩) m d) := (HBW.out.ext hx45).cell rfl
                  have q5 := HQ.out _ hx45
                  go_wp2_with fail
                  refine (HOU.out _ hx45).mono ?_; rintro e w6 ⟨rfl, hx6⟩
                  go_wp2_with fail
                  go_ret
                  rw [HR.out]
                  exact ⟨rfl, HXW.out.trans (hx45.trans hx6)⟩
                · have hS2 := HS1.out
                  rw [if_neg (by omega), if_neg hou] at hS2
                  have HS2 := Lib.hid hS2
                  clear hS2 HS1
                  go_wp2_with fail
                  refine (HMA.out _ (Ext.refl _)).mono ?_; rintro e w4 ⟨rfl, hx4⟩
                  have c0b : w4.cell? ⟨x, 0, none⟩ = some (.string s) := (HBW.out.ext hx4).cell rfl; have c1b : w4.cell? ⟨x, 1, none⟩ = some (.slice A (m + 1) c) := (HBW.out.ext hx4).cell rfl; have c2b : w4.cell? ⟨x, 2, none⟩ = some (.slice (some ⟨bb, off, none⟩) m d) := (HBW.out.ext hx4).cell rfl
                  have q4 := HQ.out _ hx4
                  go_wp2_with fail
                  refine (HIN.out _ hx4).mono ?_; rintro e w5 ⟨rfl, hx5⟩
                  have hx45 := hx4.trans hx5
                  have c0d : w5.cell? ⟨x, 0, none⟩ = some (.string s) := (HBW.out.ext hx45).cell rfl; have c1d : w5.cell? ⟨x, 1, none⟩ = some (.slice A (m + 1) c) := (HBW.out.ext hx45).cell rfl; have c2d : w5.cell? ⟨x, 2, none⟩ = some (.slice (some ⟨bb, off, none⟩) m d) := (HBW.out.ext hx45).cell rfl
                  have q5 := HQ.out _ hx45
                  go_wp2_with fail
                  refine (HOU.out _ hx45).mono ?_; rintro e w6 ⟨rfl, hx6⟩
                  have hx46 := hx45.trans hx6
                  have c0e : w6.cell? ⟨x, 0, none⟩ = some (.string s) := (HBW.out.ext hx46).cell rfl; have c1e : w6.cell? ⟨x, 1, none⟩ = some (.slice A (m + 1) c) := (HBW.out.ext hx46).cell rfl; have c2e : w6.cell? ⟨x, 2, none⟩ = some (.slice (some ⟨bb, off, none⟩) m d) := (HBW.out.ext hx46).cell rfl
                  have q6 := HQ.out _ hx46
                  go_wp2_with fail
                  refine (HIS.out _ hx46).mono ?_; rintro e w7 ⟨bq, rfl, hx7, hbq⟩
                  have HX7 := Lib.hid (HX.out.trans (hx46.trans hx7))
                  have hx7' := HXW.out.trans (hx46.trans hx7)
                  cases bq with
                  | true =>
                    have hS3 := HS2.out
                    rw [if_pos (HNI.out.1 (hbq.1 rfl))] at hS3
                    have HS3 := Lib.hid hS3.symm
                    clear hS3 hbq hx7'
                    go_wp2_with fail
                    go_roundw
                    case rel => exact ⟨j + 1, OU, by omega, by go_num, rfl, ou0, by omega, HS3, HX7⟩
                    case measure => simp [intOf]; omega
                  | false =>
                    have HR : Hid (EE = 8) := Lib.hid (by have h := HS2.out; rw [if_neg (fun h => by have := hbq.2 (HNI.out.2 h); cases this)] at h; exact h)
                    clear hbq
                    go_wp2_with fail
                    go_ret
                    rw [HR.out]
                    exact ⟨rfl, hx7'⟩
              · have HR : Hid (EE = 5) := Lib.hid (by have h := HS1.out; rw [if_pos hin] at h; exact h)
                have t1 : (IN != N) = true := by rw [bne_iff_ne]; exact hin
                have t2 : (IN == N) = false := by rw [beq_eq_false_iff_ne]; exact hin
                clear HS1 hin
                go_wp2_with fail
                refine (HMA.out _ (Ext.refl _)).mono ?_; rintro e w4 ⟨rfl, hx4⟩
                have c0b : w4.cell? ⟨x, 0, none⟩ = some (.string s) := (HBW.out.ext hx4).cell rfl; have c1b : w4.cell? ⟨x, 1, none⟩ = some (.slice A (m + 1) c) := (HBW.out.ext hx4).cell rfl; have c2b : w4.cell? ⟨x, 2, none⟩ = some (.slice (some ⟨bb, off, none⟩) m d) := (HBW.out.ext hx4).cell rfl
                have q4 := HQ.out _ hx4
                go_wp2_with fail
                refine (HIN.out _ hx4).mono ?_; rintro e w5 ⟨rfl, hx5⟩
                go_wp2_with fail
                go_ret
                rw [HR.out]
                exact ⟨rfl, HXW.out.trans (hx4.trans hx5)⟩
            · have HR : Hid (EE = mayL l) := Lib.hid (by have h := HST.out; rw [if_pos hma] at h; exact h)
              have t1 : (mayL l != 0) = true := by rw [bne_iff_ne]; exact hma
              have t2 : (mayL l == 0) = false := by rw [beq_eq_false_iff_ne]; exact hma
              clear HST hma htx hsu hlen
              generalize mayL l = ME at *
              go_wp2_with fail
              refine (HMA.out _ (Ext.refl _)).mono ?_; rintro e w4 ⟨rfl, hx4⟩
              go_wp2_with fail
              go_ret
              rw [HR.out]
              exact ⟨rfl, HXW.out.trans hx4⟩
          · obtain rfl : j = m := by omega
            have dn : decide (j < j) = false := by rw [decide_eq_false_iff_not]; omega
            have HR : Hid (EE = 0) := Lib.hid (by rw [← HE.out, List.drop_eq_nil_of_le (by have := HM.out; omega)]; rfl)
            go_wp2_with fail
            go_ret
            rw [HR.out]
            exact ⟨rfl, HX1.out.trans HX.out⟩
      · rw [logE_6 hd h4 h6]
        obtain ⟨K, hK⟩ : ∃ K, cntF (bs s) = K := ⟨_, rfl⟩
        rw [hK] at HC h4
        by_cases hro : rowOk rv
        · have hne : n ≠ m + 1 := fun e => h6 ⟨hro, by omega⟩
          rw [decide_eq_true hro] at HRI
          have t1 : ((n : Int) != (m : Int) + 1) = true := by rw [bne_iff_ne]; omega
          have t2 : ((n : Int) == (m : Int) + 1) = false := by rw [beq_eq_false_iff_ne]; omega
          have hmb : m ≤ 1000000 := by have := hs.segs; omega
          clear hd hv h1 h2 hs hK h6 hro hne hm hnl
          go_enter Tryd.func16, Tryd.ntmps16
          go_wp2_with fail
          rw [HW1.out, HXE.out]
          refine (HV.out _).mono ?_; rintro e w1 ⟨rfl, hx1⟩
          have c0 : w1.cell? ⟨x, 0, none⟩ = some (.string s) := (HB1.out.ext hx1).cell rfl; have c1 : w1.cell? ⟨x, 1, none⟩ = some (.slice A n c) := (HB1.out.ext hx1).cell rfl; have c2 : w1.cell? ⟨x, 2, none⟩ = some (.slice B m d) := (HB1.out.ext hx1).cell rfl
          go_wp2_with fail
          refine (HC.out _).mono ?_; rintro e w2 ⟨rfl, hx2⟩
          have hx12 := hx1.trans hx2
          have c0b : w2.cell? ⟨x, 0, none⟩ = some (.string s) := (HB1.out.ext hx12).cell rfl; have c1b : w2.cell? ⟨x, 1, none⟩ = some (.slice A n c) := (HB1.out.ext hx12).cell rfl; have c2b : w2.cell? ⟨x, 2, none⟩ = some (.slice B m d) := (HB1.out.ext hx12).cell rfl
          go_wp2_with fail
          refine (HRI.out _ (HX1.out.trans hx12)).mono ?_; rintro e w3 ⟨rfl, hx3⟩
          have hx13 := hx12.trans hx3
          have c0c : w3.cell? ⟨x, 0, none⟩ = some (.string s) := (HB1.out.ext hx13).cell rfl; have c1c : w3.cell? ⟨x, 1, none⟩ = some (.slice A n c) := (HB1.out.ext hx13).cell rfl; have c2c : w3.cell? ⟨x, 2, none⟩ = some (.slice B m d) := (HB1.out.ext hx13).cell rfl
          go_wp2_with fail
          go_ret
          exact ⟨rfl, HX1.out.trans hx13⟩
        · rw [decide_eq_false hro] at HRI
          clear hd hv h1 h2 hs hK h6 hro hm hnl
          go_enter Tryd.func16, Tryd.ntmps16
          go_wp2_with fail
          rw [HW1.out, HXE.out]
          refine (HV.out _).mono ?_; rintro e w1 ⟨rfl, hx1⟩
          have c0 : w1.cell? ⟨x, 0, none⟩ = some (.string s) := (HB1.out.ext hx1).cell rfl; have c1 : w1.cell? ⟨x, 1, none⟩ = some (.slice A n c) := (HB1.out.ext hx1).cell rfl; have c2 : w1.cell? ⟨x, 2, none⟩ = some (.slice B m d) := (HB1.out.ext hx1).cell rfl
          go_wp2_with fail
          refine (HC.out _).mono ?_; rintro e w2 ⟨rfl, hx2⟩
          have hx12 := hx1.trans hx2
          have c0b : w2.cell? ⟨x, 0, none⟩ = some (.string s) := (HB1.out.ext hx12).cell rfl; have c1b : w2.cell? ⟨x, 1, none⟩ = some (.slice A n c) := (HB1.out.ext hx12).cell rfl; have c2b : w2.cell? ⟨x, 2, none⟩ = some (.slice B m d) := (HB1.out.ext hx12).cell rfl
          go_wp2_with fail
          refine (HRI.out _ (HX1.out.trans hx12)).mono ?_; rintro e w3 ⟨rfl, hx3⟩
          have hx13 := hx12.trans hx3
          go_wp2_with fail
          go_ret
          exact ⟨rfl, HX1.out.trans hx13⟩
def atV (s : ByteArray) (rv : List Int) (ls : List (List Sp)) (i : Int) : Value := .tuple #[.string (atL s rv ls i).1, .int .i64 (atL s rv ls i).2]
theorem atR16_c (A : Option Addr) (n c : Nat) (B : Option Addr) (m d : Nat) (s : ByteArray) (rv : List Int) (ls : List (List Sp)) (i : Int) (w : World) (h1 : Rd w 1 (.slice A n c) n (nV rv)) (h2 : RdSS w B m d ls) (hs : SmL s rv ls) :
    Calls Tryd.prog 12 #[.agg #[.string s, .slice A n c, .slice B m d], .int .i64 i] w fun e w' => e = .returned (atV s rv ls i) ∧ Ext w w' := by
  have hm := h2.1
  have HMY := Lib.hid (fun w' (hx : Ext w w') => mayR16_c A n c B m d s rv ls w' (h1.ext hx) (h2.ext hx) hs)
  have H2 := Lib.hid h2; have HS := Lib.hid hs
  have hd2 : m ≤ d := by obtain ⟨_, _, ⟨_, _, _, hv, hc, _⟩, _⟩ := h2; injection hv with _ _ e; omega
  have hmb : m ≤ 1000000 := by have := hs.segs; omega
  obtain ⟨x, hx⟩ : ∃ x, w.heap.size = x := ⟨_, rfl⟩
  obtain ⟨W1, hW1⟩ : ∃ W, w.alloc (.cells #[.string s, .slice A n c, .slice B m d] 25) = W := ⟨_, rfl⟩
  have hX1 : Ext w W1 := by rw [← hW1]; exact (Ext.refl w).alloc _
  have hB1 : BxT 25 W1 x #[.string s, .slice A n c, .slice B m d] := by rw [← hW1, ← hx]; exact BxT.new w 25 _
  have HW1 := Lib.hid hW1; have HXE := Lib.hid hx; have HX1 := Lib.hid hX1; have HB1 := Lib.hid hB1
  have c0 : W1.cell? ⟨x, 0, none⟩ = some (.string s) := hB1.cell rfl
  have c1 : W1.cell? ⟨x, 1, none⟩ = some (.slice A n c) := hB1.cell rfl
  have c2 : W1.cell? ⟨x, 2, none⟩ = some (.slice B m d) := hB1.cell rfl
  clear hW1 hx hX1 hB1
  by_cases hE : logE s rv ls = 0
  · rw [hE] at HMY
    by_cases hi : i < 0 ∨ (ls.length : Int) < i
    · have hR : atV s rv ls i = .tuple #[.string ⟨#[]⟩, .int .i64 6] := by unfold atV atL; rw [if_neg (by omega), if_pos hi]
      rw [hR]
      have hi2 : i < 0 ∨ (0 ≤ i ∧ (m : Int) < i) := by omega
      clear hR hi h1 h2 hs hE hm
      rcases hi2 with hi2 | ⟨hi2, hi3⟩
      · have d1 : decide (i < 0) = true := by rw [decide_eq_true_eq]; exact hi2
        go_enter Tryd.func12, Tryd.ntmps12
        go_wp2_with fail
        rw [HW1.out, HXE.out]
        refine (HMY.out _ HX1.out).mono ?_; rintro e w1 ⟨rfl, hx1⟩
        have c0b : w1.cell? ⟨x, 0, none⟩ = some (.string s) := (HB1.out.ext hx1).cell rfl; have c1b : w1.cell? ⟨x, 1, none⟩ = some (.slice A n c) := (HB1.out.ext hx1).cell rfl; have c2b : w1.cell? ⟨x, 2, none⟩ = some (.slice B m d) := (HB1.out.ext hx1).cell rfl
        go_wp2_with fail
        go_ret2
        exact ⟨rfl, HX1.out.trans hx1⟩
      · have d1 : decide (i < 0) = false := by rw [decide_eq_false_iff_not]; omega
        have d2 : decide ((m : Int) < i) = true := by rw [decide_eq_true_eq]; exact hi3
        go_enter Tryd.func12, Tryd.ntmps12
        go_wp2_with fail
        rw [HW1.out, HXE.out]
        refine (HMY.out _ HX1.out).mono ?_; rintro e w1 ⟨rfl, hx1⟩
        have c0b : w1.cell? ⟨x, 0, none⟩ = some (.string s) := (HB1.out.ext hx1).cell rfl; have c1b : w1.cell? ⟨x, 1, none⟩ = some (.slice A n c) := (HB1.out.ext hx1).cell rfl; have c2b : w1.cell? ⟨x, 2, none⟩ = some (.slice B m d) := (HB1.out.ext hx1).cell rfl
        go_wp2_with fail
        go_ret2
        exact ⟨rfl, HX1.out.trans hx1⟩
    · have hi0 : 0 ≤ i := by omega
      obtain ⟨j, rfl⟩ := Int.eq_ofNat_of_zero_le hi0
      have hj : j ≤ m := by omega
      obtain ⟨cs, hcs, _, _, _, _⟩ := logE_ok hE
      have hR : atV s rv ls (j : Int) = allV s (ls.take j) := by
        unfold atV atL allV
        rw [if_neg (by omega), if_neg hi, Int.toNat_natCast, allR_of (by rw [hcs]; simp)]
      rw [hR]
      have hrj := h2.take hj
      have HAL := Lib.hid (fun w' (hx : Ext w w') => allR_c B j d (ls.take j) s w' (hrj.ext hx) (fun l hl => hs.len l (List.mem_of_mem_take hl)) (fun l hl => hs.text l (List.mem_of_mem_take hl)) (by
        have h3 : sumTT (ls.take j) ≤ sumTT ls := by
          have e : sumTT ls = sumTT (ls.take j) + sumTT (ls.drop j) := by rw [← List.take_append_drop j ls]; unfold sumTT; rw [List.map_append, List.sum_append, List.take_append_drop]
          omega
        have := hs.base; have := hs.sum; omega) (by omega))
      have d1 : decide ((j : Int) < 0) = false := by rw [decide_eq_false_iff_not]; omega
      have d2 : decide ((m : Int) < (j : Int)) = false := by rw [decide_eq_false_iff_not]; omega
      have g0 : (0 : Int) ≤ (j : Int) := by omega
      have g1 : (j : Int) ≤ (d : Int) := by omega
      clear hR hi hi0 h1 h2 hs hE hm hrj hcs
      unfold allV at HAL ⊢
      generalize (allR s (ls.take j)).1 = AV1 at *
      generalize (allR s (ls.take j)).2 = AV2 at *
      go_enter Tryd.func12, Tryd.ntmps12
      go_wp2_with fail
      rw [HW1.out, HXE.out]
      refine (HMY.out _ HX1.out).mono ?_; rintro e w1 ⟨rfl, hx1⟩
      have HX2 := Lib.hid (HX1.out.trans hx1)
      have c0b : w1.cell? ⟨x, 0, none⟩ = some (.string s) := (HB1.out.ext hx1).cell rfl; have c1b : w1.cell? ⟨x, 1, none⟩ = some (.slice A n c) := (HB1.out.ext hx1).cell rfl; have c2b : w1.cell? ⟨x, 2, none⟩ = some (.slice B m d) := (HB1.out.ext hx1).cell rfl
      go_wp2_with fail
      have hxx := Ext.refl w1
      go_region_held3 (fun V => Ext w1 V ∧ V.cell? ⟨x, 0, none⟩ = some (.string s) ∧ V.cell? ⟨x, 2, none⟩ = some (.slice B m d))
        ((go_split_ands; refine ⟨?_, ?_, ?_⟩ <;> first | (exact Ext.drew ‹_›) | (exact Ext.trans ‹_› hxk) | (exact ext_cell hxk ‹_›) | go_keep))
        (first
        | (go_at_call 23; go_split_ands; refine (HAL.out _ (HX2.out.trans ‹Ext w1 _›)).mono ?_; rintro e wA ⟨rfl, hxk⟩)
        | fail)
      go_split_ands
      have eA := ‹Ext w1 wA›
      go_wp2_with fail
      go_ret2
      exact ⟨rfl, HX2.out.trans eA⟩
  · have hR : atV s rv ls i = .tuple #[.string ⟨#[]⟩, .int .i64 (logE s rv ls)] := by unfold atV atL; rw [if_pos hE]
    rw [hR]
    have t1 : (logE s rv ls != 0) = true := by rw [bne_iff_ne]; exact hE
    have t2 : (logE s rv ls == 0) = false := by rw [beq_eq_false_iff_ne]; exact hE
    clear hR h1 h2 hs hE hm
    generalize logE s rv ls = EE at *
    go_enter Tryd.func12, Tryd.ntmps12
    go_wp2_with fail
    rw [HW1.out, HXE.out]
    refine (HMY.out _ HX1.out).mono ?_; rintro e w1 ⟨rfl, hx1⟩
    go_wp2_with fail
    go_ret2
    exact ⟨rfl, HX1.out.trans hx1⟩
/-- What tells how long a log's texts are. -/
def SizesR (w : World) (s : ByteArray) (rv : List Int) (ls : List (List Sp)) (e : Ending) (w' : World) : Prop :=
  Ext w w' ∧ ∃ A n c, e = .returned (.tuple #[.slice A n c, .int .i64 (logE s rv ls)]) ∧ Rd w' 1 (.slice A n c) n (nV (if logE s rv ls = 0 then sizesL s ls else []))
theorem sizesR16_c (A : Option Addr) (n c : Nat) (B : Option Addr) (m d : Nat) (s : ByteArray) (rv : List Int) (ls : List (List Sp)) (w : World) (h1 : Rd w 1 (.slice A n c) n (nV rv)) (h2 : RdSS w B m d ls) (hs : SmL s rv ls) :
    Calls Tryd.prog 14 #[.agg #[.string s, .slice A n c, .slice B m d]] w (SizesR w s rv ls) := by
  have hm := h2.1
  have HMY := Lib.hid (fun w' (hx : Ext w w') => mayR16_c A n c B m d s rv ls w' (h1.ext hx) (h2.ext hx) hs)
  have HC := Lib.hid (fun w' => countR_c s w' (by have := hs.base; omega))
  have H2 := Lib.hid h2; have HS := Lib.hid hs; have HM := Lib.hid hm
  have hmb : m ≤ 1000000 := by have := hs.segs; omega
  obtain ⟨i, hi, hz0, hz1, hz2⟩ := info_parts info_int
  unfold SizesR
  obtain ⟨x, hx⟩ : ∃ x, w.heap.size = x := ⟨_, rfl⟩
  obtain ⟨W1, hW1⟩ : ∃ W, w.alloc (.cells #[.string s, .slice A n c, .slice B m d] 25) = W := ⟨_, rfl⟩
  have hX1 : Ext w W1 := by rw [← hW1]; exact (Ext.refl w).alloc _
  have hB1 : BxT 25 W1 x #[.string s, .slice A n c, .slice B m d] := by rw [← hW1, ← hx]; exact BxT.new w 25 _
  have HW1 := Lib.hid hW1; have HXE := Lib.hid hx; have HX1 := Lib.hid hX1; have HB1 := Lib.hid hB1
  have c0 : W1.cell? ⟨x, 0, none⟩ = some (.string s) := hB1.cell rfl
  have c1 : W1.cell? ⟨x, 1, none⟩ = some (.slice A n c) := hB1.cell rfl
  have c2 : W1.cell? ⟨x, 2, none⟩ = some (.slice B m d) := hB1.cell rfl
  clear hW1 hx hX1 hB1
  by_cases hE : logE s rv ls = 0
  · rw [hE] at HMY ⊢
    rw [if_pos rfl]
    obtain ⟨cs, hcs, _, _, _, hseg⟩ := logE_ok hE
    have HOB : Hid (∀ l ∈ ls, wrap64 (outL l) = outL l) := Lib.hid fun l hl => by
      have h3 : ∀ (N : Int) (r : List (List Sp)), segE N r = 0 → ∀ l ∈ r, outL l ≤ 1048576 ∧ mayL l = 0 := by
        intro N r
        induction r generalizing N with
        | nil => intro _ l hl; cases hl
        | cons a t ih =>
          intro h l hl
          obtain ⟨⟨g1, _, g3, _⟩, g5⟩ := segE_cons.1 h
          rcases List.mem_cons.1 hl with rfl | hl
          · exact ⟨g3, g1⟩
          · exact ih _ g5 l hl
      obtain ⟨h4, h5⟩ := h3 _ _ hseg l hl
      obtain ⟨hall, in0, in1⟩ := mayL_all h5 (hs.len l hl)
      have := (outL_le l fun x hx => okW_of_may (hall x hx)).1
      unfold wrap64; omega
    have HRES : Hid (sizesL s ls = cntF (bs s) :: ls.map outL) := Lib.hid rfl
    generalize cntF (bs s) = K at *
    clear h1 h2 hs hE hm hcs hseg
    go_enter Tryd.func14, Tryd.ntmps14
    go_wp2_with fail
    rw [HW1.out, HXE.out]
    refine (HMY.out _ HX1.out).mono ?_; rintro e w1 ⟨rfl, hx1⟩
    have c0b : w1.cell? ⟨x, 0, none⟩ = some (.string s) := (HB1.out.ext hx1).cell rfl; have c1b : w1.cell? ⟨x, 1, none⟩ = some (.slice A n c) := (HB1.out.ext hx1).cell rfl; have c2b : w1.cell? ⟨x, 2, none⟩ = some (.slice B m d) := (HB1.out.ext hx1).cell rfl
    go_wp2_with fail
    refine (HC.out _).mono ?_; rintro e w2 ⟨rfl, hx2⟩
    have hx12 := hx1.trans hx2
    have e2 := HX1.out.trans hx12
    have O2 : Hid (Own (w2.alloc (.cells #[.int .i64 K] 3)) W1.heap.size 3 1 (.slice (some ⟨w2.heap.size, 0, none⟩) 1 1) 1 (nV (K :: (ls.take 0).map outL))) := Lib.hid (Own.made w2 W1.heap.size 3 1 1 #[.int .i64 K] hx12.size (by omega) rfl)
    have HX3 := Lib.hid (hx12.alloc (.cells #[.int .i64 K] 3))
    clear hx1 hx2 hx12 e2 c0b c1b c2b
    go_wp2_with fail
    go_loopw [5, 6] (fun ov iv wr => ∃ j : Nat, j ≤ m ∧ iv = .int .i64 j ∧ Hid (Own wr W1.heap.size 3 1 ov (j + 1) (nV (K :: (ls.take j).map outL))) ∧ Hid (Ext W1 wr)) (fun _ iv _ => m - (intOf iv).toNat)
    case atStart => exact ⟨0, by omega, rfl, O2, HX3⟩
    case round =>
      clear O2 HX3 HC HMY
      obtain ⟨j, hj, rfl, HO, HX⟩ := hrel
      have c0 : wr.cell? ⟨x, 0, none⟩ = some (.string s) := (HB1.out.ext HX.out).cell rfl; have c1 : wr.cell? ⟨x, 1, none⟩ = some (.slice A n c) := (HB1.out.ext HX.out).cell rfl; have c2 : wr.cell? ⟨x, 2, none⟩ = some (.slice B m d) := (HB1.out.ext HX.out).cell rfl
      by_cases hlt : j < m
      · have hjl : j < ls.length := by have := HM.out; omega
        obtain ⟨bb, off, a, kc, rfl, hbb, q0, hr⟩ := (H2.out.ext (HX1.out.trans HX.out)).at_ hlt hjl
        have dn : decide (j < m) = true := by rw [decide_eq_true_eq]; exact hlt
        have i0 : (0 : Int) ≤ (j : Int) := by omega
        have i1 : (j : Int) < (m : Int) := by omega
        have hlen := HS.out.len _ (List.getElem_mem hjl)
        have htx := HS.out.text _ (List.getElem_mem hjl)
        have hob := HOB.out _ (List.getElem_mem hjl)
        have HTK : Hid ((ls.take (j + 1)).map outL = (ls.take j).map outL ++ [outL ls[j]]) := Lib.hid (by rw [List.take_add_one, List.getElem?_eq_getElem hjl, List.map_append]; rfl)
        obtain ⟨l, hl⟩ : ∃ l, ls[j] = l := ⟨_, rfl⟩
        rw [hl] at q0 hr hlen htx hob HTK
        obtain ⟨k, hk⟩ : ∃ k, l.length = k := ⟨_, rfl⟩
        rw [hk] at q0 hr
        have hOU := fun w' (hx : Ext wr w') => outR4_c a k kc l w' (hr.ext hx) hk (by omega) htx
        rw [hob] at hOU
        have HOU := Lib.hid hOU
        have HXW := Lib.hid (HX1.out.trans HX.out)
        clear hOU hr hl hob htx
        generalize outL l = OU at *
        go_wp2_with fail
        refine (HOU.out _ (Ext.refl _)).mono ?_; rintro e w4 ⟨rfl, hx4⟩
        obtain ⟨v', w', happ, hown', hbel'⟩ := app_new (P := Tryd.prog) 22 22 3 i _ 1 8 Tryd.underlying22 hi hz0 hz1 hz2 rfl (by omega) (by omega)
          (HX.out.trans hx4) (HO.out.ext hx4) (by omega) 1 #[.int .i64 OU] rfl (by omega) (by simp [Value.oneCell']) 3
        have HAP := Lib.hid happ
        have HO2 : Hid (Own w' W1.heap.size 3 1 v' (j + 1 + 1) (nV (K :: (ls.take (j + 1)).map outL))) := Lib.hid (by rw [HTK.out, ← List.cons_append, nV_append]; exact hown')
        have HXB : Hid (Ext W1 w') := Lib.hid hbel'
        clear happ hown' hbel'
        go_wp2_with (at_builtin; refine wpList_append_run rfl rfl HAP.out rfl rfl ?_)
        go_roundw
        case rel => exact ⟨j + 1, by omega, by go_num, HO2, HXB⟩
        case measure => simp [intOf]; omega
      · obtain rfl : j = m := by omega
        have dn : decide (j < j) = false := by rw [decide_eq_false_iff_not]; omega
        obtain ⟨ao, co, rfl, _⟩ := HO.out.len
        have HR : Hid (Rd wr 1 (.slice ao (j + 1) co) (j + 1) (nV (sizesL s ls))) := Lib.hid (by
          have h := HO.out.rd
          rw [show ls.take j = ls by rw [← HM.out]; exact List.take_length] at h
          rw [HRES.out]; exact h)
        go_wp2_with fail
        go_ret2
        exact ⟨HX1.out.trans HX.out, _, _, _, rfl, HR.out⟩
  · rw [if_neg hE]
    have t1 : (logE s rv ls != 0) = true := by rw [bne_iff_ne]; exact hE
    have t2 : (logE s rv ls == 0) = false := by rw [beq_eq_false_iff_ne]; exact hE
    clear h1 h2 hs hE hm
    generalize logE s rv ls = EE at *
    go_enter Tryd.func14, Tryd.ntmps14
    go_wp2_with fail
    rw [HW1.out, HXE.out]
    refine (HMY.out _ HX1.out).mono ?_; rintro e w1 ⟨rfl, hx1⟩
    go_wp2_with fail
    go_ret2
    exact ⟨HX1.out.trans hx1, _, _, _, rfl, Rd.nil _ _⟩
end Go.Proofs.YtejgkhmpmnjgaaaDoor
