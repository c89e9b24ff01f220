/- Layer 15, SnapTaken. -/
import Derived.Test.YtilldbbfdmdggaaL15a
namespace Go.Proofs.Ytilldbbfdmdggaa
open Go.RowKit
set_option maxRecDepth 100000
set_option maxHeartbeats 4000000
set_option linter.unusedSimpArgs false
theorem snTaken {b u : List UInt8} {k : Nat} (h : takeT b = (0, u, k)) : snE (mkS u) = 0 ∧ snB (mkS u) = b.take k ∧ (mkS u).size ≤ 65536 ∧ 1 ≤ k ∧ k ≤ b.length := by
  obtain ⟨h1, h2, h3, h4, h5⟩ := takeT_some h
  have hE : snE (mkS u) = 0 := by unfold snE; rw [bs_mkS, if_neg h1, if_neg (by rw [size_mkS]; omega)]
  refine ⟨hE, ?_, by rw [size_mkS]; exact h2, h4, h5⟩
  unfold snB; rw [if_pos hE]; unfold snL; rw [size_mkS, bs_mkS, h3]
theorem snapTaken_c (A1 : Option Addr) (q1 c1 : Nat) (zs : List Int) (w : World) (h1 : IsInts .u8 w A1 q1 c1 zs) :
    Calls Try.prog 6 #[.slice A1 q1 c1] w fun e w' => e = .returned (.bool true) ∧ Below w.heap.size w w' := by
  obtain ⟨M, bl, hM, hbl, hbr, hfo⟩ := few15_in h1
  have hMc : M ≤ c1 := by obtain ⟨_, _, hv, hc⟩ := hbr.len; injection hv with _ _ e; omega
  have HFO := Lib.hid hfo
  have RB := Lib.hid hbr
  obtain ⟨⟨E, U, I⟩, hT⟩ : ∃ r, takeT bl = r := ⟨_, rfl⟩
  obtain ⟨⟨G, L, K⟩, hR⟩ : ∃ r, takeRw bl = r := ⟨_, rfl⟩
  have HT1 : Hid (∀ w', Rd w' 1 (.slice A1 M c1) M (Lib.byteCells bl) → Calls Try.prog 11 #[.slice A1 M c1] w' (TextR w' (E, U, I))) := Lib.hid fun w' hr => by rw [← hT]; exact snTakeP_c A1 M c1 bl w' hr (by omega)
  have HT2 : Hid (∀ w', Rd w' 1 (.slice A1 M c1) M (Lib.byteCells bl) → Calls Try.prog 17 #[.slice A1 M c1] w' (RowR w' (G, L, K))) := Lib.hid fun w' hr => by rw [← hR]; exact rwTakeP_c A1 M c1 bl w' hr (by omega)
  have HG : G = 0 ∨ ((G = 7 ∨ G = 8) ∧ L = [] ∧ K = 0) := by have h := takeRw_err bl; rw [hR] at h; exact h
  have HE : E = 0 ∨ (E ≠ 0 ∧ U = [] ∧ I = 0) := by
    have h := takeT_err bl
    rw [hT] at h
    rcases h with h | ⟨h1, h2, h3⟩
    · exact .inl h
    · exact .inr ⟨by simp only at h1; omega, h2, h3⟩
  have HRok : Hid (G = 0 → rowE L = 0 ∧ rwB L = bl.take K ∧ 1 ≤ K ∧ K ≤ M ∧ 1 ≤ L.length ∧ L.length ≤ 200 ∧ ∀ j (_ : 1 ≤ j) (hj : j < L.length), L[j - 1] < L[j]) := Lib.hid fun h0 => by
    subst h0
    obtain ⟨r1, r2, r3, r4, r5⟩ := takeRw_some hR
    have hE : rowE L = 0 := if_pos r1
    have hl := List.length_pos_iff.2 r1.1
    refine ⟨hE, by unfold rwB; rw [if_pos hE, r2], r3, by omega, hl, by omega, fun j h1 hj => ?_⟩
    have := rises_at r1.2.2 (j - 1) (by omega)
    have h2 := (rises_drop (l := L) hj L[j - 1]).1 (by
      have h3 := this.2.2
      rwa [Nat.sub_add_cancel h1] at h3)
    exact h2.1
  have HTok : Hid (E = 0 → snE (mkS U) = 0 ∧ snB (mkS U) = bl.take I ∧ (mkS U).size ≤ 65536 ∧ 1 ≤ I ∧ I ≤ M) := Lib.hid fun h0 => by
    subst h0
    obtain ⟨r1, r2, r3, r4, r5⟩ := snTaken hT
    exact ⟨r1, r2, r3, r4, by omega⟩
  clear h1 hfo hbr hM hbl hT hR
  rcases HE with rfl | ⟨hE0, rfl, rfl⟩
  · obtain ⟨t1, t2, t3, t4, t5⟩ := HTok.out rfl
    clear HTok
    have HP1 : Hid (∀ w', Calls Try.prog 9 #[.string (mkS U)] w' (BytesR w' 0 (bl.take I))) := Lib.hid fun w' => by
      have h := snPutP_c (mkS U) w' (by omega)
      rw [t1, t2] at h
      exact h
    clear t1 t2 t3
    have x0 : (0 : Int) ≤ (I : Int) := by omega
    have x1 : (I : Int) ≤ (c1 : Int) := by omega
    have x2 : ¬ (I : Int) < 1 := by omega
    have x3 : ¬ (M : Int) < (I : Int) := by omega
    go_enter Try.func6, Try.ntmps6
    go_wp2_with fail
    refine (shown15_c _).mono ?_; rintro e w1 ⟨rfl, hx1⟩
    have e1 : Ext w w1 := hx1
    replace RB := Lib.hid (RB.out.ext hx1)
    clear hx1
    go_wp2_with fail
    refine (HFO.out _).mono ?_; rintro e w2 ⟨rfl, hx2⟩
    have e2 : Ext w w2 := e1.trans hx2
    replace RB := Lib.hid (RB.out.ext hx2)
    clear hx2
    go_wp2_with fail
    refine (HT1.out _ RB.out).mono ?_; rintro e w3 ⟨hx3, rfl⟩
    have e3 : Ext w w3 := e2.trans hx3
    replace RB := Lib.hid (RB.out.ext hx3)
    clear hx3
    go_wp2_with fail
    refine (HP1.out _).mono ?_; rintro e w4 ⟨hx4, vP, rfl, oP⟩
    have e4 : Ext w w4 := e3.trans hx4
    replace RB := Lib.hid (RB.out.ext hx4)
    have SP := Lib.hid oP.rd
    clear hx4 oP
    have y1 : ∀ nq, (convert 22 9 vP).run Try.prog (w4.drewN nq) = .ok (.string (mkS (bl.take I))) (w4.drewN nq) := fun nq => str_run15 _ (SP.out.ext ((Ext.refl w4).drewN nq))
    have y2 : ∀ nq, (convert 22 9 (.slice A1 I c1)).run Try.prog (w4.drewN nq) = .ok (.string (mkS (bl.take I))) (w4.drewN nq) := fun nq => str_run15 _ ((bytes_front RB.out t5).ext ((Ext.refl w4).drewN nq))
    generalize mkS (bl.take I) = BI at *
    go_wp2_with fail
    go_quiet (fail)
    have ed : Ext w (w4.drewN nq) := e4.drewN nq
    replace RB := Lib.hid (RB.out.ext ((Ext.refl w4).drewN nq))
    obtain ⟨wd, hwd⟩ : ∃ W, w4.drewN nq = W := ⟨_, rfl⟩
    rw [hwd] at ed RB ⊢
    clear y1 y2 hwd
    clear SP HP1
    rcases HG with rfl | ⟨hG, rfl, rfl⟩
    · obtain ⟨r1, r2, r3, r4, r5, r6, r7⟩ := HRok.out rfl
      have HR7 := Lib.hid r7
      clear HRok r7
      have HP2 : Hid (∀ A n c w', Rd w' 1 (.slice A n c) n (nV L) → Calls Try.prog 14 #[.slice A n c] w' (BytesR w' 0 (bl.take K))) := Lib.hid fun A n c w' hr => by
        have h := rwPutP_c A n c L w' hr (by have := nV_len hr; omega)
        rw [r1, r2] at h
        exact h
      clear r1 r2
      go_wp2_with fail
      refine (HT2.out _ RB.out).mono ?_; rintro e w5 ⟨hx5, aL, nL, cL, rfl, rL⟩
      have e5 : Ext w w5 := ed.trans hx5
      replace RB := Lib.hid (RB.out.ext hx5)
      have NL := Lib.hid rL
      clear hx5 rL
      replace NL : Hid (Rd w5 1 (.slice aL nL cL) nL (nV L)) := NL
      have hnL := nV_len NL.out
      have HNL := Lib.hid hnL
      have k1 : 1 ≤ nL := by omega
      have k2 : nL ≤ 200 := by omega
      clear hnL r5 r6
      go_wp2_with fail
      refine (HP2.out _ _ _ _ NL.out).mono ?_; rintro e w6 ⟨hx6, vQ, rfl, oQ⟩
      have e6 : Ext w w6 := e5.trans hx6
      replace RB := Lib.hid (RB.out.ext hx6)
      replace NL := Lib.hid (NL.out.ext hx6)
      have SQ := Lib.hid oQ.rd
      clear hx6 oQ
      have HE9 := Lib.hid e6
      have z0 : (0 : Int) ≤ (K : Int) := by omega
      have z1 : (K : Int) ≤ (c1 : Int) := by omega
      have z2 : (1 : Int) ≤ (K : Int) := by omega
      have z3 : (K : Int) ≤ (M : Int) := by omega
      have z4 : (0 : Int) < (nL : Int) := by omega
      go_wp2_with fail
      go_loopw [15] (fun z wr => ∃ j : Nat, 1 ≤ j ∧ j ≤ nL ∧ z = .int .i64 j ∧ Hid (Ext w6 wr)) (fun z _ => nL - (intOf z).toNat)
      case atStart => exact ⟨1, by omega, k1, rfl, Lib.hid (Ext.refl _)⟩
      case round =>
        obtain ⟨j, hj1, hj2, rfl, HXR⟩ := hrel
        by_cases hlt : j < nL
        · have dn : decide (j < nL) = true := by rw [decide_eq_true_eq]; exact hlt
          have ha : j - 1 < L.length := by have := HNL.out; omega
          have hb : j < L.length := by have := HNL.out; omega
          obtain ⟨b1, o1, rfl, p1, _⟩ := int_at (NL.out.ext HXR.out) (j := j - 1) (by omega) ha
          obtain ⟨b2, o2, hA2, p2, _⟩ := int_at (NL.out.ext HXR.out) (j := j) hlt hb
          injection hA2 with hA2; injection hA2 with e1 e2; subst e1; subst e2
          have hlt2 := HR7.out j hj1 hb
          have e4 : ((j : Int) - 1).toNat = j - 1 := by omega
          have i0 : (0 : Int) ≤ (j : Int) := by omega
          have i1 : (j : Int) < (nL : Int) := by omega
          have i2 : (0 : Int) ≤ (j : Int) - 1 := by omega
          have i3 : (j : Int) - 1 < (nL : Int) := by omega
          generalize L[j - 1] = x at *
          generalize L[j] = y at *
          have d4 : decide (y ≤ x) = false := by rw [decide_eq_false_iff_not]; omega
          have d5 : ¬ y ≤ x := by omega
          go_wp2_with fail
          go_quiet (fail)
          go_wp2_with fail
          go_roundw
          case rel => exact ⟨j + 1, by omega, by omega, by go_num, Lib.hid (HXR.out.drewN nq)⟩
          case measure => simp [intOf]; omega
        · obtain rfl : j = nL := by omega
          have dn : decide (j < j) = false := by rw [decide_eq_false_iff_not]; omega
          have y1 : ∀ nq, (convert 22 9 vQ).run Try.prog (wr.drewN nq) = .ok (.string (mkS (bl.take K))) (wr.drewN nq) := fun nq => str_run15 _ ((SQ.out.ext HXR.out).ext ((Ext.refl wr).drewN nq))
          have y2 : ∀ nq, (convert 22 9 (.slice A1 K c1)).run Try.prog (wr.drewN nq) = .ok (.string (mkS (bl.take K))) (wr.drewN nq) := fun nq => str_run15 _ (((bytes_front RB.out r4).ext HXR.out).ext ((Ext.refl wr).drewN nq))
          generalize mkS (bl.take K) = BK at *
          have d6 : decide (0 < j) = true := by rw [decide_eq_true_eq]; omega
          go_wp2_with fail
          go_quiet (fail)
          go_wp2_with fail
          go_ret
          exact ⟨rfl, (HE9.out.trans HXR.out).drewN nq⟩
    · clear HRok
      rcases hG with rfl | rfl
      all_goals
        go_wp2_with fail
        refine (HT2.out _ RB.out).mono ?_; rintro e w5 ⟨hx5, aL, nL, cL, rfl, rL⟩
        have e5 : Ext w w5 := ed.trans hx5
        replace RB := Lib.hid (RB.out.ext hx5)
        have NL := Lib.hid rL
        clear hx5 rL
        have hnL : 0 = nL := nV_len NL.out
        subst hnL
        go_wp2_with fail
        go_ret
        exact ⟨rfl, e5⟩
  · clear HTok
    have hmk : mkS [] = ⟨#[]⟩ := rfl
    have x1 : ((E : Int) == 0) = false := by rw [beq_eq_false_iff_ne]; omega
    have x2 : ((E : Int) != 0) = true := by rw [bne_iff_ne]; omega
    clear hE0
    go_enter Try.func6, Try.ntmps6
    go_wp2_with fail
    refine (shown15_c _).mono ?_; rintro e w1 ⟨rfl, hx1⟩
    have e1 : Ext w w1 := hx1
    replace RB := Lib.hid (RB.out.ext hx1)
    clear hx1
    go_wp2_with fail
    refine (HFO.out _).mono ?_; rintro e w2 ⟨rfl, hx2⟩
    have e2 : Ext w w2 := e1.trans hx2
    replace RB := Lib.hid (RB.out.ext hx2)
    clear hx2
    go_wp2_with fail
    refine (HT1.out _ RB.out).mono ?_; rintro e w3 ⟨hx3, rfl⟩
    have e3 : Ext w w3 := e2.trans hx3
    replace RB := Lib.hid (RB.out.ext hx3)
    clear hx3
    rcases HG with rfl | ⟨hG, rfl, rfl⟩
    · obtain ⟨r1, r2, r3, r4, r5, r6, r7⟩ := HRok.out rfl
      have HR7 := Lib.hid r7
      clear HRok r7
      have HP2 : Hid (∀ A n c w', Rd w' 1 (.slice A n c) n (nV L) → Calls Try.prog 14 #[.slice A n c] w' (BytesR w' 0 (bl.take K))) := Lib.hid fun A n c w' hr => by
        have h := rwPutP_c A n c L w' hr (by have := nV_len hr; omega)
        rw [r1, r2] at h
        exact h
      clear r1 r2
      go_wp2_with fail
      refine (HT2.out _ RB.out).mono ?_; rintro e w4 ⟨hx4, aL, nL, cL, rfl, rL⟩
      have e4 : Ext w w4 := e3.trans hx4
      replace RB := Lib.hid (RB.out.ext hx4)
      have NL := Lib.hid rL
      clear hx4 rL
      replace NL : Hid (Rd w4 1 (.slice aL nL cL) nL (nV L)) := NL
      have hnL := nV_len NL.out
      have HNL := Lib.hid hnL
      have k1 : 1 ≤ nL := by omega
      have k2 : nL ≤ 200 := by omega
      clear hnL r5 r6
      go_wp2_with fail
      refine (HP2.out _ _ _ _ NL.out).mono ?_; rintro e w5 ⟨hx5, vQ, rfl, oQ⟩
      have e5 : Ext w w5 := e4.trans hx5
      replace RB := Lib.hid (RB.out.ext hx5)
      replace NL := Lib.hid (NL.out.ext hx5)
      have SQ := Lib.hid oQ.rd
      clear hx5 oQ
      have HE9 := Lib.hid e5
      have z0 : (0 : Int) ≤ (K : Int) := by omega
      have z1 : (K : Int) ≤ (c1 : Int) := by omega
      have z2 : (1 : Int) ≤ (K : Int) := by omega
      have z3 : (K : Int) ≤ (M : Int) := by omega
      have z4 : (0 : Int) < (nL : Int) := by omega
      go_wp2_with fail
      go_loopw [15] (fun z wr => ∃ j : Nat, 1 ≤ j ∧ j ≤ nL ∧ z = .int .i64 j ∧ Hid (Ext w5 wr)) (fun z _ => nL - (intOf z).toNat)
      case atStart => exact ⟨1, by omega, k1, rfl, Lib.hid (Ext.refl _)⟩
      case round =>
        obtain ⟨j, hj1, hj2, rfl, HXR⟩ := hrel
        by_cases hlt : j < nL
        · have dn : decide (j < nL) = true := by rw [decide_eq_true_eq]; exact hlt
          have ha : j - 1 < L.length := by have := HNL.out; omega
          have hb : j < L.length := by have := HNL.out; omega
          obtain ⟨b1, o1, rfl, p1, _⟩ := int_at (NL.out.ext HXR.out) (j := j - 1) (by omega) ha
          obtain ⟨b2, o2, hA2, p2, _⟩ := int_at (NL.out.ext HXR.out) (j := j) hlt hb
          injection hA2 with hA2; injection hA2 with e1 e2; subst e1; subst e2
          have hlt2 := HR7.out j hj1 hb
          have e4 : ((j : Int) - 1).toNat = j - 1 := by omega
          have i0 : (0 : Int) ≤ (j : Int) := by omega
          have i1 : (j : Int) < (nL : Int) := by omega
          have i2 : (0 : Int) ≤ (j : Int) - 1 := by omega
          have i3 : (j : Int) - 1 < (nL : Int) := by omega
          generalize L[j - 1] = x at *
          generalize L[j] = y at *
          have d4 : decide (y ≤ x) = false := by rw [decide_eq_false_iff_not]; omega
          have d5 : ¬ y ≤ x := by omega
          go_wp2_with fail
          go_quiet (fail)
          go_wp2_with fail
          go_roundw
          case rel => exact ⟨j + 1, by omega, by omega, by go_num, Lib.hid (HXR.out.drewN nq)⟩
          case measure => simp [intOf]; omega
        · obtain rfl : j = nL := by omega
          have dn : decide (j < j) = false := by rw [decide_eq_false_iff_not]; omega
          have y1 : ∀ nq, (convert 22 9 vQ).run Try.prog (wr.drewN nq) = .ok (.string (mkS (bl.take K))) (wr.drewN nq) := fun nq => str_run15 _ ((SQ.out.ext HXR.out).ext ((Ext.refl wr).drewN nq))
          have y2 : ∀ nq, (convert 22 9 (.slice A1 K c1)).run Try.prog (wr.drewN nq) = .ok (.string (mkS (bl.take K))) (wr.drewN nq) := fun nq => str_run15 _ (((bytes_front RB.out r4).ext HXR.out).ext ((Ext.refl wr).drewN nq))
          generalize mkS (bl.take K) = BK at *
          have d6 : decide (0 < j) = true := by rw [decide_eq_true_eq]; omega
          go_wp2_with fail
          go_quiet (fail)
          go_wp2_with fail
          go_ret
          exact ⟨rfl, (HE9.out.trans HXR.out).drewN nq⟩
    · clear HRok
      rcases hG with rfl | rfl
      all_goals
        go_wp2_with fail
        refine (HT2.out _ RB.out).mono ?_; rintro e w4 ⟨hx4, aL, nL, cL, rfl, rL⟩
        have e4 : Ext w w4 := e3.trans hx4
        replace RB := Lib.hid (RB.out.ext hx4)
        have NL := Lib.hid rL
        clear hx4 rL
        have hnL : 0 = nL := nV_len NL.out
        subst hnL
        go_wp2_with fail
        go_ret
        exact ⟨rfl, e4⟩
end Go.Proofs.Ytilldbbfdmdggaa
