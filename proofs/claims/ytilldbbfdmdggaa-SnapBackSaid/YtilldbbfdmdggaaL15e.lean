/- Layer 15, SnapBack. -/
import Derived.Test.YtilldbbfdmdggaaL15f
namespace Go.Proofs.Ytilldbbfdmdggaa
open Go.RowKit
set_option maxRecDepth 100000
set_option maxHeartbeats 40000000
set_option linter.unusedSimpArgs false
theorem rises_range (f : Nat → Int) (n : Nat) : ∀ (a : Nat) (was : Int), was < f a → (∀ i, a ≤ i → f i < f (i + 1)) → (∀ i, i < a + n → f i ≤ 268435455) → rises was ((List.range' a n).map f) := by
  induction n with
  | zero => intro a was _ _ _; exact trivial
  | succ n ih =>
    intro a was h1 h2 h3
    exact ⟨h1, h3 a (by omega), ih (a + 1) _ (h2 a (Nat.le_refl _)) (fun i hi => h2 i (by omega)) fun i hi => h3 i (by omega)⟩
theorem rowS_ok (zs : List Int) (h : ∀ z ∈ zs, 0 ≤ z ∧ z ≤ 65535) (n : Nat) (hn : n ≤ 20) (h0 : 0 < n) : rowOk (rowS zs n) := by
  refine ⟨fun e => by have := rowS_len zs n; rw [e] at this; simp at this; omega, by rw [rowS_len]; omega, ?_⟩
  unfold rowS
  rw [List.range_eq_range']
  exact rises_range (fun i => atS zs (i + 1)) n 0 (-1) (by have := (atS_le zs h 0).2.2; exact this) (fun i _ => (atS_le zs h (i + 1)).2.2) fun i hi => by have := (atS_le zs h (i + 1)).2.1; show atS zs (i + 1) ≤ _; omega
theorem rwL_len (l : List Int) : (rwL l).length ≤ 4 + 4 * l.length := by
  unfold rwL; rw [List.length_append]
  have := putL_length l.length
  have := rsL_len l (-1)
  omega
theorem snapBack_c (s : ByteArray) (A0 : Option Addr) (q0 c0 : Nat) (ys : List Int) (A1 : Option Addr) (q1 c1 : Nat) (zs : List Int) (w : World) (hs : s.size ≤ maxLen) (h0 : IsInts .u16 w A0 q0 c0 ys) (h1 : IsInts .u8 w A1 q1 c1 zs) :
    Calls Try.prog 5 #[.string s, .slice A0 q0 c0, .slice A1 q1 c1] w fun e w' => e = .returned (.bool true) ∧ Below w.heap.size w w' := by
  unfold maxLen at hs
  obtain ⟨hyl, hyc, hyr, hyw⟩ := h0
  have hyb : ∀ z ∈ ys, 0 ≤ z ∧ z ≤ 65535 := fun z hz => by have := bounds_u16 (hyw z hz); exact this
  obtain ⟨M, bl, hM, hbl, hbr, hfo⟩ := few15_in h1
  have HFO := Lib.hid hfo
  have RB := Lib.hid hbr
  obtain ⟨T, hT⟩ : ∃ T, min s.size 100 = T := ⟨_, rfl⟩
  have hmn : min (s.size : Int) 100 = (T : Int) := by omega
  have hmi : (if (100 : Int) < (s.size : Int) then (100 : Int) else (s.size : Int)) = (T : Int) := by split <;> omega
  have hT0 : (0 : Int) ≤ (T : Int) := by omega
  have hT1 : (T : Int) ≤ (s.size : Int) := by omega
  obtain ⟨U, u1, u2, u3, hft⟩ := fit15 s T (by omega) (by omega)
  have HFT := Lib.hid hft
  obtain ⟨N, hN⟩ : ∃ N, (snL U).length = N := ⟨_, rfl⟩
  have hN2 : N ≤ 404 := by rw [← hN]; unfold snL; rw [List.length_append, bs_length]; have := putL_length U.size; omega
  have HP : Hid (∀ w', Calls Try.prog 9 #[.string U] w' fun e w'' => Ext w' w'' ∧ ∃ A' c', e = .returned (.tuple #[.slice A' N c', .int .i64 0]) ∧ N ≤ c' ∧ Rd w'' 1 (.slice A' N c') N (Lib.byteCells (snL U))) := Lib.hid fun w' => by
    refine (snPutP_c U w' (by omega)).mono ?_
    rintro e w'' ⟨hx, v, rfl, ho⟩
    rw [u3, hN] at ho
    obtain ⟨A', c', rfl, hc⟩ := ho.len
    rw [u2]
    exact ⟨hx, A', c', rfl, hc, ho.rd⟩
  have HT : Hid (∀ A c w', Rd w' 1 (.slice A (N + M) c) (N + M) (Lib.byteCells (snL U ++ bl)) → Calls Try.prog 11 #[.slice A (N + M) c] w' fun e w'' => e = .returned (.tuple #[.string U, .int .i64 (N : Int), .int .i64 0]) ∧ Ext w' w'') := Lib.hid fun A c w' hr => by
    have h := snTakeP_c A (N + M) c _ w' hr (by omega)
    rw [takeT_put _ u2, hN] at h
    refine h.mono ?_
    rintro e w'' ⟨hx, rfl⟩
    exact ⟨by simp only; rw [show mkS (bs U) = U from bs_inj (bs_mkS _)]; rfl, hx⟩
  have HTI : Hid (∀ A j c w', j < N → Rd w' 1 (.slice A j c) j (Lib.byteCells ((snL U).take j)) → Calls Try.prog 11 #[.slice A j c] w' fun e w'' => e = .returned (.tuple #[.string ⟨#[]⟩, .int .i64 0, .int .i64 7]) ∧ Ext w' w'') := Lib.hid fun A j c w' hj hr => by
    have h := snTakeP_c A j c _ w' hr (by omega)
    rw [takeT_pre _ u2 j (by omega)] at h
    refine h.mono ?_
    rintro e w'' ⟨hx, rfl⟩
    exact ⟨rfl, hx⟩
  have HRE : Hid (∀ A c w', Rd w' 1 (.slice A 0 c) 0 (nV []) → Calls Try.prog 14 #[.slice A 0 c] w' fun e w'' => Ext w' w'' ∧ ∃ A' c', e = .returned (.tuple #[.slice A' 0 c', .int .i64 2]) ∧ Rd w'' 1 (.slice A' 0 c') 0 (Lib.byteCells [])) := Lib.hid fun A c w' hr => by
    refine (rwPutP_c A 0 c [] w' hr (by omega)).mono ?_
    rintro e w'' ⟨hx, v, rfl, ho⟩
    have e1 : rowE [] = 2 := rfl
    have e2 : rwB [] = [] := rfl
    rw [e2] at ho
    obtain ⟨A', c', rfl, hc⟩ := ho.len
    rw [e1]
    exact ⟨hx, A', c', rfl, ho.rd⟩
  have HRO : Hid (∀ n, 0 < n → n ≤ 20 → ∃ Q : Nat, Q ≤ 84 ∧ (rwL (rowS ys n)).length = Q ∧
      (∀ A c w', Rd w' 1 (.slice A n c) n (nV (rowS ys n)) → Calls Try.prog 14 #[.slice A n c] w' fun e w'' => Ext w' w'' ∧ ∃ A' c', e = .returned (.tuple #[.slice A' Q c', .int .i64 0]) ∧ Rd w'' 1 (.slice A' Q c') Q (Lib.byteCells (rwL (rowS ys n)))) ∧
      (∀ A c w', Rd w' 1 (.slice A (Q + M) c) (Q + M) (Lib.byteCells (rwL (rowS ys n) ++ bl)) → Calls Try.prog 17 #[.slice A (Q + M) c] w' (RowR w' (0, rowS ys n, Q))) ∧
      (∀ A j c w', j < Q → Rd w' 1 (.slice A j c) j (Lib.byteCells ((rwL (rowS ys n)).take j)) → Calls Try.prog 17 #[.slice A j c] w' (RowR w' (7, [], 0)))) := Lib.hid fun n n0 n20 => by
    have hok := rowS_ok ys hyb n n20 n0
    have hE : rowE (rowS ys n) = 0 := if_pos hok
    have hB : rwB (rowS ys n) = rwL (rowS ys n) := by unfold rwB; rw [if_pos hE]
    have hl := rwL_len (rowS ys n)
    rw [rowS_len] at hl
    refine ⟨_, by omega, rfl, fun A c w' hr => ?_, fun A c w' hr => ?_, fun A j c w' hj hr => ?_⟩
    · refine (rwPutP_c A n c _ w' hr (by omega)).mono ?_
      rintro e w'' ⟨hx, v, rfl, ho⟩
      rw [hB] at ho
      obtain ⟨A', c', rfl, hc⟩ := ho.len
      rw [hE]
      exact ⟨hx, A', c', rfl, ho.rd⟩
    · have h := rwTakeP_c A _ c _ w' hr (by omega)
      rw [takeRw_put _ hok] at h
      exact h
    · have h := rwTakeP_c A _ c _ w' hr (by omega)
      rw [takeRw_pre _ hok j hj] at h
      exact h
  have HRX : Hid (∀ A c w', Rd w' 1 (.slice A M c) M (Lib.byteCells bl) → Calls Try.prog 17 #[.slice A M c] w' (RowR w' (takeRw bl))) := Lib.hid fun A c w' hr => rwTakeP_c A _ c _ w' hr (by omega)
  have HYB : Hid (∀ j, j < 20 → -1 ≤ atS ys j ∧ atS ys j ≤ 1310720) := Lib.hid fun j hj => by have := atS_le ys hyb j; omega
  have HYZ : Hid (∀ j (hj : j < ys.length), 0 ≤ ys[j] ∧ ys[j] ≤ 65535 ∧ atS ys (j + 1) = atS ys j + 1 + ys[j]) := Lib.hid fun j hj => by
    have h1 := hyb _ (List.getElem_mem hj)
    refine ⟨h1.1, h1.2, ?_⟩
    show atS ys j + 1 + ys.getD j 0 = _
    simp [hj]
  have HYR := Lib.hid hyr; have HYL := Lib.hid hyl
  obtain ⟨i, hi, hz0, hz1, hz2⟩ := info_parts info_int
  obtain ⟨ib, hib, hb0, hb1, hb2⟩ := info_parts info_u8b
  clear hyr hyl hyw hyb h1 hfo hbr hbl hT u2 u3 hft hN hyc
  go_enter Try.func5, Try.ntmps5
  go_wp2_with fail
  refine (shown15_c _).mono ?_; rintro e w1 ⟨rfl, hx1⟩
  go_wp2_with fail
  refine (HFT.out _).mono ?_; rintro e w2 ⟨rfl, hx2⟩
  have E2 := Lib.hid (hx1.trans hx2)
  have hZ := Lib.hid (Own.made w2 w2.heap.size 3 1 0 #[] (Nat.le_refl _) (by omega) rfl)
  have hZX := Lib.hid ((Ext.refl w2).alloc (.cells #[] 3))
  clear hx1 hx2
  go_wp2_with fail
  go_loopw [9, 10, 11] (fun o y z wr => ∃ (j : Nat) (x : Int), j ≤ q0 ∧ j ≤ 20 ∧ z = .int .i64 j ∧ y = .int .i64 x ∧ Hid (x = atS ys j) ∧ Own wr w2.heap.size 3 1 o j (nV (rowS ys j)) ∧ Ext w2 wr) (fun _ _ z _ => 20 - (intOf z).toNat)
  case atStart => exact ⟨0, -1, by omega, by omega, rfl, rfl, Lib.hid rfl, hZ.out, hZX.out⟩
  case round =>
    clear hZ hZX
    obtain ⟨j, x, hj, hj20, rfl, rfl, HX, own, hxr⟩ := hrel
    by_cases hlt : j < q0 ∧ j < 20
    · obtain ⟨hlt, hlt2⟩ := hlt
      have dn : decide (j < q0) = true := by rw [decide_eq_true_eq]; exact hlt
      have dn2 : decide (j < 20) = true := by rw [decide_eq_true_eq]; exact hlt2
      have dn3 : (j : Int) < 20 := by omega
      have hjl : j < ys.length := by have := HYL.out; omega
      obtain ⟨b, off, u, rfl, hb, hu, p0⟩ := (HYR.out.ext (E2.out.trans hxr)).cell (k := j) hlt
      rw [List.getElem?_map, List.getElem?_eq_getElem hjl] at hu
      simp only [Option.map_some, Option.some.injEq] at hu
      subst hu
      obtain ⟨y0, y1, y2⟩ := HYZ.out j hjl
      obtain ⟨z0, z1⟩ := HYB.out j hlt2
      rw [← HX.out] at y2 z0 z1
      have hst := rowS_succ ys j
      rw [y2] at hst
      have HX2 := Lib.hid y2.symm
      generalize ys[j] = y at *
      have i0 : (0 : Int) ≤ (j : Int) := by omega
      have i1 : (j : Int) < (q0 : Int) := by omega
      obtain ⟨v', w', happ, hown', hbel'⟩ := app_new (P := Try.prog) 31 31 3 i _ 1 8 Try.underlying31 hi hz0 hz1 hz2 rfl (by omega) (by omega)
        hxr own (by omega) 1 #[.int .i64 (x + 1 + y)] rfl (by omega) (by simp [Value.oneCell']) 3
      have HAP := Lib.hid happ
      have HOWN : Hid (Own w' w2.heap.size 3 1 v' (j + 1) (nV (rowS ys (j + 1)))) := Lib.hid (by
        rw [hst, nV_append]; exact hown')
      have HBEL := Lib.hid hbel'
      clear happ hown' hbel' own hxr hst y2
      go_wp2_with (at_builtin; refine wpList_append_run rfl rfl HAP.out rfl rfl ?_)
      go_roundw
      case rel => exact ⟨j + 1, x + 1 + y, by omega, by omega, by go_num, rfl, HX2, HOWN.out, HBEL.out⟩
      case measure => simp [intOf]; omega
    · obtain ⟨aR, cR, rfl, _⟩ := own.len
      have RR := Lib.hid own.rd
      have EX := Lib.hid (E2.out.trans hxr)
      have RB2 := Lib.hid (RB.out.ext EX.out)
      have dn : (decide (j < q0) = true ∧ decide (j < 20) = false) ∨ decide (j < q0) = false := by
        by_cases h : j < q0
        · exact .inl ⟨by rw [decide_eq_true_eq]; exact h, by rw [decide_eq_false_iff_not]; omega⟩
        · exact .inr (by rw [decide_eq_false_iff_not]; exact h)
      have dn3 : (j < 20) ∨ ¬ (j : Int) < 20 := by omega
      obtain ⟨wL, hwL⟩ : ∃ W, W = wr := ⟨_, rfl⟩
      subst hwL
      clear own hxr HYR HYL HYZ HYB HX E2 RB hlt
      by_cases hj0 : 0 < j
      · obtain ⟨Q, hQ84, hQ, h1, h2, h3⟩ := HRO.out j hj0 hj20
        have HPR := Lib.hid h1; have HTR := Lib.hid h2; have HTQ := Lib.hid h3
        clear h1 h2 h3 HRO HRE HRX hQ
        rcases dn with ⟨d1, d2⟩ | d1
        · have d3 : ¬ (j : Int) < 20 := by rw [decide_eq_false_iff_not] at d2; omega
          clear dn3
          go_wp2_with fail
          refine (HP.out _).mono ?_; rintro e w3 ⟨hx3, aP, cP, rfl, hcP, rP⟩
          have RP := Lib.hid rP
          have E3 := Lib.hid (EX.out.trans hx3)
          replace RB2 := Lib.hid (RB2.out.ext hx3)
          have RR3 := Lib.hid (RR.out.ext hx3)
          clear hx3 rP RR EX
          have bel0p : Below w3.heap.size w3 (w3.alloc (.cells #[] 5)) := (Below.refl _ _).alloc (Nat.le_refl _) _
          have own0p : Own (w3.alloc (.cells #[] 5)) w3.heap.size 5 1 (.slice (some ⟨w3.heap.size, 0, none⟩) 0 0) 0 [] := Own.made w3 w3.heap.size 5 1 0 #[] (Nat.le_refl _) (by omega) rfl
          obtain ⟨u1p, x1p, ha1p, ow1p, be1p⟩ := app_rd (P := Try.prog) 22 22 5 ib _ 1 1 Try.underlying22 hib hb0 hb1 hb2 rfl (by omega) (by omega) bel0p own0p (by omega) (RP.out.ext bel0p) (by omega) (byteCells_one _)
          rw [Nat.zero_add, List.nil_append] at ow1p
          have HA1p := Lib.hid ha1p
          clear bel0p own0p ha1p
          go_wp2_with (at_builtin; refine wpList_append_run rfl rfl HA1p.out rfl rfl ?_)
          refine (HFO.out _).mono ?_; rintro e x2p ⟨rfl, hyp⟩
          have be2p := Below.trans be1p (Below.mono hyp be1p.size)
          obtain ⟨u2p, x3p, ha2p, ow2p, be3p⟩ := app_rd (P := Try.prog) 22 22 5 ib _ 1 1 Try.underlying22 hib hb0 hb1 hb2 rfl (by omega) (by omega) be2p (ow1p.ext hyp) (by omega) (RB2.out.ext be2p) (by omega) (byteCells_one _)
          rw [← byteCells_append2] at ow2p
          obtain ⟨aOp, cOp, rfl, _⟩ := ow2p.len
          have HA2p := Lib.hid ha2p
          have ROp := Lib.hid ow2p.rd
          have XEp : Hid (Ext w3 x3p) := Lib.hid be3p
          clear ha2p ow2p ow1p be1p be2p be3p hyp
          go_wp2_with (at_builtin; refine wpList_append_run rfl rfl HA2p.out rfl rfl ?_)
          refine (HT.out _ _ _ ROp.out).mono ?_; rintro e w4 ⟨rfl, hx4⟩
          have X4 := Lib.hid (XEp.out.trans hx4)
          replace RB2 := Lib.hid (RB2.out.ext X4.out)
          have RP4 := Lib.hid (RP.out.ext X4.out)
          have RR4 := Lib.hid (RR3.out.ext X4.out)
          have E4 := Lib.hid (E3.out.trans X4.out)
          clear hx4 ROp XEp X4 RR3 RP E3
          go_wp2_with fail
          refine (HPR.out _ _ _ RR4.out).mono ?_; rintro e w5 ⟨hx5, aQ, cQ, rfl, rQ⟩
          have RQ := Lib.hid rQ
          replace RB2 := Lib.hid (RB2.out.ext hx5)
          replace RP4 := Lib.hid (RP4.out.ext hx5)
          replace RR4 := Lib.hid (RR4.out.ext hx5)
          replace E4 := Lib.hid (E4.out.trans hx5)
          clear hx5 rQ
          have bel0q : Below w5.heap.size w5 (w5.alloc (.cells #[] 5)) := (Below.refl _ _).alloc (Nat.le_refl _) _
          have own0q : Own (w5.alloc (.cells #[] 5)) w5.heap.size 5 1 (.slice (some ⟨w5.heap.size, 0, none⟩) 0 0) 0 [] := Own.made w5 w5.heap.size 5 1 0 #[] (Nat.le_refl _) (by omega) rfl
          obtain ⟨u1q, x1q, ha1q, ow1q, be1q⟩ := app_rd (P := Try.prog) 22 22 5 ib _ 1 1 Try.underlying22 hib hb0 hb1 hb2 rfl (by omega) (by omega) bel0q own0q (by omega) (RQ.out.ext bel0q) (by omega) (byteCells_one _)
          rw [Nat.zero_add, List.nil_append] at ow1q
          have HA1q := Lib.hid ha1q
          clear bel0q own0q ha1q
          go_wp2_with (at_builtin; refine wpList_append_run rfl rfl HA1q.out rfl rfl ?_)
          refine (HFO.out _).mono ?_; rintro e x2q ⟨rfl, hyq⟩
          have be2q := Below.trans be1q (Below.mono hyq be1q.size)
          obtain ⟨u2q, x3q, ha2q, ow2q, be3q⟩ := app_rd (P := Try.prog) 22 22 5 ib _ 1 1 Try.underlying22 hib hb0 hb1 hb2 rfl (by omega) (by omega) be2q (ow1q.ext hyq) (by omega) (RB2.out.ext be2q) (by omega) (byteCells_one _)
          rw [← byteCells_append2] at ow2q
          obtain ⟨aOq, cOq, rfl, _⟩ := ow2q.len
          have HA2q := Lib.hid ha2q
          have ROq := Lib.hid ow2q.rd
          have XEq : Hid (Ext w5 x3q) := Lib.hid be3q
          clear ha2q ow2q ow1q be1q be2q be3q hyq
          go_wp2_with (at_builtin; refine wpList_append_run rfl rfl HA2q.out rfl rfl ?_)
          refine (HTR.out _ _ _ ROq.out).mono ?_; rintro e w6 ⟨hx6, aM, nM, cM, rfl, rM⟩
          have RM : Hid (Rd w6 1 (.slice aM nM cM) nM (nV (rowS ys j))) := Lib.hid rM
          have X6 := Lib.hid (XEq.out.trans hx6)
          have RP6 := Lib.hid (RP4.out.ext X6.out)
          have RR6 := Lib.hid (RR4.out.ext X6.out)
          have RQ6 := Lib.hid (RQ.out.ext X6.out)
          have E6 := Lib.hid (E4.out.trans X6.out)
          have hcQ : Q ≤ cQ := by obtain ⟨_, _, hv, hc⟩ := RQ.out.len; injection hv with _ _ e; omega
          clear hx6 rM ROq XEq X6 RP4 RR4 RQ E4 RB2
          have g0 : decide (0 < j) = true := by rw [decide_eq_true_eq]; exact hj0
          have g1 : (0 : Int) < (j : Int) := by omega
          have g2 : ((j : Int) == 0) = false := by rw [beq_eq_false_iff_ne]; omega
          go_wp2_with fail
          go_loopw [22] (fun z wi => ∃ t : Nat, t ≤ N ∧ z = .int .i64 t ∧ Hid (Ext w6 wi)) (fun z _ => N - (intOf z).toNat)
          case atStart => exact ⟨0, by omega, rfl, Lib.hid (Ext.refl _)⟩
          case round =>
            obtain ⟨t, ht, rfl, HXI⟩ := hrel
            by_cases hlt : t < N
            · have dn : decide (t < N) = true := by rw [decide_eq_true_eq]; exact hlt
              have i0 : (0 : Int) ≤ (t : Int) := by omega
              have i1 : (t : Int) < (N : Int) := by omega
              have i2 : (t : Int) ≤ (cP : Int) := by omega
              have HC := Lib.hid (HTI.out aP t cP wr hlt (bytes_front (RP6.out.ext HXI.out) ht))
              go_wp2_with fail
              refine HC.out.mono ?_; rintro e y1 ⟨rfl, hy1⟩
              go_wp2_with fail
              go_roundw
              case rel => exact ⟨t + 1, by omega, by go_num, Lib.hid (HXI.out.trans hy1)⟩
              case measure => simp [intOf]; omega
            · obtain rfl : t = N := by omega
              have dn : decide (t < t) = false := by rw [decide_eq_false_iff_not]; omega
              obtain ⟨wM, hwM⟩ : ∃ W, W = wr := ⟨_, rfl⟩
              subst hwM
              go_wp2_with fail
              go_loopw [26] (fun z wi => ∃ t : Nat, t ≤ Q ∧ z = .int .i64 t ∧ Hid (Ext wM wi)) (fun z _ => Q - (intOf z).toNat)
              case atStart => exact ⟨0, by omega, rfl, Lib.hid (Ext.refl _)⟩
              case round =>
                obtain ⟨k, hk, rfl, HXK⟩ := hrel
                by_cases hlt : k < Q
                · have dn : decide (k < Q) = true := by rw [decide_eq_true_eq]; exact hlt
                  have i0 : (0 : Int) ≤ (k : Int) := by omega
                  have i1 : (k : Int) < (Q : Int) := by omega
                  have i2 : (k : Int) ≤ (cQ : Int) := by omega
                  have HC := Lib.hid (HTQ.out aQ k cQ wr hlt (bytes_front (RQ6.out.ext (HXI.out.trans HXK.out)) hk))
                  go_wp2_with fail
                  refine HC.out.mono ?_; rintro e y1 ⟨hy1, aZ, nZ, cZ, rfl, _⟩
                  go_wp2_with fail
                  go_roundw
                  case rel => exact ⟨k + 1, by omega, by go_num, Lib.hid (HXK.out.trans hy1)⟩
                  case measure => simp [intOf]; omega
                · obtain rfl : k = Q := by omega
                  have dn : decide (k < k) = false := by rw [decide_eq_false_iff_not]; omega
                  have exr := HXI.out.trans HXK.out
                  go_wp2_with fail
                  refine (sameTrue15 rfl (by rw [rowS_len]; omega) (RM.out.ext exr) (RR6.out.ext exr)).mono ?_; rintro e y2 ⟨rfl, hy2⟩
                  go_wp2_with fail
                  go_ret
                  exact ⟨rfl, (E6.out.trans exr).trans hy2⟩
        · clear dn3
          go_wp2_with fail
          refine (HP.out _).mono ?_; rintro e w3 ⟨hx3, aP, cP, rfl, hcP, rP⟩
          have RP := Lib.hid rP
          have E3 := Lib.hid (EX.out.trans hx3)
          replace RB2 := Lib.hid (RB2.out.ext hx3)
          have RR3 := Lib.hid (RR.out.ext hx3)
          clear hx3 rP RR EX
          have bel0p : Below w3.heap.size w3 (w3.alloc (.cells #[] 5)) := (Below.refl _ _).alloc (Nat.le_refl _) _
          have own0p : Own (w3.alloc (.cells #[] 5)) w3.heap.size 5 1 (.slice (some ⟨w3.heap.size, 0, none⟩) 0 0) 0 [] := Own.made w3 w3.heap.size 5 1 0 #[] (Nat.le_refl _) (by omega) rfl
          obtain ⟨u1p, x1p, ha1p, ow1p, be1p⟩ := app_rd (P := Try.prog) 22 22 5 ib _ 1 1 Try.underlying22 hib hb0 hb1 hb2 rfl (by omega) (by omega) bel0p own0p (by omega) (RP.out.ext bel0p) (by omega) (byteCells_one _)
          rw [Nat.zero_add, List.nil_append] at ow1p
          have HA1p := Lib.hid ha1p
          clear bel0p own0p ha1p
          go_wp2_with (at_builtin; refine wpList_append_run rfl rfl HA1p.out rfl rfl ?_)
          refine (HFO.out _).mono ?_; rintro e x2p ⟨rfl, hyp⟩
          have be2p := Below.trans be1p (Below.mono hyp be1p.size)
          obtain ⟨u2p, x3p, ha2p, ow2p, be3p⟩ := app_rd (P := Try.prog) 22 22 5 ib _ 1 1 Try.underlying22 hib hb0 hb1 hb2 rfl (by omega) (by omega) be2p (ow1p.ext hyp) (by omega) (RB2.out.ext be2p) (by omega) (byteCells_one _)
          rw [← byteCells_append2] at ow2p
          obtain ⟨aOp, cOp, rfl, _⟩ := ow2p.len
          have HA2p := Lib.hid ha2p
          have ROp := Lib.hid ow2p.rd
          have XEp : Hid (Ext w3 x3p) := Lib.hid be3p
          clear ha2p ow2p ow1p be1p be2p be3p hyp
          go_wp2_with (at_builtin; refine wpList_append_run rfl rfl HA2p.out rfl rfl ?_)
          refine (HT.out _ _ _ ROp.out).mono ?_; rintro e w4 ⟨rfl, hx4⟩
          have X4 := Lib.hid (XEp.out.trans hx4)
          replace RB2 := Lib.hid (RB2.out.ext X4.out)
          have RP4 := Lib.hid (RP.out.ext X4.out)
          have RR4 := Lib.hid (RR3.out.ext X4.out)
          have E4 := Lib.hid (E3.out.trans X4.out)
          clear hx4 ROp XEp X4 RR3 RP E3
          go_wp2_with fail
          refine (HPR.out _ _ _ RR4.out).mono ?_; rintro e w5 ⟨hx5, aQ, cQ, rfl, rQ⟩
          have RQ := Lib.hid rQ
          replace RB2 := Lib.hid (RB2.out.ext hx5)
          replace RP4 := Lib.hid (RP4.out.ext hx5)
          replace RR4 := Lib.hid (RR4.out.ext hx5)
          replace E4 := Lib.hid (E4.out.trans hx5)
          clear hx5 rQ
          have bel0q : Below w5.heap.size w5 (w5.alloc (.cells #[] 5)) := (Below.refl _ _).alloc (Nat.le_refl _) _
          have own0q : Own (w5.alloc (.cells #[] 5)) w5.heap.size 5 1 (.slice (some ⟨w5.heap.size, 0, none⟩) 0 0) 0 [] := Own.made w5 w5.heap.size 5 1 0 #[] (Nat.le_refl _) (by omega) rfl
          obtain ⟨u1q, x1q, ha1q, ow1q, be1q⟩ := app_rd (P := Try.prog) 22 22 5 ib _ 1 1 Try.underlying22 hib hb0 hb1 hb2 rfl (by omega) (by omega) bel0q own0q (by omega) (RQ.out.ext bel0q) (by omega) (byteCells_one _)
          rw [Nat.zero_add, List.nil_append] at ow1q
          have HA1q := Lib.hid ha1q
          clear bel0q own0q ha1q
          go_wp2_with (at_builtin; refine wpList_append_run rfl rfl HA1q.out rfl rfl ?_)
          refine (HFO.out _).mono ?_; rintro e x2q ⟨rfl, hyq⟩
          have be2q := Below.trans be1q (Below.mono hyq be1q.size)
          obtain ⟨u2q, x3q, ha2q, ow2q, be3q⟩ := app_rd (P := Try.prog) 22 22 5 ib _ 1 1 Try.underlying22 hib hb0 hb1 hb2 rfl (by omega) (by omega) be2q (ow1q.ext hyq) (by omega) (RB2.out.ext be2q) (by omega) (byteCells_one _)
          rw [← byteCells_append2] at ow2q
          obtain ⟨aOq, cOq, rfl, _⟩ := ow2q.len
          have HA2q := Lib.hid ha2q
          have ROq := Lib.hid ow2q.rd
          have XEq : Hid (Ext w5 x3q) := Lib.hid be3q
          clear ha2q ow2q ow1q be1q be2q be3q hyq
          go_wp2_with (at_builtin; refine wpList_append_run rfl rfl HA2q.out rfl rfl ?_)
          refine (HTR.out _ _ _ ROq.out).mono ?_; rintro e w6 ⟨hx6, aM, nM, cM, rfl, rM⟩
          have RM : Hid (Rd w6 1 (.slice aM nM cM) nM (nV (rowS ys j))) := Lib.hid rM
          have X6 := Lib.hid (XEq.out.trans hx6)
          have RP6 := Lib.hid (RP4.out.ext X6.out)
          have RR6 := Lib.hid (RR4.out.ext X6.out)
          have RQ6 := Lib.hid (RQ.out.ext X6.out)
          have E6 := Lib.hid (E4.out.trans X6.out)
          have hcQ : Q ≤ cQ := by obtain ⟨_, _, hv, hc⟩ := RQ.out.len; injection hv with _ _ e; omega
          clear hx6 rM ROq XEq X6 RP4 RR4 RQ E4 RB2
          have g0 : decide (0 < j) = true := by rw [decide_eq_true_eq]; exact hj0
          have g1 : (0 : Int) < (j : Int) := by omega
          have g2 : ((j : Int) == 0) = false := by rw [beq_eq_false_iff_ne]; omega
          go_wp2_with fail
          go_loopw [22] (fun z wi => ∃ t : Nat, t ≤ N ∧ z = .int .i64 t ∧ Hid (Ext w6 wi)) (fun z _ => N - (intOf z).toNat)
          case atStart => exact ⟨0, by omega, rfl, Lib.hid (Ext.refl _)⟩
          case round =>
            obtain ⟨t, ht, rfl, HXI⟩ := hrel
            by_cases hlt : t < N
            · have dn : decide (t < N) = true := by rw [decide_eq_true_eq]; exact hlt
              have i0 : (0 : Int) ≤ (t : Int) := by omega
              have i1 : (t : Int) < (N : Int) := by omega
              have i2 : (t : Int) ≤ (cP : Int) := by omega
              have HC := Lib.hid (HTI.out aP t cP wr hlt (bytes_front (RP6.out.ext HXI.out) ht))
              go_wp2_with fail
              refine HC.out.mono ?_; rintro e y1 ⟨rfl, hy1⟩
              go_wp2_with fail
              go_roundw
              case rel => exact ⟨t + 1, by omega, by go_num, Lib.hid (HXI.out.trans hy1)⟩
              case measure => simp [intOf]; omega
            · obtain rfl : t = N := by omega
              have dn : decide (t < t) = false := by rw [decide_eq_false_iff_not]; omega
              obtain ⟨wM, hwM⟩ : ∃ W, W = wr := ⟨_, rfl⟩
              subst hwM
              go_wp2_with fail
              go_loopw [26] (fun z wi => ∃ t : Nat, t ≤ Q ∧ z = .int .i64 t ∧ Hid (Ext wM wi)) (fun z _ => Q - (intOf z).toNat)
              case atStart => exact ⟨0, by omega, rfl, Lib.hid (Ext.refl _)⟩
              case round =>
                obtain ⟨k, hk, rfl, HXK⟩ := hrel
                by_cases hlt : k < Q
                · have dn : decide (k < Q) = true := by rw [decide_eq_true_eq]; exact hlt
                  have i0 : (0 : Int) ≤ (k : Int) := by omega
                  have i1 : (k : Int) < (Q : Int) := by omega
                  have i2 : (k : Int) ≤ (cQ : Int) := by omega
                  have HC := Lib.hid (HTQ.out aQ k cQ wr hlt (bytes_front (RQ6.out.ext (HXI.out.trans HXK.out)) hk))
                  go_wp2_with fail
                  refine HC.out.mono ?_; rintro e y1 ⟨hy1, aZ, nZ, cZ, rfl, _⟩
                  go_wp2_with fail
                  go_roundw
                  case rel => exact ⟨k + 1, by omega, by go_num, Lib.hid (HXK.out.trans hy1)⟩
                  case measure => simp [intOf]; omega
                · obtain rfl : k = Q := by omega
                  have dn : decide (k < k) = false := by rw [decide_eq_false_iff_not]; omega
                  have exr := HXI.out.trans HXK.out
                  go_wp2_with fail
                  refine (sameTrue15 rfl (by rw [rowS_len]; omega) (RM.out.ext exr) (RR6.out.ext exr)).mono ?_; rintro e y2 ⟨rfl, hy2⟩
                  go_wp2_with fail
                  go_ret
                  exact ⟨rfl, (E6.out.trans exr).trans hy2⟩
      · obtain rfl : j = 0 := by omega
        have RR : Hid (Rd wL 1 (.slice aR 0 cR) 0 (nV [])) := Lib.hid RR.out
        clear HRO dn3
        rcases dn with ⟨d1, d2⟩ | d1
        · exact absurd d2 (by decide)
        · go_wp2_with fail
          refine (HP.out _).mono ?_; rintro e w3 ⟨hx3, aP, cP, rfl, hcP, rP⟩
          have RP := Lib.hid rP
          have E3 := Lib.hid (EX.out.trans hx3)
          replace RB2 := Lib.hid (RB2.out.ext hx3)
          have RR3 := Lib.hid (RR.out.ext hx3)
          clear hx3 rP RR EX
          have bel0p : Below w3.heap.size w3 (w3.alloc (.cells #[] 5)) := (Below.refl _ _).alloc (Nat.le_refl _) _
          have own0p : Own (w3.alloc (.cells #[] 5)) w3.heap.size 5 1 (.slice (some ⟨w3.heap.size, 0, none⟩) 0 0) 0 [] := Own.made w3 w3.heap.size 5 1 0 #[] (Nat.le_refl _) (by omega) rfl
          obtain ⟨u1p, x1p, ha1p, ow1p, be1p⟩ := app_rd (P := Try.prog) 22 22 5 ib _ 1 1 Try.underlying22 hib hb0 hb1 hb2 rfl (by omega) (by omega) bel0p own0p (by omega) (RP.out.ext bel0p) (by omega) (byteCells_one _)
          rw [Nat.zero_add, List.nil_append] at ow1p
          have HA1p := Lib.hid ha1p
          clear bel0p own0p ha1p
          go_wp2_with (at_builtin; refine wpList_append_run rfl rfl HA1p.out rfl rfl ?_)
          refine (HFO.out _).mono ?_; rintro e x2p ⟨rfl, hyp⟩
          have be2p := Below.trans be1p (Below.mono hyp be1p.size)
          obtain ⟨u2p, x3p, ha2p, ow2p, be3p⟩ := app_rd (P := Try.prog) 22 22 5 ib _ 1 1 Try.underlying22 hib hb0 hb1 hb2 rfl (by omega) (by omega) be2p (ow1p.ext hyp) (by omega) (RB2.out.ext be2p) (by omega) (byteCells_one _)
          rw [← byteCells_append2] at ow2p
          obtain ⟨aOp, cOp, rfl, _⟩ := ow2p.len
          have HA2p := Lib.hid ha2p
          have ROp := Lib.hid ow2p.rd
          have XEp : Hid (Ext w3 x3p) := Lib.hid be3p
          clear ha2p ow2p ow1p be1p be2p be3p hyp
          go_wp2_with (at_builtin; refine wpList_append_run rfl rfl HA2p.out rfl rfl ?_)
          refine (HT.out _ _ _ ROp.out).mono ?_; rintro e w4 ⟨rfl, hx4⟩
          have X4 := Lib.hid (XEp.out.trans hx4)
          replace RB2 := Lib.hid (RB2.out.ext X4.out)
          have RP4 := Lib.hid (RP.out.ext X4.out)
          have RR4 := Lib.hid (RR3.out.ext X4.out)
          have E4 := Lib.hid (E3.out.trans X4.out)
          clear hx4 ROp XEp X4 RR3 RP E3
          go_wp2_with fail
          refine (HRE.out _ _ _ RR4.out).mono ?_; rintro e w5 ⟨hx5, aQ, cQ, rfl, rQ⟩
          have RQ := Lib.hid rQ
          replace RB2 := Lib.hid (RB2.out.ext hx5)
          replace RP4 := Lib.hid (RP4.out.ext hx5)
          replace RR4 := Lib.hid (RR4.out.ext hx5)
          replace E4 := Lib.hid (E4.out.trans hx5)
          clear hx5 rQ
          have bel0q : Below w5.heap.size w5 (w5.alloc (.cells #[] 5)) := (Below.refl _ _).alloc (Nat.le_refl _) _
          have own0q : Own (w5.alloc (.cells #[] 5)) w5.heap.size 5 1 (.slice (some ⟨w5.heap.size, 0, none⟩) 0 0) 0 [] := Own.made w5 w5.heap.size 5 1 0 #[] (Nat.le_refl _) (by omega) rfl
          obtain ⟨u1q, x1q, ha1q, ow1q, be1q⟩ := app_rd (P := Try.prog) 22 22 5 ib _ 1 1 Try.underlying22 hib hb0 hb1 hb2 rfl (by omega) (by omega) bel0q own0q (by omega) (RQ.out.ext bel0q) (by omega) (byteCells_one _)
          rw [Nat.zero_add, List.nil_append] at ow1q
          have HA1q := Lib.hid ha1q
          clear bel0q own0q ha1q
          go_wp2_with (at_builtin; refine wpList_append_run rfl rfl HA1q.out rfl rfl ?_)
          refine (HFO.out _).mono ?_; rintro e x2q ⟨rfl, hyq⟩
          have be2q := Below.trans be1q (Below.mono hyq be1q.size)
          obtain ⟨u2q, x3q, ha2q, ow2q, be3q⟩ := app_rd (P := Try.prog) 22 22 5 ib _ 1 1 Try.underlying22 hib hb0 hb1 hb2 rfl (by omega) (by omega) be2q (ow1q.ext hyq) (by omega) (RB2.out.ext be2q) (by omega) (byteCells_one _)
          rw [← byteCells_append2] at ow2q
          obtain ⟨aOq, cOq, rfl, _⟩ := ow2q.len
          have HA2q := Lib.hid ha2q
          have ROq := Lib.hid ow2q.rd
          have XEq : Hid (Ext w5 x3q) := Lib.hid be3q
          clear ha2q ow2q ow1q be1q be2q be3q hyq
          go_wp2_with (at_builtin; refine wpList_append_run rfl rfl HA2q.out rfl rfl ?_)
          have ROq2 := ROq.out
          rw [Nat.zero_add, List.nil_append] at ROq2
          refine (HRX.out _ _ _ ROq2).mono ?_; rintro e w6 ⟨hx6, aM, nM, cM, rfl, rM⟩
          obtain ⟨z1, hz1⟩ : ∃ z1 : Int, (((takeRw bl).2.2 : Nat) : Int) = z1 := ⟨_, rfl⟩
          obtain ⟨z2, hz2⟩ : ∃ z2 : Int, (((takeRw bl).1 : Nat) : Int) = z2 := ⟨_, rfl⟩
          rw [hz1, hz2]
          clear hz1 hz2
          have X6 := Lib.hid (XEq.out.trans hx6)
          have RP6 := Lib.hid (RP4.out.ext X6.out)
          have RR6 := Lib.hid (RR4.out.ext X6.out)
          have RQ6 := Lib.hid (RQ.out.ext X6.out)
          have E6 := Lib.hid (E4.out.trans X6.out)
          have hcQ : 0 ≤ cQ := by obtain ⟨_, _, hv, hc⟩ := RQ.out.len; injection hv with _ _ e; omega
          clear hx6 rM ROq XEq X6 RP4 RR4 RQ E4 RB2
          go_wp2_with fail
          go_loopw [22] (fun z wi => ∃ t : Nat, t ≤ N ∧ z = .int .i64 t ∧ Hid (Ext w6 wi)) (fun z _ => N - (intOf z).toNat)
          case atStart => exact ⟨0, by omega, rfl, Lib.hid (Ext.refl _)⟩
          case round =>
            obtain ⟨t, ht, rfl, HXI⟩ := hrel
            by_cases hlt : t < N
            · have dn : decide (t < N) = true := by rw [decide_eq_true_eq]; exact hlt
              have i0 : (0 : Int) ≤ (t : Int) := by omega
              have i1 : (t : Int) < (N : Int) := by omega
              have i2 : (t : Int) ≤ (cP : Int) := by omega
              have HC := Lib.hid (HTI.out aP t cP wr hlt (bytes_front (RP6.out.ext HXI.out) ht))
              go_wp2_with fail
              refine HC.out.mono ?_; rintro e y1 ⟨rfl, hy1⟩
              go_wp2_with fail
              go_roundw
              case rel => exact ⟨t + 1, by omega, by go_num, Lib.hid (HXI.out.trans hy1)⟩
              case measure => simp [intOf]; omega
            · obtain rfl : t = N := by omega
              have dn : decide (t < t) = false := by rw [decide_eq_false_iff_not]; omega
              obtain ⟨wM, hwM⟩ : ∃ W, W = wr := ⟨_, rfl⟩
              subst hwM
              go_wp2_with fail
              go_loopw [26] (fun z wi => z = .int .i64 0 ∧ wi = wM) (fun z _ => 0)
              case atStart => exact ⟨rfl, rfl⟩
              case round =>
                obtain ⟨rfl, rfl⟩ := hrel
                go_wp2_with fail
                go_ret
                exact ⟨rfl, E6.out.trans HXI.out⟩
          
end Go.Proofs.Ytilldbbfdmdggaa
