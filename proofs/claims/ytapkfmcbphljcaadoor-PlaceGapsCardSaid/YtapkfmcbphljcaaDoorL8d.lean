/- Layer 8, PlaceGaps. -/
import Derived.Test.YtapkfmcbphljcaaDoorL8c
namespace Go.Proofs.YtapkfmcbphljcaaDoor
open Go.RowKit
set_option maxRecDepth 100000
set_option maxHeartbeats 4000000
/-- What is put in the gaps ahead of one, and what is kept there. -/
def stepN (ps : List (List Nat)) (ds : List Bool) (i : Nat) : Nat := (ps.getD i []).length + if ds.getD i true then 0 else 1
def accN (ps : List (List Nat)) (ds : List Bool) (j : Nat) : Nat := ((List.range j).map (stepN ps ds)).sum
theorem accN_succ (ps : List (List Nat)) (ds : List Bool) (j : Nat) : accN ps ds (j + 1) = accN ps ds j + stepN ps ds j := by
  simp [accN, List.range_succ]
theorem accN_cons (p : List Nat) (ps : List (List Nat)) (d : Bool) (ds : List Bool) (j : Nat) : accN (p :: ps) (d :: ds) (j + 1) = p.length + (if d then 0 else 1) + accN ps ds j := by
  have e : List.range (j + 1) = 0 :: (List.range j).map Nat.succ := List.range_succ_eq_map
  unfold accN
  have h1 : (stepN (p :: ps) (d :: ds)) ∘ Nat.succ = stepN ps ds := by funext i; simp [stepN]
  have h0 : stepN (p :: ps) (d :: ds) 0 = p.length + (if d then 0 else 1) := by simp [stepN]
  rw [e, List.map_cons, List.map_map, h1, List.sum_cons, h0]
theorem where_ug (ps : List (List Nat)) (ds : List Bool) (i : Nat) (h : ps.length = ds.length + 1) (hi : i ≤ ds.length) : whereT (ug ps ds) i = accN ps ds i + (ps.getD i []).length := by
  induction ds generalizing ps i with
  | nil =>
    obtain rfl : i = 0 := by simpa using hi
    match ps, h with
    | [p], _ =>
      show whereT (p.map Tok.ins) 0 = _
      have e := whereT_inss p [] 0
      rw [List.append_nil] at e
      rw [e]
      simp [accN, whereT]
  | cons d ds ih =>
    cases ps with
    | nil => simp at h
    | cons p ps =>
      show whereT (p.map Tok.ins ++ (if d then Tok.del else Tok.keep) :: ug ps ds) i = _
      rw [whereT_inss]
      cases i with
      | zero => cases d <;> simp [whereT, accN]
      | succ i =>
        have g := ih ps i (by simpa using h) (by simpa using hi)
        rw [accN_cons]
        cases d
        · show p.length + whereT (Tok.keep :: ug ps ds) (i + 1) = _
          rw [whereT, g]; simp; omega
        · show p.length + whereT (Tok.del :: ug ps ds) (i + 1) = _
          rw [whereT, g]; simp; omega
theorem where_gaps (ts : List Tok) (i : Nat) (hi : i ≤ tin ts) : whereT ts i = accN (gpP ts) (gpD ts) i + ((gpP ts).getD i []).length := by
  have h := where_ug (gpP ts) (gpD ts) i (gpP_length ts) (by rw [gpD_length]; exact hi)
  rw [ug_gp] at h; exact h
theorem accN_end (ts : List Tok) : accN (gpP ts) (gpD ts) (tin ts + 1) = tout ts := by
  have h := where_gaps ts (tin ts) (Nat.le_refl _)
  rw [whereT_last ts _ (Nat.le_refl _)] at h
  rw [accN_succ, h]
  unfold stepN
  have e : (gpD ts).getD (tin ts) true = true := by
    rw [List.getD_eq_getElem?_getD, List.getElem?_eq_none (by rw [gpD_length]; exact Nat.le_refl _)]; rfl
  rw [e, if_pos rfl, Nat.add_zero]
theorem placeGaps_c (A : Option Addr) (q c : Nat) (l : List Sp) (n : Int) (w : World) [Tab w] (h : Rd w 3 (.slice A q c) q (spCells l)) (hl : l.length = q) (hls : ∀ s ∈ l, s.2.2.size ≤ maxLen) (hn : (Lit.int .u8 n).wf = true) :
    Calls Tryd.prog 4 #[.slice A q c, .int .u8 n] w fun e w' => e = .returned (.bool true) ∧ Below w.heap.size w w' := by
  obtain ⟨n0, n1⟩ := bounds_u8 hn
  obtain ⟨M, hM, hM1⟩ : ∃ M : Nat, n % 64 = (M : Int) ∧ M ≤ 63 := ⟨(n % 64).toNat, by omega, by omega⟩
  have HFL : Hid (∀ w', Ext w w' → _) := Lib.hid fun w' hx => fitR4_c A q c l M w' (h.ext hx) hl hls (by omega) (by omega)
  obtain ⟨f1, f2, f3, f4, f5, f6, f7⟩ := fit_all l M (by omega) (by omega)
  have fm := fitL_may l (M : Int) (by omega) (by omega)
  obtain ⟨fo0, fo1⟩ := fit_out l (M : Int) (by omega) (by omega)
  generalize fitL l M = X at *
  obtain ⟨O, hO⟩ := Int.eq_ofNat_of_zero_le fo0
  have hwo : wrap64 (outL X) = (O : Int) := by unfold wrap64; omega
  have hti := (tin_ok X f1).1
  have hto := (tin_ok X f1).2
  have htM : tin (tok X) = M := by omega
  have htO : tout (tok X) = O := by omega
  have hend := accN_end (tok X)
  have HGP := Lib.hid (where_gaps (tok X))
  rw [htM, htO] at hend
  have HWX : Hid (∀ (g : Nat) A n k w', g ≤ M → Ext w w' → RdO w' A n k X → _) := Lib.hid fun g A n k w' hg hx hr => have hTb := tab_ext hx; whereFit_c X M fm f2 (by omega) f6 f7 g hg A n k w' hr
  have HWO : Hid (∀ A n k w', Ext w w' → RdO w' A n k X → _) := Lib.hid fun A n k w' hx hr => have hTb := tab_ext hx; whereOff_c X M fm f2 (by omega) f6 f7 A n k w' hr
  have HOX : Hid (∀ A n k w', Ext w w' → RdO w' A n k X → Calls Tryd.prog 16 #[.slice A n k] w' fun e w'' => e = .returned (.int .i64 (O : Int)) ∧ Ext w' w'') := Lib.hid fun A n k w' hx hr => by
    have hTb := tab_ext hx
    have h := out4_c A n k X w' hr.2 hr.1 (by have := hr.1; omega) f6
    rw [hwo] at h; exact h
  have HG : Hid (∀ A n k w', Ext w w' → RdO w' A n k X → _) := Lib.hid fun A n k w' hx hr => have hTb := tab_ext hx; (gaps_c A n k X w' hr.2 hr.1 (by have := hr.1; omega) f6 f7).mono fun e w'' h => h.ok f3 f2
  have HCN : Hid (∀ (p : List Nat) w', p ∈ gpP (tok X) → Calls Tryd.prog 15 #[.string (mkS (encs p))] w' fun e w'' => e = .returned (.int .i64 (p.length : Int)) ∧ Ext w' w'') := Lib.hid fun p w' hp => by
    have h1 := gpP_le _ p hp
    have h2 := insT_sum X f1
    have h := countR_c (mkS (encs p)) w' (by rw [size_mkS]; omega)
    rw [cntF_some (by rw [bs_mkS]; exact dec_encs (gpP_cp _ (tok_okT X f1) p hp))] at h
    exact h
  have HPL : Hid ((gpP (tok X)).length = M + 1) := Lib.hid (by rw [gpP_length, gpD_length]; omega)
  have HDL : Hid ((gpD (tok X)).length = M) := Lib.hid (by rw [gpD_length]; omega)
  have HWL := Lib.hid (whereT_le (tok X))
  rw [htO] at HWL
  rw [htM] at HGP
  have HEND := Lib.hid hend
  have hwn : IntKind.i64.wrap ((M : Int) + 1) = (M : Int) + 1 := by rw [IntKind.wrap_i64]; omega
  have hOb : O ≤ 400 := by omega
  clear h hl hls hn f1 f2 f3 f4 f5 f6 f7 fm fo0 fo1 hO hwo hti hto htM htO hend
  generalize gpP (tok X) = PS at *
  generalize gpD (tok X) = DS at *
  go_enter Tryd.func4, Tryd.ntmps4
  go_wp2_with fail
  refine (shown8_c _).mono ?_; rintro e w1 ⟨rfl, hx1⟩
  have e1 : Ext w w1 := hx1
  clear hx1
  go_wp2_with fail
  refine (HFL.out _ e1).mono ?_; rintro e w2 ⟨v2, rfl, hx2, o2⟩
  have e2 : Ext w w2 := e1.trans hx2
  obtain ⟨aX, nX, cX, rfl, rX⟩ := rdO_own o2
  have RX := Lib.hid rX
  clear o2 rX
  clear hx2
  go_wp2_with fail
  refine (HG.out _ _ _ _ e2 RX.out).mono ?_; rintro e w3 ⟨gA, gc, gB, gd, rfl, hx3, rP, rD⟩
  have e3 : Ext w w3 := e2.trans hx3
  replace RX := Lib.hid (RX.out.ext hx3)
  have RP := Lib.hid rP; have RD := Lib.hid rD
  clear rP rD
  clear hx3
  have BG := Lib.hid (BoxG.made w3 #[.slice gA (M + 1) gc, .slice gB M gd] 33)
  replace RX := Lib.hid (RX.out.ext ((Ext.refl w3).alloc (.cells #[.slice gA (M + 1) gc, .slice gB M gd] 33)))
  replace RP := Lib.hid (RP.out.ext ((Ext.refl w3).alloc (.cells #[.slice gA (M + 1) gc, .slice gB M gd] 33)))
  replace RD := Lib.hid (RD.out.ext ((Ext.refl w3).alloc (.cells #[.slice gA (M + 1) gc, .slice gB M gd] 33)))
  have e4 : Ext w (w3.alloc (.cells #[.slice gA (M + 1) gc, .slice gB M gd] 33)) := e3.alloc _
  have q0 : (w3.alloc (.cells #[.slice gA (M + 1) gc, .slice gB M gd] 33)).cell? ⟨w3.heap.size, 0, none⟩ = some (.slice gA (M + 1) gc) := BG.out.2 0 _ rfl
  have q1 : (w3.alloc (.cells #[.slice gA (M + 1) gc, .slice gB M gd] 33)).cell? ⟨w3.heap.size, 1, none⟩ = some (.slice gB M gd) := BG.out.2 1 _ rfl
  go_wp2_with fail
  obtain ⟨HB, hHB⟩ : ∃ x, x = w3.heap.size := ⟨_, rfl⟩
  obtain ⟨wb, hwb⟩ : ∃ x, (w3.alloc (.cells #[.slice gA (M + 1) gc, .slice gB M gd] 33)) = x := ⟨_, rfl⟩
  have HE := Lib.hid e4
  rw [hwb] at HE RP RD RX q0 q1 ⊢
  rw [← hHB] at q0 q1 ⊢
  clear hwb hHB BG e4
  rw [hM]
  clear hM
  go_loopw [9, 10] (fun o z wr => ∃ j : Nat, j ≤ M + 1 ∧ z = .int .i64 j ∧ o = .int .i64 ((accN PS DS j : Nat) : Int) ∧ Ext wb wr) (fun _ z _ => M + 1 - (intOf z).toNat)
  case atStart => exact ⟨0, by omega, rfl, rfl, Ext.refl _⟩
  case round =>
    obtain ⟨j, hj, rfl, rfl, hxr⟩ := hrel
    have g0 := ext_cell hxr q0
    have g1 := ext_cell hxr q1
    by_cases hlt : j < M + 1
    · have dn : decide (j < M + 1) = true := by rw [decide_eq_true_eq]; exact hlt
      have dn' : decide ((j : Int) < (M : Int) + 1) = true := by rw [decide_eq_true_eq]; omega
      have i0 : (0 : Int) ≤ (j : Int) := by omega
      have i1 : (j : Int) < (M : Int) + 1 := by omega
      have hj2 : j < PS.length := by have := HPL.out; omega
      obtain ⟨b, off, hA, hb, q2⟩ := rd_at1 (RP.out.ext hxr) hlt (u := .string (mkS (encs (PS.getD j [])))) (by
        simp [putC, List.getElem?_eq_getElem hj2])
      have hmem : PS.getD j [] ∈ PS := by rw [List.getD_eq_getElem?_getD, List.getElem?_eq_getElem hj2]; exact List.getElem_mem hj2
      have HC := Lib.hid (fun w' => HCN.out (PS.getD j []) w' hmem)
      have hst := accN_succ PS DS j
      unfold stepN at hst
      have hwj := HGP.out j (by omega)
      have hwl := HWL.out j
      have HWJ := Lib.hid (fun A n k w' => HWX.out j A n k w' (by omega))
      rw [hwj] at hwl HWJ
      obtain ⟨AJ, hAJ⟩ : ∃ AJ, accN PS DS (j + 1) = AJ := ⟨_, rfl⟩
      rw [hAJ] at hst
      have HAJ := Lib.hid hAJ
      clear hAJ hwj hmem
      subst hA
      generalize accN PS DS j = A0 at *
      generalize PS.getD j [] = P at *
      obtain ⟨pl, hpl⟩ : ∃ pl, P.length = pl := ⟨_, rfl⟩
      rw [hpl] at HC HWJ hwl hst
      clear hpl hj2
      generalize mkS (encs P) = SP at *
      have hcase : (DS.getD j true = false ∧ j < M) ∨ (DS.getD j true = true ∧ j < M) ∨ (DS.getD j true = true ∧ ¬ j < M) := by
        by_cases hjM : j < M
        · cases hd : DS.getD j true with
          | true => exact .inr (.inl ⟨rfl, hjM⟩)
          | false => exact .inl ⟨rfl, hjM⟩
        · refine .inr (.inr ⟨?_, hjM⟩)
          rw [List.getD_eq_getElem?_getD, List.getElem?_eq_none (by have := HDL.out; omega)]; rfl
      rcases hcase with ⟨hd, hjM⟩ | ⟨hd, hjM⟩ | ⟨hd, hjM⟩
      · have dm : decide (j < M) = true := by rw [decide_eq_true_eq]; exact hjM
        have i2 : (j : Int) < (M : Int) := by omega
        have hj3 : j < DS.length := by have := HDL.out; omega
        obtain ⟨b2, off2, hB2, hb2, q3⟩ := rd_at1 (RD.out.ext hxr) hjM (u := .bool false) (by
          rw [List.getD_eq_getElem?_getD, List.getElem?_eq_getElem hj3] at hd
          simp [List.getElem?_eq_getElem hj3]; exact hd)
        subst hB2
        rw [hd, if_neg (by decide)] at hst
        have HST := Lib.hid hst
        clear hd hst
        go_wp2_with fail
        refine (HC.out _).mono ?_; rintro e w8 ⟨rfl, hx8⟩
        go_wp2_with fail
        refine (HWJ.out _ _ _ _ ((HE.out.trans hxr).trans hx8) (RX.out.ext (hxr.trans hx8))).mono ?_; rintro e w9 ⟨rfl, hx9⟩
        have hxN := (hxr.trans hx8).trans hx9
        have k0 := ext_cell hxN q0
        have k1 := ext_cell hxN q1
        have k3 := ext_cell (hx8.trans hx9) q3
        go_wp2_with fail
        go_roundw
        case rel => exact ⟨j + 1, by omega, by go_num, by rw [HAJ.out, HST.out]; go_num, hxN⟩
        case measure => simp [intOf]; omega
      · have dm : decide (j < M) = true := by rw [decide_eq_true_eq]; exact hjM
        have i2 : (j : Int) < (M : Int) := by omega
        have hj3 : j < DS.length := by have := HDL.out; omega
        obtain ⟨b2, off2, hB2, hb2, q3⟩ := rd_at1 (RD.out.ext hxr) hjM (u := .bool true) (by
          rw [List.getD_eq_getElem?_getD, List.getElem?_eq_getElem hj3] at hd
          simp [List.getElem?_eq_getElem hj3]; exact hd)
        subst hB2
        rw [hd, if_pos rfl] at hst
        have HST := Lib.hid hst
        clear hd hst
        go_wp2_with fail
        refine (HC.out _).mono ?_; rintro e w8 ⟨rfl, hx8⟩
        go_wp2_with fail
        refine (HWJ.out _ _ _ _ ((HE.out.trans hxr).trans hx8) (RX.out.ext (hxr.trans hx8))).mono ?_; rintro e w9 ⟨rfl, hx9⟩
        have hxN := (hxr.trans hx8).trans hx9
        have k0 := ext_cell hxN q0
        have k1 := ext_cell hxN q1
        have k3 := ext_cell (hx8.trans hx9) q3
        go_wp2_with fail
        go_roundw
        case rel => exact ⟨j + 1, by omega, by go_num, by rw [HAJ.out, HST.out]; go_num, hxN⟩
        case measure => simp [intOf]; omega
      · have dm : decide (j < M) = false := by rw [decide_eq_false_iff_not]; omega
        rw [hd, if_pos rfl] at hst
        have HST := Lib.hid hst
        clear hd hst
        go_wp2_with fail
        refine (HC.out _).mono ?_; rintro e w8 ⟨rfl, hx8⟩
        go_wp2_with fail
        refine (HWJ.out _ _ _ _ ((HE.out.trans hxr).trans hx8) (RX.out.ext (hxr.trans hx8))).mono ?_; rintro e w9 ⟨rfl, hx9⟩
        have hxN := (hxr.trans hx8).trans hx9
        have k0 := ext_cell hxN q0
        have k1 := ext_cell hxN q1
        go_wp2_with fail
        go_roundw
        case rel => exact ⟨j + 1, by omega, by go_num, by rw [HAJ.out, HST.out]; go_num, hxN⟩
        case measure => simp [intOf]; omega
    · obtain rfl : j = M + 1 := by omega
      have dn : decide (M + 1 < M + 1) = false := by rw [decide_eq_false_iff_not]; omega
      have dn' : decide (((M : Int) + 1) < (M : Int) + 1) = false := by rw [decide_eq_false_iff_not]; omega
      have RX2 := Lib.hid (RX.out.ext hxr)
      have HX2 := Lib.hid (HE.out.trans hxr)
      rw [HEND.out]
      go_wp2_with fail
      refine (HWO.out _ _ _ _ HX2.out RX2.out).mono ?_; rintro e w8 ⟨rfl, hx8⟩
      go_wp2_with fail
      refine (HOX.out _ _ _ _ (HX2.out.trans hx8) (RX2.out.ext hx8)).mono ?_; rintro e w9 ⟨rfl, hx9⟩
      go_wp2_with fail
      go_ret
      exact ⟨rfl, (HX2.out.trans hx8).trans hx9⟩
end Go.Proofs.YtapkfmcbphljcaaDoor
