/- Layer 7, ApplyPlaces. -/
import Derived.Test.YtngdlplcdinjdaaDoorL7d
namespace Go.Proofs.YtngdlplcdinjdaaDoor
open Go.RowKit
set_option maxRecDepth 100000
set_option maxHeartbeats 4000000
/-- What is put in a gap, and the code point behind it, if it is not dropped. -/
def stepP (ps : List (List Nat)) (ds : List Bool) (cs : List Nat) (i : Nat) : List Nat := ps.getD i [] ++ if ds.getD i true then [] else [cs.getD i 0]
def accP (ps : List (List Nat)) (ds : List Bool) (cs : List Nat) (j : Nat) : List Nat := (List.range j).flatMap (stepP ps ds cs)
theorem accP_succ (ps : List (List Nat)) (ds : List Bool) (cs : List Nat) (j : Nat) : accP ps ds cs (j + 1) = accP ps ds cs j ++ stepP ps ds cs j := by
  simp [accP, List.range_succ]
theorem accP_cons (p : List Nat) (ps : List (List Nat)) (d : Bool) (ds : List Bool) (c : Nat) (cs : List Nat) (j : Nat) : accP (p :: ps) (d :: ds) (c :: cs) (j + 1) = p ++ (if d then [] else [c]) ++ accP ps ds cs j := by
  have e : List.range (j + 1) = 0 :: (List.range j).map Nat.succ := List.range_succ_eq_map
  unfold accP
  have h1 : (fun i => stepP (p :: ps) (d :: ds) (c :: cs) (Nat.succ i)) = stepP ps ds cs := by funext i; simp [stepP]
  have h0 : stepP (p :: ps) (d :: ds) (c :: cs) 0 = p ++ (if d then [] else [c]) := by simp [stepP]
  rw [e, List.flatMap_cons, List.flatMap_map, h1, h0]
theorem apT_places (ps : List (List Nat)) (ds : List Bool) (cs : List Nat) (h : ps.length = ds.length + 1) (hc : cs.length = ds.length) : apT (ug ps ds) cs = accP ps ds cs (ds.length + 1) := by
  induction ds generalizing ps cs with
  | nil =>
    match ps, h with
    | [p], _ =>
      show apT (p.map Tok.ins) cs = _
      rw [apT_ins]
      simp [accP, stepP]
  | cons d ds ih =>
    cases ps with
    | nil => simp at h
    | cons p ps =>
      cases cs with
      | nil => simp at hc
      | cons c cs =>
        have g := ih ps cs (by simpa using h) (by simpa using hc)
        rw [List.length_cons, accP_cons, ← g]
        show apT (p.map Tok.ins ++ (if d then Tok.del else Tok.keep) :: ug ps ds) (c :: cs) = _
        rw [apT_append, apT_ins, tin_map_ins, List.drop_zero, List.append_assoc]
        cases d <;> rfl
theorem accP_size (ps : List (List Nat)) (ds : List Bool) (cs : List Nat) (n j : Nat) (h : j ≤ n) : (encs (accP ps ds cs j)).length ≤ (encs (accP ps ds cs n)).length := by
  induction n with
  | zero => obtain rfl : j = 0 := by omega
            exact Nat.le_refl _
  | succ n ih =>
    by_cases hj : j = n + 1
    · subst hj; exact Nat.le_refl _
    · rw [accP_succ, encs_append, List.length_append]
      have := ih (by omega); omega
theorem applyPlaces_c (s : ByteArray) (A : Option Addr) (q c : Nat) (l : List Sp) (w : World) [Tab w] (hs : s.size ≤ maxLen) (h : Rd w 3 (.slice A q c) q (spCells l)) (hl : l.length = q) (hls : ∀ s ∈ l, s.2.2.size ≤ maxLen) :
    Calls Tryd.prog 6 #[.string s, .slice A q c] w fun e w' => e = .returned (.bool true) ∧ Below w.heap.size w w' := by
  obtain ⟨T, cs, hm1, hm2, hTl, hT0, hsz, HFIT, HCP, hcl, hUs, HD⟩ := cut_fit s 60 60 rfl (by omega) hs
  have hV := to_fit l cs (mkS (encs cs)) HD.out (by omega)
  obtain ⟨f1, f2, f3, f4, f5, f6, f7⟩ := fit_all l cs.length (by omega) (by omega)
  have h312 := fit_sumT l cs.length
  have HFL : Hid (∀ w', Ext w w' → _) := Lib.hid fun w' hx => fitR4_c A q c l cs.length w' (h.ext hx) hl hls (by omega) (by omega)
  generalize fitL l cs.length = X at *
  have hi1 := (tin_ok X f1).1
  have hgd : (gpD (tok X)).length = cs.length := by rw [gpD_length]; omega
  have hpl : (gpP (tok X)).length = (gpD (tok X)).length + 1 := gpP_length _
  have hpc : apT (tok X) cs = accP (gpP (tok X)) (gpD (tok X)) cs (cs.length + 1) := by
    have h2 := apT_places (gpP (tok X)) (gpD (tok X)) cs hpl (by omega)
    rw [ug_gp, hgd] at h2
    exact h2
  have hz1 := apT_size (tok X) cs
  have hz2 := insT_sum X f1
  have hUl : (encs cs).length ≤ 240 := by rw [size_mkS] at hUs; omega
  rw [hpc] at hV hz1
  obtain ⟨M, hM⟩ : ∃ M, cs.length = M := ⟨_, rfl⟩
  have hcU := cnt_U cs _ HD.out
  rw [hM] at hcU HFL f2 hgd hV hz1 hcl
  have HSZ : Hid (∀ j, j ≤ M + 1 → (encs (accP (gpP (tok X)) (gpD (tok X)) cs j)).length ≤ 1000) := Lib.hid fun j hj => by
    have := accP_size (gpP (tok X)) (gpD (tok X)) cs (M + 1) j hj; omega
  have HCU : Hid (∀ w', Calls Tryd.prog 15 #[.string (mkS (encs cs))] w' fun e w'' => e = .returned (.int .i64 (M : Int)) ∧ Ext w' w'') := Lib.hid fun w' => by
    have h := count_c (mkS (encs cs)) w' (by omega); rw [hcU] at h; exact h
  have HTX : Hid (∀ A n k w', Ext w w' → RdO w' A n k X → _) := Lib.hid fun A n k w' hx hr => have hTb := tab_ext hx; to_c A n k X (mkS (encs cs)) w' hr.2 hr.1 (by have := hr.1; omega) f6 f7 (by omega)
  rw [hV] at HTX
  have HG : Hid (∀ A n k w', Ext w w' → RdO w' A n k X → _) := Lib.hid fun A n k w' hx hr => have hTb := tab_ext hx; (gaps_c A n k X w' hr.2 hr.1 (by have := hr.1; omega) f6 f7).mono fun e w'' h => h.ok f3 f2
  have HCUT : Hid (∀ (j : Nat) w', j < M → Calls Tryd.prog 23 #[.string (mkS (encs cs)), .int .i64 j, .int .i64 ((j : Int) + 1)] w' fun e w'' => e = .returned (.tuple #[.string (mkS (encs [cs.getD j 0])), .int .i64 0]) ∧ Ext w' w'') := Lib.hid fun j w' hj => by
    have h := cut_c (mkS (encs cs)) j ((j : Int) + 1) w' (by omega)
    have e : cutF (bs (mkS (encs cs))) (j : Int) ((j : Int) + 1) = (encs [cs.getD j 0], 0) := by
      unfold cutF
      rw [HD.out]
      simp only
      rw [if_pos (by omega)]
      have e1 : ((j : Int) + 1).toNat = j + 1 := by omega
      rw [e1, Int.toNat_natCast]
      congr 2
      have hj2 : j < cs.length := by omega
      rw [List.take_add_one, List.getElem?_eq_getElem hj2, List.drop_append, List.length_take, Nat.min_eq_left (by omega), Nat.sub_self]
      rw [List.drop_eq_nil_of_le (by rw [List.length_take]; omega)]
      simp [List.getElem?_eq_getElem hj2]
    rw [e] at h
    exact h
  have HPL : Hid ((gpP (tok X)).length = M + 1) := Lib.hid (by omega)
  have HDL : Hid ((gpD (tok X)).length = M) := Lib.hid hgd
  have hwn : IntKind.i64.wrap ((M : Int) + 1) = (M : Int) + 1 := by rw [IntKind.wrap_i64]; omega
  clear h hl hls hs hV f1 f2 f3 f4 f6 f7 h312 hi1 hgd hpl hpc hz1 hz2 hUl hcU HCP HD hUs hM
  generalize gpP (tok X) = PS at *
  generalize gpD (tok X) = DS at *
  obtain ⟨SF, hSF⟩ : ∃ SF, mkS (encs (accP PS DS cs (M + 1))) = SF := ⟨_, rfl⟩
  rw [hSF] at HTX
  have HSF := Lib.hid hSF
  clear hSF
  generalize mkS (encs cs) = U at *
  go_enter Tryd.func6, Tryd.ntmps6
  go_wp2_with fail
  refine (shown7_c _).mono ?_; rintro e w1 ⟨rfl, hx1⟩
  have e1 : Ext w w1 := hx1
  clear hx1
  go_wp2_with fail
  refine (HFIT.out _).mono ?_; rintro e w2 ⟨rfl, hx2⟩
  have e2 : Ext w w2 := e1.trans hx2
  clear hx2
  go_wp2_with fail
  refine (HCU.out _).mono ?_; rintro e w3 ⟨rfl, hx3⟩
  have e3 : Ext w w3 := e2.trans hx3
  clear hx3
  go_wp2_with fail
  refine (HFL.out _ e3).mono ?_; rintro e w4 ⟨v4, rfl, hx4, o4⟩
  have e4 : Ext w w4 := e3.trans hx4
  obtain ⟨aX, nX, cX, rfl, rX⟩ := rdO_own o4
  have RX := Lib.hid rX
  clear o4 rX
  clear hx4
  go_wp2_with fail
  refine (HTX.out _ _ _ _ e4 RX.out).mono ?_; rintro e w5 ⟨rfl, hx5⟩
  have e5 : Ext w w5 := e4.trans hx5
  replace RX := Lib.hid (RX.out.ext hx5)
  clear hx5
  go_wp2_with fail
  refine (HG.out _ _ _ _ e5 RX.out).mono ?_; rintro e w6 ⟨gA, gc, gB, gd, rfl, hx6, rP, rD⟩
  have e6 : Ext w w6 := e5.trans hx6
  replace RX := Lib.hid (RX.out.ext hx6)
  have RP := Lib.hid rP; have RD := Lib.hid rD
  clear rP rD
  clear hx6
  clear RX
  have BG := Lib.hid (BoxG.made w6 #[.slice gA (M + 1) gc, .slice gB M gd] 40)
  replace RP := Lib.hid (RP.out.ext ((Ext.refl w6).alloc (.cells #[.slice gA (M + 1) gc, .slice gB M gd] 40)))
  replace RD := Lib.hid (RD.out.ext ((Ext.refl w6).alloc (.cells #[.slice gA (M + 1) gc, .slice gB M gd] 40)))
  have e7 : Ext w (w6.alloc (.cells #[.slice gA (M + 1) gc, .slice gB M gd] 40)) := e6.alloc _
  obtain ⟨HB, hHB⟩ : ∃ x, x = w6.heap.size := ⟨_, rfl⟩
  rw [← hHB] at BG
  have HHB := Lib.hid hHB
  have q0 : (w6.alloc (.cells #[.slice gA (M + 1) gc, .slice gB M gd] 40)).cell? ⟨w6.heap.size, 0, none⟩ = some (.slice gA (M + 1) gc) := by rw [← hHB]; exact BG.out.2 0 _ rfl
  have q1 : (w6.alloc (.cells #[.slice gA (M + 1) gc, .slice gB M gd] 40)).cell? ⟨w6.heap.size, 1, none⟩ = some (.slice gB M gd) := by rw [← hHB]; exact BG.out.2 1 _ rfl
  clear hHB
  go_wp2_with fail
  obtain ⟨wb, hwb⟩ : ∃ x, (w6.alloc (.cells #[.slice gA (M + 1) gc, .slice gB M gd] 40)) = x := ⟨_, rfl⟩
  rw [hwb] at BG RP RD e7 q0 q1 ⊢
  rw [← HHB.out] at q0 q1 ⊢
  clear hwb HHB
  have hrr := Ext.refl wb
  go_region_held3 (fun W => Ext wb W ∧ W.cell? ⟨HB, 0, none⟩ = some (.slice gA (M + 1) gc) ∧ W.cell? ⟨HB, 1, none⟩ = some (.slice gB M gd))
    ((go_split_ands; refine ⟨?_, ?_, ?_⟩ <;> first | (exact Ext.drew ‹_›) | (exact Ext.trans ‹_› hxk) | (exact ext_cell hxk ‹_›) | go_keep))
    (first
    | (go_at_call 15; go_split_ands; refine (HCU.out _).mono ?_; rintro e w' ⟨rfl, hxk⟩))
  go_split_ands
  have hx8 : Ext wb w' := by first | assumption | exact Ext.trans ‹Ext wb _› hxk
  have e8 : Ext w w' := e7.trans hx8
  replace RP := Lib.hid (RP.out.ext hx8)
  replace RD := Lib.hid (RD.out.ext hx8)
  replace BG := Lib.hid (BG.out.ext hx8)
  go_wp2_with fail
  have HE := Lib.hid e8
  have hq0 : w'.cell? ⟨HB, 0, none⟩ = some (.slice gA (M + 1) gc) := BG.out.2 0 _ rfl
  have hq1 : w'.cell? ⟨HB, 1, none⟩ = some (.slice gB M gd) := BG.out.2 1 _ rfl
  go_loopw [12, 13] (fun o z wr => ∃ j : Nat, j ≤ M + 1 ∧ z = .int .i64 j ∧ o = .string (mkS (encs (accP PS DS cs j))) ∧ Ext w' wr) (fun _ z _ => M + 1 - (intOf z).toNat)
  case atStart => exact ⟨0, by omega, rfl, rfl, Ext.refl _⟩
  case round =>
    obtain ⟨j, hj, rfl, rfl, hxr⟩ := hrel
    have g0 := ext_cell hxr hq0
    have g1 := ext_cell hxr hq1
    by_cases hlt : j < M + 1
    · have dn : decide (j < M + 1) = true := by rw [decide_eq_true_eq]; exact hlt
      have dn' : decide ((j : Int) < (M : Int) + 1) = true := by rw [decide_eq_true_eq]; omega
      have i0 : (0 : Int) ≤ (j : Int) := by omega
      have i1 : (j : Int) < (M : Int) + 1 := by omega
      have hs1 := HSZ.out (j + 1) (by omega)
      have hs0 := HSZ.out j (by omega)
      obtain ⟨b, off, rfl, hb, q2⟩ := rd_at1 (RP.out.ext hxr) hlt (u := .string (mkS (encs (PS.getD j [])))) (by
        have hj2 : j < PS.length := by have := HPL.out; omega
        simp [putC, List.getElem?_eq_getElem hj2])
      have hst := accP_succ PS DS cs j
      unfold stepP at hst
      obtain ⟨AJ, hAJ⟩ : ∃ AJ, accP PS DS cs (j + 1) = AJ := ⟨_, rfl⟩
      rw [hAJ] at hst hs1
      have HAJ := Lib.hid hAJ
      clear hAJ
      generalize accP PS DS cs j = A0 at *
      generalize PS.getD j [] = P at *
      by_cases hjM : j < M
      · have dm : decide (j < M) = true := by rw [decide_eq_true_eq]; exact hjM
        have i2 : (j : Int) < (M : Int) := by omega
        have hj3 : j < DS.length := by have := HDL.out; omega
        have hdr : Rd wr 1 (.slice gB M gd) M (DS.map Value.bool) := RD.out.ext hxr
        obtain ⟨b2, off2, rfl, hb2, q3⟩ := rd_at1 hdr hjM (u := .bool (DS.getD j true)) (by simp [List.getElem?_eq_getElem hj3])
        have HC := Lib.hid (fun w' => HCUT.out j w' hjM)
        clear hdr
        cases hd : DS.getD j true with
        | true =>
          rw [hd] at q3 hst
          rw [if_pos rfl, List.append_nil] at hst
          have hcat : mkS (encs A0) ++ mkS (encs P) = mkS (encs AJ) := by rw [hst, mkS_append]
          have hsc := congrArg ByteArray.size hcat
          rw [ByteArray.size_append] at hsc
          have hsb : ¬ 9223372036854775807 < (mkS (encs A0)).size + (mkS (encs P)).size := by rw [hsc, size_mkS]; omega
          have HCT := Lib.hid hcat
          clear hd hst hcat hsc hs0 hs1
          generalize mkS (encs A0) = S0 at *
          generalize mkS (encs P) = SP at *
          go_wp2_with fail
          go_roundw
          case rel => exact ⟨j + 1, by omega, by go_num, by rw [HAJ.out, ← HCT.out], hxr⟩
          case measure => simp [intOf]; omega
        | false =>
          rw [hd] at q3 hst
          rw [if_neg (by decide)] at hst
          have hcat : (mkS (encs A0) ++ mkS (encs P)) ++ mkS (encs [cs.getD j 0]) = mkS (encs AJ) := by rw [hst, mkS_append, mkS_append, ByteArray.append_assoc]
          have hsc := congrArg ByteArray.size hcat
          rw [ByteArray.size_append] at hsc
          have hsb : ¬ 9223372036854775807 < (mkS (encs A0) ++ mkS (encs P)).size + (mkS (encs [cs.getD j 0])).size := by rw [hsc, size_mkS]; omega
          rw [ByteArray.size_append] at hsc
          have hsb2 : ¬ 9223372036854775807 < (mkS (encs A0)).size + (mkS (encs P)).size := by have := size_mkS (encs AJ); omega
          have hsum : IntKind.i64.wrap ((j : Int) + 1) = (j : Int) + 1 := by rw [IntKind.wrap_i64]; omega
          have HCT := Lib.hid hcat
          clear hd hst hcat hsc hs0 hs1
          generalize mkS (encs A0) = S0 at *
          generalize mkS (encs P) = SP at *
          generalize mkS (encs [cs.getD j 0]) = SC at *
          go_wp2_with fail
          refine (HC.out _).mono ?_; rintro e w9 ⟨rfl, hx9⟩
          go_wp2_with fail
          go_roundw
          case rel => exact ⟨j + 1, by omega, by go_num, by rw [HAJ.out, ← HCT.out], hxr.trans hx9⟩
          case measure => simp [intOf]; omega
      · have dm : decide (j < M) = false := by rw [decide_eq_false_iff_not]; exact hjM
        have hd : DS.getD j true = true := by
          rw [List.getD_eq_getElem?_getD, List.getElem?_eq_none (by have := HDL.out; omega)]; rfl
        rw [hd, if_pos rfl, List.append_nil] at hst
        have hcat : mkS (encs A0) ++ mkS (encs P) = mkS (encs AJ) := by rw [hst, mkS_append]
        have hsc := congrArg ByteArray.size hcat
        rw [ByteArray.size_append] at hsc
        have hsb : ¬ 9223372036854775807 < (mkS (encs A0)).size + (mkS (encs P)).size := by rw [hsc, size_mkS]; omega
        have HCT := Lib.hid hcat
        clear hd hst hcat hsc hs0 hs1
        generalize mkS (encs A0) = S0 at *
        generalize mkS (encs P) = SP at *
        go_wp2_with fail
        go_roundw
        case rel => exact ⟨j + 1, by omega, by go_num, by rw [HAJ.out, ← HCT.out], hxr⟩
        case measure => simp [intOf]; omega
    · obtain rfl : j = M + 1 := by omega
      have dn : decide (M + 1 < M + 1) = false := by rw [decide_eq_false_iff_not]; omega
      have dn' : decide (((M : Int) + 1) < (M : Int) + 1) = false := by rw [decide_eq_false_iff_not]; omega
      rw [HSF.out]
      go_wp2_with fail
      go_ret
      exact ⟨rfl, HE.out.trans hxr⟩
end Go.Proofs.YtngdlplcdinjdaaDoor
