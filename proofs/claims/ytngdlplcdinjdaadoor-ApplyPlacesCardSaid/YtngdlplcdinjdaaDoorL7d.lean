/- Layer 7, ApplyParts. -/
import Derived.Test.YtngdlplcdinjdaaDoorL7b
import Derived.Deep.RegionHeld3
namespace Go.Proofs.YtngdlplcdinjdaaDoor
open Go.RowKit
set_option maxRecDepth 100000
set_option maxHeartbeats 4000000
theorem apT_more (ts : List Tok) (cs ds : List Nat) (h : tin ts ≤ cs.length) : apT ts (cs ++ ds) = apT ts cs := by
  induction ts generalizing cs with
  | nil => rfl
  | cons t ts ih =>
    cases t with
    | ins c => rw [tin_ins] at h; rw [apT, apT, ih cs h]
    | keep =>
      rw [tin_keep] at h
      cases cs with
      | nil => simp at h
      | cons c cs =>
        have := ih cs (by simpa using h)
        simp only [apT, List.cons_append, List.take_succ_cons, List.take_zero, List.drop_succ_cons, List.drop_zero, this]
    | del =>
      rw [tin_del] at h
      cases cs with
      | nil => simp at h
      | cons c cs =>
        have := ih cs (by simpa using h)
        simp only [apT, List.cons_append, List.drop_succ_cons, List.drop_zero, this]
/-- Two operations on two texts, side by side. -/
theorem ap_two (x y : List Tok) (cs ds : List Nat) (h : tin x = cs.length) : apT (x ++ y) (cs ++ ds) = apT x cs ++ apT y ds := by
  rw [apT_append, apT_more _ _ _ (by omega), h, List.drop_left]
theorem mkS_append (a b : List Nat) : mkS (encs (a ++ b)) = mkS (encs a) ++ mkS (encs b) := by
  apply bs_inj
  rw [bs_append, bs_mkS, bs_mkS, bs_mkS, encs_append]
theorem applyParts_c (s t : ByteArray) (A : Option Addr) (q c : Nat) (l : List Sp) (A' : Option Addr) (q' c' : Nat) (l' : List Sp) (w : World) [Tab w] (hs : s.size ≤ maxLen) (ht : t.size ≤ maxLen) (h : Rd w 3 (.slice A q c) q (spCells l)) (hl : l.length = q) (hls : ∀ s ∈ l, s.2.2.size ≤ maxLen)
    (h' : Rd w 3 (.slice A' q' c') q' (spCells l')) (hl' : l'.length = q') (hls' : ∀ s ∈ l', s.2.2.size ≤ maxLen) :
    Calls Tryd.prog 8 #[.string s, .string t, .agg #[.slice A q c, .slice A' q' c']] w fun e w' => e = .returned (.bool true) ∧ Below w.heap.size w w' := by
  obtain ⟨i, hi, hz0, hz1, hz2⟩ := info_parts info_sp5
  obtain ⟨T, cs, hm1, hm2, hTl, hT0, hsz, HFIT, HCP, hcl, hUs, HD⟩ := cut_fit s 30 30 rfl (by omega) hs
  obtain ⟨T2, ds, hm12, hm22, hTl2, hT02, hsz2, HFIT2, HCP2, hcl2, hUs2, HD2⟩ := cut_fit t 30 30 rfl (by omega) ht
  have hV := to_fit l cs (mkS (encs cs)) HD.out (by omega)
  have hV2 := to_fit l' ds (mkS (encs ds)) HD2.out (by omega)
  obtain ⟨f1, f2, f3, f4, f5, f6, f7⟩ := fit_all l cs.length (by omega) (by omega)
  obtain ⟨g1, g2, g3, g4, g5, g6, g7⟩ := fit_all l' ds.length (by omega) (by omega)
  obtain ⟨m1, _⟩ := fitL_all l (cs.length : Int) (by omega) (by omega)
  obtain ⟨m2, _⟩ := fitL_all l' (ds.length : Int) (by omega) (by omega)
  have s1 := fit_sumT l cs.length
  have s2 := fit_sumT l' ds.length
  have HFL : Hid (∀ w', Ext w w' → _) := Lib.hid fun w' hx => fitR4_c A q c l cs.length w' (h.ext hx) hl hls (by omega) (by omega)
  have HFL2 : Hid (∀ w', Ext w w' → _) := Lib.hid fun w' hx => fitR4_c A' q' c' l' ds.length w' (h'.ext hx) hl' hls' (by omega) (by omega)
  generalize fitL l cs.length = X at *
  generalize fitL l' ds.length = Y at *
  have hi1 := (tin_ok X f1).1
  have hap := ap_two (tok X) (tok Y) cs ds (by omega)
  have hz1' := apT_size (tok X) cs
  have hz2' := apT_size (tok Y) ds
  have hz3 := insT_sum X f1
  have hz4 := insT_sum Y g1
  rw [size_mkS] at hUs hUs2
  have hVa : toV (X ++ Y) (mkS (encs cs) ++ mkS (encs ds)) = .tuple #[.string (mkS (encs (apT (tok X) cs)) ++ mkS (encs (apT (tok Y) ds))), .int .i64 0] := by
    have hma : mayL (X ++ Y) = 0 := mayL_ok _ (fun s hs => (List.mem_append.1 hs).elim (m1 s) (m2 s)) (by rw [inL_append]; omega) (by rw [inL_append]; omega)
    have hd : dec (bs (mkS (encs cs) ++ mkS (encs ds))) = some (cs ++ ds) := dec_cat HD.out HD2.out
    obtain ⟨k1, k2⟩ := to_ok hma hd (by rw [List.length_append, inL_append]; omega)
    unfold toV
    rw [k1, k2, tok_append, hap, mkS_append]
  have hbU : ¬ 9223372036854775807 < (mkS (encs cs)).size + (mkS (encs ds)).size := by rw [size_mkS, size_mkS]; omega
  have hbS : ¬ 9223372036854775807 < (mkS (encs (apT (tok X) cs))).size + (mkS (encs (apT (tok Y) ds))).size := by rw [size_mkS, size_mkS]; omega
  have hUV : (mkS (encs cs) ++ mkS (encs ds)).size ≤ 1000 := by rw [ByteArray.size_append, size_mkS, size_mkS]; omega
  obtain ⟨M, hM⟩ : ∃ M, cs.length = M := ⟨_, rfl⟩
  obtain ⟨N, hN⟩ : ∃ N, ds.length = N := ⟨_, rfl⟩
  have hcU := cnt_U cs _ HD.out
  have hcV := cnt_U ds _ HD2.out
  rw [hM] at hcU HFL
  rw [hN] at hcV HFL2
  have hu1 : (mkS (encs cs)).size ≤ 1000 := by rw [size_mkS]; omega
  have hu2 : (mkS (encs ds)).size ≤ 1000 := by rw [size_mkS]; omega
  have HCU : Hid (∀ w', Calls Tryd.prog 15 #[.string (mkS (encs cs))] w' fun e w'' => e = .returned (.int .i64 (M : Int)) ∧ Ext w' w'') := Lib.hid fun w' => by
    have h := count_c (mkS (encs cs)) w' (by omega); rw [hcU] at h; exact h
  have HCV : Hid (∀ w', Calls Tryd.prog 15 #[.string (mkS (encs ds))] w' fun e w'' => e = .returned (.int .i64 (N : Int)) ∧ Ext w' w'') := Lib.hid fun w' => by
    have h := count_c (mkS (encs ds)) w' (by omega); rw [hcV] at h; exact h
  have HTX : Hid (∀ A n k w', Ext w w' → RdO w' A n k X → _) := Lib.hid fun A n k w' hx hr => have hTb := tab_ext hx; to_c A n k X (mkS (encs cs)) w' hr.2 hr.1 (by have := hr.1; omega) f6 f7 (by omega)
  have HTY : Hid (∀ A n k w', Ext w w' → RdO w' A n k Y → _) := Lib.hid fun A n k w' hx hr => have hTb := tab_ext hx; to_c A n k Y (mkS (encs ds)) w' hr.2 hr.1 (by have := hr.1; omega) g6 g7 (by omega)
  have HTA : Hid (∀ A n k w', Ext w w' → RdO w' A n k (X ++ Y) → _) := Lib.hid fun A n k w' hx hr => have hTb := tab_ext hx; to_c A n k (X ++ Y) (mkS (encs cs) ++ mkS (encs ds)) w' hr.2 hr.1 (by have := hr.1; rw [List.length_append] at this; omega) (fun s hs => (List.mem_append.1 hs).elim (f6 s) (g6 s)) (by rw [sumT_append]; omega) (by omega)
  rw [hV] at HTX
  rw [hV2] at HTY
  rw [hVa] at HTA
  clear h h' hl hl' hls hls' hs ht hV hV2 hVa f1 f2 f3 f4 f6 f7 g1 g2 g3 g4 g6 g7 m1 m2 s1 s2 hi1 hap hz1' hz2' hz3 hz4 hcU hcV hM hN HCP HCP2 HD HD2 hUs hUs2 hUV hu1 hu2 hcl hcl2
  generalize mkS (encs (apT (tok X) cs)) = S at *
  generalize mkS (encs (apT (tok Y) ds)) = R at *
  generalize mkS (encs cs) = U at *
  generalize mkS (encs ds) = V at *
  go_enter Tryd.func8, Tryd.ntmps8
  have BArr := Lib.hid (BoxG.made w #[.slice A q c, .slice A' q' c'] 50)
  have e1 : Ext w (w.alloc (.cells #[.slice A q c, .slice A' q' c'] 50)) := (Ext.refl _).alloc _
  go_wp2_with fail
  refine (have hTb := tab_ext e1; shown7_c _).mono ?_; rintro e w2 ⟨rfl, hx2⟩
  have e2 : Ext w w2 := e1.trans hx2
  replace BArr := Lib.hid (BArr.out.ext hx2)
  clear hx2
  go_wp2_with fail
  refine (HFIT.out _).mono ?_; rintro e w3 ⟨rfl, hx3⟩
  have e3 : Ext w w3 := e2.trans hx3
  replace BArr := Lib.hid (BArr.out.ext hx3)
  clear hx3
  go_wp2_with fail
  refine (HFIT2.out _).mono ?_; rintro e w4 ⟨rfl, hx4⟩
  have e4 : Ext w w4 := e3.trans hx4
  replace BArr := Lib.hid (BArr.out.ext hx4)
  clear hx4
  have q0 : w4.cell? ⟨w.heap.size, 0, none⟩ = some (.slice A q c) := BArr.out.2 0 _ rfl
  go_wp2_with fail
  have hrr := Ext.refl w4
  go_region_held3 (fun W => Ext w4 W ∧ W.cell? ⟨w.heap.size, 0, none⟩ = some (.slice A q c))
    ((go_split_ands; refine ⟨?_, ?_⟩ <;> first | (exact Ext.drew ‹_›) | (exact Ext.trans ‹_› hxk) | (exact ext_cell hxk ‹_›) | go_keep))
    (first
    | (go_at_call 15; go_split_ands; refine (HCU.out _).mono ?_; rintro e w' ⟨rfl, hxk⟩)
    | (go_at_call 14; go_split_ands; refine (HFL.out _ (e4.trans ‹Ext w4 _›)).mono ?_; rintro e wF ⟨vF, rfl, hxk, oF⟩))
  go_split_ands
  have hx5 : Ext w4 wF := by first | assumption | exact Ext.trans ‹Ext w4 _› hxk
  have e5 : Ext w wF := e4.trans hx5
  replace BArr := Lib.hid (BArr.out.ext hx5)
  obtain ⟨aX, nX, cX, rfl, rX⟩ := rdO_own oF
  have RX := Lib.hid rX
  clear rX oF
  have q1 : wF.cell? ⟨w.heap.size, 1, none⟩ = some (.slice A' q' c') := BArr.out.2 1 _ rfl
  go_wp2_with fail
  have hrr := Ext.refl wF
  go_region_held3 (fun W => Ext wF W ∧ W.cell? ⟨w.heap.size, 1, none⟩ = some (.slice A' q' c'))
    ((go_split_ands; refine ⟨?_, ?_⟩ <;> first | (exact Ext.drew ‹_›) | (exact Ext.trans ‹_› hxk) | (exact ext_cell hxk ‹_›) | go_keep))
    (first
    | (go_at_call 15; go_split_ands; refine (HCV.out _).mono ?_; rintro e w' ⟨rfl, hxk⟩)
    | (go_at_call 14; go_split_ands; refine (HFL2.out _ (e5.trans ‹Ext wF _›)).mono ?_; rintro e wG ⟨vG, rfl, hxk, oG⟩))
  go_split_ands
  have hx6 : Ext wF wG := by first | assumption | exact Ext.trans ‹Ext wF _› hxk
  have e6 : Ext w wG := e5.trans hx6
  replace BArr := Lib.hid (BArr.out.ext hx6)
  replace RX := Lib.hid (RX.out.ext hx6)
  obtain ⟨aY, nY, cY, rfl, rY⟩ := rdO_own oG
  have RY := Lib.hid rY
  clear rY oG
  go_wp2_with fail
  refine (HTX.out _ _ _ _ e6 RX.out).mono ?_; rintro e w7 ⟨rfl, hx7⟩
  have e7 : Ext w w7 := e6.trans hx7
  replace BArr := Lib.hid (BArr.out.ext hx7)
  replace RX := Lib.hid (RX.out.ext hx7)
  replace RY := Lib.hid (RY.out.ext hx7)
  clear hx7
  go_wp2_with fail
  refine (HTY.out _ _ _ _ e7 RY.out).mono ?_; rintro e w8 ⟨rfl, hx8⟩
  have e8 : Ext w w8 := e7.trans hx8
  replace BArr := Lib.hid (BArr.out.ext hx8)
  replace RX := Lib.hid (RX.out.ext hx8)
  replace RY := Lib.hid (RY.out.ext hx8)
  clear hx8
  have hlx := RX.out.1; have hly := RY.out.1
  have ho0 := Own.made w8 w8.heap.size 53 3 0 #[] (Nat.le_refl _) (by omega) rfl
  have hb0 : Below w8.heap.size w8 (w8.alloc (.cells #[] 53)) := (Ext.refl w8).alloc _
  obtain ⟨v4, z4, happ4, hown4, hbel4⟩ := app_rd (P := Tryd.prog) 22 22 53 i _ 3 32 Tryd.underlying22 hi hz0 hz1 hz2 rfl (by omega) (by omega)
    hb0 ho0 (by omega) (RX.out.2.ext ((Ext.refl w8).alloc _)) (by omega) (spCells_one X)
  obtain ⟨v5, z5, happ5, hown5, hbel5⟩ := app_rd (P := Tryd.prog) 22 22 53 i _ 3 32 Tryd.underlying22 hi hz0 hz1 hz2 rfl (by omega) (by omega)
    hbel4 hown4 (by omega) (RY.out.2.ext hbel4) (by omega) (spCells_one Y)
  have hcat : #[].toList ++ spCells X ++ spCells Y = spCells (X ++ Y) := by rw [spCells_append]; rfl
  rw [hcat] at hown5
  obtain ⟨a5, c5, rfl, _⟩ := hown5.len
  obtain ⟨K, hK⟩ : ∃ K, 0 + nX + nY = K := ⟨_, rfl⟩
  rw [hK] at hown5 happ5
  have HRA : Hid (RdO z5 a5 K c5 (X ++ Y)) := Lib.hid ⟨by rw [List.length_append]; omega, hown5.rd⟩
  have HAP4 := Lib.hid happ4; have HAP5 := Lib.hid happ5
  have eA : Ext w z5 := e8.trans hbel5
  clear happ4 happ5 hcat ho0 hb0 hown4 hown5 hbel4 hbel5 hK hlx hly
  go_wp2_with (at_builtin; first | (with_reducible refine wpList_append_run rfl rfl HAP4.out rfl rfl ?_) | (with_reducible refine wpList_append_run rfl rfl HAP5.out rfl rfl ?_))
  refine (HTA.out _ _ _ _ eA HRA.out).mono ?_; rintro e w9 ⟨rfl, hx9⟩
  have e9 : Ext w w9 := eA.trans hx9
  clear hx9
  go_wp2_with fail
  go_ret
  exact ⟨rfl, e9⟩
end Go.Proofs.YtngdlplcdinjdaaDoor
