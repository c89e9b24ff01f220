/- Layer 16, the program: May, At, Sizes. -/
import Derived.Test.YtejgkhmpmnjgaaaDoorC16
import Derived.Test.YtejgkhmpmnjgaaaDoorP15
import Derived.Test.YtejgkhmpmnjgaaaDoorP7
import Derived.Test.YtejgkhmpmnjgaaaDoorP5
namespace Go.Proofs.YtejgkhmpmnjgaaaDoor
open Go.RowKit
set_option maxRecDepth 100000
set_option maxHeartbeats 4000000
set_option linter.unusedSimpArgs false
/-- What is wrong with one segment behind n code points. -/
def oneE (n : Int) (l : List Sp) : Int := if mayL l ≠ 0 then mayL l else if inL l ≠ n then 5 else if 1048576 < outL l then 4 else if normL l = l then 0 else 8
theorem segE_one {n : Int} {ls : List (List Sp)} {j : Nat} (hj : j < ls.length) : segE n (ls.drop j) = if oneE n ls[j] = 0 then segE (outL ls[j]) (ls.drop (j + 1)) else oneE n ls[j] := by
  rw [segE_at hj]
  unfold oneE
  by_cases h1 : mayL ls[j] ≠ 0
  · rw [if_pos h1, if_pos h1, if_neg h1]
  · rw [if_neg h1, if_neg h1]
    by_cases h2 : inL ls[j] ≠ n
    · rw [if_pos h2, if_pos h2, if_neg (by omega)]
    · rw [if_neg h2, if_neg h2]
      by_cases h3 : 1048576 < outL ls[j]
      · rw [if_pos h3, if_pos h3, if_neg (by omega)]
      · rw [if_neg h3, if_neg h3]
        by_cases h4 : normL ls[j] = ls[j]
        · rw [if_pos h4, if_pos h4, if_pos rfl]
        · rw [if_neg h4, if_neg h4, if_neg (by omega)]
theorem oneE_ok {n : Int} {l : List Sp} (h : oneE n l = 0) (hl : l.length ≤ 1000) : 0 ≤ outL l ∧ outL l ≤ 1048576 := by
  unfold oneE at h
  split at h
  · rename_i h1; exact absurd h h1
  · rename_i h1
    split at h
    · omega
    · split at h
      · omega
      · rename_i h3
        obtain ⟨hall, -, -⟩ := mayL_all (by omega : mayL l = 0) hl
        have := (outL_le l fun x hx => okW_of_may (hall x hx)).1
        omega
/-- What is wrong with a log's base and its revisions. -/
def begE (K : Int) (rv : List Int) (m : Nat) : Int := if K < 0 then 3 else if 1048576 < K then 4 else if rowOk rv ∧ rv.length = m + 1 then 0 else 6
theorem cntF_no {b : List UInt8} (h : dec b = none) : cntF b = -1 := by unfold cntF; rw [h]
theorem logE_beg (s : ByteArray) (rv : List Int) (ls : List (List Sp)) : logE s rv ls = if begE (cntF (bs s)) rv ls.length = 0 then segE (cntF (bs s)) ls else begE (cntF (bs s)) rv ls.length := by
  unfold logE begE
  by_cases h1 : dec (bs s) = none
  · rw [if_pos h1, cntF_no h1]; simp
  · obtain ⟨cs, hcs⟩ := Option.ne_none_iff_exists'.1 h1
    rw [if_neg h1, cntF_some hcs]
    rw [if_neg (by omega : ¬ (cs.length : Int) < 0)]
    by_cases h2 : 1048576 < (cs.length : Int)
    · rw [if_pos h2, if_pos h2, if_neg (by omega)]
    · rw [if_neg h2, if_neg h2]
      by_cases h3 : rowOk rv ∧ rv.length = ls.length + 1
      · rw [if_pos h3, if_pos h3, if_pos rfl]
      · rw [if_neg h3, if_neg h3, if_neg (by omega)]
theorem begE_ok {K : Int} {rv : List Int} {m : Nat} (h : begE K rv m = 0) : 0 ≤ K ∧ K ≤ 1048576 := by
  unfold begE at h
  split at h
  · omega
  · split at h
    · omega
    · omega
theorem size16_c (a : Option Addr) (k c : Nat) (l : List Sp) (N : Int) (w : World) [Tab w] (h : Rd w 3 (.slice a k c) k (spCells l)) (hl : l.length = k) (hk : k ≤ 1000) (htx : ∀ x ∈ l, x.2.2.size ≤ 1000000000) (hsu : sumT l ≤ 900000000) :
    Calls Tryd.prog 42 #[.int .i64 N, .slice a k c] w fun e w' => e = .returned (.tuple #[.int .i64 (if oneE N l = 0 then outL l else 0), .int .i64 (oneE N l)]) ∧ Ext w w' := by
  have HMA := Lib.hid (fun w' (hx : Ext w w') => have hTb := tab_ext hx; may4_c a k c l w' (h.ext hx) hl (by omega) htx)
  have HIN := Lib.hid (fun w' (hx : Ext w w') => have hTb := tab_ext hx; in4_c a k c l w' (h.ext hx) hl (by omega))
  have HOU := Lib.hid (fun w' (hx : Ext w w') => have hTb := tab_ext hx; out4_c a k c l w' (h.ext hx) hl (by omega) htx)
  have HIS := Lib.hid (fun w' (hx : Ext w w') => is5_c a k c l w' (h.ext hx) hl (by omega))
  clear h htx
  by_cases hma : mayL l = 0
  · rw [hma] at HMA
    obtain ⟨hall, in0, in1⟩ := mayL_all hma (by omega)
    have hok : ∀ x ∈ l, OkW x := fun x hx => okW_of_may (hall x hx)
    obtain ⟨ou0, ou1⟩ := outL_le l hok
    have hwi : wrap64 (inL l) = inL l := by unfold wrap64; omega
    have hwo : wrap64 (outL l) = outL l := by unfold wrap64; omega
    rw [hwi] at HIN; rw [hwo] at HOU
    have HNI := Lib.hid (isN_iff16 (okW_pos l hok))
    by_cases hin : inL l = N
    · by_cases hou : 1048576 < outL l
      · have hE : oneE N l = 4 := by unfold oneE; rw [if_neg (by omega), if_neg (by omega), if_pos hou]
        rw [hE]
        clear hE hma hall hok hwi hwo HNI HIS
        generalize inL l = IN at *
        generalize outL l = OU at *
        subst hin
        go_enter Tryd.func42, Tryd.ntmps42
        go_wp2_with fail
        refine (HMA.out _ (Ext.refl _)).mono ?_; rintro e w1 ⟨rfl, hx1⟩
        go_wp2_with fail
        refine (HOU.out _ hx1).mono ?_; rintro e w2 ⟨rfl, hx2⟩
        have hx12 := hx1.trans hx2
        go_wp2_with fail
        refine (HIN.out _ hx12).mono ?_; rintro e w3 ⟨rfl, hx3⟩
        go_wp2_with fail
        go_ret2
        exact ⟨rfl, hx12.trans hx3⟩
      · have HE : Hid (∀ b, (b = true ↔ isN l) → oneE N l = if b = true then 0 else 8) := Lib.hid fun b hb => by
          unfold oneE; rw [if_neg (by omega), if_neg (by omega), if_neg hou]
          by_cases h : normL l = l
          · rw [if_pos h, if_pos (hb.2 (HNI.out.2 h))]
          · rw [if_neg h, if_neg (fun hb2 => h (HNI.out.1 (hb.1 hb2)))]
        clear hma hall hok hwi hwo HNI
        generalize oneE N l = EE at *
        generalize inL l = IN at *
        generalize outL l = OU at *
        subst hin
        go_enter Tryd.func42, Tryd.ntmps42
        go_wp2_with fail
        refine (HMA.out _ (Ext.refl _)).mono ?_; rintro e w1 ⟨rfl, hx1⟩
        go_wp2_with fail
        refine (HOU.out _ hx1).mono ?_; rintro e w2 ⟨rfl, hx2⟩
        have hx12 := hx1.trans hx2
        go_wp2_with fail
        refine (HIN.out _ hx12).mono ?_; rintro e w3 ⟨rfl, hx3⟩
        have hx13 := hx12.trans hx3
        go_wp2_with fail
        refine (HIS.out _ hx13).mono ?_; rintro e w4 ⟨bq, rfl, hx4, hbq⟩
        have HR := HE.out bq hbq
        have hx14 := hx13.trans hx4
        cases bq with
        | true =>
          rw [if_pos rfl] at HR
          clear hbq HE
          subst HR
          go_wp2_with fail
          go_ret2
          exact ⟨rfl, hx14⟩
        | false =>
          rw [if_neg (by decide)] at HR
          clear hbq HE
          subst HR
          go_wp2_with fail
          go_ret2
          exact ⟨rfl, hx14⟩
    · have hE : oneE N l = 5 := by unfold oneE; rw [if_neg (by omega), if_pos hin]
      rw [hE]
      clear hE hma hall hok hwi hwo HNI HIS
      have t1 : (inL l != N) = true := by rw [bne_iff_ne]; exact hin
      have t2 : (inL l == N) = false := by rw [beq_eq_false_iff_ne]; exact hin
      clear hin
      generalize inL l = IN at *
      generalize outL l = OU at *
      go_enter Tryd.func42, Tryd.ntmps42
      go_wp2_with fail
      refine (HMA.out _ (Ext.refl _)).mono ?_; rintro e w1 ⟨rfl, hx1⟩
      go_wp2_with fail
      refine (HOU.out _ hx1).mono ?_; rintro e w2 ⟨rfl, hx2⟩
      have hx12 := hx1.trans hx2
      go_wp2_with fail
      refine (HIN.out _ hx12).mono ?_; rintro e w3 ⟨rfl, hx3⟩
      go_wp2_with fail
      go_ret2
      exact ⟨rfl, hx12.trans hx3⟩
  · have hE : oneE N l = mayL l := by unfold oneE; rw [if_pos hma]
    rw [hE, if_neg hma]
    have t1 : (mayL l != 0) = true := by rw [bne_iff_ne]; exact hma
    have t2 : (mayL l == 0) = false := by rw [beq_eq_false_iff_ne]; exact hma
    clear hE hma HIN HOU HIS
    generalize mayL l = ME at *
    go_enter Tryd.func42, Tryd.ntmps42
    go_wp2_with fail
    refine (HMA.out _ (Ext.refl _)).mono ?_; rintro e w1 ⟨rfl, hx1⟩
    go_wp2_with fail
    go_ret2
    exact ⟨rfl, hx1⟩
/-- What sizes tells. -/
def SegR (w : World) (K : Int) (ls : List (List Sp)) (e : Ending) (w' : World) : Prop :=
  Ext w w' ∧ ∃ A n c, e = .returned (.tuple #[.slice A n c, .int .i64 (segE K ls)]) ∧ Rd w' 1 (.slice A n c) n (nV (if segE K ls = 0 then K :: ls.map outL else []))
theorem segs16_c (B : Option Addr) (m d : Nat) (ls : List (List Sp)) (K : Int) (w : World) [Tab w] (h2 : RdSS w B m d ls) (hq : ∀ l ∈ ls, l.length ≤ 1000) (hts : ∀ l ∈ ls, ∀ s ∈ l, s.2.2.size ≤ 1000000000) (hsm : ∀ l ∈ ls, sumT l ≤ 900000000) (hmb : m ≤ 1000000) (hK0 : 0 ≤ K) (hK1 : K ≤ 1048576) :
    Calls Tryd.prog 25 #[.int .i64 K, .slice B m d] w (SegR w K ls) := by
  have hm := h2.1
  obtain ⟨i, hi, hz0, hz1, hz2⟩ := info_parts info_int
  have hmk : (Instr.makeSlice 22 (.int .i64 0) (.int .i64 ((m : Int) + 1))).run Tryd.prog w = .ok (.slice (some ⟨w.heap.size, 0, none⟩) 0 (m + 1)) (w.alloc (.cells (madeCells (Value.int .i64 0).cells ((m + 1) * i.size)) 3)) := by
    have h := run_make w 22 3 i (.int .i64 0) Tryd.underlying22 hi hz0 .i64 .i64 0 ((m : Int) + 1) (by omega) (by omega) (by rw [hz2]; omega) (by omega)
    exact h
  rw [hz1] at hmk
  have hms : (madeCells (Value.int .i64 0).cells ((m + 1) * 1)).size = (m + 1) * 1 := size_madeCells _ _
  generalize madeCells (Value.int .i64 0).cells ((m + 1) * 1) = mcs at hmk hms
  have H2 := Lib.hid h2; have HM := Lib.hid hm; have HQ := Lib.hid hq; have HTS := Lib.hid hts; have HSM := Lib.hid hsm
  obtain ⟨EE, hEE⟩ : ∃ E, segE K ls = E := ⟨_, rfl⟩
  have HE0 : Hid (segE K (ls.drop 0) = EE) := Lib.hid (by rw [List.drop_zero]; exact hEE)
  unfold SegR
  rw [hEE]
  obtain ⟨RW, hRW⟩ : ∃ R, (if EE = 0 then K :: ls.map outL else []) = R := ⟨_, rfl⟩
  rw [hRW]
  have HRW0 : Hid (EE = 0 → RW = K :: ls.map outL) := Lib.hid fun h => by rw [← hRW, if_pos h]
  have HRW1 : Hid (EE ≠ 0 → RW = []) := Lib.hid fun h => by rw [← hRW, if_neg h]
  clear hRW
  have hX1 : Ext w (w.alloc (.cells mcs 3)) := (Ext.refl w).alloc _
  have hO1 := Own.room w w.heap.size 3 1 (m + 1) mcs (Nat.le_refl _) (by omega) hms
  generalize w.alloc (.cells mcs 3) = W1 at hmk hX1 hO1
  obtain ⟨v2, W2, happ, hown2, hbel2⟩ := app_new (P := Tryd.prog) 22 22 3 i _ 1 8 Tryd.underlying22 hi hz0 hz1 hz2 rfl (by omega) (by omega)
    hX1 hO1 (by omega) 1 #[.int .i64 K] rfl (by omega) (by simp [Value.oneCell']) 3
  have HAP0 := Lib.hid happ
  have HO2 : Hid (Own W2 w.heap.size 3 1 v2 (0 + 1) (nV (K :: (ls.take 0).map outL))) := Lib.hid (by rw [List.take_zero]; exact hown2)
  have HX2 : Hid (Ext w W2) := Lib.hid hbel2
  clear happ hown2 hbel2 h2 hm hq hts hsm hms hEE hX1 hO1
  go_enter Tryd.func25, Tryd.ntmps25
  go_wp2_with (at_builtin; refine wpList_append_run rfl rfl HAP0.out rfl rfl ?_)
  go_loopw [0, 6, 20] (fun nv ov iv wr => ∃ (j : Nat) (N : Int), j ≤ m ∧ iv = .int .i64 j ∧ nv = .int .i64 N ∧ 0 ≤ N ∧ N ≤ 1048576 ∧ Hid (segE N (ls.drop j) = EE) ∧ Hid (Own wr w.heap.size 3 1 ov (j + 1) (nV (K :: (ls.take j).map outL))) ∧ Hid (Ext w wr)) (fun _ _ iv _ => m - (intOf iv).toNat)
  case atStart => exact ⟨0, K, by omega, rfl, rfl, hK0, hK1, HE0, HO2, HX2⟩
  case round =>
    clear HE0 HO2 HX2 HAP0
    obtain ⟨j, N, hj, rfl, rfl, hN0, hN1, HE, HO, HX⟩ := hrel
    have htr := tab_ext HX.out
    by_cases hlt : j < m
    · have hjl : j < ls.length := by have := HM.out; omega
      obtain ⟨bb, off, a, kc, rfl, hbb, q0, hr⟩ := (H2.out.ext HX.out).at_ hlt hjl
      have dn : decide (j < m) = true := by rw [decide_eq_true_eq]; exact hlt
      have i0 : (0 : Int) ≤ (j : Int) := by omega
      have i1 : (j : Int) < (m : Int) := by omega
      have hlen := HQ.out _ (List.getElem_mem hjl)
      have htx := HTS.out _ (List.getElem_mem hjl)
      have hsu := HSM.out _ (List.getElem_mem hjl)
      have hst := segE_one (n := N) hjl
      rw [HE.out] at hst
      have HTK : Hid ((ls.take (j + 1)).map outL = (ls.take j).map outL ++ [outL ls[j]]) := Lib.hid (by rw [List.take_add_one, List.getElem?_eq_getElem hjl, List.map_append]; rfl)
      have HOK : Hid (oneE N ls[j] = 0 → 0 ≤ outL ls[j] ∧ outL ls[j] ≤ 1048576) := Lib.hid fun h => oneE_ok h hlen
      obtain ⟨l, hl⟩ : ∃ l, ls[j] = l := ⟨_, rfl⟩
      rw [hl] at q0 hr hlen htx hsu hst HTK HOK
      obtain ⟨k, hk⟩ : ∃ k, l.length = k := ⟨_, rfl⟩
      rw [hk] at q0 hr
      have hSZ := fun w' (hx : Ext wr w') => have hTb := tab_ext hx; size16_c a k kc l N w' (hr.ext hx) hk (by omega) htx hsu
      have HST := Lib.hid hst
      clear hst hr hl htx hsu hk hlen
      by_cases ho : oneE N l = 0
      · obtain ⟨ou0, ou1⟩ := HOK.out ho
        rw [ho, if_pos rfl] at hSZ
        have HS := Lib.hid (HST.out.trans (if_pos ho))
        have HSZ := Lib.hid hSZ
        clear hSZ HST HOK ho
        generalize outL l = OU at *
        go_wp2_with fail
        refine (HSZ.out _ (Ext.refl _)).mono ?_; rintro e w4 ⟨rfl, hx4⟩
        obtain ⟨v', w', happ, hown', hbel'⟩ := app_new (P := Tryd.prog) 22 22 3 i _ 1 8 Tryd.underlying22 hi hz0 hz1 hz2 rfl (by omega) (by omega)
          (HX.out.trans hx4) (HO.out.ext hx4) (by omega) 1 #[.int .i64 OU] rfl (by omega) (by simp [Value.oneCell']) 3
        have HAP := Lib.hid happ
        have HO2 : Hid (Own w' w.heap.size 3 1 v' (j + 1 + 1) (nV (K :: (ls.take (j + 1)).map outL))) := Lib.hid (by rw [HTK.out, ← List.cons_append, nV_append]; exact hown')
        have HXB : Hid (Ext w w') := Lib.hid hbel'
        have HS3 := Lib.hid HS.out.symm
        clear happ hown' hbel' HS
        go_wp2_with (at_builtin; refine wpList_append_run rfl rfl HAP.out rfl rfl ?_)
        go_roundw
        case rel => exact ⟨j + 1, OU, by omega, by go_num, rfl, ou0, by omega, HS3, HO2, HXB⟩
        case measure => simp [intOf]; omega
      · rw [if_neg ho] at hSZ
        have HR : Hid (EE = oneE N l) := Lib.hid (HST.out.trans (if_neg ho))
        have t1 : (oneE N l != 0) = true := by rw [bne_iff_ne]; exact ho
        have t2 : (oneE N l == 0) = false := by rw [beq_eq_false_iff_ne]; exact ho
        have HN : Hid (¬ oneE N l = 0) := Lib.hid ho
        have HSZ := Lib.hid hSZ
        clear hSZ HST HOK ho HTK
        generalize oneE N l = OE at *
        go_wp2_with fail
        refine (HSZ.out _ (Ext.refl _)).mono ?_; rintro e w4 ⟨rfl, hx4⟩
        go_wp2_with fail
        go_ret2
        rw [HRW1.out (by rw [HR.out]; exact HN.out), HR.out]
        exact ⟨HX.out.trans hx4, none, 0, 0, rfl, Rd.nil _ _⟩
    · obtain rfl : j = m := by omega
      have dn : decide (j < j) = false := by rw [decide_eq_false_iff_not]; omega
      obtain ⟨ao, co, rfl, _⟩ := HO.out.len
      have HR0 : Hid (EE = 0) := Lib.hid (by rw [← HE.out, List.drop_eq_nil_of_le (by have := HM.out; omega)]; rfl)
      have HR : Hid (Rd wr 1 (.slice ao (j + 1) co) (j + 1) (nV (K :: ls.map outL))) := Lib.hid (by
        have h := HO.out.rd
        rw [show ls.take j = ls by rw [← HM.out]; exact List.take_length] at h
        exact h)
      go_wp2_with fail
      go_ret2
      rw [HRW0.out HR0.out, HR0.out]
      exact ⟨HX.out, _, _, _, rfl, HR.out⟩
theorem beg16_c (A : Option Addr) (n c : Nat) (B : Option Addr) (m d : Nat) (s : ByteArray) (rv : List Int) (K : Int) (w : World) (h1 : Rd w 1 (.slice A n c) n (nV rv)) (hn : n ≤ 1000000) (hmb : m ≤ 1000000) :
    Calls Tryd.prog 24 #[.agg #[.string s, .slice A n c, .slice B m d], .int .i64 K] w fun e w' => e = .returned (.int .i64 (begE K rv m)) ∧ Ext w w' := by
  have hnl := nV_len h1
  have HPR := Lib.hid (fun w' (hx : Ext w w') => rwPutP_c A n c rv w' (h1.ext hx) hn)
  obtain ⟨x, hx⟩ : ∃ x, w.heap.size = x := ⟨_, rfl⟩
  obtain ⟨W1, hW1⟩ : ∃ W, w.alloc (.cells #[.string s, .slice A n c, .slice B m d] 25) = W := ⟨_, rfl⟩
  have hX1 : Ext w W1 := by rw [← hW1]; exact (Ext.refl w).alloc _
  have hB1 : BxT 25 W1 x #[.string s, .slice A n c, .slice B m d] := by rw [← hW1, ← hx]; exact BxT.new w 25 _
  have HW1 := Lib.hid hW1; have HXE := Lib.hid hx; have HX1 := Lib.hid hX1; have HB1 := Lib.hid hB1
  have c0 : W1.cell? ⟨x, 0, none⟩ = some (.string s) := hB1.cell rfl
  have c1 : W1.cell? ⟨x, 1, none⟩ = some (.slice A n c) := hB1.cell rfl
  have c2 : W1.cell? ⟨x, 2, none⟩ = some (.slice B m d) := hB1.cell rfl
  clear hW1 hx hX1 hB1
  unfold begE
  by_cases hk0 : K < 0
  · rw [if_pos hk0]
    clear h1 hnl HPR
    go_enter Tryd.func24, Tryd.ntmps24
    go_wp2_with fail
    rw [HW1.out, HXE.out]
    go_wp2_with fail
    go_ret
    exact ⟨rfl, HX1.out⟩
  · rw [if_neg hk0]
    by_cases hk1 : 1048576 < K
    · rw [if_pos hk1]
      clear h1 hnl HPR
      go_enter Tryd.func24, Tryd.ntmps24
      go_wp2_with fail
      rw [HW1.out, HXE.out]
      go_wp2_with fail
      go_ret
      exact ⟨rfl, HX1.out⟩
    · rw [if_neg hk1]
      by_cases hro : rowOk rv
      · have hre : rowE rv = 0 := if_pos hro
        rw [hre] at HPR
        by_cases hne : n = m + 1
        · rw [if_pos ⟨hro, by omega⟩]
          subst hne
          clear h1 hnl hre hro
          go_enter Tryd.func24, Tryd.ntmps24
          go_wp2_with fail
          rw [HW1.out, HXE.out]
          go_wp2_with fail
          refine (HPR.out _ HX1.out).mono ?_; rintro e w2 ⟨hx2, vb, rfl, -⟩
          have c0b : w2.cell? ⟨x, 0, none⟩ = some (.string s) := (HB1.out.ext hx2).cell rfl; have c1b : w2.cell? ⟨x, 1, none⟩ = some (.slice A (m + 1) c) := (HB1.out.ext hx2).cell rfl; have c2b : w2.cell? ⟨x, 2, none⟩ = some (.slice B m d) := (HB1.out.ext hx2).cell rfl
          go_wp2_with fail
          go_ret
          exact ⟨rfl, HX1.out.trans hx2⟩
        · rw [if_neg (fun h => hne (by omega))]
          have t1 : ((n : Int) != (m : Int) + 1) = true := by rw [bne_iff_ne]; omega
          have t2 : ((n : Int) == (m : Int) + 1) = false := by rw [beq_eq_false_iff_ne]; omega
          clear h1 hnl hre hro hne
          go_enter Tryd.func24, Tryd.ntmps24
          go_wp2_with fail
          rw [HW1.out, HXE.out]
          go_wp2_with fail
          refine (HPR.out _ HX1.out).mono ?_; rintro e w2 ⟨hx2, vb, rfl, -⟩
          have c0b : w2.cell? ⟨x, 0, none⟩ = some (.string s) := (HB1.out.ext hx2).cell rfl; have c1b : w2.cell? ⟨x, 1, none⟩ = some (.slice A n c) := (HB1.out.ext hx2).cell rfl; have c2b : w2.cell? ⟨x, 2, none⟩ = some (.slice B m d) := (HB1.out.ext hx2).cell rfl
          go_wp2_with fail
          go_ret
          exact ⟨rfl, HX1.out.trans hx2⟩
      · have hre : rowE rv = 2 := if_neg hro
        rw [hre] at HPR
        rw [if_neg (fun h => hro h.1)]
        clear h1 hnl hre hro
        go_enter Tryd.func24, Tryd.ntmps24
        go_wp2_with fail
        rw [HW1.out, HXE.out]
        go_wp2_with fail
        refine (HPR.out _ HX1.out).mono ?_; rintro e w2 ⟨hx2, vb, rfl, -⟩
        have c0b : w2.cell? ⟨x, 0, none⟩ = some (.string s) := (HB1.out.ext hx2).cell rfl; have c1b : w2.cell? ⟨x, 1, none⟩ = some (.slice A n c) := (HB1.out.ext hx2).cell rfl; have c2b : w2.cell? ⟨x, 2, none⟩ = some (.slice B m d) := (HB1.out.ext hx2).cell rfl
        go_wp2_with fail
        go_ret
        exact ⟨rfl, HX1.out.trans hx2⟩
theorem sizesP16_c (A : Option Addr) (n c : Nat) (B : Option Addr) (m d : Nat) (s : ByteArray) (rv : List Int) (ls : List (List Sp)) (w : World) [Tab w] (h1 : Rd w 1 (.slice A n c) n (nV rv)) (h2 : RdSS w B m d ls) (hs : SmL s rv ls) :
    Calls Tryd.prog 13 #[.agg #[.string s, .slice A n c, .slice B m d]] w (SizesR w s rv ls) := by
  have hm := h2.1; have hnl := nV_len h1
  have hmb : m ≤ 1000000 := by have := hs.segs; omega
  have HC := Lib.hid (fun w' => count_c s w' (by have := hs.base; omega))
  have HBG := Lib.hid (fun w' (hx : Ext w w') => beg16_c A n c B m d s rv (cntF (bs s)) w' (h1.ext hx) (by have := hs.revs; omega) hmb)
  have hSG := fun w' (hx : Ext w w') (k0 : 0 ≤ cntF (bs s)) (k1 : cntF (bs s) ≤ 1048576) => have hTb := tab_ext hx; segs16_c B m d ls (cntF (bs s)) w' (h2.ext hx) hs.len hs.text hs.sum1 hmb k0 k1
  have hlog := logE_beg s rv ls
  rw [hm] at hlog
  unfold SizesR sizesL
  generalize cntF (bs s) = K at *
  obtain ⟨x, hx⟩ : ∃ x, w.heap.size = x := ⟨_, rfl⟩
  obtain ⟨W1, hW1⟩ : ∃ W, w.alloc (.cells #[.string s, .slice A n c, .slice B m d] 25) = W := ⟨_, rfl⟩
  have hX1 : Ext w W1 := by rw [← hW1]; exact (Ext.refl w).alloc _
  have hB1 : BxT 25 W1 x #[.string s, .slice A n c, .slice B m d] := by rw [← hW1, ← hx]; exact BxT.new w 25 _
  have HW1 := Lib.hid hW1; have HXE := Lib.hid hx; have HX1 := Lib.hid hX1; have HB1 := Lib.hid hB1
  have c0 : W1.cell? ⟨x, 0, none⟩ = some (.string s) := hB1.cell rfl
  have c1 : W1.cell? ⟨x, 1, none⟩ = some (.slice A n c) := hB1.cell rfl
  have c2 : W1.cell? ⟨x, 2, none⟩ = some (.slice B m d) := hB1.cell rfl
  clear hW1 hx hX1 hB1
  by_cases hb : begE K rv m = 0
  · obtain ⟨k0, k1⟩ := begE_ok hb
    rw [if_pos hb] at hlog
    rw [hb] at HBG
    rw [hlog]
    unfold SegR at hSG
    have HSG := Lib.hid (fun w' (hx : Ext w w') => hSG w' hx k0 k1)
    clear h1 h2 hs hm hnl hlog hb hSG
    generalize (if segE K ls = 0 then K :: ls.map outL else []) = RW at *
    generalize segE K ls = SE at *
    go_enter Tryd.func13, Tryd.ntmps13
    go_wp2_with fail
    rw [HW1.out, HXE.out]
    refine (HC.out _).mono ?_; rintro e w2 ⟨rfl, hx2⟩
    have c0b : w2.cell? ⟨x, 0, none⟩ = some (.string s) := (HB1.out.ext hx2).cell rfl; have c1b : w2.cell? ⟨x, 1, none⟩ = some (.slice A n c) := (HB1.out.ext hx2).cell rfl; have c2b : w2.cell? ⟨x, 2, none⟩ = some (.slice B m d) := (HB1.out.ext hx2).cell rfl
    go_wp2_with fail
    refine (HBG.out _ (HX1.out.trans hx2)).mono ?_; rintro e w3 ⟨rfl, hx3⟩
    have hx23 := hx2.trans hx3
    have c0d : w3.cell? ⟨x, 0, none⟩ = some (.string s) := (HB1.out.ext hx23).cell rfl; have c1d : w3.cell? ⟨x, 1, none⟩ = some (.slice A n c) := (HB1.out.ext hx23).cell rfl; have c2d : w3.cell? ⟨x, 2, none⟩ = some (.slice B m d) := (HB1.out.ext hx23).cell rfl
    go_wp2_with fail
    refine (HSG.out _ (HX1.out.trans hx23)).mono ?_; rintro e w4 ⟨hx4, A2, n2, cc2, rfl, hrd⟩
    have HRD := Lib.hid hrd
    clear hrd
    go_wp2_with fail
    go_ret2
    exact ⟨(HX1.out.trans hx23).trans hx4, _, _, _, rfl, HRD.out⟩
  · rw [if_neg hb] at hlog
    rw [hlog]
    rw [if_neg hb]
    have t1 : (begE K rv m != 0) = true := by rw [bne_iff_ne]; exact hb
    have t2 : (begE K rv m == 0) = false := by rw [beq_eq_false_iff_ne]; exact hb
    clear h1 h2 hs hm hnl hlog hb hSG
    generalize begE K rv m = BE at *
    go_enter Tryd.func13, Tryd.ntmps13
    go_wp2_with fail
    rw [HW1.out, HXE.out]
    refine (HC.out _).mono ?_; rintro e w2 ⟨rfl, hx2⟩
    have c0b : w2.cell? ⟨x, 0, none⟩ = some (.string s) := (HB1.out.ext hx2).cell rfl; have c1b : w2.cell? ⟨x, 1, none⟩ = some (.slice A n c) := (HB1.out.ext hx2).cell rfl; have c2b : w2.cell? ⟨x, 2, none⟩ = some (.slice B m d) := (HB1.out.ext hx2).cell rfl
    go_wp2_with fail
    refine (HBG.out _ (HX1.out.trans hx2)).mono ?_; rintro e w3 ⟨rfl, hx3⟩
    have hx23 := hx2.trans hx3
    go_wp2_with fail
    go_ret2
    exact ⟨HX1.out.trans hx23, _, _, _, rfl, Rd.nil _ _⟩
theorem mayP16_c (A : Option Addr) (n c : Nat) (B : Option Addr) (m d : Nat) (s : ByteArray) (rv : List Int) (ls : List (List Sp)) (w : World) [Tab w] (h1 : Rd w 1 (.slice A n c) n (nV rv)) (h2 : RdSS w B m d ls) (hs : SmL s rv ls) :
    Calls Tryd.prog 15 #[.agg #[.string s, .slice A n c, .slice B m d]] w fun e w' => e = .returned (.int .i64 (logE s rv ls)) ∧ Ext w w' := by
  have HSZ := Lib.hid (fun w' (hx : Ext w w') => have hTb := tab_ext hx; sizesP16_c A n c B m d s rv ls w' (h1.ext hx) (h2.ext hx) hs)
  obtain ⟨x, hx⟩ : ∃ x, w.heap.size = x := ⟨_, rfl⟩
  obtain ⟨W1, hW1⟩ : ∃ W, w.alloc (.cells #[.string s, .slice A n c, .slice B m d] 25) = W := ⟨_, rfl⟩
  have hX1 : Ext w W1 := by rw [← hW1]; exact (Ext.refl w).alloc _
  have hB1 : BxT 25 W1 x #[.string s, .slice A n c, .slice B m d] := by rw [← hW1, ← hx]; exact BxT.new w 25 _
  have HW1 := Lib.hid hW1; have HXE := Lib.hid hx; have HX1 := Lib.hid hX1; have HB1 := Lib.hid hB1
  have c0 : W1.cell? ⟨x, 0, none⟩ = some (.string s) := hB1.cell rfl
  have c1 : W1.cell? ⟨x, 1, none⟩ = some (.slice A n c) := hB1.cell rfl
  have c2 : W1.cell? ⟨x, 2, none⟩ = some (.slice B m d) := hB1.cell rfl
  clear hW1 hx hX1 hB1
  unfold SizesR at HSZ
  generalize logE s rv ls = EE at *
  clear h1 h2 hs
  go_enter Tryd.func15, Tryd.ntmps15
  go_wp2_with fail
  rw [HW1.out, HXE.out]
  refine (HSZ.out _ HX1.out).mono ?_; rintro e w2 ⟨hx2, A2, n2, cc2, rfl, -⟩
  go_wp2_with fail
  go_ret
  exact ⟨rfl, HX1.out.trans hx2⟩
theorem atP16_c (A : Option Addr) (n c : Nat) (B : Option Addr) (m d : Nat) (s : ByteArray) (rv : List Int) (ls : List (List Sp)) (i : Int) (w : World) [Tab w] (h1 : Rd w 1 (.slice A n c) n (nV rv)) (h2 : RdSS w B m d ls) (hs : SmL s rv ls) :
    Calls Tryd.prog 11 #[.agg #[.string s, .slice A n c, .slice B m d], .int .i64 i] w fun e w' => e = .returned (atV s rv ls i) ∧ Ext w w' := by
  have hm := h2.1
  have HMY := Lib.hid (fun w' (hx : Ext w w') => have hTb := tab_ext hx; mayP16_c A n c B m d s rv ls w' (h1.ext hx) (h2.ext hx) hs)
  have H2 := Lib.hid h2; have HS := Lib.hid hs
  have hd2 : m ≤ d := by obtain ⟨_, _, ⟨_, _, _, hv, hc, _⟩, _⟩ := h2; injection hv with _ _ e; omega
  have hmb : m ≤ 1000000 := by have := hs.segs; omega
  obtain ⟨x, hx⟩ : ∃ x, w.heap.size = x := ⟨_, rfl⟩
  obtain ⟨W1, hW1⟩ : ∃ W, w.alloc (.cells #[.string s, .slice A n c, .slice B m d] 25) = W := ⟨_, rfl⟩
  have hX1 : Ext w W1 := by rw [← hW1]; exact (Ext.refl w).alloc _
  have hB1 : BxT 25 W1 x #[.string s, .slice A n c, .slice B m d] := by rw [← hW1, ← hx]; exact BxT.new w 25 _
  have HW1 := Lib.hid hW1; have HXE := Lib.hid hx; have HX1 := Lib.hid hX1; have HB1 := Lib.hid hB1
  have c0 : W1.cell? ⟨x, 0, none⟩ = some (.string s) := hB1.cell rfl
  have c1 : W1.cell? ⟨x, 1, none⟩ = some (.slice A n c) := hB1.cell rfl
  have c2 : W1.cell? ⟨x, 2, none⟩ = some (.slice B m d) := hB1.cell rfl
  clear hW1 hx hX1 hB1
  by_cases hE : logE s rv ls = 0
  · rw [hE] at HMY
    by_cases hi : i < 0 ∨ (ls.length : Int) < i
    · have hR : atV s rv ls i = .tuple #[.string ⟨#[]⟩, .int .i64 6] := by unfold atV atL; rw [if_neg (by omega), if_pos hi]
      rw [hR]
      have hi2 : i < 0 ∨ (0 ≤ i ∧ (m : Int) < i) := by omega
      clear hR hi h1 h2 hs hE hm
      rcases hi2 with hi2 | ⟨hi2, hi3⟩
      · have d1 : decide (i < 0) = true := by rw [decide_eq_true_eq]; exact hi2
        go_enter Tryd.func11, Tryd.ntmps11
        go_wp2_with fail
        rw [HW1.out, HXE.out]
        refine (HMY.out _ HX1.out).mono ?_; rintro e w1 ⟨rfl, hx1⟩
        have c0b : w1.cell? ⟨x, 0, none⟩ = some (.string s) := (HB1.out.ext hx1).cell rfl; have c1b : w1.cell? ⟨x, 1, none⟩ = some (.slice A n c) := (HB1.out.ext hx1).cell rfl; have c2b : w1.cell? ⟨x, 2, none⟩ = some (.slice B m d) := (HB1.out.ext hx1).cell rfl
        go_wp2_with fail
        go_ret2
        exact ⟨rfl, HX1.out.trans hx1⟩
      · have d1 : decide (i < 0) = false := by rw [decide_eq_false_iff_not]; omega
        have d2 : decide ((m : Int) < i) = true := by rw [decide_eq_true_eq]; exact hi3
        go_enter Tryd.func11, Tryd.ntmps11
        go_wp2_with fail
        rw [HW1.out, HXE.out]
        refine (HMY.out _ HX1.out).mono ?_; rintro e w1 ⟨rfl, hx1⟩
        have c0b : w1.cell? ⟨x, 0, none⟩ = some (.string s) := (HB1.out.ext hx1).cell rfl; have c1b : w1.cell? ⟨x, 1, none⟩ = some (.slice A n c) := (HB1.out.ext hx1).cell rfl; have c2b : w1.cell? ⟨x, 2, none⟩ = some (.slice B m d) := (HB1.out.ext hx1).cell rfl
        go_wp2_with fail
        go_ret2
        exact ⟨rfl, HX1.out.trans hx1⟩
    · have hi0 : 0 ≤ i := by omega
      obtain ⟨j, rfl⟩ := Int.eq_ofNat_of_zero_le hi0
      have hj : j ≤ m := by omega
      obtain ⟨cs, hcs, _, _, _, _⟩ := logE_ok hE
      have hR : atV s rv ls (j : Int) = allV s (ls.take j) := by
        unfold atV atL allV
        rw [if_neg (by omega), if_neg hi, Int.toNat_natCast, allR_of (by rw [hcs]; simp)]
      rw [hR]
      have hrj := h2.take hj
      have HAL := Lib.hid (fun w' (hx : Ext w w') => have hTb := tab_ext hx; all_c B j d (ls.take j) s w' (hrj.ext hx) (fun l hl => hs.len l (List.mem_of_mem_take hl)) (fun l hl => hs.text l (List.mem_of_mem_take hl)) (by
        have h3 : sumTT (ls.take j) ≤ sumTT ls := by
          have e : sumTT ls = sumTT (ls.take j) + sumTT (ls.drop j) := by rw [← List.take_append_drop j ls]; unfold sumTT; rw [List.map_append, List.sum_append, List.take_append_drop]
          omega
        have := hs.base; have := hs.sum; omega) (by omega))
      have d1 : decide ((j : Int) < 0) = false := by rw [decide_eq_false_iff_not]; omega
      have d2 : decide ((m : Int) < (j : Int)) = false := by rw [decide_eq_false_iff_not]; omega
      have g0 : (0 : Int) ≤ (j : Int) := by omega
      have g1 : (j : Int) ≤ (d : Int) := by omega
      clear hR hi hi0 h1 h2 hs hE hm hrj hcs
      unfold allV at HAL ⊢
      generalize (allR s (ls.take j)).1 = AV1 at *
      generalize (allR s (ls.take j)).2 = AV2 at *
      go_enter Tryd.func11, Tryd.ntmps11
      go_wp2_with fail
      rw [HW1.out, HXE.out]
      refine (HMY.out _ HX1.out).mono ?_; rintro e w1 ⟨rfl, hx1⟩
      have HX2 := Lib.hid (HX1.out.trans hx1)
      have c0b : w1.cell? ⟨x, 0, none⟩ = some (.string s) := (HB1.out.ext hx1).cell rfl; have c1b : w1.cell? ⟨x, 1, none⟩ = some (.slice A n c) := (HB1.out.ext hx1).cell rfl; have c2b : w1.cell? ⟨x, 2, none⟩ = some (.slice B m d) := (HB1.out.ext hx1).cell rfl
      go_wp2_with fail
      have hxx := Ext.refl w1
      go_region_held3 (fun V => Ext w1 V ∧ V.cell? ⟨x, 0, none⟩ = some (.string s) ∧ V.cell? ⟨x, 2, none⟩ = some (.slice B m d))
        ((go_split_ands; refine ⟨?_, ?_, ?_⟩ <;> first | (exact Ext.drew ‹_›) | (exact Ext.trans ‹_› hxk) | (exact ext_cell hxk ‹_›) | go_keep))
        (first
        | (go_at_call 22; go_split_ands; refine (HAL.out _ (HX2.out.trans ‹Ext w1 _›)).mono ?_; rintro e wA ⟨rfl, hxk⟩)
        | fail)
      go_split_ands
      have eA := ‹Ext w1 wA›
      go_wp2_with fail
      go_ret2
      exact ⟨rfl, HX2.out.trans eA⟩
  · have hR : atV s rv ls i = .tuple #[.string ⟨#[]⟩, .int .i64 (logE s rv ls)] := by unfold atV atL; rw [if_pos hE]
    rw [hR]
    have t1 : (logE s rv ls != 0) = true := by rw [bne_iff_ne]; exact hE
    have t2 : (logE s rv ls == 0) = false := by rw [beq_eq_false_iff_ne]; exact hE
    clear hR h1 h2 hs hE hm
    generalize logE s rv ls = EE at *
    go_enter Tryd.func11, Tryd.ntmps11
    go_wp2_with fail
    rw [HW1.out, HXE.out]
    refine (HMY.out _ HX1.out).mono ?_; rintro e w1 ⟨rfl, hx1⟩
    go_wp2_with fail
    go_ret2
    exact ⟨rfl, HX1.out.trans hx1⟩
end Go.Proofs.YtejgkhmpmnjgaaaDoor
