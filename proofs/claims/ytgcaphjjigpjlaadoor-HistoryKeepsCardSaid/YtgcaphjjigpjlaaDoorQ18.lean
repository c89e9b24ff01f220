/- Packed: P16 L16b L16d M17 H17 L16e C16g. -/
import Derived.ArgAppend
import Derived.BigQuiet
import Derived.ChangeOld
import Derived.Deep.Cut
import Derived.Deep.CutRange
import Derived.Deep.DrawnRows
import Derived.Deep.MidRow
import Derived.Deep.QuietTactic
import Derived.Deep.RegionHeld3
import Derived.Deep.RegionWith
import Derived.Deep.Slices
import Derived.Deep.Upon
import Derived.Laws.AppendOwnNone
import Derived.Laws.BytesArg
import Derived.Laws.IdiomCopy
import Derived.Laws.MakeOwn
import Derived.Laws.ResultCell
import Derived.Lib.AppendStr
import Derived.Lib.Builder
import Derived.Lib.DecodeN
import Derived.Lib.Hide
import Derived.Lib.Strings
import Derived.Lib.UnsafeStr
import Derived.OpenShut
import Derived.ProofKit
import Derived.ScopeJumps
import Derived.ShutString
import Derived.StillTail
import Derived.StillTailTactics
import Derived.Test.YtgcaphjjigpjlaaDoorProg
import Derived.Test.YtgcaphjjigpjlaaDoorShelf
import Derived.WalkKit
import Derived.WalkLawsBesides
import Derived.WalkMore
import Derived.WalkSpells
import Derived.Test.YtgcaphjjigpjlaaDoorQ00
import Derived.Test.YtgcaphjjigpjlaaDoorQ01
import Derived.Test.YtgcaphjjigpjlaaDoorQ02
import Derived.Test.YtgcaphjjigpjlaaDoorQ03
import Derived.Test.YtgcaphjjigpjlaaDoorQ04
import Derived.Test.YtgcaphjjigpjlaaDoorQ05
import Derived.Test.YtgcaphjjigpjlaaDoorQ06
import Derived.Test.YtgcaphjjigpjlaaDoorQ07
import Derived.Test.YtgcaphjjigpjlaaDoorQ08
import Derived.Test.YtgcaphjjigpjlaaDoorQ09
import Derived.Test.YtgcaphjjigpjlaaDoorQ10
import Derived.Test.YtgcaphjjigpjlaaDoorQ11
import Derived.Test.YtgcaphjjigpjlaaDoorQ12
import Derived.Test.YtgcaphjjigpjlaaDoorQ13
import Derived.Test.YtgcaphjjigpjlaaDoorQ14
import Derived.Test.YtgcaphjjigpjlaaDoorQ15
import Derived.Test.YtgcaphjjigpjlaaDoorQ16
import Derived.Test.YtgcaphjjigpjlaaDoorQ17
namespace Go.Proofs.YtgcaphjjigpjlaaDoor
open Go.RowKit
set_option maxRecDepth 100000
set_option maxHeartbeats 4000000
set_option linter.unusedSimpArgs false
def oneE (n : Int) (l : List Sp) : Int := if mayL l ≠ 0 then mayL l else if inL l ≠ n then 5 else if 1048576 < outL l then 4 else if normL l = l then 0 else 8
theorem segE_one {n : Int} {ls : List (List Sp)} {j : Nat} (hj : j < ls.length) : segE n (ls.drop j) = if oneE n ls[j] = 0 then segE (outL ls[j]) (ls.drop (j + 1)) else oneE n ls[j] := by
  rw [segE_at hj]
  unfold oneE
  by_cases h1 : mayL ls[j] ≠ 0
  · rw [if_pos h1, if_pos h1, if_neg h1]
  · rw [if_neg h1, if_neg h1]
    by_cases h2 : inL ls[j] ≠ n
    · rw [if_pos h2, if_pos h2, if_neg (by omega)]
    · rw [if_neg h2, if_neg h2]
      by_cases h3 : 1048576 < outL ls[j]
      · rw [if_pos h3, if_pos h3, if_neg (by omega)]
      · rw [if_neg h3, if_neg h3]
        by_cases h4 : normL ls[j] = ls[j]
        · rw [if_pos h4, if_pos h4, if_pos rfl]
        · rw [if_neg h4, if_neg h4, if_neg (by omega)]
theorem oneE_ok {n : Int} {l : List Sp} (h : oneE n l = 0) (hl : l.length ≤ 1000) : 0 ≤ outL l ∧ outL l ≤ 1048576 := by
  unfold oneE at h
  split at h
  · rename_i h1; exact absurd h h1
  · rename_i h1
    split at h
    · omega
    · split at h
      · omega
      · rename_i h3
        obtain ⟨hall, -, -⟩ := mayL_all (by omega : mayL l = 0) hl
        have := (outL_le l fun x hx => okW_of_may (hall x hx)).1
        omega
def begE (K : Int) (rv : List Int) (m : Nat) : Int := if K < 0 then 3 else if 1048576 < K then 4 else if rowOk rv ∧ rv.length = m + 1 then 0 else 6
theorem cntF_no {b : List UInt8} (h : dec b = none) : cntF b = -1 := by unfold cntF; rw [h]
theorem logE_beg (s : ByteArray) (rv : List Int) (ls : List (List Sp)) : logE s rv ls = if begE (cntF (bs s)) rv ls.length = 0 then segE (cntF (bs s)) ls else begE (cntF (bs s)) rv ls.length := by
  unfold logE begE
  by_cases h1 : dec (bs s) = none
  · rw [if_pos h1, cntF_no h1]; simp
  · obtain ⟨cs, hcs⟩ := Option.ne_none_iff_exists'.1 h1
    rw [if_neg h1, cntF_some hcs]
    rw [if_neg (by omega : ¬ (cs.length : Int) < 0)]
    by_cases h2 : 1048576 < (cs.length : Int)
    · rw [if_pos h2, if_pos h2, if_neg (by omega)]
    · rw [if_neg h2, if_neg h2]
      by_cases h3 : rowOk rv ∧ rv.length = ls.length + 1
      · rw [if_pos h3, if_pos h3, if_pos rfl]
      · rw [if_neg h3, if_neg h3, if_neg (by omega)]
theorem begE_ok {K : Int} {rv : List Int} {m : Nat} (h : begE K rv m = 0) : 0 ≤ K ∧ K ≤ 1048576 := by
  unfold begE at h
  split at h
  · omega
  · split at h
    · omega
    · omega
theorem size16_c (a : Option Addr) (k c : Nat) (l : List Sp) (N : Int) (w : World) [Tab w] (h : Rd w 3 (.slice a k c) k (spCells l)) (hl : l.length = k) (hk : k ≤ 1000) (htx : ∀ x ∈ l, x.2.2.size ≤ 1000000000) (hsu : sumT l ≤ 900000000) :
    Calls Tryd.prog 88 #[.int .i64 N, .slice a k c] w fun e w' => e = .returned (.tuple #[.int .i64 (if oneE N l = 0 then outL l else 0), .int .i64 (oneE N l)]) ∧ Ext w w' := by
  have HMA := Lib.hid (fun w' (hx : Ext w w') => have hTb := tab_ext hx; may4_c a k c l w' (h.ext hx) hl (by omega) htx)
  have HIN := Lib.hid (fun w' (hx : Ext w w') => have hTb := tab_ext hx; in4_c a k c l w' (h.ext hx) hl (by omega))
  have HOU := Lib.hid (fun w' (hx : Ext w w') => have hTb := tab_ext hx; out4_c a k c l w' (h.ext hx) hl (by omega) htx)
  have HIS := Lib.hid (fun w' (hx : Ext w w') => is5_c a k c l w' (h.ext hx) hl (by omega))
  clear h htx
  by_cases hma : mayL l = 0
  · rw [hma] at HMA
    obtain ⟨hall, in0, in1⟩ := mayL_all hma (by omega)
    have hok : ∀ x ∈ l, OkW x := fun x hx => okW_of_may (hall x hx)
    obtain ⟨ou0, ou1⟩ := outL_le l hok
    have hwi : wrap64 (inL l) = inL l := by unfold wrap64; omega
    have hwo : wrap64 (outL l) = outL l := by unfold wrap64; omega
    rw [hwi] at HIN; rw [hwo] at HOU
    have HNI := Lib.hid (isN_iff16 (okW_pos l hok))
    by_cases hin : inL l = N
    · by_cases hou : 1048576 < outL l
      · have hE : oneE N l = 4 := by unfold oneE; rw [if_neg (by omega), if_neg (by omega), if_pos hou]
        rw [hE]
        clear hE hma hall hok hwi hwo HNI HIS
        generalize inL l = IN at *
        generalize outL l = OU at *
        subst hin
        go_enter Tryd.func88, Tryd.ntmps88
        go_wp2_with fail
        refine (HMA.out _ (Ext.refl _)).mono ?_; rintro e w1 ⟨rfl, hx1⟩
        go_wp2_with fail
        refine (HOU.out _ hx1).mono ?_; rintro e w2 ⟨rfl, hx2⟩
        have hx12 := hx1.trans hx2
        go_wp2_with fail
        refine (HIN.out _ hx12).mono ?_; rintro e w3 ⟨rfl, hx3⟩
        go_wp2_with fail
        go_ret2
        exact ⟨rfl, hx12.trans hx3⟩
      · have HE : Hid (∀ b, (b = true ↔ isN l) → oneE N l = if b = true then 0 else 8) := Lib.hid fun b hb => by
          unfold oneE; rw [if_neg (by omega), if_neg (by omega), if_neg hou]
          by_cases h : normL l = l
          · rw [if_pos h, if_pos (hb.2 (HNI.out.2 h))]
          · rw [if_neg h, if_neg (fun hb2 => h (HNI.out.1 (hb.1 hb2)))]
        clear hma hall hok hwi hwo HNI
        generalize oneE N l = EE at *
        generalize inL l = IN at *
        generalize outL l = OU at *
        subst hin
        go_enter Tryd.func88, Tryd.ntmps88
        go_wp2_with fail
        refine (HMA.out _ (Ext.refl _)).mono ?_; rintro e w1 ⟨rfl, hx1⟩
        go_wp2_with fail
        refine (HOU.out _ hx1).mono ?_; rintro e w2 ⟨rfl, hx2⟩
        have hx12 := hx1.trans hx2
        go_wp2_with fail
        refine (HIN.out _ hx12).mono ?_; rintro e w3 ⟨rfl, hx3⟩
        have hx13 := hx12.trans hx3
        go_wp2_with fail
        refine (HIS.out _ hx13).mono ?_; rintro e w4 ⟨bq, rfl, hx4, hbq⟩
        have HR := HE.out bq hbq
        have hx14 := hx13.trans hx4
        cases bq with
        | true =>
          rw [if_pos rfl] at HR
          clear hbq HE
          subst HR
          go_wp2_with fail
          go_ret2
          exact ⟨rfl, hx14⟩
        | false =>
          rw [if_neg (by decide)] at HR
          clear hbq HE
          subst HR
          go_wp2_with fail
          go_ret2
          exact ⟨rfl, hx14⟩
    · have hE : oneE N l = 5 := by unfold oneE; rw [if_neg (by omega), if_pos hin]
      rw [hE]
      clear hE hma hall hok hwi hwo HNI HIS
      have t1 : (inL l != N) = true := by rw [bne_iff_ne]; exact hin
      have t2 : (inL l == N) = false := by rw [beq_eq_false_iff_ne]; exact hin
      clear hin
      generalize inL l = IN at *
      generalize outL l = OU at *
      go_enter Tryd.func88, Tryd.ntmps88
      go_wp2_with fail
      refine (HMA.out _ (Ext.refl _)).mono ?_; rintro e w1 ⟨rfl, hx1⟩
      go_wp2_with fail
      refine (HOU.out _ hx1).mono ?_; rintro e w2 ⟨rfl, hx2⟩
      have hx12 := hx1.trans hx2
      go_wp2_with fail
      refine (HIN.out _ hx12).mono ?_; rintro e w3 ⟨rfl, hx3⟩
      go_wp2_with fail
      go_ret2
      exact ⟨rfl, hx12.trans hx3⟩
  · have hE : oneE N l = mayL l := by unfold oneE; rw [if_pos hma]
    rw [hE, if_neg hma]
    have t1 : (mayL l != 0) = true := by rw [bne_iff_ne]; exact hma
    have t2 : (mayL l == 0) = false := by rw [beq_eq_false_iff_ne]; exact hma
    clear hE hma HIN HOU HIS
    generalize mayL l = ME at *
    go_enter Tryd.func88, Tryd.ntmps88
    go_wp2_with fail
    refine (HMA.out _ (Ext.refl _)).mono ?_; rintro e w1 ⟨rfl, hx1⟩
    go_wp2_with fail
    go_ret2
    exact ⟨rfl, hx1⟩
def SegR (w : World) (K : Int) (ls : List (List Sp)) (e : Ending) (w' : World) : Prop :=
  Ext w w' ∧ ∃ A n c, e = .returned (.tuple #[.slice A n c, .int .i64 (segE K ls)]) ∧ Rd w' 1 (.slice A n c) n (nV (if segE K ls = 0 then K :: ls.map outL else []))
theorem segs16_c (B : Option Addr) (m d : Nat) (ls : List (List Sp)) (K : Int) (w : World) [Tab w] (h2 : RdSS w B m d ls) (hq : ∀ l ∈ ls, l.length ≤ 1000) (hts : ∀ l ∈ ls, ∀ s ∈ l, s.2.2.size ≤ 1000000000) (hsm : ∀ l ∈ ls, sumT l ≤ 900000000) (hmb : m ≤ 1000000) (hK0 : 0 ≤ K) (hK1 : K ≤ 1048576) :
    Calls Tryd.prog 67 #[.int .i64 K, .slice B m d] w (SegR w K ls) := by
  have hm := h2.1
  obtain ⟨i, hi, hz0, hz1, hz2⟩ := info_parts info_int
  have hmk : (Instr.makeSlice 24 (.int .i64 0) (.int .i64 ((m : Int) + 1))).run Tryd.prog w = .ok (.slice (some ⟨w.heap.size, 0, none⟩) 0 (m + 1)) (w.alloc (.cells (madeCells (Value.int .i64 0).cells ((m + 1) * i.size)) 3)) := by
    have h := run_make w 24 3 i (.int .i64 0) Tryd.underlying24 hi hz0 .i64 .i64 0 ((m : Int) + 1) (by omega) (by omega) (by rw [hz2]; omega) (by omega)
    exact h
  rw [hz1] at hmk
  have hms : (madeCells (Value.int .i64 0).cells ((m + 1) * 1)).size = (m + 1) * 1 := size_madeCells _ _
  generalize madeCells (Value.int .i64 0).cells ((m + 1) * 1) = mcs at hmk hms
  have H2 := Lib.hid h2; have HM := Lib.hid hm; have HQ := Lib.hid hq; have HTS := Lib.hid hts; have HSM := Lib.hid hsm
  obtain ⟨EE, hEE⟩ : ∃ E, segE K ls = E := ⟨_, rfl⟩
  have HE0 : Hid (segE K (ls.drop 0) = EE) := Lib.hid (by rw [List.drop_zero]; exact hEE)
  unfold SegR
  rw [hEE]
  obtain ⟨RW, hRW⟩ : ∃ R, (if EE = 0 then K :: ls.map outL else []) = R := ⟨_, rfl⟩
  rw [hRW]
  have HRW0 : Hid (EE = 0 → RW = K :: ls.map outL) := Lib.hid fun h => by rw [← hRW, if_pos h]
  have HRW1 : Hid (EE ≠ 0 → RW = []) := Lib.hid fun h => by rw [← hRW, if_neg h]
  clear hRW
  have hX1 : Ext w (w.alloc (.cells mcs 3)) := (Ext.refl w).alloc _
  have hO1 := Own.room w w.heap.size 3 1 (m + 1) mcs (Nat.le_refl _) (by omega) hms
  generalize w.alloc (.cells mcs 3) = W1 at hmk hX1 hO1
  obtain ⟨v2, W2, happ, hown2, hbel2⟩ := app_new (P := Tryd.prog) 24 24 3 i _ 1 8 Tryd.underlying24 hi hz0 hz1 hz2 rfl (by omega) (by omega)
    hX1 hO1 (by omega) 1 #[.int .i64 K] rfl (by omega) (by simp [Value.oneCell']) 3
  have HAP0 := Lib.hid happ
  have HO2 : Hid (Own W2 w.heap.size 3 1 v2 (0 + 1) (nV (K :: (ls.take 0).map outL))) := Lib.hid (by rw [List.take_zero]; exact hown2)
  have HX2 : Hid (Ext w W2) := Lib.hid hbel2
  clear happ hown2 hbel2 h2 hm hq hts hsm hms hEE hX1 hO1
  go_enter Tryd.func67, Tryd.ntmps67
  go_wp2_with (at_builtin; refine wpList_append_run rfl rfl HAP0.out rfl rfl ?_)
  go_loopw [0, 6, 20] (fun nv ov iv wr => ∃ (j : Nat) (N : Int), j ≤ m ∧ iv = .int .i64 j ∧ nv = .int .i64 N ∧ 0 ≤ N ∧ N ≤ 1048576 ∧ Hid (segE N (ls.drop j) = EE) ∧ Hid (Own wr w.heap.size 3 1 ov (j + 1) (nV (K :: (ls.take j).map outL))) ∧ Hid (Ext w wr)) (fun _ _ iv _ => m - (intOf iv).toNat)
  case atStart => exact ⟨0, K, by omega, rfl, rfl, hK0, hK1, HE0, HO2, HX2⟩
  case round =>
    clear HE0 HO2 HX2 HAP0
    obtain ⟨j, N, hj, rfl, rfl, hN0, hN1, HE, HO, HX⟩ := hrel
    have htr := tab_ext HX.out
    by_cases hlt : j < m
    · have hjl : j < ls.length := by have := HM.out; omega
      obtain ⟨bb, off, a, kc, rfl, hbb, q0, hr⟩ := (H2.out.ext HX.out).at_ hlt hjl
      have dn : decide (j < m) = true := by rw [decide_eq_true_eq]; exact hlt
      have i0 : (0 : Int) ≤ (j : Int) := by omega
      have i1 : (j : Int) < (m : Int) := by omega
      have hlen := HQ.out _ (List.getElem_mem hjl)
      have htx := HTS.out _ (List.getElem_mem hjl)
      have hsu := HSM.out _ (List.getElem_mem hjl)
      have hst := segE_one (n := N) hjl
      rw [HE.out] at hst
      have HTK : Hid ((ls.take (j + 1)).map outL = (ls.take j).map outL ++ [outL ls[j]]) := Lib.hid (by rw [List.take_add_one, List.getElem?_eq_getElem hjl, List.map_append]; rfl)
      have HOK : Hid (oneE N ls[j] = 0 → 0 ≤ outL ls[j] ∧ outL ls[j] ≤ 1048576) := Lib.hid fun h => oneE_ok h hlen
      obtain ⟨l, hl⟩ : ∃ l, ls[j] = l := ⟨_, rfl⟩
      rw [hl] at q0 hr hlen htx hsu hst HTK HOK
      obtain ⟨k, hk⟩ : ∃ k, l.length = k := ⟨_, rfl⟩
      rw [hk] at q0 hr
      have hSZ := fun w' (hx : Ext wr w') => have hTb := tab_ext hx; size16_c a k kc l N w' (hr.ext hx) hk (by omega) htx hsu
      have HST := Lib.hid hst
      clear hst hr hl htx hsu hk hlen
      by_cases ho : oneE N l = 0
      · obtain ⟨ou0, ou1⟩ := HOK.out ho
        rw [ho, if_pos rfl] at hSZ
        have HS := Lib.hid (HST.out.trans (if_pos ho))
        have HSZ := Lib.hid hSZ
        clear hSZ HST HOK ho
        generalize outL l = OU at *
        go_wp2_with fail
        refine (HSZ.out _ (Ext.refl _)).mono ?_; rintro e w4 ⟨rfl, hx4⟩
        obtain ⟨v', w', happ, hown', hbel'⟩ := app_new (P := Tryd.prog) 24 24 3 i _ 1 8 Tryd.underlying24 hi hz0 hz1 hz2 rfl (by omega) (by omega)
          (HX.out.trans hx4) (HO.out.ext hx4) (by omega) 1 #[.int .i64 OU] rfl (by omega) (by simp [Value.oneCell']) 3
        have HAP := Lib.hid happ
        have HO2 : Hid (Own w' w.heap.size 3 1 v' (j + 1 + 1) (nV (K :: (ls.take (j + 1)).map outL))) := Lib.hid (by rw [HTK.out, ← List.cons_append, nV_append]; exact hown')
        have HXB : Hid (Ext w w') := Lib.hid hbel'
        have HS3 := Lib.hid HS.out.symm
        clear happ hown' hbel' HS
        go_wp2_with (at_builtin; refine wpList_append_run rfl rfl HAP.out rfl rfl ?_)
        go_roundw
        case rel => exact ⟨j + 1, OU, by omega, by go_num, rfl, ou0, by omega, HS3, HO2, HXB⟩
        case measure => simp [intOf]; omega
      · rw [if_neg ho] at hSZ
        have HR : Hid (EE = oneE N l) := Lib.hid (HST.out.trans (if_neg ho))
        have t1 : (oneE N l != 0) = true := by rw [bne_iff_ne]; exact ho
        have t2 : (oneE N l == 0) = false := by rw [beq_eq_false_iff_ne]; exact ho
        have HN : Hid (¬ oneE N l = 0) := Lib.hid ho
        have HSZ := Lib.hid hSZ
        clear hSZ HST HOK ho HTK
        generalize oneE N l = OE at *
        go_wp2_with fail
        refine (HSZ.out _ (Ext.refl _)).mono ?_; rintro e w4 ⟨rfl, hx4⟩
        go_wp2_with fail
        go_ret2
        rw [HRW1.out (by rw [HR.out]; exact HN.out), HR.out]
        exact ⟨HX.out.trans hx4, none, 0, 0, rfl, Rd.nil _ _⟩
    · obtain rfl : j = m := by omega
      have dn : decide (j < j) = false := by rw [decide_eq_false_iff_not]; omega
      obtain ⟨ao, co, rfl, _⟩ := HO.out.len
      have HR0 : Hid (EE = 0) := Lib.hid (by rw [← HE.out, List.drop_eq_nil_of_le (by have := HM.out; omega)]; rfl)
      have HR : Hid (Rd wr 1 (.slice ao (j + 1) co) (j + 1) (nV (K :: ls.map outL))) := Lib.hid (by
        have h := HO.out.rd
        rw [show ls.take j = ls by rw [← HM.out]; exact List.take_length] at h
        exact h)
      go_wp2_with fail
      go_ret2
      rw [HRW0.out HR0.out, HR0.out]
      exact ⟨HX.out, _, _, _, rfl, HR.out⟩
theorem beg16_c (A : Option Addr) (n c : Nat) (B : Option Addr) (m d : Nat) (s : ByteArray) (rv : List Int) (K : Int) (w : World) (h1 : Rd w 1 (.slice A n c) n (nV rv)) (hn : n ≤ 1000000) (hmb : m ≤ 1000000) :
    Calls Tryd.prog 66 #[.agg #[.string s, .slice A n c, .slice B m d], .int .i64 K] w fun e w' => e = .returned (.int .i64 (begE K rv m)) ∧ Ext w w' := by
  have hnl := nV_len h1
  have HPR := Lib.hid (fun w' (hx : Ext w w') => rwPutP_c A n c rv w' (h1.ext hx) hn)
  obtain ⟨x, hx⟩ : ∃ x, w.heap.size = x := ⟨_, rfl⟩
  obtain ⟨W1, hW1⟩ : ∃ W, w.alloc (.cells #[.string s, .slice A n c, .slice B m d] 26) = W := ⟨_, rfl⟩
  have hX1 : Ext w W1 := by rw [← hW1]; exact (Ext.refl w).alloc _
  have hB1 : BxT 26 W1 x #[.string s, .slice A n c, .slice B m d] := by rw [← hW1, ← hx]; exact BxT.new w 26 _
  have HW1 := Lib.hid hW1; have HXE := Lib.hid hx; have HX1 := Lib.hid hX1; have HB1 := Lib.hid hB1
  have c0 : W1.cell? ⟨x, 0, none⟩ = some (.string s) := hB1.cell rfl
  have c1 : W1.cell? ⟨x, 1, none⟩ = some (.slice A n c) := hB1.cell rfl
  have c2 : W1.cell? ⟨x, 2, none⟩ = some (.slice B m d) := hB1.cell rfl
  clear hW1 hx hX1 hB1
  unfold begE
  by_cases hk0 : K < 0
  · rw [if_pos hk0]
    clear h1 hnl HPR
    go_enter Tryd.func66, Tryd.ntmps66
    go_wp2_with fail
    rw [HW1.out, HXE.out]
    go_wp2_with fail
    go_ret
    exact ⟨rfl, HX1.out⟩
  · rw [if_neg hk0]
    by_cases hk1 : 1048576 < K
    · rw [if_pos hk1]
      clear h1 hnl HPR
      go_enter Tryd.func66, Tryd.ntmps66
      go_wp2_with fail
      rw [HW1.out, HXE.out]
      go_wp2_with fail
      go_ret
      exact ⟨rfl, HX1.out⟩
    · rw [if_neg hk1]
      by_cases hro : rowOk rv
      · have hre : rowE rv = 0 := if_pos hro
        rw [hre] at HPR
        by_cases hne : n = m + 1
        · rw [if_pos ⟨hro, by omega⟩]
          subst hne
          clear h1 hnl hre hro
          go_enter Tryd.func66, Tryd.ntmps66
          go_wp2_with fail
          rw [HW1.out, HXE.out]
          go_wp2_with fail
          refine (HPR.out _ HX1.out).mono ?_; rintro e w2 ⟨hx2, vb, rfl, -⟩
          have c0b : w2.cell? ⟨x, 0, none⟩ = some (.string s) := (HB1.out.ext hx2).cell rfl; have c1b : w2.cell? ⟨x, 1, none⟩ = some (.slice A (m + 1) c) := (HB1.out.ext hx2).cell rfl; have c2b : w2.cell? ⟨x, 2, none⟩ = some (.slice B m d) := (HB1.out.ext hx2).cell rfl
          go_wp2_with fail
          go_ret
          exact ⟨rfl, HX1.out.trans hx2⟩
        · rw [if_neg (fun h => hne (by omega))]
          have t1 : ((n : Int) != (m : Int) + 1) = true := by rw [bne_iff_ne]; omega
          have t2 : ((n : Int) == (m : Int) + 1) = false := by rw [beq_eq_false_iff_ne]; omega
          clear h1 hnl hre hro hne
          go_enter Tryd.func66, Tryd.ntmps66
          go_wp2_with fail
          rw [HW1.out, HXE.out]
          go_wp2_with fail
          refine (HPR.out _ HX1.out).mono ?_; rintro e w2 ⟨hx2, vb, rfl, -⟩
          have c0b : w2.cell? ⟨x, 0, none⟩ = some (.string s) := (HB1.out.ext hx2).cell rfl; have c1b : w2.cell? ⟨x, 1, none⟩ = some (.slice A n c) := (HB1.out.ext hx2).cell rfl; have c2b : w2.cell? ⟨x, 2, none⟩ = some (.slice B m d) := (HB1.out.ext hx2).cell rfl
          go_wp2_with fail
          go_ret
          exact ⟨rfl, HX1.out.trans hx2⟩
      · have hre : rowE rv = 2 := if_neg hro
        rw [hre] at HPR
        rw [if_neg (fun h => hro h.1)]
        clear h1 hnl hre hro
        go_enter Tryd.func66, Tryd.ntmps66
        go_wp2_with fail
        rw [HW1.out, HXE.out]
        go_wp2_with fail
        refine (HPR.out _ HX1.out).mono ?_; rintro e w2 ⟨hx2, vb, rfl, -⟩
        have c0b : w2.cell? ⟨x, 0, none⟩ = some (.string s) := (HB1.out.ext hx2).cell rfl; have c1b : w2.cell? ⟨x, 1, none⟩ = some (.slice A n c) := (HB1.out.ext hx2).cell rfl; have c2b : w2.cell? ⟨x, 2, none⟩ = some (.slice B m d) := (HB1.out.ext hx2).cell rfl
        go_wp2_with fail
        go_ret
        exact ⟨rfl, HX1.out.trans hx2⟩
theorem sizesP16_c (A : Option Addr) (n c : Nat) (B : Option Addr) (m d : Nat) (s : ByteArray) (rv : List Int) (ls : List (List Sp)) (w : World) [Tab w] (h1 : Rd w 1 (.slice A n c) n (nV rv)) (h2 : RdSS w B m d ls) (hs : SmL s rv ls) :
    Calls Tryd.prog 38 #[.agg #[.string s, .slice A n c, .slice B m d]] w (SizesR w s rv ls) := by
  have hm := h2.1; have hnl := nV_len h1
  have hmb : m ≤ 1000000 := by have := hs.segs; omega
  have HC := Lib.hid (fun w' => count_c s w' (by have := hs.base; omega))
  have HBG := Lib.hid (fun w' (hx : Ext w w') => beg16_c A n c B m d s rv (cntF (bs s)) w' (h1.ext hx) (by have := hs.revs; omega) hmb)
  have hSG := fun w' (hx : Ext w w') (k0 : 0 ≤ cntF (bs s)) (k1 : cntF (bs s) ≤ 1048576) => have hTb := tab_ext hx; segs16_c B m d ls (cntF (bs s)) w' (h2.ext hx) hs.len hs.text hs.sum1 hmb k0 k1
  have hlog := logE_beg s rv ls
  rw [hm] at hlog
  unfold SizesR sizesL
  generalize cntF (bs s) = K at *
  obtain ⟨x, hx⟩ : ∃ x, w.heap.size = x := ⟨_, rfl⟩
  obtain ⟨W1, hW1⟩ : ∃ W, w.alloc (.cells #[.string s, .slice A n c, .slice B m d] 26) = W := ⟨_, rfl⟩
  have hX1 : Ext w W1 := by rw [← hW1]; exact (Ext.refl w).alloc _
  have hB1 : BxT 26 W1 x #[.string s, .slice A n c, .slice B m d] := by rw [← hW1, ← hx]; exact BxT.new w 26 _
  have HW1 := Lib.hid hW1; have HXE := Lib.hid hx; have HX1 := Lib.hid hX1; have HB1 := Lib.hid hB1
  have c0 : W1.cell? ⟨x, 0, none⟩ = some (.string s) := hB1.cell rfl
  have c1 : W1.cell? ⟨x, 1, none⟩ = some (.slice A n c) := hB1.cell rfl
  have c2 : W1.cell? ⟨x, 2, none⟩ = some (.slice B m d) := hB1.cell rfl
  clear hW1 hx hX1 hB1
  by_cases hb : begE K rv m = 0
  · obtain ⟨k0, k1⟩ := begE_ok hb
    rw [if_pos hb] at hlog
    rw [hb] at HBG
    rw [hlog]
    unfold SegR at hSG
    have HSG := Lib.hid (fun w' (hx : Ext w w') => hSG w' hx k0 k1)
    clear h1 h2 hs hm hnl hlog hb hSG
    generalize (if segE K ls = 0 then K :: ls.map outL else []) = RW at *
    generalize segE K ls = SE at *
    go_enter Tryd.func38, Tryd.ntmps38
    go_wp2_with fail
    rw [HW1.out, HXE.out]
    refine (HC.out _).mono ?_; rintro e w2 ⟨rfl, hx2⟩
    have c0b : w2.cell? ⟨x, 0, none⟩ = some (.string s) := (HB1.out.ext hx2).cell rfl; have c1b : w2.cell? ⟨x, 1, none⟩ = some (.slice A n c) := (HB1.out.ext hx2).cell rfl; have c2b : w2.cell? ⟨x, 2, none⟩ = some (.slice B m d) := (HB1.out.ext hx2).cell rfl
    go_wp2_with fail
    refine (HBG.out _ (HX1.out.trans hx2)).mono ?_; rintro e w3 ⟨rfl, hx3⟩
    have hx23 := hx2.trans hx3
    have c0d : w3.cell? ⟨x, 0, none⟩ = some (.string s) := (HB1.out.ext hx23).cell rfl; have c1d : w3.cell? ⟨x, 1, none⟩ = some (.slice A n c) := (HB1.out.ext hx23).cell rfl; have c2d : w3.cell? ⟨x, 2, none⟩ = some (.slice B m d) := (HB1.out.ext hx23).cell rfl
    go_wp2_with fail
    refine (HSG.out _ (HX1.out.trans hx23)).mono ?_; rintro e w4 ⟨hx4, A2, n2, cc2, rfl, hrd⟩
    have HRD := Lib.hid hrd
    clear hrd
    go_wp2_with fail
    go_ret2
    exact ⟨(HX1.out.trans hx23).trans hx4, _, _, _, rfl, HRD.out⟩
  · rw [if_neg hb] at hlog
    rw [hlog]
    rw [if_neg hb]
    have t1 : (begE K rv m != 0) = true := by rw [bne_iff_ne]; exact hb
    have t2 : (begE K rv m == 0) = false := by rw [beq_eq_false_iff_ne]; exact hb
    clear h1 h2 hs hm hnl hlog hb hSG
    generalize begE K rv m = BE at *
    go_enter Tryd.func38, Tryd.ntmps38
    go_wp2_with fail
    rw [HW1.out, HXE.out]
    refine (HC.out _).mono ?_; rintro e w2 ⟨rfl, hx2⟩
    have c0b : w2.cell? ⟨x, 0, none⟩ = some (.string s) := (HB1.out.ext hx2).cell rfl; have c1b : w2.cell? ⟨x, 1, none⟩ = some (.slice A n c) := (HB1.out.ext hx2).cell rfl; have c2b : w2.cell? ⟨x, 2, none⟩ = some (.slice B m d) := (HB1.out.ext hx2).cell rfl
    go_wp2_with fail
    refine (HBG.out _ (HX1.out.trans hx2)).mono ?_; rintro e w3 ⟨rfl, hx3⟩
    have hx23 := hx2.trans hx3
    go_wp2_with fail
    go_ret2
    exact ⟨HX1.out.trans hx23, _, _, _, rfl, Rd.nil _ _⟩
theorem mayP16_c (A : Option Addr) (n c : Nat) (B : Option Addr) (m d : Nat) (s : ByteArray) (rv : List Int) (ls : List (List Sp)) (w : World) [Tab w] (h1 : Rd w 1 (.slice A n c) n (nV rv)) (h2 : RdSS w B m d ls) (hs : SmL s rv ls) :
    Calls Tryd.prog 16 #[.agg #[.string s, .slice A n c, .slice B m d]] w fun e w' => e = .returned (.int .i64 (logE s rv ls)) ∧ Ext w w' := by
  have HSZ := Lib.hid (fun w' (hx : Ext w w') => have hTb := tab_ext hx; sizesP16_c A n c B m d s rv ls w' (h1.ext hx) (h2.ext hx) hs)
  obtain ⟨x, hx⟩ : ∃ x, w.heap.size = x := ⟨_, rfl⟩
  obtain ⟨W1, hW1⟩ : ∃ W, w.alloc (.cells #[.string s, .slice A n c, .slice B m d] 26) = W := ⟨_, rfl⟩
  have hX1 : Ext w W1 := by rw [← hW1]; exact (Ext.refl w).alloc _
  have hB1 : BxT 26 W1 x #[.string s, .slice A n c, .slice B m d] := by rw [← hW1, ← hx]; exact BxT.new w 26 _
  have HW1 := Lib.hid hW1; have HXE := Lib.hid hx; have HX1 := Lib.hid hX1; have HB1 := Lib.hid hB1
  have c0 : W1.cell? ⟨x, 0, none⟩ = some (.string s) := hB1.cell rfl
  have c1 : W1.cell? ⟨x, 1, none⟩ = some (.slice A n c) := hB1.cell rfl
  have c2 : W1.cell? ⟨x, 2, none⟩ = some (.slice B m d) := hB1.cell rfl
  clear hW1 hx hX1 hB1
  unfold SizesR at HSZ
  generalize logE s rv ls = EE at *
  clear h1 h2 hs
  go_enter Tryd.func16, Tryd.ntmps16
  go_wp2_with fail
  rw [HW1.out, HXE.out]
  refine (HSZ.out _ HX1.out).mono ?_; rintro e w2 ⟨hx2, A2, n2, cc2, rfl, -⟩
  go_wp2_with fail
  go_ret
  exact ⟨rfl, HX1.out.trans hx2⟩
end Go.Proofs.YtgcaphjjigpjlaaDoor
namespace Go.Proofs.YtgcaphjjigpjlaaDoor
open Go.RowKit
set_option maxRecDepth 100000
set_option maxHeartbeats 4000000
set_option linter.unusedSimpArgs false
structure LogB (W : World) (x : Nat) (A : Option Addr) (n c : Nat) (B : Option Addr) (m d : Nat) (s : ByteArray) (rv : List Int) (ls : List (List Sp)) : Prop where
  box : BxT 26 W x #[.string s, .slice A n c, .slice B m d]
  rev : Rd W 1 (.slice A n c) n (nV rv)
  seg : RdSS W B m d ls
theorem LogB.ext {W W' : World} {x : Nat} {A : Option Addr} {n c : Nat} {B : Option Addr} {m d : Nat} {s : ByteArray} {rv : List Int} {ls : List (List Sp)} (h : LogB W x A n c B m d s rv ls) (hx : Ext W W') : LogB W' x A n c B m d s rv ls := ⟨h.box.ext hx, h.rev.ext hx, h.seg.ext hx⟩
theorem LogB.new {W : World} {A : Option Addr} {n c : Nat} {B : Option Addr} {m d : Nat} {s : ByteArray} {rv : List Int} {ls : List (List Sp)} (h1 : Rd W 1 (.slice A n c) n (nV rv)) (h2 : RdSS W B m d ls) : LogB (W.alloc (.cells #[.string s, .slice A n c, .slice B m d] 26)) W.heap.size A n c B m d s rv ls :=
  ⟨BxT.new W 26 _, h1.ext ((Ext.refl W).alloc _), h2.ext ((Ext.refl W).alloc _)⟩
theorem LogB.cells {W : World} {x : Nat} {A : Option Addr} {n c : Nat} {B : Option Addr} {m d : Nat} {s : ByteArray} {rv : List Int} {ls : List (List Sp)} (h : LogB W x A n c B m d s rv ls) : W.cell? ⟨x, 0, none⟩ = some (.string s) ∧ W.cell? ⟨x, 1, none⟩ = some (.slice A n c) ∧ W.cell? ⟨x, 2, none⟩ = some (.slice B m d) := ⟨h.box.cell rfl, h.box.cell rfl, h.box.cell rfl⟩
end Go.Proofs.YtgcaphjjigpjlaaDoor
namespace Go.Proofs.YtgcaphjjigpjlaaDoor
open Go.RowKit
set_option maxRecDepth 100000
set_option maxHeartbeats 4000000
set_option linter.unusedSimpArgs false
theorem rises_weak {was w2 : Int} {l : List Int} (h : rises was l) (hw : w2 ≤ was) : rises w2 l := by
  cases l with
  | nil => exact trivial
  | cons x r => obtain ⟨a, b, c⟩ := h; exact ⟨by omega, b, c⟩
theorem rises_drop16 {l : List Int} : ∀ {was : Int} (k : Nat), rises was l → rises was (l.drop k) := by
  induction l with
  | nil => intro was k h; simpa using h
  | cons x r ih =>
    intro was k h
    cases k with
    | zero => exact h
    | succ k => obtain ⟨a, b, c⟩ := h; exact ih k (rises_weak c (by omega))
theorem rises_range16 (k b : Nat) (was : Int) (h : was < (b : Int)) (hb : b + k ≤ 268435456) : rises was ((List.range' b k).map fun (i : Nat) => (i : Int)) := by
  induction k generalizing b was with
  | zero => exact trivial
  | succ k ih =>
    rw [List.range'_succ, List.map_cons]
    exact ⟨h, by omega, ih (b + 1) _ (by omega) (by omega)⟩
theorem revL_ok (k : Nat) (hk : k ≤ 1000) : rowOk (revL k) := by
  refine ⟨fun h => by have := revL_len k; rw [h] at this; simp at this, by rw [revL_len]; omega, ?_⟩
  unfold revL
  rw [List.range_eq_range']
  exact rises_range16 (k + 1) 0 (-1) (by omega) (by omega)
theorem log_rest {s : ByteArray} {rv : List Int} {ls : List (List Sp)} (h : logE s rv ls = 0) (hl : ∀ l ∈ ls, l.length ≤ 1000) {k : Nat} (hk : k ≤ ls.length) : logE (allL s (ls.take k)).1 (rv.drop k) (ls.drop k) = 0 := by
  obtain ⟨cs, h1, h2, ⟨h3, h4, h5⟩, h6, h7⟩ := logE_ok h
  have h8 : segE (cs.length : Int) (ls.take k ++ ls.drop k) = 0 := by rw [List.take_append_drop]; exact h7
  obtain ⟨s1, s2⟩ := segE_append.1 h8
  obtain ⟨g1, ds, g2, g3⟩ := allL_ok h1 s1 fun l hx => hl l (List.mem_of_mem_take hx)
  rw [← g3] at s2
  have hb : ds.length ≤ 1048576 := by
    have hm : ∀ (N : Int) (r : List (List Sp)), segE N r = 0 → N ≤ 1048576 → (((N :: r.map outL).getLast (List.cons_ne_nil _ _)) : Int) ≤ 1048576 := by
      intro N r
      induction r generalizing N with
      | nil => intro _ hN; simpa using hN
      | cons a t ih =>
        intro hs hN
        obtain ⟨⟨_, _, q3, _⟩, q5⟩ := segE_cons.1 hs
        have := ih _ q5 q3
        simpa [List.getLast_cons] using this
    have := hm _ _ s1 (by omega)
    omega
  refine logE_of g2 hb ⟨fun e => ?_, by rw [List.length_drop]; omega, rises_drop16 _ h5⟩ (by rw [List.length_drop, List.length_drop]; omega) s2
  have := congrArg List.length e
  rw [List.length_drop, List.length_nil] at this
  omega
theorem allL_size {s : ByteArray} {ls : List (List Sp)} : (allL s ls).1.size ≤ s.size + sumTT ls := by
  induction ls generalizing s with
  | nil => exact Nat.le_add_right _ _
  | cons l r ih =>
    have e : sumTT (l :: r) = sumT l + sumTT r := by simp [sumTT]
    rw [allL]
    split
    · have h1 := ih (s := toS l s)
      have h2 := toS_size l s
      omega
    · show (0 : Nat) ≤ _; omega
structure FitLog (S : ByteArray) (FR : List Int) (FL : List (List Sp)) : Prop where
  ok : logE S FR FL = 0
  n20 : FL.length ≤ 20
  rev : FR = revL FL.length
  len : ∀ l ∈ FL, l.length ≤ 13
  txt : S.size ≤ 80
  sum : sumTT FL ≤ 6240
theorem FitLog.sm {S : ByteArray} {FR : List Int} {FL : List (List Sp)} (h : FitLog S FR FL) : SmL S FR FL :=
  ⟨by have := h.txt; omega, by rw [h.rev, revL_len]; have := h.n20; omega, by have := h.n20; omega, fun l hl => by have := h.len l hl; omega, by have := h.sum; omega⟩
theorem FitLog.lens {S : ByteArray} {FR : List Int} {FL : List (List Sp)} (h : FitLog S FR FL) : ∀ l ∈ FL, l.length ≤ 1000 := fun l hl => by have := h.len l hl; omega
theorem fit_log {S : ByteArray} {cs : List Nat} {ls : List (List Sp)} (hd : dec (bs S) = some cs) (hc : cs.length ≤ 20) (hS : S.size ≤ 80) : FitLog S (revL (segF cs.length ls).length) (segF cs.length ls) := by
  have h20 : (ls.take 20).length ≤ 20 := by rw [List.length_take]; omega
  obtain ⟨g1, g2⟩ := chain_seg (ls.take 20) (cs.length : Int) (by omega) (by omega)
  have hlen : (segF (cs.length : Int) ls).length ≤ 20 := by unfold segF; rw [List.length_map, chainL_len]; exact h20
  have hmem : ∀ l ∈ segF (cs.length : Int) ls, l.length ≤ 13 ∧ sumT l ≤ 312 := by
    intro l hl
    obtain ⟨x, hx, rfl⟩ := List.mem_map.1 hl
    obtain ⟨_, q2, q3⟩ := g2 x hx
    have := norm_len x
    rw [sumT_norm]; omega
  refine ⟨logE_of hd (by omega) (revL_ok _ (by omega)) (revL_len _) g1, hlen, rfl, fun l hl => (hmem l hl).1, hS, ?_⟩
  have := sumTT_le (segF (cs.length : Int) ls) 312 fun l hl => (hmem l hl).2
  omega
theorem fitG16 (s : ByteArray) (A : Option Addr) (n c : Nat) (ls : List (List Sp)) (w : World) (hs : s.size ≤ maxLen) (h : RdSS w A n c ls) (hls : ∀ l ∈ ls, ∀ x ∈ l, x.2.2.size ≤ maxLen) :
    ∃ S FR FL, FitLog S FR FL ∧ ∀ w', Ext w w' → Calls Tryd.prog 8 #[.string s, .slice A n c] w' fun e w'' => Ext w' w'' ∧ ∃ A' k' c' B d, e = .returned (.agg #[.string S, .slice A' k' c', .slice B FL.length d]) ∧ Rd w'' 1 (.slice A' k' c') k' (nV FR) ∧ RdSS w'' B FL.length d FL := by
  obtain ⟨T, cs, hm1, hm2, hTl, hT0, hsz, HFIT, HCP, hcl, hUs, HD⟩ := cut_fit s 20 20 rfl (by omega) hs
  refine ⟨_, _, segF cs.length ls, fit_log HD.out hcl hUs, fun w' hx => (fitR16_c s A n c ls w' hs (h.ext hx) hls _ cs T hm1 hm2 hTl hsz HFIT hcl hUs HD).mono ?_⟩
  rintro e w'' ⟨q1, A', k', c', B, d, q2, q3, q4⟩
  obtain ⟨_, _, he, _, hss⟩ := q4.slice rfl
  injection he with e1 e2 e3
  subst e1; subst e3
  exact ⟨q1, A', k', c', _, _, q2, q3.rd, hss⟩
end Go.Proofs.YtgcaphjjigpjlaaDoor
namespace Go.Proofs.YtgcaphjjigpjlaaDoor
open Go.RowKit
set_option maxRecDepth 100000
set_option maxHeartbeats 4000000
set_option linter.unusedSimpArgs false
def txt17 (s : ByteArray) (ls : List (List Sp)) (j : Nat) : ByteArray := (allL s (ls.take j)).1
def txts17 (s : ByteArray) (ls : List (List Sp)) : List ByteArray := (List.range (ls.length + 1)).map (txt17 s ls)
def strV (l : List ByteArray) : List Value := l.map Value.string
def Hok (s : ByteArray) (ls : List (List Sp)) : Prop := ∃ cs, dec (bs s) = some cs ∧ cs.length ≤ 1048576 ∧ segE (cs.length : Int) ls = 0
structure SmH (s : ByteArray) (ls : List (List Sp)) : Prop where
  base : s.size ≤ 1000000
  num : ls.length ≤ 900
  len : ∀ l ∈ ls, l.length ≤ 1000
  sum : sumTT ls ≤ 400000000
theorem hok_log {s : ByteArray} {ls : List (List Sp)} (h : Hok s ls) (hn : ls.length ≤ 900) : logE s (revL ls.length) ls = 0 := by
  obtain ⟨cs, h1, h2, h3⟩ := h
  exact logE_of h1 h2 (revL_ok _ (by omega)) (revL_len _) h3
theorem Hok.txt {s : ByteArray} {ls : List (List Sp)} (h : Hok s ls) (hl : ∀ l ∈ ls, l.length ≤ 1000) {j : Nat} (hj : j ≤ ls.length) (hn : ls.length ≤ 900) :
    ∃ ds, dec (bs (txt17 s ls j)) = some ds ∧ cntF (bs (txt17 s ls j)) = (ds.length : Int) ∧ (ds.length : Int) = (sizesL s ls).getD j 0 := by
  obtain ⟨_, ds, g1, g2⟩ := log_at (hok_log h hn) hl hj
  exact ⟨ds, g1, cntF_some g1, g2⟩
theorem txt17_size {s : ByteArray} {ls : List (List Sp)} (j : Nat) : (txt17 s ls j).size ≤ s.size + sumTT ls := by
  have h := allL_size (s := s) (ls := ls.take j)
  have e : sumTT ls = sumTT (ls.take j) + sumTT (ls.drop j) := by rw [← List.take_append_drop j ls]; unfold sumTT; rw [List.map_append, List.sum_append, List.take_append_drop]
  unfold txt17
  omega
def appE (s : ByteArray) (ls : List (List Sp)) (l : List Sp) : Int :=
  if mayL l ≠ 0 then mayL l else if inL l ≠ cntF (bs (txt17 s ls ls.length)) then 5 else if 1048576 < outL l then 4 else 0
def appLs (s : ByteArray) (ls : List (List Sp)) (l : List Sp) : List (List Sp) := if appE s ls l = 0 then ls ++ [normL l] else ls
theorem appE_ok {s : ByteArray} {ls : List (List Sp)} {l : List Sp} (h : appE s ls l = 0) : mayL l = 0 ∧ inL l = cntF (bs (txt17 s ls ls.length)) ∧ outL l ≤ 1048576 := by
  unfold appE at h
  split at h
  · rename_i h1; exact absurd h h1
  · split at h
    · omega
    · split at h
      · omega
      · exact ⟨by omega, by omega, by omega⟩
theorem norm_all17 {l : List Sp} (hm : mayL l = 0) (hl : l.length ≤ 1000) : mayL (normL l) = 0 ∧ inL (normL l) = inL l ∧ outL (normL l) = outL l ∧ normL (normL l) = normL l ∧ tok (normL l) = tok l ∧ (normL l).length ≤ l.length ∧ sumT (normL l) = sumT l := by
  obtain ⟨hall, i0, i1⟩ := mayL_all hm hl
  have ok : ∀ x ∈ l, OkW x := fun x hx => okW_of_may (hall x hx)
  have hN : sumN l ≤ 1048576 := by have := okW_N l ok; omega
  have hma := norm_may l hall hN
  have e := inL_norm l
  exact ⟨mayL_ok _ hma (by omega) (by omega), e, outL_norm l hall hN, (isN_iff16 (okW_pos _ fun x hx => okW_of_may (hma x hx))).1 (norm_is l (okW_pos l ok)), tok_norm l ok, norm_len l, sumT_norm l⟩
theorem to_norm17 {l : List Sp} {s : ByteArray} {cs : List Nat} (hm : mayL l = 0) (hl : l.length ≤ 1000) (hd : dec (bs s) = some cs) (hn : inL l = (cs.length : Int)) : toE (normL l) s = 0 ∧ toS (normL l) s = toS l s := by
  obtain ⟨n1, n2, _, _, n5, _, _⟩ := norm_all17 hm hl
  obtain ⟨a1, a2⟩ := to_ok hm hd hn.symm
  obtain ⟨b1, b2⟩ := to_ok n1 hd (by rw [n2]; exact hn.symm)
  exact ⟨b1, by rw [a2, b2, n5]⟩
theorem hok_app {s : ByteArray} {ls : List (List Sp)} {l : List Sp} (h : Hok s ls) (hls : ∀ x ∈ ls, x.length ≤ 1000) (hl : l.length ≤ 1000) (he : appE s ls l = 0) :
    Hok s (ls ++ [normL l]) ∧ txts17 s (ls ++ [normL l]) = txts17 s ls ++ [toS l (txt17 s ls ls.length)] ∧ toE l (txt17 s ls ls.length) = 0 := by
  obtain ⟨hm, hi, ho⟩ := appE_ok he
  obtain ⟨n1, n2, n3, n4, n5, _, _⟩ := norm_all17 hm hl
  obtain ⟨cs, h1, h2, h3⟩ := h
  obtain ⟨g1, ds, g2, g3⟩ := allL_ok h1 h3 hls
  have ht : txt17 s ls ls.length = (allL s ls).1 := by unfold txt17; rw [List.take_length]
  rw [ht] at hi ⊢
  rw [cntF_some g2] at hi
  obtain ⟨t1, t2⟩ := to_norm17 hm hl g2 hi
  refine ⟨⟨cs, h1, h2, ?_⟩, ?_, (to_ok hm g2 hi.symm).1⟩
  · rw [segE_append, segE_cons]
    exact ⟨h3, ⟨n1, by rw [n2, hi, g3], by omega, n4⟩, rfl⟩
  · unfold txts17
    rw [List.length_append, List.length_singleton, List.range_succ, List.map_append]
    congr 1
    · apply List.map_congr_left
      intro j hj
      have hj2 := List.mem_range.1 hj
      unfold txt17
      rw [List.take_append_of_le_length (by omega)]
    · simp only [List.map_cons, List.map_nil]
      congr 1
      unfold txt17
      have e : (ls ++ [normL l]).take (ls.length + 1) = ls ++ [normL l] := List.take_of_length_le (by simp)
      rw [e, allL_append g1, allL, if_pos t1, t2]
      rfl
end Go.Proofs.YtgcaphjjigpjlaaDoor
namespace Go.Proofs.YtgcaphjjigpjlaaDoor
open Go.RowKit
set_option maxRecDepth 100000
set_option maxHeartbeats 4000000
set_option linter.unusedSimpArgs false
structure Kp (S : Nat → Prop) (A B : World) : Prop where
  os : B.os = A.os
  tape : B.tape = A.tape
  output : B.output = A.output
  size : A.heap.size ≤ B.heap.size
  block : ∀ k, k < A.heap.size → ¬ S k → B.heap[k]? = A.heap[k]?
def Gr (F : Nat → Prop) (A B : World) : Nat → Prop := fun k => F k ∨ (A.heap.size ≤ k ∧ k < B.heap.size)
theorem Kp.refl (S : Nat → Prop) (A : World) : Kp S A A := ⟨rfl, rfl, rfl, Nat.le_refl _, fun _ _ _ => rfl⟩
theorem Kp.of_ext {A B : World} (S : Nat → Prop) (h : Ext A B) : Kp S A B := ⟨h.os, h.tape, h.output, h.size, fun k hk _ => h.block k hk⟩
theorem Kp.trans {S : Nat → Prop} {A B C : World} (h : Kp S A B) (k : Kp S B C) : Kp S A C :=
  ⟨k.os.trans h.os, k.tape.trans h.tape, k.output.trans h.output, Nat.le_trans h.size k.size, fun i hi hs => (k.block i (Nat.lt_of_lt_of_le hi h.size) hs).trans (h.block i hi hs)⟩
theorem Kp.wide {S S' : Nat → Prop} {A B C : World} (h : Kp S A B) (k : Kp S' B C) (hs : ∀ i, S' i → S i ∨ A.heap.size ≤ i) : Kp S A C :=
  ⟨k.os.trans h.os, k.tape.trans h.tape, k.output.trans h.output, Nat.le_trans h.size k.size, fun i hi hn => (k.block i (Nat.lt_of_lt_of_le hi h.size) (fun hq => by rcases hs i hq with g | g; exact hn g; omega)).trans (h.block i hi hn)⟩
theorem Kp.mono {S S' : Nat → Prop} {A B : World} (h : Kp S A B) (hs : ∀ i, S i → S' i) : Kp S' A B := ⟨h.os, h.tape, h.output, h.size, fun i hi hn => h.block i hi fun hq => hn (hs i hq)⟩
theorem Kp.ext {S : Nat → Prop} {A B : World} (h : Kp S A B) (hs : ∀ i, S i → A.heap.size ≤ i) : Ext A B := ⟨h.os, h.tape, h.output, h.size, fun i hi => h.block i hi fun hq => by have := hs i hq; omega⟩
theorem Kp.below {S : Nat → Prop} {A B : World} {n : Nat} (h : Kp S A B) (hn : n ≤ A.heap.size) (hs : ∀ i, S i → n ≤ i) : Below n A B := ⟨h.os, h.tape, h.output, h.size, fun i hi => h.block i (by omega) fun hq => by have := hs i hq; omega⟩
theorem Kp.set {S : Nat → Prop} {A B : World} (h : Kp S A B) (p : Addr) (v : Value) (hp : S p.block ∨ A.heap.size ≤ p.block) : Kp S A (B.setCell p v) :=
  ⟨h.os, h.tape, h.output, by simpa [World.setCell] using h.size, fun k hk hn => (Below.heap_setCell B p v k (fun e => by subst e; rcases hp with hp | hp; exact hn hp; omega)).trans (h.block k hk hn)⟩
theorem Own.keepb {W W' : World} {B : Nat} {e : TypeId} {size n : Nat} {v : Value} {xs : List Value} (ho : Own W B e size v n xs) (hs : W.heap.size ≤ W'.heap.size) (hk : ∀ k, v.ownBlock = some k → W'.heap[k]? = W.heap[k]?) : Own W' B e size v n xs := by
  refine ⟨⟨ho.1.1, ?_⟩, Nat.le_trans ho.2 hs⟩
  rcases ho.1.2 with h2 | ⟨g, cap, cur, hv, hb, hg, r⟩
  · exact .inl h2
  · refine .inr ⟨g, cap, cur, hv, hb, ?_, r⟩
    rw [hk g (by rw [hv]; rfl)]; exact hg
theorem Own.lt {W : World} {B : Nat} {e : TypeId} {size n : Nat} {v : Value} {xs : List Value} (ho : Own W B e size v n xs) {k : Nat} (hk : v.ownBlock = some k) : B ≤ k ∧ k < W.heap.size := ho.1.lt k hk
theorem Own.typ {W : World} {B : Nat} {e : TypeId} {size n : Nat} {v : Value} {xs : List Value} (ho : Own W B e size v n xs) {k : Nat} (hk : v.ownBlock = some k) : ∃ cur, W.heap[k]? = some (.cells cur e (0, 0)) := by
  rcases ho.1.2 with ⟨h2, _⟩ | ⟨g, cap, cur, hv, hb, hg, r⟩
  · rw [h2] at hk; cases hk
  · rw [hv] at hk
    injection hk with hk
    exact ⟨cur, by rw [← hk]; exact hg⟩
theorem typ_ne {W : World} {g k : Nat} {c1 c2 : Array Value} {e1 e2 : TypeId} {f1 f2 : Nat × Nat} (h1 : W.heap[g]? = some (.cells c1 e1 f1)) (h2 : W.heap[k]? = some (.cells c2 e2 f2)) (hne : e1 ≠ e2) : g ≠ k := by
  intro e; subst e
  rw [h1] at h2
  injection h2 with h2
  injection h2 with _ h2
  exact hne h2
structure HS (T : TypeId) (W : World) (x : Nat) (F : Nat → Prop) (tv lv : Value) (ts : List ByteArray) (rs : List (List Sp)) : Prop where
  box : BxT T W x #[tv, lv]
  tx : Own W 0 9 1 tv ts.length (strV ts)
  ro : ∃ vs : List Value, Own W 0 37 1 lv rs.length vs ∧ ∀ (i : Nat) (l : List Sp), rs[i]? = some l → ∃ u, vs[i]? = some u ∧ Own W 0 50 3 u l.length (spCells l) ∧ ∀ k, u.ownBlock = some k → F k
  fx : F x
  ft : ∀ k, tv.ownBlock = some k → F k
  fl : ∀ k, lv.ownBlock = some k → F k
  lt : ∀ k, F k → k < W.heap.size
theorem HS.keep {T : TypeId} {W W' : World} {x : Nat} {F S : Nat → Prop} {tv lv : Value} {ts : List ByteArray} {rs : List (List Sp)} (h : HS T W x F tv lv ts rs) (k : Kp S W W') (hd : ∀ i, F i → ¬ S i) : HS T W' x F tv lv ts rs := by
  have hb : ∀ i, F i → W'.heap[i]? = W.heap[i]? := fun i hi => k.block i (h.lt i hi) (hd i hi)
  obtain ⟨vs, r1, r2⟩ := h.ro
  refine ⟨(hb x h.fx).trans h.box, h.tx.keepb k.size fun i hi => hb i (h.ft i hi), ⟨vs, r1.keepb k.size fun i hi => hb i (h.fl i hi), fun i l hl => ?_⟩, h.fx, h.ft, h.fl, fun i hi => Nat.lt_of_lt_of_le (h.lt i hi) k.size⟩
  obtain ⟨u, g1, g2, g3⟩ := r2 i l hl
  exact ⟨u, g1, g2.keepb k.size fun i hi => hb i (g3 i hi), g3⟩
theorem HS.ext {T : TypeId} {W W' : World} {x : Nat} {F : Nat → Prop} {tv lv : Value} {ts : List ByteArray} {rs : List (List Sp)} (h : HS T W x F tv lv ts rs) (k : Ext W W') : HS T W' x F tv lv ts rs :=
  h.keep (Kp.of_ext (fun _ => False) k) fun _ _ hq => hq
theorem HS.rd {T : TypeId} {W : World} {x : Nat} {F : Nat → Prop} {tv lv : Value} {ts : List ByteArray} {rs : List (List Sp)} (h : HS T W x F tv lv ts rs) : ∃ A c, lv = .slice A rs.length c ∧ rs.length ≤ c ∧ RdSS W A rs.length c rs := by
  obtain ⟨vs, r1, r2⟩ := h.ro
  exact OwnSS.rd ⟨vs, r1, fun i l hl => by obtain ⟨u, g1, g2, _⟩ := r2 i l hl; exact ⟨u, g1, g2⟩⟩
theorem HS.more {T : TypeId} {W : World} {x : Nat} {F F' : Nat → Prop} {tv lv : Value} {ts : List ByteArray} {rs : List (List Sp)} (h : HS T W x F tv lv ts rs) (hF : ∀ k, F k → F' k) (hl : ∀ k, F' k → k < W.heap.size) : HS T W x F' tv lv ts rs := by
  obtain ⟨vs, r1, r2⟩ := h.ro
  refine ⟨h.box, h.tx, ⟨vs, r1, fun i l hi => ?_⟩, hF x h.fx, fun k hk => hF k (h.ft k hk), fun k hk => hF k (h.fl k hk), hl⟩
  obtain ⟨u, g1, g2, g3⟩ := r2 i l hi
  exact ⟨u, g1, g2, fun k hk => hF k (g3 k hk)⟩
theorem HS.text {T : TypeId} {W W' : World} {x : Nat} {F : Nat → Prop} {tv lv tv' : Value} {ts : List ByteArray} {rs : List (List Sp)} (h : HS T W x F tv lv ts rs) (hT1 : T ≠ 9) (hT2 : T ≠ 37) (hT3 : T ≠ 50) (h12 : 37 ≠ 9) (h13 : 50 ≠ 9) {t : ByteArray} (ho : Own W' 0 9 1 tv' (ts.length + 1) (strV (ts ++ [t])))
    (hk : ∀ k, k < W.heap.size → tv.ownBlock ≠ some k → W'.heap[k]? = W.heap[k]?) (hs : W.heap.size ≤ W'.heap.size) (hb : ∀ k, tv'.ownBlock = some k → tv.ownBlock = some k ∨ W.heap.size ≤ k) :
    HS T (W'.setCell ⟨x, 0, none⟩ tv') x (Gr F W W') tv' lv (ts ++ [t]) rs := by
  have nt : ∀ {e : TypeId} {g : Nat} {cur : Array Value}, W.heap[g]? = some (.cells cur e (0, 0)) → e ≠ 9 → W'.heap[g]? = W.heap[g]? := by
    intro e g cur hg hne
    refine hk g (Array.getElem?_eq_some_iff.1 hg).1 fun hq => ?_
    obtain ⟨cur2, hc⟩ := h.tx.typ hq
    exact typ_ne hg hc hne rfl
  have hx2 : BxT T W' x #[tv, lv] := (nt h.box hT1).trans h.box
  obtain ⟨vs, r1, r2⟩ := h.ro
  have hsz : (W'.setCell ⟨x, 0, none⟩ tv').heap.size = W'.heap.size := by simp [World.setCell]
  refine ⟨hx2.set 0 tv', ?_, ⟨vs, ?_, fun i l hl => ?_⟩, .inl h.fx, fun k hq => ?_, fun k hq => .inl (h.fl k hq), fun k hq => ?_⟩
  · have e : (ts ++ [t]).length = ts.length + 1 := by simp
    rw [e]
    exact own_cell_other (a := ⟨x, 0, none⟩) ho hx2 hT1 tv'
  · refine own_cell_other (a := ⟨x, 0, none⟩) (r1.keepb hs fun k hq => ?_) hx2 hT2 tv'
    obtain ⟨cur, hc⟩ := r1.typ hq
    exact nt hc h12
  · obtain ⟨u, g1, g2, g3⟩ := r2 i l hl
    refine ⟨u, g1, own_cell_other (a := ⟨x, 0, none⟩) (g2.keepb hs fun k hq => ?_) hx2 hT3 tv', fun k hq => .inl (g3 k hq)⟩
    obtain ⟨cur, hc⟩ := g2.typ hq
    exact nt hc h13
  · rcases hb k hq with g | g
    · exact .inl (h.ft k g)
    · exact .inr ⟨g, (ho.lt hq).2⟩
  · rw [hsz]
    rcases hq with g | g
    · exact Nat.lt_of_lt_of_le (h.lt k g) hs
    · exact g.2
theorem HS.row {T : TypeId} {W W' : World} {x : Nat} {F : Nat → Prop} {tv lv lv' u : Value} {ts : List ByteArray} {rs : List (List Sp)} {l : List Sp} (h : HS T W x F tv lv ts rs) (hT1 : T ≠ 9) (hT2 : T ≠ 37) (hT3 : T ≠ 50) (h12 : 9 ≠ 37) (h13 : 50 ≠ 37) {vs : List Value}
    (hvs : Own W 0 37 1 lv rs.length vs) (hrow : ∀ (i : Nat) (l : List Sp), rs[i]? = some l → ∃ u, vs[i]? = some u ∧ Own W 0 50 3 u l.length (spCells l) ∧ ∀ k, u.ownBlock = some k → F k)
    {B : Nat} (hu : Own W B 50 3 u l.length (spCells l)) (hFu : ∀ k, u.ownBlock = some k → F k) (ho : Own W' 0 37 1 lv' (rs.length + 1) (vs ++ [u]))
    (hk : ∀ k, k < W.heap.size → lv.ownBlock ≠ some k → W'.heap[k]? = W.heap[k]?) (hs : W.heap.size ≤ W'.heap.size) (hb : ∀ k, lv'.ownBlock = some k → lv.ownBlock = some k ∨ W.heap.size ≤ k) :
    HS T (W'.setCell ⟨x, 1, none⟩ lv') x (Gr F W W') tv lv' ts (rs ++ [l]) := by
  have nt : ∀ {e : TypeId} {g : Nat} {cur : Array Value}, W.heap[g]? = some (.cells cur e (0, 0)) → e ≠ 37 → W'.heap[g]? = W.heap[g]? := by
    intro e g cur hg hne
    refine hk g (Array.getElem?_eq_some_iff.1 hg).1 fun hq => ?_
    obtain ⟨cur2, hc⟩ := hvs.typ hq
    exact typ_ne hg hc hne rfl
  have hx2 : BxT T W' x #[tv, lv] := (nt h.box hT2).trans h.box
  have hsz : (W'.setCell ⟨x, 1, none⟩ lv').heap.size = W'.heap.size := by simp [World.setCell]
  have hlen : vs.length = rs.length := by have := hvs.1.1; omega
  have hel : (rs ++ [l]).length = rs.length + 1 := by simp
  refine ⟨hx2.set 1 lv', ?_, ⟨vs ++ [u], ?_, fun i m hm => ?_⟩, .inl h.fx, fun k hq => .inl (h.ft k hq), fun k hq => ?_, fun k hq => ?_⟩
  · refine own_cell_other (a := ⟨x, 1, none⟩) (h.tx.keepb hs fun k hq => ?_) hx2 hT1 lv'
    obtain ⟨cur, hc⟩ := h.tx.typ hq
    exact nt hc h12
  · rw [hel]
    exact own_cell_other (a := ⟨x, 1, none⟩) ho hx2 hT2 lv'
  · by_cases hi : i < rs.length
    · rw [List.getElem?_append_left hi] at hm
      obtain ⟨u', g1, g2, g3⟩ := hrow i m hm
      refine ⟨u', by rw [List.getElem?_append_left (by omega)]; exact g1, own_cell_other (a := ⟨x, 1, none⟩) (g2.keepb hs fun k hq => ?_) hx2 hT3 lv', fun k hq => .inl (g3 k hq)⟩
      obtain ⟨cur, hc⟩ := g2.typ hq
      exact nt hc h13
    · have hi2 : i = rs.length := by
        have := (List.getElem?_eq_some_iff.1 hm).1
        rw [hel] at this; omega
      subst hi2
      rw [List.getElem?_append_right (Nat.le_refl _), Nat.sub_self] at hm
      simp only [List.getElem?_cons_zero, Option.some.injEq] at hm
      subst hm
      refine ⟨u, by rw [List.getElem?_append_right (by omega), hlen, Nat.sub_self]; rfl, own_cell_other (a := ⟨x, 1, none⟩) ((hu.more (Nat.zero_le _)).keepb hs fun k hq => ?_) hx2 hT3 lv', fun k hq => .inl (hFu k hq)⟩
      obtain ⟨cur, hc⟩ := hu.typ hq
      exact nt hc h13
  · rcases hb k hq with g | g
    · exact .inl (h.fl k g)
    · exact .inr ⟨g, (ho.lt hq).2⟩
  · rw [hsz]
    rcases hq with g | g
    · exact Nat.lt_of_lt_of_le (h.lt k g) hs
    · exact g.2
end Go.Proofs.YtgcaphjjigpjlaaDoor
namespace Go.Proofs.YtgcaphjjigpjlaaDoor
open Go.RowKit
set_option maxRecDepth 100000
set_option maxHeartbeats 4000000
set_option linter.unusedSimpArgs false
theorem Rd.from {w : World} {A : Option Addr} {n c : Nat} {xs : List Value} (h : Rd w 1 (.slice A n c) n xs) {k : Nat} (hk : k ≤ n) : Rd w 1 (.slice (if c = k then A else Option.map (fun x => x.add k) A) (n - k) (c - k)) (n - k) (xs.drop k) := by
  obtain ⟨h1, A', c', hv, hc, h2⟩ := h
  injection hv with e1 e2 e3
  subst e1; subst e3
  refine ⟨by rw [List.length_drop]; omega, _, _, rfl, by omega, fun h0 => ?_⟩
  obtain ⟨b, off, hA, hb, hcell⟩ := h2 (by omega)
  have hne : c ≠ k := by omega
  rw [if_neg hne, hA]
  refine ⟨b, off + k, ?_, hb, fun j u hu => ?_⟩
  · simp only [Option.map_some, Addr.add]
    by_cases hz : k = 0
    · subst hz; rfl
    · rw [if_neg hz]
  · rw [List.getElem?_drop] at hu
    rw [show off + k + j = off + (k + j) by omega]
    exact hcell _ u hu
theorem RdSS.from {w : World} {A : Option Addr} {n c : Nat} {ls : List (List Sp)} (h : RdSS w A n c ls) {k : Nat} (hk : k ≤ n) : RdSS w (if c = k then A else Option.map (fun x => x.add k) A) (n - k) (c - k) (ls.drop k) := by
  obtain ⟨h1, vs, h2, h3⟩ := h
  refine ⟨by rw [List.length_drop, h1], vs.drop k, h2.from hk, fun i l hl => ?_⟩
  rw [List.getElem?_drop] at hl ⊢
  exact h3 _ l hl
theorem sumTT_take16 (ls : List (List Sp)) (k : Nat) : sumTT (ls.take k) ≤ sumTT ls ∧ sumTT (ls.drop k) ≤ sumTT ls := by
  have e : sumTT (ls.take k ++ ls.drop k) = sumTT (ls.take k) + sumTT (ls.drop k) := by unfold sumTT; rw [List.map_append, List.sum_append]
  rw [List.take_append_drop] at e
  omega
theorem FitLog.first {S : ByteArray} {FR : List Int} {FL : List (List Sp)} (h : FitLog S FR FL) (k : Nat) : SmL S (FR.take (k + 1)) (FL.take k) := by
  have hs := h.sm
  exact ⟨hs.base, by have := hs.revs; rw [List.length_take]; omega, by have := hs.segs; rw [List.length_take]; omega, fun l hl => hs.len l (List.mem_of_mem_take hl), by have := (sumTT_take16 FL k).1; have := hs.sum; omega⟩
theorem FitLog.rest {S : ByteArray} {FR : List Int} {FL : List (List Sp)} (h : FitLog S FR FL) (k : Nat) : SmL (allL S (FL.take k)).1 (FR.drop k) (FL.drop k) := by
  have hs := h.sm
  refine ⟨?_, by have := hs.revs; rw [List.length_drop]; omega, by have := hs.segs; rw [List.length_drop]; omega, fun l hl => hs.len l (List.mem_of_mem_drop hl), by have := (sumTT_take16 FL k).2; have := hs.sum; omega⟩
  have h1 := allL_size (s := S) (ls := FL.take k)
  have h2 := (sumTT_take16 FL k).1
  have := h.txt; have := h.sum
  omega
end Go.Proofs.YtgcaphjjigpjlaaDoor
namespace Go.Proofs.YtgcaphjjigpjlaaDoor
open Go.RowKit
set_option maxRecDepth 100000
set_option maxHeartbeats 4000000
set_option linter.unusedSimpArgs false
theorem same16_c (A : Option Addr) (n c : Nat) (B : Option Addr) (m d : Nat) (A' : Option Addr) (c' : Nat) (B' : Option Addr) (d' : Nat) (s : ByteArray) (rv : List Int) (ls : List (List Sp)) (w : World) (h1 : Rd w 1 (.slice A n c) n (nV rv)) (h2 : RdSS w B m d ls) (h1' : Rd w 1 (.slice A' n c') n (nV rv)) (h2' : RdSS w B' m d' ls) (hr : rv.length ≤ 1000) (hl : ∀ l ∈ ls, l.length ≤ 1000) (hlm : ls.length ≤ 1000) :
    Calls Tryd.prog 18 #[.agg #[.string s, .slice A n c, .slice B m d], .agg #[.string s, .slice A' n c', .slice B' m d']] w fun e w' => e = .returned (.bool true) ∧ Ext w w' := by
  have hm := h2.1; have hnl := nV_len h1
  have hmb : m ≤ 1000 := by omega
  have e1 : Ext w (w.alloc (.cells #[.string s, .slice A n c, .slice B m d] 26)) := (Ext.refl w).alloc _
  have e2 : Ext w ((w.alloc (.cells #[.string s, .slice A n c, .slice B m d] 26)).alloc (.cells #[.string s, .slice A' n c', .slice B' m d'] 26)) := e1.alloc _
  have L1 := (LogB.new (s := s) h1 h2).ext ((Ext.refl (w.alloc (.cells #[.string s, .slice A n c, .slice B m d] 26))).alloc (.cells #[.string s, .slice A' n c', .slice B' m d'] 26))
  have L2 := LogB.new (s := s) (h1'.ext e1) (h2'.ext e1)
  rw [size_alloc] at L2
  have HSR := Lib.hid (fun w' (hx : Ext w w') => sameTrue15 (X := rv) (Y := rv) rfl hr (h1.ext hx) (h1'.ext hx))
  obtain ⟨a0, a1, a2⟩ := L1.cells
  obtain ⟨b0, b1, b2⟩ := L2.cells
  have HL1 := Lib.hid L1; have HL2 := Lib.hid L2; have HM := Lib.hid hm; have HLL := Lib.hid hl; have E2 := Lib.hid e2
  clear L1 L2 h1 h2 h1' h2' hm hnl hl e1 e2 hlm
  go_enter Tryd.func18, Tryd.ntmps18
  go_wp2_with fail
  refine (HSR.out _ E2.out).mono ?_; rintro e w3 ⟨rfl, hx3⟩
  replace HL1 := Lib.hid (HL1.out.ext hx3); replace HL2 := Lib.hid (HL2.out.ext hx3)
  have E3 := Lib.hid (E2.out.trans hx3)
  clear a0 a1 a2 b0 b1 b2 hx3 HSR
  obtain ⟨y, hy⟩ : ∃ y, w.heap.size + 1 = y := ⟨_, rfl⟩
  obtain ⟨x, hx⟩ : ∃ x, w.heap.size = x := ⟨_, rfl⟩
  rw [hy] at HL2 ⊢; rw [hx] at HL1 ⊢
  clear hx hy
  go_wp2_with fail
  go_loopw [5] (fun iv wr => ∃ j : Nat, j ≤ m ∧ iv = .int .i64 j ∧ Hid (Ext w3 wr)) (fun iv _ => m - (intOf iv).toNat)
  case atStart => exact ⟨0, by omega, rfl, Lib.hid (Ext.refl _)⟩
  case round =>
    obtain ⟨j, hj, rfl, HX⟩ := hrel
    obtain ⟨_, _, c2⟩ := (HL1.out.ext HX.out).cells
    obtain ⟨_, _, d2⟩ := (HL2.out.ext HX.out).cells
    by_cases hlt : j < m
    · have hjl : j < ls.length := by have := HM.out; omega
      obtain ⟨bb, off, a, kc, rfl, hbb, q0, hr0⟩ := (HL1.out.ext HX.out).seg.at_ hlt hjl
      obtain ⟨bb', off', a', kc', rfl, hbb', q0', hr0'⟩ := (HL2.out.ext HX.out).seg.at_ hlt hjl
      have dn : decide (j < m) = true := by rw [decide_eq_true_eq]; exact hlt
      have i0 : (0 : Int) ≤ (j : Int) := by omega
      have i1 : (j : Int) < (m : Int) := by omega
      have hlen := HLL.out _ (List.getElem_mem hjl)
      obtain ⟨l, hl⟩ : ∃ l, ls[j] = l := ⟨_, rfl⟩
      rw [hl] at q0 q0' hr0 hr0' hlen
      obtain ⟨k, hk⟩ : ∃ k, l.length = k := ⟨_, rfl⟩
      rw [hk] at q0 q0' hr0 hr0'
      have HS := Lib.hid (fun w' (hx : Ext wr w') => sameR4_c a a' k kc kc' l w' (hr0.ext hx) (hr0'.ext hx) hk (by omega))
      have HXr := Lib.hid HX.out
      clear hr0 hr0' hl hk hlen
      go_wp2_with fail
      have hrr := Ext.refl wr
      go_region_held3 (fun V => Ext wr V ∧ V.cell? ⟨x, 2, none⟩ = some (.slice (some ⟨bb, off, none⟩) m d) ∧ V.cell? ⟨y, 2, none⟩ = some (.slice (some ⟨bb', off', none⟩) m d') ∧ V.cell? ⟨bb, off + j, none⟩ = some (.slice a k kc) ∧ V.cell? ⟨bb', off' + j, none⟩ = some (.slice a' k kc'))
        ((go_split_ands; refine ⟨?_, ?_, ?_, ?_, ?_⟩ <;> first | (exact Ext.drew ‹_›) | (exact Ext.trans ‹_› hxk) | (exact ext_cell hxk ‹_›) | go_keep))
        (first
        | (go_at_call 23; go_split_ands; refine (HS.out _ ‹Ext wr _›).mono ?_; rintro e u1 ⟨rfl, hxk⟩)
        | fail)
      go_split_ands
      have HX2 := Lib.hid (HXr.out.trans ‹Ext wr u1›)
      go_wp2_with fail
      go_roundw
      case rel => exact ⟨j + 1, by omega, by go_num, HX2⟩
      case measure => simp [intOf]; omega
    · obtain rfl : j = m := by omega
      have dn : decide (j < j) = false := by rw [decide_eq_false_iff_not]; omega
      go_wp2_with fail
      go_ret
      exact ⟨rfl, E3.out.trans HX.out⟩
end Go.Proofs.YtgcaphjjigpjlaaDoor
