/- Layer 4, the reference: Fit. -/
import Derived.Test.YtejgkhmpmnjgaaaDoorC4
import Derived.Test.YtejgkhmpmnjgaaaDoorC1h
import Derived.StillTailTactics
import Derived.Test.YtejgkhmpmnjgaaaDoorBa
namespace Go.Proofs.YtejgkhmpmnjgaaaDoor
open Go.RowKit
set_option maxRecDepth 100000
set_option maxHeartbeats 1000000
theorem info_sp : (Tryd.prog.info? 43).map (fun i => (i.zero, i.size, i.bytes)) = some (some (.agg #[.int .i64 0, .int .i64 0, .string ⟨#[]⟩]), 3, 32) := by kernel_rfl
/-- Of one span that Fit makes: it, and how many code points are left. -/
def fitOne (s : Sp) (n : Int) : Sp × Int :=
  if s.1 % 3 = 1 then ((2, 0, mkS (encs (fitC ((bs s.2.2).take 6)))), n) else ((1 + s.1 % 3, min (s.2.1 % 7) n, ⟨#[]⟩), n - min (s.2.1 % 7) n)
/-- What Fit has made of some spans, and how many code points are left. -/
def fitRun (l : List Sp) (n : Int) : List Sp × Int := l.foldl (fun r s => (r.1 ++ [(fitOne s r.2).1], (fitOne s r.2).2)) ([], n)
theorem fitRun_take (l : List Sp) (n : Int) (j : Nat) (h : j < l.length) : fitRun (l.take (j + 1)) n = ((fitRun (l.take j) n).1 ++ [(fitOne l[j] (fitRun (l.take j) n).2).1], (fitOne l[j] (fitRun (l.take j) n).2).2) := by
  unfold fitRun
  rw [List.take_add_one, List.getElem?_eq_getElem h, List.foldl_append]
  rfl
theorem fitOne_left (s : Sp) (n : Int) (h : 0 ≤ n) : 0 ≤ (fitOne s n).2 ∧ (fitOne s n).2 ≤ n := by
  unfold fitOne; split
  · exact ⟨h, Int.le_refl _⟩
  · simp only; omega
theorem fitRun_len (l : List Sp) (n : Int) (j : Nat) (h : j ≤ l.length) : (fitRun (l.take j) n).1.length = j := by
  induction j with
  | zero => rfl
  | succ j ih => rw [fitRun_take l n j h, List.length_append, ih (by omega)]; rfl
theorem fitRun_left (l : List Sp) (n : Int) (h0 : 0 ≤ n) (j : Nat) (h : j ≤ l.length) : 0 ≤ (fitRun (l.take j) n).2 ∧ (fitRun (l.take j) n).2 ≤ n := by
  induction j with
  | zero => exact ⟨h0, Int.le_refl _⟩
  | succ j ih =>
    have h1 := ih (by omega)
    have h2 := fitOne_left l[j] _ h1.1
    rw [fitRun_take l n j h]; simp only; omega
/-- The operation that Fit makes. -/
def fitL (l : List Sp) (n : Int) : List Sp :=
  (fitRun (l.take 12) n).1 ++ if 0 < (fitRun (l.take 12) n).2 then [(1, (fitRun (l.take 12) n).2, ⟨#[]⟩)] else []
theorem fitR4_c (A : Option Addr) (q c : Nat) (l : List Sp) (n : Int) (w : World) (h : Rd w 3 (.slice A q c) q (spCells l)) (hl : l.length = q) (hs : ∀ s ∈ l, s.2.2.size ≤ maxLen) (hn : 0 ≤ n) (hn' : n ≤ 1000000000) :
    Calls Tryd.prog 48 #[.slice A q c, .int .i64 n] w fun e w' => ∃ v, e = .returned v ∧ Ext w w' ∧ Own w' w.heap.size 43 3 v (fitL l n).length (spCells (fitL l n)) := by
  obtain ⟨i, hi, hz0, hz1, hz2⟩ := info_parts info_sp
  have H := Lib.hid h; have HL := Lib.hid hl; have HS := Lib.hid hs
  have hrel0 : Own (w.alloc (.cells #[] 43)) w.heap.size 43 3 (.slice (some ⟨w.heap.size, 0, none⟩) 0 0) 0 (spCells []) ∧ Below w.heap.size w (w.alloc (.cells #[] 43)) :=
    ⟨Own.made w w.heap.size 43 3 0 #[] (Nat.le_refl _) (by omega) rfl, (Below.refl _ _).alloc (Nat.le_refl _) _⟩
  have HR0 := Lib.hid hrel0
  clear h hl hs hrel0
  go_enter Tryd.func48, Tryd.ntmps48
  go_wp2_with fail
  go_loopw [1, 5, 6] (fun m o z wr => ∃ j : Nat, j ≤ q ∧ j ≤ 12 ∧ z = .int .i64 j ∧ m = .int .i64 (fitRun (l.take j) n).2 ∧ Own wr w.heap.size 43 3 o j (spCells (fitRun (l.take j) n).1) ∧ Below w.heap.size w wr) (fun _ _ z _ => 12 - (intOf z).toNat)
  case atStart => exact ⟨0, by omega, by omega, rfl, rfl, HR0.out.1, HR0.out.2⟩
  case round =>
    obtain ⟨j, hj, hj12, rfl, rfl, hown, hbel⟩ := hrel
    by_cases hlt : j < q ∧ j < 12
    · have hjl : j < l.length := by have := HL.out; omega
      obtain ⟨b, off, rfl, hb, q0, q1, q2⟩ := sp_at (H.out.ext hbel) HL.out hlt.1
      have dn : decide (j < q) = true := by rw [decide_eq_true_eq]; exact hlt.1
      have d12 : decide ((j : Int) < 12) = true := by rw [decide_eq_true_eq]; omega
      have i0 : (0 : Int) ≤ (j : Int) := by omega
      have i1 : (j : Int) < (q : Int) := by omega
      have hsz : l[j].2.2.size ≤ maxLen := HS.out _ (List.getElem_mem hjl)
      have hst := fitRun_take l n j hjl
      have hle := fitRun_left l n hn j (by omega)
      obtain ⟨R1, hR1⟩ : ∃ R1, fitRun (l.take (j + 1)) n = R1 := ⟨_, rfl⟩
      rw [hR1] at hst
      have HR1 := Lib.hid hR1
      clear hR1
      generalize (fitRun (l.take j) n).1 = xs at *
      generalize (fitRun (l.take j) n).2 = m at *
      unfold fitOne at hst
      generalize l[j].1 = a1 at *
      generalize l[j].2.1 = a2 at *
      generalize l[j].2.2 = a3 at *
      have m0 : 0 ≤ m := hle.1
      have m1 : m ≤ 1000000000 := by omega
      obtain ⟨t1, ht1⟩ : ∃ t1, a1.tmod 3 = t1 := ⟨_, rfl⟩
      have w1 : wrap64 (t1 + 3) = t1 + 3 := by have := tmod_le a1 3 (by omega); unfold wrap64; omega
      have w2 : (t1 + 3).tmod 3 = a1 % 3 := by rw [← ht1]; exact tmod_mod a1 3 (by omega)
      have w3 : 0 ≤ a1 % 3 ∧ a1 % 3 ≤ 2 := by omega
      by_cases hput : a1 % 3 = 1
      · rw [if_pos hput] at hst
        rw [hput] at w2
        have HST := Lib.hid hst
        clear hst w3 hput
        go_wp2_with fail
        have r2 : (wr.alloc (.cells #[.int .i64 2, .int .i64 0, .string ⟨#[]⟩] 43)).cell? ⟨b, off + j * 3 + 2, none⟩ = some (.string a3) := ext_cell ((Ext.refl _).alloc _) q2
        generalize hW0 : wr.alloc (.cells #[.int .i64 2, .int .i64 0, .string ⟨#[]⟩] 43) = W0 at *
        refine region_tail 13 (by kernel_rfl) (by kernel_rfl) ?_
        intro W1 hW1
        simp only [List.take_succ_cons, List.take_zero, List.drop_succ_cons, List.drop_zero]
        have hx01 : Ext W0 W1 := by rw [hW1]; exact (Ext.refl _).drew
        have r2' := ext_cell hx01 r2
        obtain ⟨MN, hMN⟩ : ∃ MN, MN = min a3.size 6 := ⟨_, rfl⟩
        have hif : (if (6 : Int) < (a3.size : Int) then (6 : Int) else (a3.size : Int)) = (MN : Int) := by split <;> omega
        have hle2 : (MN : Int) ≤ (a3.size : Int) := by omega
        have hle3 : MN ≤ a3.size := by omega
        have HF := Lib.hid (fun w' => fit_c (a3.extract 0 MN) w' (by simp; omega))
        have HMN := Lib.hid hMN
        clear hW1 hMN q0 q1 q2
        unfold maxLen at hsz
        repeat still_step
        refine wpStill_nil ?_
        go_wp2_with fail
        refine (HF.out _).mono ?_; rintro e w1 ⟨rfl, hx1⟩
        have hX : mkS (encs (fitC (bs (a3.extract 0 MN)))) = mkS (encs (fitC ((bs a3).take 6))) := by
          rw [bs_extract, HMN.out, List.drop_zero, Nat.sub_zero, ← bs_length, Nat.min_comm, ← List.take_eq_take_min]
        rw [← hX] at HST
        clear hX
        generalize mkS (encs (fitC (bs (a3.extract 0 MN)))) = X at *
        have hxx : Ext (wr.alloc (.cells #[.int .i64 2, .int .i64 0, .string ⟨#[]⟩] 43)) w1 := by rw [hW0]; exact hx01.trans hx1
        have z0 := box_at _ _ _ _ hxx 0 _ rfl
        have z1 := box_at _ _ _ _ hxx 1 _ rfl
        have z2 := box_at _ _ _ _ hxx 2 _ rfl
        have zf := box_free _ _ _ _ hxx 2
        have hx2 : Ext wr (w1.setCell ⟨wr.heap.size, 2, none⟩ (.string X)) := Below.setCell (((Ext.refl wr).alloc _).trans hxx) (by simp) _
        have HOW := Lib.hid (hown.ext hx2); have HBE := Lib.hid (hbel.trans (hx2.mono hown.2))
        generalize hw2 : w1.setCell ⟨wr.heap.size, 2, none⟩ (.string X) = w2 at *
        have hsz2 : w1.heap.size = w2.heap.size := by rw [← hw2]; simp
        obtain ⟨v', w', happ, hown', hbel'⟩ := app_new (P := Tryd.prog) 39 39 43 i _ 3 32 Tryd.underlying39 hi hz0 hz1 hz2 rfl (by omega) (by omega)
          HBE.out HOW.out (by omega) 1 #[.int .i64 2, .int .i64 0, .string X] rfl (by omega) (by simp [Value.oneCell']) 43
        have HAP := Lib.hid happ; clear happ
        rw [← hsz2, ← hw2] at HAP
        have hown2 : Own w' w.heap.size 43 3 v' (j + 1) (spCells R1.1) := by rw [HST.out, spCells_append]; exact hown'
        clear hw2 hsz2
        go_wp2_with (at_builtin; refine wpList_append_run rfl rfl HAP.out rfl rfl ?_)
        go_roundw
        case rel => exact ⟨j + 1, by omega, by omega, by go_num, by rw [HR1.out, HST.out], by rw [HR1.out]; exact hown2, hbel'⟩
        case measure => simp [intOf]; omega
      · rw [if_neg hput] at hst
        obtain ⟨t2, ht2⟩ : ∃ t2, a2.tmod 7 = t2 := ⟨_, rfl⟩
        have v1 : wrap64 (t2 + 7) = t2 + 7 := by have := tmod_le a2 7 (by omega); unfold wrap64; omega
        have v2 : (t2 + 7).tmod 7 = a2 % 7 := by rw [← ht2]; exact tmod_mod a2 7 (by omega)
        have v3 : 0 ≤ a2 % 7 ∧ a2 % 7 ≤ 6 := by omega
        generalize a2 % 7 = y at *
        obtain ⟨y0, y6⟩ := v3
        rcases (by omega : a1 % 3 = 0 ∨ a1 % 3 = 2) with hk | hk
        · rw [hk] at hst w2
          clear w3 hput hk hle q2
          rcases (by omega : y < m ∨ m < y ∨ y = m) with hc | hc | hc
          · have c1 : y ≤ m := by omega
            have c2 : ¬ m ≤ y := by omega
            have hw : wrap64 (m - y) = m - y := by unfold wrap64; omega
            rw [Int.min_eq_left c1] at hst
            have HST := Lib.hid hst
            clear hst hc
            have hbx := hbel.alloc hown.2 (.cells #[.int .i64 1, .int .i64 y, .string ⟨#[]⟩] 43)
            have hox := hown.alloc (.cells #[.int .i64 1, .int .i64 y, .string ⟨#[]⟩] 43)
            obtain ⟨v', w', happ, hown', hbel'⟩ := app_new (P := Tryd.prog) 39 39 43 i _ 3 32 Tryd.underlying39 hi hz0 hz1 hz2 rfl (by omega) (by omega)
              hbx hox (by omega) 1 #[.int .i64 1, .int .i64 y, .string ⟨#[]⟩] rfl (by omega) (by simp [Value.oneCell']) 43
            rw [size_alloc] at happ
            have HAP := Lib.hid happ; clear happ
            have hown2 : Own w' w.heap.size 43 3 v' (j + 1) (spCells R1.1) := by rw [HST.out, spCells_append]; exact hown'
            go_wp2_with (at_builtin; refine wpList_append_run rfl rfl HAP.out rfl rfl ?_)
            go_roundw
            case rel => exact ⟨j + 1, by omega, by omega, by go_num, by rw [HR1.out, HST.out], by rw [HR1.out]; exact hown2, hbel'⟩
            case measure => simp [intOf]; omega
          · have c1 : ¬ y ≤ m := by omega
            have c2 : m ≤ y := by omega
            have hw : wrap64 0 = 0 := wrap_zero
            rw [Int.min_eq_right c2] at hst
            have HST := Lib.hid hst
            clear hst hc
            have hbx := hbel.alloc hown.2 (.cells #[.int .i64 1, .int .i64 m, .string ⟨#[]⟩] 43)
            have hox := hown.alloc (.cells #[.int .i64 1, .int .i64 m, .string ⟨#[]⟩] 43)
            obtain ⟨v', w', happ, hown', hbel'⟩ := app_new (P := Tryd.prog) 39 39 43 i _ 3 32 Tryd.underlying39 hi hz0 hz1 hz2 rfl (by omega) (by omega)
              hbx hox (by omega) 1 #[.int .i64 1, .int .i64 m, .string ⟨#[]⟩] rfl (by omega) (by simp [Value.oneCell']) 43
            rw [size_alloc] at happ
            have HAP := Lib.hid happ; clear happ
            have hown2 : Own w' w.heap.size 43 3 v' (j + 1) (spCells R1.1) := by rw [HST.out, spCells_append]; exact hown'
            go_wp2_with (at_builtin; refine wpList_append_run rfl rfl HAP.out rfl rfl ?_)
            go_roundw
            case rel => exact ⟨j + 1, by omega, by omega, by go_num, by rw [HR1.out, HST.out]; simp, by rw [HR1.out]; exact hown2, hbel'⟩
            case measure => simp [intOf]; omega
          · subst hc
            have hw : wrap64 0 = 0 := wrap_zero
            rw [Int.min_self] at hst
            have HST := Lib.hid hst
            clear hst
            have hbx := hbel.alloc hown.2 (.cells #[.int .i64 1, .int .i64 y, .string ⟨#[]⟩] 43)
            have hox := hown.alloc (.cells #[.int .i64 1, .int .i64 y, .string ⟨#[]⟩] 43)
            obtain ⟨v', w', happ, hown', hbel'⟩ := app_new (P := Tryd.prog) 39 39 43 i _ 3 32 Tryd.underlying39 hi hz0 hz1 hz2 rfl (by omega) (by omega)
              hbx hox (by omega) 1 #[.int .i64 1, .int .i64 y, .string ⟨#[]⟩] rfl (by omega) (by simp [Value.oneCell']) 43
            rw [size_alloc] at happ
            have HAP := Lib.hid happ; clear happ
            have hown2 : Own w' w.heap.size 43 3 v' (j + 1) (spCells R1.1) := by rw [HST.out, spCells_append]; exact hown'
            go_wp2_with (at_builtin; refine wpList_append_run rfl rfl HAP.out rfl rfl ?_)
            go_roundw
            case rel => exact ⟨j + 1, by omega, by omega, by go_num, by rw [HR1.out, HST.out]; simp, by rw [HR1.out]; exact hown2, hbel'⟩
            case measure => simp [intOf]; omega
        · rw [hk] at hst w2
          clear w3 hput hk hle q2
          rcases (by omega : y < m ∨ m < y ∨ y = m) with hc | hc | hc
          · have c1 : y ≤ m := by omega
            have c2 : ¬ m ≤ y := by omega
            have hw : wrap64 (m - y) = m - y := by unfold wrap64; omega
            rw [Int.min_eq_left c1] at hst
            have HST := Lib.hid hst
            clear hst hc
            have hbx := hbel.alloc hown.2 (.cells #[.int .i64 3, .int .i64 y, .string ⟨#[]⟩] 43)
            have hox := hown.alloc (.cells #[.int .i64 3, .int .i64 y, .string ⟨#[]⟩] 43)
            obtain ⟨v', w', happ, hown', hbel'⟩ := app_new (P := Tryd.prog) 39 39 43 i _ 3 32 Tryd.underlying39 hi hz0 hz1 hz2 rfl (by omega) (by omega)
              hbx hox (by omega) 1 #[.int .i64 3, .int .i64 y, .string ⟨#[]⟩] rfl (by omega) (by simp [Value.oneCell']) 43
            rw [size_alloc] at happ
            have HAP := Lib.hid happ; clear happ
            have hown2 : Own w' w.heap.size 43 3 v' (j + 1) (spCells R1.1) := by rw [HST.out, spCells_append]; exact hown'
            go_wp2_with (at_builtin; refine wpList_append_run rfl rfl HAP.out rfl rfl ?_)
            go_roundw
            case rel => exact ⟨j + 1, by omega, by omega, by go_num, by rw [HR1.out, HST.out], by rw [HR1.out]; exact hown2, hbel'⟩
            case measure => simp [intOf]; omega
          · have c1 : ¬ y ≤ m := by omega
            have c2 : m ≤ y := by omega
            have hw : wrap64 0 = 0 := wrap_zero
            rw [Int.min_eq_right c2] at hst
            have HST := Lib.hid hst
            clear hst hc
            have hbx := hbel.alloc hown.2 (.cells #[.int .i64 3, .int .i64 m, .string ⟨#[]⟩] 43)
            have hox := hown.alloc (.cells #[.int .i64 3, .int .i64 m, .string ⟨#[]⟩] 43)
            obtain ⟨v', w', happ, hown', hbel'⟩ := app_new (P := Tryd.prog) 39 39 43 i _ 3 32 Tryd.underlying39 hi hz0 hz1 hz2 rfl (by omega) (by omega)
              hbx hox (by omega) 1 #[.int .i64 3, .int .i64 m, .string ⟨#[]⟩] rfl (by omega) (by simp [Value.oneCell']) 43
            rw [size_alloc] at happ
            have HAP := Lib.hid happ; clear happ
            have hown2 : Own w' w.heap.size 43 3 v' (j + 1) (spCells R1.1) := by rw [HST.out, spCells_append]; exact hown'
            go_wp2_with (at_builtin; refine wpList_append_run rfl rfl HAP.out rfl rfl ?_)
            go_roundw
            case rel => exact ⟨j + 1, by omega, by omega, by go_num, by rw [HR1.out, HST.out]; simp, by rw [HR1.out]; exact hown2, hbel'⟩
            case measure => simp [intOf]; omega
          · subst hc
            have hw : wrap64 0 = 0 := wrap_zero
            rw [Int.min_self] at hst
            have HST := Lib.hid hst
            clear hst
            have hbx := hbel.alloc hown.2 (.cells #[.int .i64 3, .int .i64 y, .string ⟨#[]⟩] 43)
            have hox := hown.alloc (.cells #[.int .i64 3, .int .i64 y, .string ⟨#[]⟩] 43)
            obtain ⟨v', w', happ, hown', hbel'⟩ := app_new (P := Tryd.prog) 39 39 43 i _ 3 32 Tryd.underlying39 hi hz0 hz1 hz2 rfl (by omega) (by omega)
              hbx hox (by omega) 1 #[.int .i64 3, .int .i64 y, .string ⟨#[]⟩] rfl (by omega) (by simp [Value.oneCell']) 43
            rw [size_alloc] at happ
            have HAP := Lib.hid happ; clear happ
            have hown2 : Own w' w.heap.size 43 3 v' (j + 1) (spCells R1.1) := by rw [HST.out, spCells_append]; exact hown'
            go_wp2_with (at_builtin; refine wpList_append_run rfl rfl HAP.out rfl rfl ?_)
            go_roundw
            case rel => exact ⟨j + 1, by omega, by omega, by go_num, by rw [HR1.out, HST.out]; simp, by rw [HR1.out]; exact hown2, hbel'⟩
            case measure => simp [intOf]; omega
    · have hall : l.take j = l.take 12 := by
        rcases (by omega : j = 12 ∨ j = q) with e | e
        · rw [e]
        · have e2 := HL.out
          rw [List.take_of_length_le (by omega), List.take_of_length_le (by omega)]
      have hcase : (decide (j < q) = false) ∨ (decide (j < q) = true ∧ decide ((j : Int) < 12) = false) := by
        by_cases e : j < q
        · exact .inr ⟨by rw [decide_eq_true_eq]; exact e, by rw [decide_eq_false_iff_not]; omega⟩
        · exact .inl (by rw [decide_eq_false_iff_not]; exact e)
      rw [hall] at hown ⊢
      have hle := fitRun_left l n hn (min 12 l.length) (by omega)
      have h12 : l.take (min 12 l.length) = l.take 12 := List.take_eq_take_min.symm
      rw [h12] at hle
      have hj' : (fitRun (l.take 12) n).1.length = j := by rw [← hall]; exact fitRun_len l n j (by have := HL.out; omega)
      have hfl : fitL l n = (fitRun (l.take 12) n).1 ++ if 0 < (fitRun (l.take 12) n).2 then [(1, (fitRun (l.take 12) n).2, ⟨#[]⟩)] else [] := rfl
      have HJ := Lib.hid hj'
      have HFL := Lib.hid hfl
      clear hall hj' hfl h12
      generalize (fitRun (l.take 12) n).1 = xs at *
      generalize (fitRun (l.take 12) n).2 = m at *
      obtain ⟨m0, mn⟩ := hle
      clear hlt
      rcases hcase with d1 | ⟨d1, d2⟩
      all_goals
        by_cases hm : 0 < m
        · rw [if_pos hm] at HFL
          obtain ⟨v', w', happ, hown', hbel'⟩ := app_new (P := Tryd.prog) 39 39 43 i _ 3 32 Tryd.underlying39 hi hz0 hz1 hz2 rfl (by omega) (by omega)
            hbel hown (by omega) 1 #[.int .i64 1, .int .i64 m, .string ⟨#[]⟩] rfl (by omega) (by simp [Value.oneCell']) 43
          have HAP := Lib.hid happ; clear happ
          go_wp2_with (at_builtin; refine wpList_append_run rfl rfl HAP.out rfl rfl ?_)
          go_ret
          refine ⟨v', rfl, hbel', ?_⟩
          rw [HFL.out, spCells_append, List.length_append, HJ.out]
          exact hown'
        · rw [if_neg hm] at HFL
          have hm' : m ≤ 0 := by omega
          go_wp2_with fail
          go_ret
          refine ⟨_, rfl, hbel, ?_⟩
          rw [HFL.out, List.append_nil, HJ.out]
          exact hown
end Go.Proofs.YtejgkhmpmnjgaaaDoor
