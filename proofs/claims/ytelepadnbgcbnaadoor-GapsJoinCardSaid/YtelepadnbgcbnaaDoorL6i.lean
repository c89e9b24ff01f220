/- Layer 6, GapsAll. -/
import Derived.Test.YtelepadnbgcbnaaDoorL6f
import Derived.Test.YtelepadnbgcbnaaDoorFr
namespace Go.Proofs.YtelepadnbgcbnaaDoor
open Go.RowKit
set_option maxRecDepth 100000
set_option maxHeartbeats 2000000
def gP (l : List Sp) : List ByteArray := if gapsE l = 0 then putC (gpP (tok l)) else []
def gD (l : List Sp) : List Bool := if gapsE l = 0 then gpD (tok l) else []
def sL (ts : List ByteArray) (ds : List Bool) : List Sp := if spansE ts ds = 0 then normL (raw ts ds) else []
theorem GapsOf.uni {w w' : World} {l : List Sp} {e : Ending} (h : GapsOf w w' l e) (hq : l.length ≤ 1000) : ∃ A n c B m k, e = .returned (.tuple #[.agg #[.slice A n c, .slice B m k], .int .i64 (gapsE l)]) ∧ Ext w w' ∧
    (gP l).length = n ∧ (gD l).length = m ∧ n ≤ 1000 ∧ m ≤ 1000 ∧ Rd w' 1 (.slice A n c) n ((gP l).map Value.string) ∧ Rd w' 1 (.slice B m k) m ((gD l).map Value.bool) := by
  obtain ⟨hx, ⟨h1, rfl⟩ | ⟨h1, va, vb, rfl, r1, r2⟩⟩ := h
  · have e1 : gP l = [] := if_neg h1
    have e2 : gD l = [] := if_neg h1
    rw [e1, e2]
    exact ⟨none, 0, 0, none, 0, 0, rfl, hx, rfl, rfl, by omega, by omega, Rd.nil _ _, Rd.nil _ _⟩
  · have e1 : gP l = putC (gpP (tok l)) := if_pos h1
    have e2 : gD l = gpD (tok l) := if_pos h1
    have hm : mayL l = 0 ∧ inL l ≤ 512 := by
      unfold gapsE at h1
      by_cases hm : mayL l = 0
      · rw [if_pos hm] at h1
        split at h1
        · omega
        · exact ⟨hm, by omega⟩
      · rw [if_neg hm] at h1; exact absurd h1 hm
    obtain ⟨hall, h0, _⟩ := mayL_all hm.1 hq
    have hin := (tin_ok l fun s hs => okW_of_may (hall s hs)).1
    have hl1 : (putC (gpP (tok l))).length = (inL l).toNat + 1 := by rw [putC_length, gpP_length, gpD_length]; omega
    have hl2 : (gpD (tok l)).length = (inL l).toNat := by rw [gpD_length]; omega
    obtain ⟨A, c, rfl, _⟩ := r1.len
    obtain ⟨B, d, rfl, _⟩ := r2.len
    rw [e1, e2, h1]
    exact ⟨A, _, c, B, _, d, rfl, hx, hl1, hl2, by omega, by omega, r1, r2⟩
theorem SpansOf.uni {w w' : World} {ts : List ByteArray} {ds : List Bool} {e : Ending} (h : SpansOf w w' ts ds e) : ∃ A n c, e = .returned (.tuple #[.slice A n c, .int .i64 (spansE ts ds)]) ∧ Ext w w' ∧ (sL ts ds).length = n ∧ Rd w' 3 (.slice A n c) n (spCells (sL ts ds)) := by
  obtain ⟨hx, ⟨h1, rfl⟩ | ⟨h1, v, rfl, r⟩⟩ := h
  · have e1 : sL ts ds = [] := if_neg h1
    rw [e1]
    exact ⟨none, 0, 0, rfl, hx, rfl, Rd.nil _ _⟩
  · have e1 : sL ts ds = normL (raw ts ds) := if_pos h1
    obtain ⟨A, c, rfl, _⟩ := r.len
    rw [e1, h1]
    exact ⟨A, _, c, rfl, hx, rfl, r⟩
def cut60 (s : ByteArray) : ByteArray := s.extract 0 (min s.size 60)
theorem cut60_size (s : ByteArray) : (cut60 s).size ≤ 60 := by simp [cut60]; omega
def fewL6 (l : List Sp) : List Sp := (l.take 30).map fun s => (s.1, s.2.1, cut60 s.2.2)
theorem fewL6_take (l : List Sp) (j : Nat) (h : j < l.length) (h30 : j < 30) : fewL6 (l.take (j + 1)) = fewL6 (l.take j) ++ [(l[j].1, l[j].2.1, cut60 l[j].2.2)] := by
  unfold fewL6
  have e1 : (l.take (j + 1)).take 30 = l.take (j + 1) := List.take_of_length_le (by rw [List.length_take]; omega)
  have e2 : (l.take j).take 30 = l.take j := List.take_of_length_le (by rw [List.length_take]; omega)
  rw [e1, e2, List.take_add_one, List.getElem?_eq_getElem h, List.map_append]
  rfl
theorem fewL6_size (l : List Sp) : ∀ s ∈ fewL6 l, s.2.2.size ≤ 60 := by
  intro s hs
  obtain ⟨x, _, rfl⟩ := List.mem_map.1 hs
  exact cut60_size _
theorem fewL6_len (l : List Sp) : (fewL6 l).length = min 30 l.length := by simp [fewL6]
theorem sum_le6 (ts : List ByteArray) (k : Nat) (h : ∀ t ∈ ts, t.size ≤ k) : (ts.map fun t => t.size).sum ≤ ts.length * k := by
  induction ts with
  | nil => simp
  | cons t ts ih =>
    have h1 := h t (List.mem_cons_self ..)
    have h2 := ih fun u hu => h u (List.mem_cons_of_mem _ hu)
    rw [List.map_cons, List.sum_cons, List.length_cons, Nat.add_mul]
    omega
theorem gapsAll_c (A' : Option Addr) (q' c' : Nat) (l : List Sp) (A B : Option Addr) (n c m d : Nat) (ts : List ByteArray) (ds : List Bool) (w : World) [Tab w] (hz : Rd w 3 (.slice A' q' c') q' (spCells l)) (hzl : l.length = q') (hzs : ∀ s ∈ l, s.2.2.size ≤ maxLen)
    (h : Rd w 1 (.slice A n c) n (ts.map Value.string)) (h' : Rd w 1 (.slice B m d) m (ds.map Value.bool)) (hl : ts.length = n) (hl' : ds.length = m) (hmd : m ≤ d) (hts : ∀ t ∈ ts, t.size ≤ maxLen)
    (hm : m ≤ 9223372036854775807) (hd : d ≤ 9223372036854775807) :
    Calls Tryd.prog 3 #[.slice A' q' c', .agg #[.slice A n c, .slice B m d]] w fun e w' => e = .returned (.bool true) ∧ Below w.heap.size w w' := by
  obtain ⟨i, hi, hz0, hz1, hz2⟩ := info_parts info_sp5
  have HF : Hid (∀ w', Ext w w' → _) := Lib.hid fun w' hx => few6_c A B n c m d ts ds w' (h.ext hx) (h'.ext hx) hl hl' hmd hts hm hd
  obtain ⟨M, hM⟩ : ∃ M, min m 40 = M := ⟨_, rfl⟩
  rw [hM] at HF
  have HGD : Hid (Rd w 1 (.slice B M d) M ((ds.take M).map Value.bool)) := Lib.hid (by
    have h2 := rd_take1 h' (k := M) (by omega)
    rw [← List.map_take] at h2
    exact h2)
  have hdl : (ds.take M).length = M := by rw [List.length_take]; omega
  have hM40 : M ≤ 40 := by omega
  have hfz : ∀ t ∈ fewP ts, t.size ≤ 20 := fun t ht => by
    obtain ⟨x, _, rfl⟩ := List.mem_map.1 ht
    exact fewT_size x
  have hfl : (fewP ts).length ≤ 41 := by rw [fewP_len]; omega
  have hfs : ((fewP ts).map fun t => t.size).sum ≤ 1000000000 := by have := sum_le6 _ 20 hfz; omega
  have hsl0 : (raw (fewP ts) (ds.take M)).length ≤ 90 := by have := raw_len (fewP ts) (ds.take M); omega
  have hsl : (sL (fewP ts) (ds.take M)).length ≤ 90 := by
    unfold sL
    split
    · have := norm_len (raw (fewP ts) (ds.take M)); omega
    · simp
  obtain ⟨nf, hnf⟩ : ∃ nf, (fewP ts).length = nf := ⟨_, rfl⟩
  rw [hnf] at HF hfl
  have HP : Hid (∀ A c w', Ext w w' → Rd w' 1 (.slice A nf c) nf ((fewP ts).map Value.string) → Calls Tryd.prog 12 #[.agg #[.slice A nf c, .slice B M d]] w' fun e w'' => ∃ A n c, e = .returned (.tuple #[.slice A n c, .int .i64 (spansE (fewP ts) (ds.take M))]) ∧ Ext w' w'' ∧ (sL (fewP ts) (ds.take M)).length = n ∧ Rd w'' 3 (.slice A n c) n (spCells (sL (fewP ts) (ds.take M)))) := Lib.hid fun A c w' hx hr => by
    have hTb := tab_ext hx
    exact (spans_c A B nf c M d _ _ w' hr (HGD.out.ext hx) hnf hdl (by omega) (by omega) (fun t ht => by have := hfz t ht; omega) hfs).mono fun e w'' h => h.uni
  have HQ : Hid (∀ A c w', Ext w w' → Rd w' 1 (.slice A nf c) nf ((fewP ts).map Value.string) → Calls Tryd.prog 14 #[.agg #[.slice A nf c, .slice B M d]] w' fun e w'' => ∃ A n c, e = .returned (.tuple #[.slice A n c, .int .i64 (spansE (fewP ts) (ds.take M))]) ∧ Ext w' w'' ∧ (sL (fewP ts) (ds.take M)).length = n ∧ Rd w'' 3 (.slice A n c) n (spCells (sL (fewP ts) (ds.take M)))) := Lib.hid fun A c w' hx hr =>
    (spansR_c A B nf c M d _ _ w' hr (HGD.out.ext hx) hnf hdl (by omega) (by omega) (fun t ht => by have := hfz t ht; omega) hfs).mono fun e w'' h => h.uni
  clear h h' hl hl' hts hM hdl hfz hfs hnf hsl0
  generalize sL (fewP ts) (ds.take M) = SL at *
  generalize spansE (fewP ts) (ds.take M) = SE at *
  generalize fewP ts = fs at *
  have HBX : Hid (∀ w', Ext (w.alloc (.cells #[.slice A n c, .slice B m d] 26)) w' → w'.cell? ⟨w.heap.size, 0, none⟩ = some (.slice A n c) ∧ w'.cell? ⟨w.heap.size, 1, none⟩ = some (.slice B m d)) := Lib.hid fun w' hx => ⟨box_at _ _ _ _ hx 0 _ rfl, box_at _ _ _ _ hx 1 _ rfl⟩
  have HZ := Lib.hid hz; have HZL := Lib.hid hzl; have HZS := Lib.hid hzs
  clear hz hzl hzs
  go_enter Tryd.func3, Tryd.ntmps3
  go_wp2_with fail
  refine (shown6_c _).mono ?_; rintro e w1 ⟨rfl, hx1⟩
  have e1 : Ext w w1 := ((Ext.refl w).alloc _).trans hx1
  have HR0 : Hid (Own (w1.alloc (.cells #[] 29)) w1.heap.size 29 3 (.slice (some ⟨w1.heap.size, 0, none⟩) 0 0) 0 (spCells []) ∧ Below w1.heap.size w1 (w1.alloc (.cells #[] 29))) :=
    Lib.hid ⟨Own.made w1 w1.heap.size 29 3 0 #[] (Nat.le_refl _) (by omega) rfl, (Below.refl _ _).alloc (Nat.le_refl _) _⟩
  have HX1 := Lib.hid hx1; have HE1 := Lib.hid e1
  clear hx1 e1
  go_wp2_with fail
  go_loopw [6, 7] (fun o z wr => ∃ j : Nat, j ≤ q' ∧ j ≤ 30 ∧ z = .int .i64 j ∧ Own wr w1.heap.size 29 3 o j (spCells (fewL6 (l.take j))) ∧ Below w1.heap.size w1 wr) (fun _ z _ => 30 - (intOf z).toNat)
  case atStart => exact ⟨0, by omega, by omega, rfl, HR0.out.1, HR0.out.2⟩
  case round =>
    obtain ⟨j, hj, hj30, rfl, hown, hbel⟩ := hrel
    by_cases hlt : j < q' ∧ j < 30
    · have hjl : j < l.length := by have := HZL.out; omega
      obtain ⟨b, off, rfl, hb, q0, q1, q2⟩ := sp_at (HZ.out.ext (HE1.out.trans hbel)) HZL.out hlt.1
      have dn : decide (j < q') = true := by rw [decide_eq_true_eq]; exact hlt.1
      have d30 : decide ((j : Int) < 30) = true := by rw [decide_eq_true_eq]; omega
      have i0 : (0 : Int) ≤ (j : Int) := by omega
      have i1 : (j : Int) < (q' : Int) := by omega
      have hsz : l[j].2.2.size ≤ maxLen := HZS.out _ (List.getElem_mem hjl)
      have hst := fewL6_take l j hjl hlt.2
      obtain ⟨R1, hR1⟩ : ∃ R1, fewL6 (l.take (j + 1)) = R1 := ⟨_, rfl⟩
      rw [hR1] at hst
      generalize fewL6 (l.take j) = xs at *
      generalize l[j].1 = a1 at *
      generalize l[j].2.1 = a2 at *
      generalize l[j].2.2 = a3 at *
      unfold maxLen at hsz
      obtain ⟨T, hT⟩ : ∃ T, T = min a3.size 60 := ⟨_, rfl⟩
      have hX : a3.extract 0 T = cut60 a3 := by unfold cut60; rw [hT]
      have hm1 : min (a3.size : Int) 60 = (T : Int) := by omega
      have hm2 : (if (60 : Int) < (a3.size : Int) then (60 : Int) else (a3.size : Int)) = (T : Int) := by split <;> omega
      have hTl : (T : Int) ≤ (a3.size : Int) := by omega
      have hTl2 : T ≤ a3.size := by omega
      have HST := Lib.hid hst; have HR1 := Lib.hid hR1; have HXX := Lib.hid hX
      clear hst hR1 hX hT
      have hbx := hbel.alloc hown.2 (.cells #[.int .i64 a1, .int .i64 a2, .string (a3.extract 0 T)] 29)
      have hox := hown.alloc (.cells #[.int .i64 a1, .int .i64 a2, .string (a3.extract 0 T)] 29)
      obtain ⟨v', w', happ, hown', hbel'⟩ := app_new (P := Tryd.prog) 22 22 29 i _ 3 32 Tryd.underlying22 hi hz0 hz1 hz2 rfl (by omega) (by omega)
        hbx hox (by omega) 1 #[.int .i64 a1, .int .i64 a2, .string (a3.extract 0 T)] rfl (by omega) (by simp [Value.oneCell']) 29
      rw [size_alloc] at happ
      have HAP := Lib.hid happ
      have hown2 : Own w' w1.heap.size 29 3 v' (j + 1) (spCells R1) := by rw [HST.out, spCells_append, ← HXX.out]; exact hown'
      clear happ hbx hox hown'
      go_wp2_with (at_builtin; refine wpList_append_run rfl rfl HAP.out rfl rfl ?_)
      go_roundw
      case rel => exact ⟨j + 1, by omega, by omega, by go_num, by rw [HR1.out]; exact hown2, hbel'⟩
      case measure => simp [intOf]; omega
    · have hall : l.take j = l.take 30 := by
        rcases (by omega : j = 30 ∨ j = q') with e | e
        · rw [e]
        · have e2 := HZL.out
          rw [List.take_of_length_le (by omega), List.take_of_length_le (by omega)]
      have hcase : (decide (j < q') = false) ∨ (decide (j < q') = true ∧ decide ((j : Int) < 30) = false) := by
        by_cases e : j < q'
        · exact .inr ⟨by rw [decide_eq_true_eq]; exact e, by rw [decide_eq_false_iff_not]; omega⟩
        · exact .inl (by rw [decide_eq_false_iff_not]; exact e)
      have hfl2 : fewL6 (l.take j) = fewL6 l := by rw [hall]; unfold fewL6; rw [List.take_take]; rfl
      have hlen : (fewL6 l).length = j := by rw [← hfl2, fewL6_len]; have := HZL.out; simp; omega
      rw [hfl2] at hown
      have hts : ∀ s ∈ fewL6 l, s.2.2.size ≤ 60 := fewL6_size l
      clear hall hfl2 hlt
      generalize fewL6 l = xs at *
      have hT : sumT xs ≤ 1000000000 := by have := sumT_le xs 60 hts; omega
      have hgl : (gP xs).length ≤ 1000 ∨ True := .inr trivial
      obtain ⟨ao, co, rfl, _⟩ := hown.len
      have HOWN := Lib.hid hown.rd; have HLN := Lib.hid hlen
      have HX1R := Lib.hid (show Ext w1 wr from hbel)
      have HG : Hid (∀ w', Ext wr w' → _) := Lib.hid fun w' hx => have hTb : Tab w' := tab_ext (HE1.out.trans (HX1R.out.trans hx)); (gaps_c ao j co xs w' (HOWN.out.ext hx) HLN.out (by omega) (fun s hs => by have := hts s hs; omega) hT).mono fun e w'' h => h.uni (by omega)
      have HH : Hid (∀ w', Ext wr w' → _) := Lib.hid fun w' hx => (gapsR_c ao j co xs w' (HOWN.out.ext hx) HLN.out (by omega) (fun s hs => by have := hts s hs; omega) hT).mono fun e w'' h => h.uni (by omega)
      have hHE : Hid (Ext w wr) := Lib.hid (HE1.out.trans hbel)
      generalize gP xs = gp at *
      generalize gD xs = gd at *
      generalize gapsE xs = GE at *
      clear hown hlen hT hts hbel hgl
      rcases hcase with d1 | ⟨d1, d2⟩
      all_goals
        go_wp2_with fail
        refine (HG.out _ (Ext.refl _)).mono ?_; rintro e w2 ⟨A2, n2, c2, B2, m2, k2, rfl, hx2, l2, g2, i2, j2, r2, s2⟩
        have HR2 := Lib.hid r2; have HS2 := Lib.hid s2
        have HK2 : Hid (∀ w', Ext (w2.alloc (.cells #[.slice A2 n2 c2, .slice B2 m2 k2] 26)) w' → w'.cell? ⟨w2.heap.size, 0, none⟩ = some (.slice A2 n2 c2) ∧ w'.cell? ⟨w2.heap.size, 1, none⟩ = some (.slice B2 m2 k2)) := Lib.hid fun w' hx => ⟨box_at _ _ _ _ hx 0 _ rfl, box_at _ _ _ _ hx 1 _ rfl⟩
        have HL2 := Lib.hid l2; have HG2 := Lib.hid g2
        clear r2 s2 l2 g2
        go_wp2_with fail
        refine (HH.out _ (hx2.alloc _)).mono ?_; rintro e w3 ⟨A3, n3, c3, B3, m3, k3, rfl, hx3, l3, g3, i3, j3, r3, s3⟩
        have HR3 := Lib.hid r3; have HS3 := Lib.hid s3
        have HK3 : Hid (∀ w', Ext (w3.alloc (.cells #[.slice A3 n3 c3, .slice B3 m3 k3] 26)) w' → w'.cell? ⟨w3.heap.size, 0, none⟩ = some (.slice A3 n3 c3) ∧ w'.cell? ⟨w3.heap.size, 1, none⟩ = some (.slice B3 m3 k3)) := Lib.hid fun w' hx => ⟨box_at _ _ _ _ hx 0 _ rfl, box_at _ _ _ _ hx 1 _ rfl⟩
        have HL3 := Lib.hid l3; have HG3 := Lib.hid g3
        clear r3 s3 l3 g3
        have e3 : Ext w1 (w3.alloc (.cells #[.slice A3 n3 c3, .slice B3 m3 k3] 26)) := (HX1R.out.trans ((hx2.alloc _).trans hx3)).alloc _
        obtain ⟨q0, q1⟩ := HBX.out _ (HX1.out.trans e3)
        have HE3 := Lib.hid (HE1.out.trans e3)
        go_wp2_with fail
        refine (HF.out _ HE3.out).mono ?_; rintro e w4 ⟨v4, rfl, hx4, r4⟩
        obtain ⟨a4, c4, rfl, _⟩ := r4.len
        have HR4 := Lib.hid r4
        clear r4
        go_wp2_with fail
        refine (HP.out _ _ _ (HE3.out.trans hx4) HR4.out).mono ?_; rintro e w5 ⟨A5, n5, c5, rfl, hx5, l5, r5⟩
        have HR5 := Lib.hid r5; have HL5 := Lib.hid l5
        clear r5 q0 q1
        obtain ⟨q0, q1⟩ := HBX.out _ (((HX1.out.trans e3).trans hx4).trans hx5)
        have e5 := (HE3.out.trans hx4).trans hx5
        have hn5 : n5 ≤ 90 := by omega
        clear l5
        go_wp2_with fail
        refine (HF.out _ e5).mono ?_; rintro e w6 ⟨v6, rfl, hx6, r6⟩
        obtain ⟨a6, c6, rfl, _⟩ := r6.len
        have HR6 := Lib.hid r6
        clear r6
        go_wp2_with fail
        refine (HQ.out _ _ _ (e5.trans hx6) HR6.out).mono ?_; rintro e w7 ⟨A7, n7, c7, rfl, hx7, l7, r7⟩
        have HR7 := Lib.hid r7; have HL7 := Lib.hid l7
        have e67 := hx6.trans hx7
        have e37 : Ext (w3.alloc (.cells #[.slice A3 n3 c3, .slice B3 m3 k3] 26)) w7 := (hx4.trans hx5).trans e67
        obtain ⟨t0, t1⟩ := HK2.out w7 ((hx3.alloc _).trans e37)
        obtain ⟨u0, u1⟩ := HK3.out w7 e37
        have e27 : Ext w2 w7 := (((Ext.refl w2).alloc _).trans (hx3.alloc _)).trans e37
        have e3w7 : Ext w3 w7 := ((Ext.refl w3).alloc _).trans e37
        clear r7 l7 q0 q1
        have hs6 := same6_c A2 B2 A3 B3 n2 c2 m2 k2 n3 c3 m3 k3 gp gp gd gd w7 (HR2.out.ext e27) (HS2.out.ext e27) (HR3.out.ext e3w7) (HS3.out.ext e3w7) HL2.out HG2.out HL3.out HG3.out (by omega) (by omega)
        rw [decide_eq_true ⟨rfl, rfl⟩] at hs6
        have HS6 := Lib.hid hs6
        clear hs6
        go_wp2_with fail
        refine HS6.out.mono ?_; rintro e w8 ⟨rfl, hx8⟩
        obtain ⟨c7', hc7⟩ : ∃ x, x = c7 := ⟨_, rfl⟩
        have hnn : n5 = n7 := by rw [← HL5.out, ← HL7.out]
        subst hnn
        clear hc7
        go_wp2_with fail
        refine (sameR4_c _ _ _ _ _ SL w8 (HR5.out.ext (e67.trans hx8)) (HR7.out.ext hx8) HL5.out (by omega)).mono ?_; rintro e w9 ⟨rfl, hx9⟩
        have hfin : Ext w w9 := (HE3.out.trans e37).trans (hx8.trans hx9)
        go_wp2_with fail
        go_ret
        exact ⟨rfl, hfin⟩
end Go.Proofs.YtelepadnbgcbnaaDoor
