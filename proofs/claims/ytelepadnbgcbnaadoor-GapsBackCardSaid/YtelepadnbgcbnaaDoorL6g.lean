/- Layer 6, the statements' fit. -/
import Derived.Test.YtelepadnbgcbnaaDoorL6f
import Derived.Test.YtelepadnbgcbnaaDoorC1h
namespace Go.Proofs.YtelepadnbgcbnaaDoor
open Go.RowKit
set_option maxRecDepth 100000
set_option maxHeartbeats 4000000
/-- The texts that fit makes: as many as are asked for. -/
def fitP (ts : List ByteArray) (k : Nat) : List (List Nat) := (List.range k).map fun i => match (fewP ts)[i]? with
  | some t => fitC (bs t)
  | none => []
theorem fitP_len (ts : List ByteArray) (k : Nat) : (fitP ts k).length = k := by simp [fitP]
theorem fitP_some (ts : List ByteArray) (k : Nat) (t : ByteArray) (h : (fewP ts)[k]? = some t) : fitP ts (k + 1) = fitP ts k ++ [fitC (bs t)] := by
  simp [fitP, List.range_succ, h]
theorem fitP_none (ts : List ByteArray) (k : Nat) (h : (fewP ts)[k]? = none) : fitP ts (k + 1) = fitP ts k ++ [[]] := by
  simp [fitP, List.range_succ, h]
theorem fitP_all (ts : List ByteArray) (k : Nat) : ∀ p ∈ fitP ts k, (∀ c ∈ p, IsCp c) ∧ p.length ≤ 20 := by
  intro p hp
  obtain ⟨i, hi, rfl⟩ := List.mem_map.1 hp
  cases h : (fewP ts)[i]? with
  | none => exact ⟨fun c hc => (by cases hc), by simp⟩
  | some t =>
    refine ⟨fitC_cp _, ?_⟩
    obtain ⟨x, _, rfl⟩ := List.mem_map.1 (List.mem_of_getElem? h)
    show (fitC (bs (fewT x))).length ≤ 20
    rw [fitC_length, bs_length]
    exact fewT_size x
theorem fit6_c (A B : Option Addr) (n c m d : Nat) (ts : List ByteArray) (ds : List Bool) (w : World) (h : Rd w 1 (.slice A n c) n (ts.map Value.string)) (h' : Rd w 1 (.slice B m d) m (ds.map Value.bool)) (hl : ts.length = n) (hl' : ds.length = m) (hmd : m ≤ d) (hts : ∀ t ∈ ts, t.size ≤ maxLen)
    (hm : m ≤ 9223372036854775807) (hd : d ≤ 9223372036854775807) :
    Calls Tryd.prog 17 #[.agg #[.slice A n c, .slice B m d]] w fun e w' => ∃ v, e = .returned (.agg #[v, .slice B (min m 40) d]) ∧ Ext w w' ∧ Rd w' 1 v (min m 40 + 1) ((putC (fitP ts (min m 40 + 1))).map Value.string) := by
  obtain ⟨i, hi, hz0, hz1, hz2⟩ := info_parts info_str
  have HF : Hid (∀ w', Ext w w' → _) := Lib.hid fun w' hx => few6_c A B n c m d ts ds w' (h.ext hx) (h'.ext hx) hl hl' hmd hts hm hd
  obtain ⟨M, hM⟩ : ∃ M, min m 40 = M := ⟨_, rfl⟩
  rw [hM] at HF ⊢
  have hM40 : M ≤ 40 := by omega
  have HTX : Hid (∀ t ∈ fewP ts, t.size ≤ 20) := Lib.hid fun t ht => by
    obtain ⟨x, _, rfl⟩ := List.mem_map.1 ht
    exact fewT_size x
  have hln : (fewP ts).length ≤ 41 := by rw [fewP_len]; omega
  have HP : Hid (∀ k, fitP ts (k + 1) = fitP ts k ++ [match (fewP ts)[k]? with | some t => fitC (bs t) | none => []]) := Lib.hid fun k => by
    cases hk : (fewP ts)[k]? with
    | some t => exact fitP_some ts k t hk
    | none => exact fitP_none ts k hk
  have hP0 : fitP ts 0 = [] := rfl
  have HP0 := Lib.hid hP0
  clear h h' hl hl' hts hM hP0
  generalize fitP ts = F at *
  generalize fewP ts = fs at *
  obtain ⟨nf, hnf⟩ : ∃ nf, fs.length = nf := ⟨_, rfl⟩
  rw [hnf] at HF hln
  have HNF := Lib.hid hnf
  clear hnf
  go_enter Tryd.func17, Tryd.ntmps17
  go_wp2_with fail
  refine (HF.out _ (((Ext.refl w).alloc _).alloc _)).mono ?_; rintro e w1 ⟨vf, rfl, hx1, rf⟩
  obtain ⟨fa, fc, rfl, _⟩ := rf.len
  have HRF := Lib.hid rf; have HX1 := Lib.hid hx1
  have hres : w1.heap[w.heap.size + 1]? = some (.cells #[.slice none 0 0, .slice none 0 0] 26 (0, 0)) := (hx1.below.block _ (by simp)).trans (heap_alloc2_new w _ _)
  have HRES := Lib.hid hres
  have hsz1 : w.heap.size + 2 ≤ w1.heap.size := by have := hx1.size; simp at this; omega
  clear rf hx1 hres
  have HR0 : Hid (((w1.alloc (.cells #[.slice fa nf fc, .slice B M d] 26)).alloc (.cells #[.slice none 0 0, .slice B M d] 26)).heap[w1.heap.size + 1]? = some (.cells #[.slice none 0 0, .slice B M d] 26 (0, 0))) := Lib.hid (by
    have h := heap_alloc_new (w1.alloc (.cells #[.slice fa nf fc, .slice B M d] 26)) (.cells #[.slice none 0 0, .slice B M d] 26)
    rw [size_alloc] at h
    exact h)
  have hxw1 : Ext w1 ((w1.alloc (.cells #[.slice fa nf fc, .slice B M d] 26)).alloc (.cells #[.slice none 0 0, .slice B M d] 26)) := ((Ext.refl w1).alloc _).alloc _
  have hsz4 : ((w1.alloc (.cells #[.slice fa nf fc, .slice B M d] 26)).alloc (.cells #[.slice none 0 0, .slice B M d] 26)).heap.size = w1.heap.size + 1 + 1 := by simp
  have k0 := box_at w1 ((w1.alloc (.cells #[.slice fa nf fc, .slice B M d] 26)).alloc (.cells #[.slice none 0 0, .slice B M d] 26)) _ _ ((Ext.refl _).alloc _) 0 _ rfl
  have k1 := box_at w1 ((w1.alloc (.cells #[.slice fa nf fc, .slice B M d] 26)).alloc (.cells #[.slice none 0 0, .slice B M d] 26)) _ _ ((Ext.refl _).alloc _) 1 _ rfl
  have HXW1 := Lib.hid hxw1; have HSZ4 := Lib.hid hsz4; have HK0 := Lib.hid k0; have HK1 := Lib.hid k1
  clear hxw1 hsz4 k0 k1
  go_wp2_with fail
  generalize ((w1.alloc (.cells #[.slice fa nf fc, .slice B M d] 26)).alloc (.cells #[.slice none 0 0, .slice B M d] 26)) = W4 at *
  obtain ⟨H4, hH4⟩ : ∃ H4, w1.heap.size + 1 = H4 := ⟨_, rfl⟩
  have hH3 : w1.heap.size < H4 := by omega
  rw [hH4] at HR0 HSZ4 ⊢
  obtain ⟨H3, hH3e⟩ : ∃ H3, w1.heap.size = H3 := ⟨_, rfl⟩
  have HXW := Lib.hid (show w.heap.size + 2 ≤ H3 by omega)
  rw [hH3e] at hH3 HK0 HK1 ⊢
  clear hsz1 hH4
  have HH3 := Lib.hid hH3e
  clear hH3e
  have HN0 := Lib.hid (Own.nil W4 (H4 + 1) 9 1 (by have := HSZ4.out; omega))
  have HB0 : Hid (Below H4 W4 W4) := Lib.hid (Below.refl _ _)
  go_loopw [5] (fun z wr => ∃ (j : Nat) (v : Value), j ≤ M + 1 ∧ z = .int .i64 j ∧ wr.heap[H4]? = some (.cells #[v, .slice B M d] 26 (0, 0)) ∧ Own wr (H4 + 1) 9 1 v j ((putC (F j)).map Value.string) ∧ Below H4 W4 wr) (fun z _ => M + 1 - (intOf z).toNat)
  case atStart => exact ⟨0, _, by omega, rfl, HR0.out, by rw [HP0.out]; exact HN0.out, HB0.out⟩
  case round =>
    obtain ⟨j, v, hj, rfl, hrow, hown, hbel⟩ := hrel
    have hb0 : H4 + 1 ≤ wr.heap.size := hown.2
    have g0 : wr.cell? ⟨H3, 0, none⟩ = some (.slice fa nf fc) := (hbel.cell (p := ⟨H3, 0, none⟩) (by simp only; omega)).trans HK0.out
    have g1 : wr.cell? ⟨H3, 1, none⟩ = some (.slice B M d) := (hbel.cell (p := ⟨H3, 1, none⟩) (by simp only; omega)).trans HK1.out
    have o0 : wr.cell? ⟨H4, 0, none⟩ = some v := by rw [cell_of_row wr H4 0 _ _ (0, 0) hrow]; rfl
    have o1 : wr.cell? ⟨H4, 1, none⟩ = some (.slice B M d) := by rw [cell_of_row wr H4 1 _ _ (0, 0) hrow]; rfl
    have of0 : wr.frozen? ⟨H4, 0, none⟩ = false := frozen_of_row wr _ 0 _ _ hrow
    have HROW := Lib.hid hrow; have HOWN := Lib.hid hown; have HBEL := Lib.hid hbel; have HHB := Lib.hid hb0
    clear hrow hown hbel hb0
    by_cases hle : j ≤ M
    · have dle : decide ((j : Int) ≤ (M : Int)) = true := by rw [decide_eq_true_eq]; omega
      have dle' : decide (j ≤ M) = true := by rw [decide_eq_true_eq]; omega
      have HPj := Lib.hid (HP.out j)
      by_cases hlt : j < nf
      · have dlt : decide (j < nf) = true := by rw [decide_eq_true_eq]; omega
        have i0 : (0 : Int) ≤ (j : Int) := by omega
        have i1 : (j : Int) < (nf : Int) := by omega
        have hjf : j < fs.length := by have := HNF.out; omega
        obtain ⟨b, off, hA, hb, q0⟩ := rd_at1 HRF.out hlt (u := .string fs[j]) (by simp [List.getElem?_eq_getElem hjf])
        subst hA
        have q1 : wr.cell? ⟨b, off + j, none⟩ = some (.string fs[j]) := by
          have hbH : b < H4 := by have := HH3.out; omega
          have e1 := ext_cell HXW1.out q0
          exact (HBEL.out.cell (p := ⟨b, off + j, none⟩) (by simp only; omega)).trans e1
        have hst : F (j + 1) = F j ++ [fitC (bs fs[j])] := by have h := HPj.out; rw [List.getElem?_eq_getElem hjf] at h; exact h
        have htz := HTX.out _ (List.getElem_mem hjf)
        clear q0 hb
        generalize fs[j] = t at *
        have HFT := Lib.hid (fun w' => fit_c t w' (by omega))
        have hst2 : putC (F (j + 1)) = putC (F j) ++ [mkS (encs (fitC (bs t)))] := by rw [hst]; simp [putC]
        have HST := Lib.hid hst2
        clear hst hst2 htz
        generalize mkS (encs (fitC (bs t))) = S at *
        go_wp2_with fail
        refine (HFT.out _).mono ?_; rintro e W2 ⟨rfl, hx2⟩
        have HX2 := Lib.hid hx2
        clear hx2
        have hx2w : Ext wr W2 := HX2.out
        have hb2 : Below (H4 + 1) wr W2 := hx2w.mono (by have := HHB.out; omega)
        obtain ⟨v', w', happ, hown', hbel'⟩ := app_new (P := Tryd.prog) 23 23 9 i _ 1 16 Tryd.underlying23 hi hz0 hz1 hz2 rfl (by omega) (by omega)
          hb2 (HOWN.out.ext hx2w) (by omega) 1 #[.string S] rfl (by omega) (by simp [Value.oneCell']) 9
        obtain ⟨a', c', rfl, _⟩ := hown'.len
        have c0 : W2.cell? ⟨H4, 0, none⟩ = some v := ext_cell hx2w o0
        have c1 : (W2.alloc (.cells #[.string S] 9)).cell? ⟨H4, 0, none⟩ = some v := ext_cell ((Ext.refl W2).alloc _) c0
        have c2 : w'.cell? ⟨H4, 0, none⟩ = some v := (hbel'.cell (p := ⟨H4, 0, none⟩) (by simp only; omega)).trans o0
        have c3 : w'.frozen? ⟨H4, 0, none⟩ = false := (hbel'.frozen (p := ⟨H4, 0, none⟩) (by simp only; omega)).trans of0
        have HAP := Lib.hid happ; have HOW := Lib.hid hown'; have HBE := Lib.hid hbel'
        clear happ hown' hbel' g0 g1 o0 of0 hx2w hb2
        go_wp2_with (at_builtin; with_reducible refine wpList_append_run rfl rfl HAP.out rfl rfl ?_)
        go_roundw
        case rel =>
          refine ⟨j + 1, _, by omega, by go_num, heap_setCell_same w' H4 0 _ _ (.slice a' (j + 1) c') ((HBE.out.block _ (by omega)).trans HROW.out), ?_, Below.setCell (HBEL.out.trans (HBE.out.mono (by omega))) (Nat.le_refl _) _⟩
          have hq := own_far HOW.out ⟨H4, 0, none⟩ (by simp only; omega) (.slice a' (j + 1) c')
          rw [HST.out, List.map_append]
          exact hq
        case measure => simp [intOf]; omega

      · have dlt : decide (j < nf) = false := by rw [decide_eq_false_iff_not]; omega
        have hst2 : putC (F (j + 1)) = putC (F j) ++ [⟨#[]⟩] := by
          have h := HPj.out
          rw [List.getElem?_eq_none (by have := HNF.out; omega)] at h
          rw [h]; simp [putC]; rfl
        have HST := Lib.hid hst2
        clear hst2
        have HX2 := Lib.hid (Ext.refl wr)
        obtain ⟨S, hS⟩ : ∃ S : ByteArray, (⟨#[]⟩ : ByteArray) = S := ⟨_, rfl⟩
        obtain ⟨W2, hW2⟩ : ∃ W2, wr = W2 := ⟨_, rfl⟩
        subst hW2
        subst hS
        have hx2w : Ext wr wr := HX2.out
        have hb2 : Below (H4 + 1) wr wr := hx2w.mono (by have := HHB.out; omega)
        obtain ⟨v', w', happ, hown', hbel'⟩ := app_new (P := Tryd.prog) 23 23 9 i _ 1 16 Tryd.underlying23 hi hz0 hz1 hz2 rfl (by omega) (by omega)
          hb2 (HOWN.out.ext hx2w) (by omega) 1 #[.string ⟨#[]⟩] rfl (by omega) (by simp [Value.oneCell']) 9
        obtain ⟨a', c', rfl, _⟩ := hown'.len
        have c0 : wr.cell? ⟨H4, 0, none⟩ = some v := ext_cell hx2w o0
        have c1 : (wr.alloc (.cells #[.string ⟨#[]⟩] 9)).cell? ⟨H4, 0, none⟩ = some v := ext_cell ((Ext.refl wr).alloc _) c0
        have c2 : w'.cell? ⟨H4, 0, none⟩ = some v := (hbel'.cell (p := ⟨H4, 0, none⟩) (by simp only; omega)).trans o0
        have c3 : w'.frozen? ⟨H4, 0, none⟩ = false := (hbel'.frozen (p := ⟨H4, 0, none⟩) (by simp only; omega)).trans of0
        have HAP := Lib.hid happ; have HOW := Lib.hid hown'; have HBE := Lib.hid hbel'
        clear happ hown' hbel' of0 hx2w hb2
        go_wp2_with (at_builtin; with_reducible refine wpList_append_run rfl rfl HAP.out rfl rfl ?_)
        go_roundw
        case rel =>
          refine ⟨j + 1, _, by omega, by go_num, heap_setCell_same w' H4 0 _ _ (.slice a' (j + 1) c') ((HBE.out.block _ (by omega)).trans HROW.out), ?_, Below.setCell (HBEL.out.trans (HBE.out.mono (by omega))) (Nat.le_refl _) _⟩
          have hq := own_far HOW.out ⟨H4, 0, none⟩ (by simp only; omega) (.slice a' (j + 1) c')
          rw [HST.out, List.map_append]
          exact hq
        case measure => simp [intOf]; omega

    · obtain rfl : j = M + 1 := by omega
      have dle : decide ((((M + 1 : Nat)) : Int) ≤ (M : Int)) = false := by rw [decide_eq_false_iff_not]; omega
      have dle' : decide (((M : Int) + 1) ≤ (M : Int)) = false := by rw [decide_eq_false_iff_not]; omega
      have dle2 : decide (M + 1 ≤ M) = false := by rw [decide_eq_false_iff_not]; omega
      have hres : wr.heap[w.heap.size + 1]? = some (.cells #[.slice none 0 0, .slice none 0 0] 26 (0, 0)) := (HBEL.out.block _ (by have := HXW.out; omega)).trans ((HXW1.out.below.block _ (by have := HXW.out; have := HH3.out; omega)).trans HRES.out)
      have r0 : wr.cell? ⟨w.heap.size + 1, 0, none⟩ = some (.slice none 0 0) := by rw [cell_of_row wr (w.heap.size + 1) 0 _ _ (0, 0) hres]; rfl
      have r1 : wr.cell? ⟨w.heap.size + 1, 1, none⟩ = some (.slice none 0 0) := by rw [cell_of_row wr (w.heap.size + 1) 1 _ _ (0, 0) hres]; rfl
      have f0 : wr.frozen? ⟨w.heap.size + 1, 0, none⟩ = false := frozen_of_row wr _ 0 _ _ hres
      have f1 : wr.frozen? ⟨w.heap.size + 1, 1, none⟩ = false := frozen_of_row wr _ 1 _ _ hres
      obtain ⟨a', c', rfl, _⟩ := HOWN.out.len
      have hxw : Ext w wr := by
        have e1 : Ext w w1 := (((Ext.refl w).alloc _).alloc _).trans HX1.out
        exact e1.trans (Below.trans HXW1.out (HBEL.out.mono (by have := HH3.out; omega)))
      have HXWR := Lib.hid hxw; have HRES' := Lib.hid hres
      clear hres hxw of0
      go_wp2_with fail
      have e1 := heap_setCell_same wr (w.heap.size + 1) 0 _ 26 (.slice a' (M + 1) c') HRES'.out
      have e2 := heap_setCell_same _ (w.heap.size + 1) 1 _ 26 (.slice B M d) e1
      refine bodyPost_ret (results_cell_row rfl _ _ (w.heap.size + 1) _ _ (0, 0) _ rfl e2 Tryd.underlying26 rfl (by kernel_rfl)) rfl ?_
      refine ⟨.slice a' (M + 1) c', rfl, Below.setCell (Below.setCell HXWR.out (by simp only; omega) _) (by simp only; omega) _, ?_⟩
      exact (own_far (own_far HOWN.out _ (by have := HXW.out; simp only; omega) _) _ (by have := HXW.out; simp only; omega) _).rd
end Go.Proofs.YtelepadnbgcbnaaDoor
