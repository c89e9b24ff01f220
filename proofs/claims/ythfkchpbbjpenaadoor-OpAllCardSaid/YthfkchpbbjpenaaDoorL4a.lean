/- Layer 4, the statements' own functions: shown, few. -/
import Derived.Test.YthfkchpbbjpenaaDoorP4
import Derived.Test.YthfkchpbbjpenaaDoorBe
import Derived.Test.YthfkchpbbjpenaaDoorFr
namespace Go.Proofs.YthfkchpbbjpenaaDoor
open Go.RowKit
set_option maxRecDepth 100000
set_option maxHeartbeats 1000000
def few60 (s : ByteArray) : ByteArray := s.extract 0 (min s.size 60)
theorem few60_size (s : ByteArray) : (few60 s).size ≤ 60 := by simp [few60]; omega
/-- What few lets through. -/
def fewL4 (l : List Sp) : List Sp := (l.take 20).map fun s => (s.1, s.2.1, few60 s.2.2)
theorem fewL4_take (l : List Sp) (j : Nat) (h : j < l.length) (h20 : j < 20) : fewL4 (l.take (j + 1)) = fewL4 (l.take j) ++ [(l[j].1, l[j].2.1, few60 l[j].2.2)] := by
  unfold fewL4
  have e1 : (l.take (j + 1)).take 20 = l.take (j + 1) := List.take_of_length_le (by rw [List.length_take]; omega)
  have e2 : (l.take j).take 20 = l.take j := List.take_of_length_le (by rw [List.length_take]; omega)
  rw [e1, e2, List.take_add_one, List.getElem?_eq_getElem h, List.map_append]
  rfl
theorem fewL4_size (l : List Sp) : ∀ s ∈ fewL4 l, s.2.2.size ≤ 60 := by
  intro s hs
  obtain ⟨x, _, rfl⟩ := List.mem_map.1 hs
  exact few60_size _
theorem fewL4_len (l : List Sp) : (fewL4 l).length = min 20 l.length := by simp [fewL4]
theorem info_sp4 : (Tryd.prog.info? 34).map (fun i => (i.zero, i.size, i.bytes)) = some (some (.agg #[.int .i64 0, .int .i64 0, .string ⟨#[]⟩]), 3, 32) := by kernel_rfl
theorem few4_c (A : Option Addr) (q c : Nat) (l : List Sp) (w : World) (h : Rd w 3 (.slice A q c) q (spCells l)) (hl : l.length = q) (hs : ∀ s ∈ l, s.2.2.size ≤ maxLen) :
    Calls Tryd.prog 8 #[.slice A q c] w fun e w' => ∃ v, e = .returned v ∧ Ext w w' ∧ Own w' w.heap.size 34 3 v (fewL4 l).length (spCells (fewL4 l)) := by
  obtain ⟨i, hi, hz0, hz1, hz2⟩ := info_parts info_sp4
  have H := Lib.hid h; have HL := Lib.hid hl; have HS := Lib.hid hs
  have hrel0 : Own (w.alloc (.cells #[] 34)) w.heap.size 34 3 (.slice (some ⟨w.heap.size, 0, none⟩) 0 0) 0 (spCells []) ∧ Below w.heap.size w (w.alloc (.cells #[] 34)) :=
    ⟨Own.made w w.heap.size 34 3 0 #[] (Nat.le_refl _) (by omega) rfl, (Below.refl _ _).alloc (Nat.le_refl _) _⟩
  have HR0 := Lib.hid hrel0
  clear h hl hs hrel0
  go_enter Tryd.func8, Tryd.ntmps8
  go_wp2_with fail
  go_loopw [3, 4] (fun o z wr => ∃ j : Nat, j ≤ q ∧ j ≤ 20 ∧ z = .int .i64 j ∧ Own wr w.heap.size 34 3 o j (spCells (fewL4 (l.take j))) ∧ Below w.heap.size w wr) (fun _ z _ => 20 - (intOf z).toNat)
  case atStart => exact ⟨0, by omega, by omega, rfl, HR0.out.1, HR0.out.2⟩
  case round =>
    obtain ⟨j, hj, hj20, rfl, hown, hbel⟩ := hrel
    by_cases hlt : j < q ∧ j < 20
    · have hjl : j < l.length := by have := HL.out; omega
      obtain ⟨b, off, rfl, hb, q0, q1, q2⟩ := sp_at (H.out.ext hbel) HL.out hlt.1
      have dn : decide (j < q) = true := by rw [decide_eq_true_eq]; exact hlt.1
      have d20 : decide ((j : Int) < 20) = true := by rw [decide_eq_true_eq]; omega
      have i0 : (0 : Int) ≤ (j : Int) := by omega
      have i1 : (j : Int) < (q : Int) := by omega
      have hsz : l[j].2.2.size ≤ maxLen := HS.out _ (List.getElem_mem hjl)
      have hst := fewL4_take l j hjl hlt.2
      obtain ⟨R1, hR1⟩ : ∃ R1, fewL4 (l.take (j + 1)) = R1 := ⟨_, rfl⟩
      rw [hR1] at hst
      generalize fewL4 (l.take j) = xs at *
      generalize l[j].1 = a1 at *
      generalize l[j].2.1 = a2 at *
      generalize l[j].2.2 = a3 at *
      unfold maxLen at hsz
      have hm : (min (a3.size : Int) 60).toNat = min a3.size 60 := by omega
      have HST := Lib.hid hst; have HR1 := Lib.hid hR1; have HM := Lib.hid hm
      clear hst hR1 hm
      have hX : a3.extract 0 (min (a3.size : Int) 60).toNat = few60 a3 := by rw [HM.out]; rfl
      have hbx := hbel.alloc hown.2 (.cells #[.int .i64 a1, .int .i64 a2, .string (a3.extract 0 (min (a3.size : Int) 60).toNat)] 34)
      have hox := hown.alloc (.cells #[.int .i64 a1, .int .i64 a2, .string (a3.extract 0 (min (a3.size : Int) 60).toNat)] 34)
      obtain ⟨v', w', happ, hown', hbel'⟩ := app_new (P := Tryd.prog) 22 22 34 i _ 3 32 Tryd.underlying22 hi hz0 hz1 hz2 rfl (by omega) (by omega)
        hbx hox (by omega) 1 #[.int .i64 a1, .int .i64 a2, .string (a3.extract 0 (min (a3.size : Int) 60).toNat)] rfl (by omega) (by simp [Value.oneCell']) 34
      rw [size_alloc] at happ
      have HAP := Lib.hid happ
      have hown2 : Own w' w.heap.size 34 3 v' (j + 1) (spCells R1) := by rw [HST.out, spCells_append, ← hX]; exact hown'
      clear happ hX hbx hox hown'
      go_wp2_with (at_builtin; refine wpList_append_run rfl rfl HAP.out rfl rfl ?_)
      go_roundw
      case rel => exact ⟨j + 1, by omega, by omega, by go_num, by rw [HR1.out]; exact hown2, hbel'⟩
      case measure => simp [intOf]; omega
    · have hall : l.take j = l.take 20 := by
        rcases (by omega : j = 20 ∨ j = q) with e | e
        · rw [e]
        · have e2 := HL.out
          rw [List.take_of_length_le (by omega), List.take_of_length_le (by omega)]
      have hcase : (decide (j < q) = false) ∨ (decide (j < q) = true ∧ decide ((j : Int) < 20) = false) := by
        by_cases e : j < q
        · exact .inr ⟨by rw [decide_eq_true_eq]; exact e, by rw [decide_eq_false_iff_not]; omega⟩
        · exact .inl (by rw [decide_eq_false_iff_not]; exact e)
      have hfl : fewL4 (l.take j) = fewL4 l := by rw [hall]; unfold fewL4; rw [List.take_take]; rfl
      have hlen : (fewL4 l).length = j := by rw [← hfl, fewL4_len]; have := HL.out; simp; omega
      rw [hfl] at hown
      have HLN := Lib.hid hlen
      clear hall hfl hlen hlt
      rcases hcase with d1 | ⟨d1, d2⟩
      all_goals
        go_wp2_with fail
        go_ret
        refine ⟨_, rfl, hbel, ?_⟩
        rw [HLN.out]
        exact hown
theorem keep_ok (n : Int) (h0 : 0 ≤ n) (h1 : n ≤ 1048576) (w : World) : Calls Tryd.prog 9 #[.int .i64 n] w fun e w' => ∃ A c, e = .returned (.tuple #[.slice A (keepL n).length c, .int .i64 0]) ∧ Ext w w' ∧ Rd w' 3 (.slice A (keepL n).length c) (keepL n).length (spCells (keepL n)) := by
  refine (keep4_c n w).mono ?_
  rintro e w' ⟨hx, ⟨h, _⟩ | ⟨_, _, v, rfl, hr⟩⟩
  · omega
  · obtain ⟨A, c, rfl, _⟩ := hr.len
    exact ⟨A, c, rfl, hx, hr⟩
theorem keep_no (n : Int) (h : n < 0 ∨ 1048576 < n) (w : World) : Calls Tryd.prog 9 #[.int .i64 n] w fun e w' => e = .returned (.tuple #[.slice none 0 0, .int .i64 2]) ∧ Ext w w' := by
  refine (keep4_c n w).mono ?_
  rintro e w' ⟨hx, ⟨_, rfl⟩ | ⟨_, _, v, rfl, hr⟩⟩
  · exact ⟨rfl, hx⟩
  · omega
def ex4 : List Sp := [(1, 2, ⟨#[]⟩), (2, 0, ⟨#[120]⟩), (3, 1, ⟨#[]⟩)]
theorem ex4_in : wrap64 (inL ex4) = 3 := by decide +kernel
theorem ex4_out : wrap64 (outL ex4) = 3 := by decide +kernel
theorem ex4_may : mayL ex4 = 0 := by decide +kernel
theorem shown4_c (w : World) [Tab w] : Calls Tryd.prog 7 #[] w fun e w' => e = .returned (.bool true) ∧ Ext w w' := by
  have hrd : Rd (w.alloc (.cells #[.int .i64 1, .int .i64 2, .string ⟨#[]⟩, .int .i64 2, .int .i64 0, .string ⟨#[120]⟩, .int .i64 3, .int .i64 1, .string ⟨#[]⟩] 34)) 3 (.slice (some ⟨w.heap.size, 0, none⟩) 3 3) 3 (spCells ex4) :=
    (Own.made w w.heap.size 34 3 3 _ (Nat.le_refl _) (by omega) rfl).rd
  have hex : Ext w (w.alloc (.cells #[.int .i64 1, .int .i64 2, .string ⟨#[]⟩, .int .i64 2, .int .i64 0, .string ⟨#[120]⟩, .int .i64 3, .int .i64 1, .string ⟨#[]⟩] 34)) := (Ext.refl w).alloc _
  have hts : ∀ s ∈ ex4, s.2.2.size ≤ 1000000000 := by
    intro s hs
    simp only [ex4, List.mem_cons, List.not_mem_nil, or_false] at hs
    rcases hs with rfl | rfl | rfl <;> decide
  have HI : Hid (∀ w', Ext (w.alloc (.cells #[.int .i64 1, .int .i64 2, .string ⟨#[]⟩, .int .i64 2, .int .i64 0, .string ⟨#[120]⟩, .int .i64 3, .int .i64 1, .string ⟨#[]⟩] 34)) w' → Calls Tryd.prog 13 #[.slice (some ⟨w.heap.size, 0, none⟩) 3 3] w' fun e w'' => e = .returned (.int .i64 3) ∧ Ext w' w'') := Lib.hid fun w' hx => by
    have hTb := tab_ext hx
    have h := in4_c _ _ _ ex4 w' (hrd.ext hx) rfl (by omega); rw [ex4_in] at h; exact h
  have HO : Hid (∀ w', Ext (w.alloc (.cells #[.int .i64 1, .int .i64 2, .string ⟨#[]⟩, .int .i64 2, .int .i64 0, .string ⟨#[120]⟩, .int .i64 3, .int .i64 1, .string ⟨#[]⟩] 34)) w' → Calls Tryd.prog 15 #[.slice (some ⟨w.heap.size, 0, none⟩) 3 3] w' fun e w'' => e = .returned (.int .i64 3) ∧ Ext w' w'') := Lib.hid fun w' hx => by
    have hTb := tab_ext hx
    have h := out4_c _ _ _ ex4 w' (hrd.ext hx) rfl (by omega) hts; rw [ex4_out] at h; exact h
  have HM : Hid (∀ w', Ext (w.alloc (.cells #[.int .i64 1, .int .i64 2, .string ⟨#[]⟩, .int .i64 2, .int .i64 0, .string ⟨#[120]⟩, .int .i64 3, .int .i64 1, .string ⟨#[]⟩] 34)) w' → Calls Tryd.prog 11 #[.slice (some ⟨w.heap.size, 0, none⟩) 3 3] w' fun e w'' => e = .returned (.int .i64 0) ∧ Ext w' w'') := Lib.hid fun w' hx => by
    have hTb := tab_ext hx
    have h := may4_c _ _ _ ex4 w' (hrd.ext hx) rfl (by omega) hts; rw [ex4_may] at h; exact h
  have HK := Lib.hid (fun w' => keep_ok 3 (by omega) (by omega) w')
  have HEX := Lib.hid hex
  clear hrd hts hex
  go_enter Tryd.func7, Tryd.ntmps7
  go_wp2_with fail
  refine (HK.out _).mono ?_; rintro e w1 ⟨A, c, rfl, hx1, hr⟩; have ht1 := tab_ext hx1
  clear hr
  have hk : (keepL 3).length = 1 := rfl
  go_wp2_with fail
  refine (HI.out _ hx1).mono ?_; rintro e w2 ⟨rfl, hx2⟩; have ht2 := tab_ext hx2
  go_wp2_with fail
  refine (HO.out _ (hx1.trans hx2)).mono ?_; rintro e w3 ⟨rfl, hx3⟩; have ht3 := tab_ext hx3
  go_wp2_with fail
  refine (HM.out _ ((hx1.trans hx2).trans hx3)).mono ?_; rintro e w4 ⟨rfl, hx4⟩; have ht4 := tab_ext hx4
  go_wp2_with fail
  go_ret
  exact ⟨rfl, HEX.out.trans (((hx1.trans hx2).trans hx3).trans hx4)⟩
end Go.Proofs.YthfkchpbbjpenaaDoor
