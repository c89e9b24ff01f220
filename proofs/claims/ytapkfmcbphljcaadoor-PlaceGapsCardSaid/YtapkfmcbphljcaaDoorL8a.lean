/- Layer 8, the statements' own functions: shown, few. -/
import Derived.Test.YtapkfmcbphljcaaDoorP8
import Derived.Test.YtapkfmcbphljcaaDoorFr
import Derived.Test.YtapkfmcbphljcaaDoorC5
import Derived.Test.YtapkfmcbphljcaaDoorL6b
namespace Go.Proofs.YtapkfmcbphljcaaDoor
open Go.RowKit
set_option maxRecDepth 100000
set_option maxHeartbeats 4000000
def cut60c (s : ByteArray) : ByteArray := s.extract 0 (min s.size 60)
theorem cut60c_size (s : ByteArray) : (cut60c s).size ≤ 60 := by simp [cut60c]; omega
def fewL8 (l : List Sp) : List Sp := (l.take 20).map fun s => (s.1, s.2.1, cut60c s.2.2)
theorem fewL8_take (l : List Sp) (j : Nat) (h : j < l.length) (h20 : j < 20) : fewL8 (l.take (j + 1)) = fewL8 (l.take j) ++ [(l[j].1, l[j].2.1, cut60c l[j].2.2)] := by
  unfold fewL8
  have e1 : (l.take (j + 1)).take 20 = l.take (j + 1) := List.take_of_length_le (by rw [List.length_take]; omega)
  have e2 : (l.take j).take 20 = l.take j := List.take_of_length_le (by rw [List.length_take]; omega)
  rw [e1, e2, List.take_add_one, List.getElem?_eq_getElem h, List.map_append]
  rfl
theorem fewL8_size (l : List Sp) : ∀ s ∈ fewL8 l, s.2.2.size ≤ 60 := by
  intro s hs
  obtain ⟨x, _, rfl⟩ := List.mem_map.1 hs
  exact cut60c_size _
theorem fewL8_len (l : List Sp) : (fewL8 l).length = min 20 l.length := by simp [fewL8]
theorem few8_c (A : Option Addr) (q c : Nat) (l : List Sp) (w : World) (h : Rd w 3 (.slice A q c) q (spCells l)) (hl : l.length = q) (hs : ∀ s ∈ l, s.2.2.size ≤ maxLen) :
    Calls Tryd.prog 8 #[.slice A q c] w fun e w' => ∃ v, e = .returned v ∧ Ext w w' ∧ Own w' w.heap.size 43 3 v (fewL8 l).length (spCells (fewL8 l)) := by
  obtain ⟨i, hi, hz0, hz1, hz2⟩ := info_parts info_sp5
  have H := Lib.hid h; have HL := Lib.hid hl; have HS := Lib.hid hs
  have hrel0 : Own (w.alloc (.cells #[] 43)) w.heap.size 43 3 (.slice (some ⟨w.heap.size, 0, none⟩) 0 0) 0 (spCells []) ∧ Below w.heap.size w (w.alloc (.cells #[] 43)) :=
    ⟨Own.made w w.heap.size 43 3 0 #[] (Nat.le_refl _) (by omega) rfl, (Below.refl _ _).alloc (Nat.le_refl _) _⟩
  have HR0 := Lib.hid hrel0
  clear h hl hs hrel0
  go_enter Tryd.func8, Tryd.ntmps8
  go_wp2_with fail
  go_loopw [3, 4] (fun o z wr => ∃ j : Nat, j ≤ q ∧ j ≤ 20 ∧ z = .int .i64 j ∧ Own wr w.heap.size 43 3 o j (spCells (fewL8 (l.take j))) ∧ Below w.heap.size w wr) (fun _ z _ => 20 - (intOf z).toNat)
  case atStart => exact ⟨0, by omega, by omega, rfl, HR0.out.1, HR0.out.2⟩
  case round =>
    obtain ⟨j, hj, hj20, rfl, hown, hbel⟩ := hrel
    by_cases hlt : j < q ∧ j < 20
    · have hjl : j < l.length := by have := HL.out; omega
      obtain ⟨b, off, rfl, hb, q0, q1, q2⟩ := sp_at (H.out.ext hbel) HL.out hlt.1
      have dn : decide (j < q) = true := by rw [decide_eq_true_eq]; exact hlt.1
      have d20 : decide ((j : Int) < 20) = true := by rw [decide_eq_true_eq]; omega
      have i0 : (0 : Int) ≤ (j : Int) := by omega
      have i1 : (j : Int) < (q : Int) := by omega
      have hsz : l[j].2.2.size ≤ maxLen := HS.out _ (List.getElem_mem hjl)
      have hst := fewL8_take l j hjl hlt.2
      obtain ⟨R1, hR1⟩ : ∃ R1, fewL8 (l.take (j + 1)) = R1 := ⟨_, rfl⟩
      rw [hR1] at hst
      generalize fewL8 (l.take j) = xs at *
      generalize l[j].1 = a1 at *
      generalize l[j].2.1 = a2 at *
      generalize l[j].2.2 = a3 at *
      unfold maxLen at hsz
      have hm : (min (a3.size : Int) 60).toNat = min a3.size 60 := by omega
      have HST := Lib.hid hst; have HR1 := Lib.hid hR1; have HM := Lib.hid hm
      clear hst hR1 hm
      have hX : a3.extract 0 (min (a3.size : Int) 60).toNat = cut60c a3 := by rw [HM.out]; rfl
      have hbx := hbel.alloc hown.2 (.cells #[.int .i64 a1, .int .i64 a2, .string (a3.extract 0 (min (a3.size : Int) 60).toNat)] 43)
      have hox := hown.alloc (.cells #[.int .i64 a1, .int .i64 a2, .string (a3.extract 0 (min (a3.size : Int) 60).toNat)] 43)
      obtain ⟨v', w', happ, hown', hbel'⟩ := app_new (P := Tryd.prog) 22 22 43 i _ 3 32 Tryd.underlying22 hi hz0 hz1 hz2 rfl (by omega) (by omega)
        hbx hox (by omega) 1 #[.int .i64 a1, .int .i64 a2, .string (a3.extract 0 (min (a3.size : Int) 60).toNat)] rfl (by omega) (by simp [Value.oneCell']) 43
      rw [size_alloc] at happ
      have HAP := Lib.hid happ
      have hown2 : Own w' w.heap.size 43 3 v' (j + 1) (spCells R1) := by rw [HST.out, spCells_append, ← hX]; exact hown'
      clear happ hX hbx hox hown'
      go_wp2_with (at_builtin; refine wpList_append_run rfl rfl HAP.out rfl rfl ?_)
      go_roundw
      case rel => exact ⟨j + 1, by omega, by omega, by go_num, by rw [HR1.out]; exact hown2, hbel'⟩
      case measure => simp [intOf]; omega
    · have hall : l.take j = l.take 20 := by
        rcases (by omega : j = 20 ∨ j = q) with e | e
        · rw [e]
        · have e2 := HL.out
          rw [List.take_of_length_le (by omega), List.take_of_length_le (by omega)]
      have hcase : (decide (j < q) = false) ∨ (decide (j < q) = true ∧ decide ((j : Int) < 20) = false) := by
        by_cases e : j < q
        · exact .inr ⟨by rw [decide_eq_true_eq]; exact e, by rw [decide_eq_false_iff_not]; omega⟩
        · exact .inl (by rw [decide_eq_false_iff_not]; exact e)
      have hfl : fewL8 (l.take j) = fewL8 l := by rw [hall]; unfold fewL8; rw [List.take_take]; rfl
      have hlen : (fewL8 l).length = j := by rw [← hfl, fewL8_len]; have := HL.out; simp; omega
      rw [hfl] at hown
      have HLN := Lib.hid hlen
      clear hall hfl hlen hlt
      rcases hcase with d1 | ⟨d1, d2⟩
      all_goals
        go_wp2_with fail
        go_ret
        refine ⟨_, rfl, hbel, ?_⟩
        rw [HLN.out]
        exact hown
theorem i64_nat (n : Nat) (h : n ≤ 9000000000) : -9223372036854775808 ≤ (n : Int) ∧ (n : Int) ≤ 9223372036854775807 := by omega
def ex8 : List Sp := [(1, 1, ⟨#[]⟩), (2, 0, ⟨#[120]⟩), (3, 1, ⟨#[]⟩)]
theorem ex8_1 : whereE ex8 1 = 0 ∧ whereT (tok ex8) 1 = 2 := by decide +kernel
theorem ex8_2 : whereE ex8 2 = 0 ∧ whereT (tok ex8) 2 = 2 := by decide +kernel
theorem ex8_3 : leastE ex8 2 = 0 ∧ leastT (tok ex8) 2 = 1 := by decide +kernel
theorem shown8_c (w : World) [Tab w] : Calls Tryd.prog 7 #[] w fun e w' => e = .returned (.bool true) ∧ Ext w w' := by
  have hrd : Rd (w.alloc (.cells #[.int .i64 1, .int .i64 1, .string ⟨#[]⟩, .int .i64 2, .int .i64 0, .string ⟨#[120]⟩, .int .i64 3, .int .i64 1, .string ⟨#[]⟩] 43)) 3 (.slice (some ⟨w.heap.size, 0, none⟩) 3 3) 3 (spCells ex8) :=
    (Own.made w w.heap.size 43 3 3 _ (Nat.le_refl _) (by omega) rfl).rd
  have hts : ∀ s ∈ ex8, s.2.2.size ≤ 1000000000 := by
    intro s hs
    simp only [ex8, List.mem_cons, List.not_mem_nil, or_false] at hs
    rcases hs with rfl | rfl | rfl <;> decide
  have HX := Lib.hid ((Ext.refl w).alloc (.cells #[.int .i64 1, .int .i64 1, .string ⟨#[]⟩, .int .i64 2, .int .i64 0, .string ⟨#[120]⟩, .int .i64 3, .int .i64 1, .string ⟨#[]⟩] 43))
  have v1 : whereV ex8 1 = .tuple #[.int .i64 2, .int .i64 0] := by unfold whereV; rw [ex8_1.1]; show Value.tuple #[.int .i64 ((whereT (tok ex8) 1 : Nat) : Int), _] = _; rw [ex8_1.2]; rfl
  have v2 : whereV ex8 2 = .tuple #[.int .i64 2, .int .i64 0] := by unfold whereV; rw [ex8_2.1]; show Value.tuple #[.int .i64 ((whereT (tok ex8) 2 : Nat) : Int), _] = _; rw [ex8_2.2]; rfl
  have v3 : leastV ex8 2 = .tuple #[.int .i64 1, .int .i64 0] := by unfold leastV; rw [ex8_3.1]; show Value.tuple #[.int .i64 ((leastT (tok ex8) 2 : Nat) : Int), _] = _; rw [ex8_3.2]; rfl
  have hW : ∀ (g : Int) (h0 : -9223372036854775808 ≤ g) (h1 : g ≤ 9223372036854775807) w', Ext (w.alloc (.cells #[.int .i64 1, .int .i64 1, .string ⟨#[]⟩, .int .i64 2, .int .i64 0, .string ⟨#[120]⟩, .int .i64 3, .int .i64 1, .string ⟨#[]⟩] 43)) w' → _ := fun g h0 h1 w' hx => have hTb := tab_ext (HX.out.trans hx); whereP_c _ _ _ ex8 g w' (hrd.ext hx) rfl (by omega) hts (by decide) h0 h1
  have hL : ∀ (g : Int) (h0 : -9223372036854775808 ≤ g) (h1 : g ≤ 9223372036854775807) w', Ext (w.alloc (.cells #[.int .i64 1, .int .i64 1, .string ⟨#[]⟩, .int .i64 2, .int .i64 0, .string ⟨#[120]⟩, .int .i64 3, .int .i64 1, .string ⟨#[]⟩] 43)) w' → _ := fun g h0 h1 w' hx => have hTb := tab_ext (HX.out.trans hx); leastP_c _ _ _ ex8 g w' (hrd.ext hx) rfl (by omega) hts (by decide) h0 h1
  have HW1 := hW 1 (by omega) (by omega)
  have HW2 := hW 2 (by omega) (by omega)
  have HL2 := hL 2 (by omega) (by omega)
  rw [v1] at HW1; rw [v2] at HW2; rw [v3] at HL2
  replace HW1 := Lib.hid HW1; replace HW2 := Lib.hid HW2; replace HL2 := Lib.hid HL2
  clear hrd hts hW hL v1 v2 v3
  go_enter Tryd.func7, Tryd.ntmps7
  go_wp2_with fail
  refine (HW1.out _ (Ext.refl _)).mono ?_; rintro e w1 ⟨rfl, hx1⟩
  go_wp2_with fail
  refine (HW2.out _ hx1).mono ?_; rintro e w2 ⟨rfl, hx2⟩
  go_wp2_with fail
  refine (HL2.out _ (hx1.trans hx2)).mono ?_; rintro e w3 ⟨rfl, hx3⟩
  go_wp2_with fail
  go_ret
  exact ⟨rfl, HX.out.trans ((hx1.trans hx2).trans hx3)⟩
end Go.Proofs.YtapkfmcbphljcaaDoor
