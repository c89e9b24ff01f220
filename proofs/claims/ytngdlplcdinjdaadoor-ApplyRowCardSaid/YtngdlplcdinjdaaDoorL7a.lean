/- Layer 7, the statements' own functions: shown, few; texts that are made. -/
import Derived.Test.YtngdlplcdinjdaaDoorP7b
import Derived.Test.YtngdlplcdinjdaaDoorC1h
import Derived.Test.YtngdlplcdinjdaaDoorC1g
import Derived.Test.YtngdlplcdinjdaaDoorFr
namespace Go.Proofs.YtngdlplcdinjdaaDoor
open Go.RowKit
set_option maxRecDepth 100000
set_option maxHeartbeats 2000000
/-- A string is cut, and made a text. -/
theorem cut_fit (s : ByteArray) (k : Nat) (K : Int) (hK : K = k) (hk : k ≤ 1000) (hs : s.size ≤ maxLen) : ∃ (T : Nat) (cs : List Nat), min (s.size : Int) K = (T : Int) ∧ (if K < (s.size : Int) then K else (s.size : Int)) = (T : Int) ∧ (T : Int) ≤ (s.size : Int) ∧ (0 : Int) ≤ (T : Int) ∧ s.size ≤ 9223372036854775807 ∧
    Hid (∀ w', Calls Tryd.prog 13 #[.string (s.extract 0 T)] w' fun e w'' => e = .returned (.string (mkS (encs cs))) ∧ Ext w' w'') ∧ Hid (∀ c ∈ cs, IsCp c) ∧ cs.length ≤ k ∧ (mkS (encs cs)).size ≤ 4 * k ∧ Hid (dec (bs (mkS (encs cs))) = some cs) := by
  unfold maxLen at hs
  have hz : (s.extract 0 (min s.size k)).size ≤ k := by simp; omega
  have hcp := fitC_cp (bs (s.extract 0 (min s.size k)))
  have hl : (fitC (bs (s.extract 0 (min s.size k)))).length ≤ k := by rw [fitC_length, bs_length]; exact hz
  refine ⟨min s.size k, fitC (bs (s.extract 0 (min s.size k))), by omega, by split <;> omega, by omega, by omega, by omega, Lib.hid fun w' => fit_c _ w' (by omega), Lib.hid hcp, hl, ?_, Lib.hid (by rw [bs_mkS, dec_encs hcp])⟩
  rw [size_mkS]
  have := encs_le (fitC (bs (s.extract 0 (min s.size k)))); omega
/-- An operation that is made for a text: what it gives. -/
theorem to_fit (l : List Sp) (cs : List Nat) (U : ByteArray) (hU : dec (bs U) = some cs) (hn : cs.length ≤ 1000) : toV (fitL l cs.length) U = .tuple #[.string (mkS (encs (apT (tok (fitL l cs.length)) cs))), .int .i64 0] := by
  obtain ⟨h1, h2⟩ := fitL_all l (cs.length : Int) (by omega) (by omega)
  obtain ⟨g1, g2⟩ := to_ok (l := fitL l cs.length) (s := U) (fitL_may l (cs.length : Int) (by omega) (by omega)) hU (by rw [h2])
  unfold toV
  rw [g1, g2]
theorem cnt_U (cs : List Nat) (U : ByteArray) (hU : dec (bs U) = some cs) : cntF (bs U) = (cs.length : Int) := cntF_some hU
def cut60b (s : ByteArray) : ByteArray := s.extract 0 (min s.size 60)
theorem cut60b_size (s : ByteArray) : (cut60b s).size ≤ 60 := by simp [cut60b]; omega
def fewL7 (l : List Sp) : List Sp := (l.take 20).map fun s => (s.1, s.2.1, cut60b s.2.2)
theorem fewL7_take (l : List Sp) (j : Nat) (h : j < l.length) (h20 : j < 20) : fewL7 (l.take (j + 1)) = fewL7 (l.take j) ++ [(l[j].1, l[j].2.1, cut60b l[j].2.2)] := by
  unfold fewL7
  have e1 : (l.take (j + 1)).take 20 = l.take (j + 1) := List.take_of_length_le (by rw [List.length_take]; omega)
  have e2 : (l.take j).take 20 = l.take j := List.take_of_length_le (by rw [List.length_take]; omega)
  rw [e1, e2, List.take_add_one, List.getElem?_eq_getElem h, List.map_append]
  rfl
theorem fewL7_size (l : List Sp) : ∀ s ∈ fewL7 l, s.2.2.size ≤ 60 := by
  intro s hs
  obtain ⟨x, _, rfl⟩ := List.mem_map.1 hs
  exact cut60b_size _
theorem fewL7_len (l : List Sp) : (fewL7 l).length = min 20 l.length := by simp [fewL7]
theorem few7_c (A : Option Addr) (q c : Nat) (l : List Sp) (w : World) (h : Rd w 3 (.slice A q c) q (spCells l)) (hl : l.length = q) (hs : ∀ s ∈ l, s.2.2.size ≤ maxLen) :
    Calls Tryd.prog 11 #[.slice A q c] w fun e w' => ∃ v, e = .returned v ∧ Ext w w' ∧ Own w' w.heap.size 53 3 v (fewL7 l).length (spCells (fewL7 l)) := by
  obtain ⟨i, hi, hz0, hz1, hz2⟩ := info_parts info_sp5
  have H := Lib.hid h; have HL := Lib.hid hl; have HS := Lib.hid hs
  have hrel0 : Own (w.alloc (.cells #[] 53)) w.heap.size 53 3 (.slice (some ⟨w.heap.size, 0, none⟩) 0 0) 0 (spCells []) ∧ Below w.heap.size w (w.alloc (.cells #[] 53)) :=
    ⟨Own.made w w.heap.size 53 3 0 #[] (Nat.le_refl _) (by omega) rfl, (Below.refl _ _).alloc (Nat.le_refl _) _⟩
  have HR0 := Lib.hid hrel0
  clear h hl hs hrel0
  go_enter Tryd.func11, Tryd.ntmps11
  go_wp2_with fail
  go_loopw [3, 4] (fun o z wr => ∃ j : Nat, j ≤ q ∧ j ≤ 20 ∧ z = .int .i64 j ∧ Own wr w.heap.size 53 3 o j (spCells (fewL7 (l.take j))) ∧ Below w.heap.size w wr) (fun _ z _ => 20 - (intOf z).toNat)
  case atStart => exact ⟨0, by omega, by omega, rfl, HR0.out.1, HR0.out.2⟩
  case round =>
    obtain ⟨j, hj, hj20, rfl, hown, hbel⟩ := hrel
    by_cases hlt : j < q ∧ j < 20
    · have hjl : j < l.length := by have := HL.out; omega
      obtain ⟨b, off, rfl, hb, q0, q1, q2⟩ := sp_at (H.out.ext hbel) HL.out hlt.1
      have dn : decide (j < q) = true := by rw [decide_eq_true_eq]; exact hlt.1
      have d20 : decide ((j : Int) < 20) = true := by rw [decide_eq_true_eq]; omega
      have i0 : (0 : Int) ≤ (j : Int) := by omega
      have i1 : (j : Int) < (q : Int) := by omega
      have hsz : l[j].2.2.size ≤ maxLen := HS.out _ (List.getElem_mem hjl)
      have hst := fewL7_take l j hjl hlt.2
      obtain ⟨R1, hR1⟩ : ∃ R1, fewL7 (l.take (j + 1)) = R1 := ⟨_, rfl⟩
      rw [hR1] at hst
      generalize fewL7 (l.take j) = xs at *
      generalize l[j].1 = a1 at *
      generalize l[j].2.1 = a2 at *
      generalize l[j].2.2 = a3 at *
      unfold maxLen at hsz
      have hm : (min (a3.size : Int) 60).toNat = min a3.size 60 := by omega
      have HST := Lib.hid hst; have HR1 := Lib.hid hR1; have HM := Lib.hid hm
      clear hst hR1 hm
      have hX : a3.extract 0 (min (a3.size : Int) 60).toNat = cut60b a3 := by rw [HM.out]; rfl
      have hbx := hbel.alloc hown.2 (.cells #[.int .i64 a1, .int .i64 a2, .string (a3.extract 0 (min (a3.size : Int) 60).toNat)] 53)
      have hox := hown.alloc (.cells #[.int .i64 a1, .int .i64 a2, .string (a3.extract 0 (min (a3.size : Int) 60).toNat)] 53)
      obtain ⟨v', w', happ, hown', hbel'⟩ := app_new (P := Tryd.prog) 22 22 53 i _ 3 32 Tryd.underlying22 hi hz0 hz1 hz2 rfl (by omega) (by omega)
        hbx hox (by omega) 1 #[.int .i64 a1, .int .i64 a2, .string (a3.extract 0 (min (a3.size : Int) 60).toNat)] rfl (by omega) (by simp [Value.oneCell']) 53
      rw [size_alloc] at happ
      have HAP := Lib.hid happ
      have hown2 : Own w' w.heap.size 53 3 v' (j + 1) (spCells R1) := by rw [HST.out, spCells_append, ← hX]; exact hown'
      clear happ hX hbx hox hown'
      go_wp2_with (at_builtin; refine wpList_append_run rfl rfl HAP.out rfl rfl ?_)
      go_roundw
      case rel => exact ⟨j + 1, by omega, by omega, by go_num, by rw [HR1.out]; exact hown2, hbel'⟩
      case measure => simp [intOf]; omega
    · have hall : l.take j = l.take 20 := by
        rcases (by omega : j = 20 ∨ j = q) with e | e
        · rw [e]
        · have e2 := HL.out
          rw [List.take_of_length_le (by omega), List.take_of_length_le (by omega)]
      have hcase : (decide (j < q) = false) ∨ (decide (j < q) = true ∧ decide ((j : Int) < 20) = false) := by
        by_cases e : j < q
        · exact .inr ⟨by rw [decide_eq_true_eq]; exact e, by rw [decide_eq_false_iff_not]; omega⟩
        · exact .inl (by rw [decide_eq_false_iff_not]; exact e)
      have hfl : fewL7 (l.take j) = fewL7 l := by rw [hall]; unfold fewL7; rw [List.take_take]; rfl
      have hlen : (fewL7 l).length = j := by rw [← hfl, fewL7_len]; have := HL.out; simp; omega
      rw [hfl] at hown
      have HLN := Lib.hid hlen
      clear hall hfl hlen hlt
      rcases hcase with d1 | ⟨d1, d2⟩
      all_goals
        go_wp2_with fail
        go_ret
        refine ⟨_, rfl, hbel, ?_⟩
        rw [HLN.out]
        exact hown
def ex7 : List Sp := [(1, 1, ⟨#[]⟩), (3, 1, ⟨#[]⟩), (2, 0, ⟨#[120]⟩), (1, 1, ⟨#[]⟩)]
theorem ex7_e : toE ex7 ⟨#[97, 98, 99]⟩ = 0 := by decide +kernel
theorem ex7_s : toS ex7 ⟨#[97, 98, 99]⟩ = ⟨#[97, 120, 99]⟩ := by decide +kernel
theorem ex7_n : (dec (bs ⟨#[97, 98, 99]⟩)).isSome = true := by decide +kernel
theorem shown7_c (w : World) [Tab w] : Calls Tryd.prog 9 #[] w fun e w' => e = .returned (.bool true) ∧ Ext w w' := by
  have hrd : Rd (w.alloc (.cells #[.int .i64 1, .int .i64 1, .string ⟨#[]⟩, .int .i64 3, .int .i64 1, .string ⟨#[]⟩, .int .i64 2, .int .i64 0, .string ⟨#[120]⟩, .int .i64 1, .int .i64 1, .string ⟨#[]⟩] 53)) 3 (.slice (some ⟨w.heap.size, 0, none⟩) 4 4) 4 (spCells ex7) :=
    (Own.made w w.heap.size 53 3 4 _ (Nat.le_refl _) (by omega) rfl).rd
  have hts : ∀ s ∈ ex7, s.2.2.size ≤ 1000000000 := by
    intro s hs
    simp only [ex7, List.mem_cons, List.not_mem_nil, or_false] at hs
    rcases hs with rfl | rfl | rfl | rfl <;> decide
  have hg := to_c _ _ _ ex7 ⟨#[97, 98, 99]⟩ _ hrd rfl (by omega) hts (by decide) (by decide)
  unfold toV at hg
  rw [ex7_e, ex7_s] at hg
  have HG := Lib.hid hg
  have HX := Lib.hid ((Ext.refl w).alloc (.cells #[.int .i64 1, .int .i64 1, .string ⟨#[]⟩, .int .i64 3, .int .i64 1, .string ⟨#[]⟩, .int .i64 2, .int .i64 0, .string ⟨#[120]⟩, .int .i64 1, .int .i64 1, .string ⟨#[]⟩] 53))
  have HA : Hid (∀ (w' : World) [Tab w'], Calls Tryd.prog 17 #[.string ⟨#[97, 98, 99]⟩, .slice none 0 0] w' fun e w'' => e = .returned (.tuple #[.string ⟨#[97, 98, 99]⟩, .int .i64 0]) ∧ Ext w' w'') := Lib.hid fun w' _ => by
    have h := all_c none 0 0 [] ⟨#[97, 98, 99]⟩ w' (RdSS.nil w') (by simp) (by simp) (by decide) (by omega)
    have e : allV ⟨#[97, 98, 99]⟩ [] = .tuple #[.string ⟨#[97, 98, 99]⟩, .int .i64 0] := by
      unfold allV allR
      rw [if_neg]
      · rfl
      · rintro ⟨_, h2⟩
        have := ex7_n
        rw [h2] at this; cases this
    rw [e] at h
    exact h
  clear hrd hts hg
  go_enter Tryd.func9, Tryd.ntmps9
  go_wp2_with fail
  refine HG.out.mono ?_; rintro e w1 ⟨rfl, hx1⟩
  have ht1 := tab_ext (HX.out.trans hx1)
  go_wp2_with fail
  refine (HA.out _).mono ?_; rintro e w2 ⟨rfl, hx2⟩
  go_wp2_with fail
  go_ret
  exact ⟨rfl, (HX.out.trans hx1).trans hx2⟩
end Go.Proofs.YtngdlplcdinjdaaDoor
