/- Layer 14, the statements' own functions: few, fewOf, shown. -/
import Derived.Lib.SlBytesConst
import Derived.Test.YtggoimakbadbkaaDoorC14
import Derived.Test.YtggoimakbadbkaaDoorP14
import Derived.Test.YtggoimakbadbkaaDoorG9
import Derived.Test.YtggoimakbadbkaaDoorFr
import Derived.Test.YtggoimakbadbkaaDoorC5
import Derived.Test.YtggoimakbadbkaaDoorL6b
namespace Go.Proofs.YtggoimakbadbkaaDoor
open Go.RowKit
set_option maxRecDepth 100000
set_option maxHeartbeats 4000000
def cut60i (s : ByteArray) : ByteArray := s.extract 0 (min s.size 60)
theorem cut60i_size (s : ByteArray) : (cut60i s).size ≤ 60 := by simp [cut60i]; omega
def fewL14 (l : List Sp) : List Sp := (l.take 20).map fun s => (s.1, s.2.1, cut60i s.2.2)
theorem fewL14_take (l : List Sp) (j : Nat) (h : j < l.length) (h20 : j < 20) : fewL14 (l.take (j + 1)) = fewL14 (l.take j) ++ [(l[j].1, l[j].2.1, cut60i l[j].2.2)] := by
  unfold fewL14
  have e1 : (l.take (j + 1)).take 20 = l.take (j + 1) := List.take_of_length_le (by rw [List.length_take]; omega)
  have e2 : (l.take j).take 20 = l.take j := List.take_of_length_le (by rw [List.length_take]; omega)
  rw [e1, e2, List.take_add_one, List.getElem?_eq_getElem h, List.map_append]
  rfl
theorem fewL14_size (l : List Sp) : ∀ s ∈ fewL14 l, s.2.2.size ≤ 60 := by
  intro s hs
  obtain ⟨x, _, rfl⟩ := List.mem_map.1 hs
  exact cut60i_size _
theorem fewL14_len (l : List Sp) : (fewL14 l).length = min 20 l.length := by simp [fewL14]
theorem few14_c (A : Option Addr) (q c : Nat) (l : List Sp) (w : World) (h : Rd w 3 (.slice A q c) q (spCells l)) (hl : l.length = q) (hs : ∀ s ∈ l, s.2.2.size ≤ maxLen) :
    Calls Tryd.prog 10 #[.slice A q c] w fun e w' => ∃ v, e = .returned v ∧ Ext w w' ∧ Own w' w.heap.size 40 3 v (fewL14 l).length (spCells (fewL14 l)) := by
  obtain ⟨i, hi, hz0, hz1, hz2⟩ := info_parts info_sp5
  have H := Lib.hid h; have HL := Lib.hid hl; have HS := Lib.hid hs
  have hrel0 : Own (w.alloc (.cells #[] 40)) w.heap.size 40 3 (.slice (some ⟨w.heap.size, 0, none⟩) 0 0) 0 (spCells []) ∧ Below w.heap.size w (w.alloc (.cells #[] 40)) :=
    ⟨Own.made w w.heap.size 40 3 0 #[] (Nat.le_refl _) (by omega) rfl, (Below.refl _ _).alloc (Nat.le_refl _) _⟩
  have HR0 := Lib.hid hrel0
  clear h hl hs hrel0
  go_enter Tryd.func10, Tryd.ntmps10
  go_wp2_with fail
  go_loopw [3, 4] (fun o z wr => ∃ j : Nat, j ≤ q ∧ j ≤ 20 ∧ z = .int .i64 j ∧ Own wr w.heap.size 40 3 o j (spCells (fewL14 (l.take j))) ∧ Below w.heap.size w wr) (fun _ z _ => 20 - (intOf z).toNat)
  case atStart => exact ⟨0, by omega, by omega, rfl, HR0.out.1, HR0.out.2⟩
  case round =>
    obtain ⟨j, hj, hj20, rfl, hown, hbel⟩ := hrel
    by_cases hlt : j < q ∧ j < 20
    · have hjl : j < l.length := by have := HL.out; omega
      obtain ⟨b, off, rfl, hb, q0, q1, q2⟩ := sp_at (H.out.ext hbel) HL.out hlt.1
      have dn : decide (j < q) = true := by rw [decide_eq_true_eq]; exact hlt.1
      have d20 : decide ((j : Int) < 20) = true := by rw [decide_eq_true_eq]; omega
      have i0 : (0 : Int) ≤ (j : Int) := by omega
      have i1 : (j : Int) < (q : Int) := by omega
      have hsz : l[j].2.2.size ≤ maxLen := HS.out _ (List.getElem_mem hjl)
      have hst := fewL14_take l j hjl hlt.2
      obtain ⟨R1, hR1⟩ : ∃ R1, fewL14 (l.take (j + 1)) = R1 := ⟨_, rfl⟩
      rw [hR1] at hst
      generalize fewL14 (l.take j) = xs at *
      generalize l[j].1 = a1 at *
      generalize l[j].2.1 = a2 at *
      generalize l[j].2.2 = a3 at *
      unfold maxLen at hsz
      have hm : (min (a3.size : Int) 60).toNat = min a3.size 60 := by omega
      have HST := Lib.hid hst; have HR1 := Lib.hid hR1; have HM := Lib.hid hm
      clear hst hR1 hm
      have hX : a3.extract 0 (min (a3.size : Int) 60).toNat = cut60i a3 := by rw [HM.out]; rfl
      have hbx := hbel.alloc hown.2 (.cells #[.int .i64 a1, .int .i64 a2, .string (a3.extract 0 (min (a3.size : Int) 60).toNat)] 40)
      have hox := hown.alloc (.cells #[.int .i64 a1, .int .i64 a2, .string (a3.extract 0 (min (a3.size : Int) 60).toNat)] 40)
      obtain ⟨v', w', happ, hown', hbel'⟩ := app_new (P := Tryd.prog) 22 22 40 i _ 3 32 Tryd.underlying22 hi hz0 hz1 hz2 rfl (by omega) (by omega)
        hbx hox (by omega) 1 #[.int .i64 a1, .int .i64 a2, .string (a3.extract 0 (min (a3.size : Int) 60).toNat)] rfl (by omega) (by simp [Value.oneCell']) 40
      rw [size_alloc] at happ
      have HAP := Lib.hid happ
      have hown2 : Own w' w.heap.size 40 3 v' (j + 1) (spCells R1) := by rw [HST.out, spCells_append, ← hX]; exact hown'
      clear happ hX hbx hox hown'
      go_wp2_with (at_builtin; refine wpList_append_run rfl rfl HAP.out rfl rfl ?_)
      go_roundw
      case rel => exact ⟨j + 1, by omega, by omega, by go_num, by rw [HR1.out]; exact hown2, hbel'⟩
      case measure => simp [intOf]; omega
    · have hall : l.take j = l.take 20 := by
        rcases (by omega : j = 20 ∨ j = q) with e | e
        · rw [e]
        · have e2 := HL.out
          rw [List.take_of_length_le (by omega), List.take_of_length_le (by omega)]
      have hcase : (decide (j < q) = false) ∨ (decide (j < q) = true ∧ decide ((j : Int) < 20) = false) := by
        by_cases e : j < q
        · exact .inr ⟨by rw [decide_eq_true_eq]; exact e, by rw [decide_eq_false_iff_not]; omega⟩
        · exact .inl (by rw [decide_eq_false_iff_not]; exact e)
      have hfl : fewL14 (l.take j) = fewL14 l := by rw [hall]; unfold fewL14; rw [List.take_take]; rfl
      have hlen : (fewL14 l).length = j := by rw [← hfl, fewL14_len]; have := HL.out; simp; omega
      rw [hfl] at hown
      have HLN := Lib.hid hlen
      clear hall hfl hlen hlt
      rcases hcase with d1 | ⟨d1, d2⟩
      all_goals
        go_wp2_with fail
        go_ret
        refine ⟨_, rfl, hbel, ?_⟩
        rw [HLN.out]
        exact hown
theorem few14G (A : Option Addr) (q c : Nat) (l : List Sp) {w w' : World} (h : Rd w 3 (.slice A q c) q (spCells l)) (hl : l.length = q) (hs : ∀ s ∈ l, s.2.2.size ≤ maxLen) (hx : Ext w w') :
    Calls Tryd.prog 10 #[.slice A q c] w' (TellsL w' (fewL14 l)) := by
  refine (few14_c A q c l w' (h.ext hx) hl hs).mono ?_
  rintro e w'' ⟨v, rfl, hx, ho⟩
  obtain ⟨A, n, c, rfl, hr⟩ := rdO_own ho
  exact ⟨hx, A, n, c, rfl, hr⟩
theorem fewOf14_c (A : Option Addr) (n c : Nat) (hc : n ≤ c) (hn : n ≤ maxLen) (w : World) : Calls Tryd.prog 16 #[.slice A n c] w fun e w' => e = .returned (.slice A (min n 200) c) ∧ w = w' := by
  unfold maxLen at hn
  by_cases h : n ≤ 200
  · have hmn : min (n : Int) 200 = (n : Int) := by omega
    rw [Nat.min_eq_left h]
    go_enter Tryd.func16, Tryd.ntmps16
    go_wp2_with fail
    go_ret
    exact ⟨rfl, rfl⟩
  · have hmn : min (n : Int) 200 = 200 := by omega
    have h20 : 200 ≤ c := by omega
    rw [Nat.min_eq_right (by omega)]
    go_enter Tryd.func16, Tryd.ntmps16
    go_wp2_with fail
    go_ret
    exact ⟨rfl, rfl⟩
theorem str_run14 (w : World) {v : Value} {n : Nat} {l : List UInt8} (h : Rd w 1 v n (Lib.byteCells l)) : (convert 23 9 v).run Tryd.prog w = .ok (.string (mkS l)) w :=
  run_str (P := Tryd.prog) w 23 9 5 Tryd.underlying23 Tryd.underlying5 Tryd.underlying9 h
theorem rdB_made (w : World) (l : List UInt8) (cur : Array Value) (T : TypeId) {n : Nat} (hc : cur.toList = Lib.byteCells l) (hn : l.length = n) (hb : n ≤ 1000) : Rd (w.alloc (.cells cur T)) 1 (.slice (some ⟨w.heap.size, 0, none⟩) n n) n (Lib.byteCells l) := by
  have hs : cur.size = n * 1 := by rw [← Array.length_toList, hc]; simp [Lib.byteCells, hn]
  have h := (Own.made w w.heap.size T 1 n cur (Nat.le_refl _) (by omega) hs).rd
  rw [hc] at h; exact h
/-- .. of a constant string: the row is marked behind its last cell. -/
theorem rdB_const (w : World) (l : List UInt8) (cur : Array Value) (T : TypeId) {n : Nat} (hc : cur.toList = Lib.byteCells l) (hn : l.length = n) : Rd (w.alloc (.cells cur T (n, n + 1))) 1 (.slice (some ⟨w.heap.size, 0, none⟩) n n) n (Lib.byteCells l) := by
  refine ⟨by simp [Lib.byteCells, hn], _, n, rfl, Nat.le_refl _, fun _ => ⟨w.heap.size, 0, rfl, by simp, fun j u hu => ?_⟩⟩
  rw [cell_of_row (w.alloc (.cells cur T (n, n + 1))) w.heap.size (0 + j) cur T (n, n + 1) (heap_alloc_new w _), Nat.zero_add]
  rw [← hc] at hu
  simpa using hu
theorem takeW_len14 {bl : List UInt8} {E K : Nat} {L : List Sp} (h : takeW bl = (E, L, K)) : L.length ≤ bl.length := by
  by_cases h0 : E = 0
  · subst h0
    obtain ⟨b1, b2, b3, b4, b5, b6, b7⟩ := takeW_some h
    have b8 : (wordsL L).length = K := by rw [b5, List.length_take]; omega
    have b9 : L.length ≤ (wsL L).length := by
      clear b1 b2 b3 b4 b5 h b8
      induction L with
      | nil => exact Nat.zero_le _
      | cons s r ih => rw [wsL_cons, List.length_append, List.length_cons]; have := wS_pos s; omega
    unfold wordsL at b8
    rw [List.length_append] at b8
    omega
  · have h1 := takeW_err bl
    rw [h] at h1
    simp only at h1
    rcases h1 with h1 | ⟨_, h1, _⟩
    · exact absurd h1 h0
    · rw [h1]; exact Nat.zero_le _
def ex14 : List Sp := [(1, 2, ⟨#[]⟩), (2, 0, ⟨#[120]⟩)]
theorem ex14_E : wordE ex14 = 0 := by decide +kernel
theorem ex14_B : wordB ex14 = [2, 9, 6, 120] := by decide +kernel
theorem ex14_T : takeW [2, 9, 6, 120, 33] = (0, ex14, 4) := by decide +kernel
theorem rdO_made14 (w : World) (cur : Array Value) (T : TypeId) {n : Nat} {l : List Sp} (hl : l.length = n) (hc : cur.toList = spCells l) (hs : cur.size = n * 3) (hn : n ≤ 1000) : RdO (w.alloc (.cells cur T)) (some ⟨w.heap.size, 0, none⟩) n n l :=
  ⟨hl, by rw [← hc]; exact (Own.made w w.heap.size T 3 n cur (Nat.le_refl _) (by omega) hs).rd⟩
theorem shown14_c (w : World) [Tab w] : Calls Tryd.prog 9 #[] w fun e w' => e = .returned (.bool true) ∧ Ext w w' := by
  have e0 := (Ext.refl w).alloc (.cells #[.int .i64 1, .int .i64 2, .string ⟨#[]⟩, .int .i64 2, .int .i64 0, .string ⟨#[120]⟩] 40)
  have R0 := Lib.hid (rdO_made14 w #[.int .i64 1, .int .i64 2, .string ⟨#[]⟩, .int .i64 2, .int .i64 0, .string ⟨#[120]⟩] 40 (n := 2) (l := ex14) rfl rfl rfl (by decide))
  have HP : Hid (∀ A w', Ext w w' → RdO w' A 2 2 ex14 → Calls Tryd.prog 11 #[.slice A 2 2] w' fun e w'' => Ext w' w'' ∧ ∃ v, e = .returned (.tuple #[v, .int .i64 0]) ∧ Rd w'' 1 v 4 (Lib.byteCells [2, 9, 6, 120])) := Lib.hid fun A w' hx hr => by
    have hTb := tab_ext hx
    refine (wordPut_c A 2 2 ex14 w' hr (by omega) (by decide +kernel)).mono ?_
    rintro e w'' ⟨hx, v, rfl, ho⟩
    rw [ex14_E]
    rw [ex14_B] at ho
    exact ⟨hx, v, rfl, ho.rd⟩
  have HT : Hid (∀ w', Ext w w' → Calls Tryd.prog 15 #[.slice (some ⟨w'.heap.size, 0, none⟩) 5 5] (w'.alloc (.cells #[.int .u8 2, .int .u8 9, .int .u8 6, .int .u8 120, .int .u8 33] 5 (5, 6))) fun e w'' => Ext (w'.alloc (.cells #[.int .u8 2, .int .u8 9, .int .u8 6, .int .u8 120, .int .u8 33] 5 (5, 6))) w'' ∧ ∃ A n c, e = .returned (.tuple #[.slice A n c, .int .i64 4, .int .i64 0]) ∧ RdO w'' A n c ex14) := Lib.hid fun w' hx => by
    have hTb := tab_ext (hx.alloc (.cells #[.int .u8 2, .int .u8 9, .int .u8 6, .int .u8 120, .int .u8 33] 5 (5, 6)))
    refine (takeWP_c _ 5 5 [2, 9, 6, 120, 33] _ (rdB_const w' _ #[.int .u8 2, .int .u8 9, .int .u8 6, .int .u8 120, .int .u8 33] 5 rfl rfl) (by omega)).mono ?_
    rintro e w'' ⟨hx, A, n, c, rfl, hr⟩
    rw [ex14_T] at hr ⊢
    exact ⟨hx, A, n, c, rfl, hr⟩
  have hcv := fun (W : World) (C : Array Value) (n c : Nat) => Lib.run_convert_bytes_const (P := Tryd.prog) W 23 5 C n c Tryd.underlying23 Tryd.underlying5
  go_enter Tryd.func9, Tryd.ntmps9
  go_wp2_with fail
  refine (HP.out _ _ e0 R0.out).mono ?_; rintro e w1 ⟨hx1, v, rfl, hrd⟩
  have e1 := e0.trans hx1
  replace R0 := Lib.hid (R0.out.ext hx1)
  go_wp2_with fail
  refine (HT.out _ e1).mono ?_; rintro e w2 ⟨hx2, aM, nM, cM, rfl, rM⟩
  have hx3 : Ext w1 w2 := ((Ext.refl w1).alloc _).trans hx2
  have e2 := e1.trans hx3
  replace R0 := Lib.hid (R0.out.ext hx3)
  have RM := Lib.hid rM
  have HS : Hid ((convert 23 9 v).run Tryd.prog w2 = .ok (.string ⟨#[2, 9, 6, 120]⟩) w2) := Lib.hid (str_run14 w2 (hrd.ext hx3))
  clear rM hrd hx1 hx2 hx3
  go_wp2_with (with_reducible refine wpList_convert_run rfl rfl HS.out rfl ?_)
  refine (sameTrueG rfl (by decide) RM.out R0.out).mono ?_; rintro e w3 ⟨rfl, hx4⟩
  go_wp2_with fail
  go_ret
  exact ⟨rfl, e2.trans hx4⟩
end Go.Proofs.YtggoimakbadbkaaDoor
