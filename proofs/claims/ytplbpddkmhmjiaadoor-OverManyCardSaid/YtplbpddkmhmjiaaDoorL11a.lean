/- Layer 11, the statements' own functions: few, spans, shown; what over tells of small operations. -/
import Derived.Test.YtplbpddkmhmjiaaDoorMu
import Derived.Test.YtplbpddkmhmjiaaDoorC11
import Derived.Test.YtplbpddkmhmjiaaDoorP11
import Derived.Test.YtplbpddkmhmjiaaDoorG9
import Derived.Test.YtplbpddkmhmjiaaDoorFr
import Derived.Test.YtplbpddkmhmjiaaDoorC5
import Derived.Test.YtplbpddkmhmjiaaDoorL6b
namespace Go.Proofs.YtplbpddkmhmjiaaDoor
open Go.RowKit
set_option maxRecDepth 100000
set_option maxHeartbeats 4000000
def cut60f (s : ByteArray) : ByteArray := s.extract 0 (min s.size 60)
theorem cut60f_size (s : ByteArray) : (cut60f s).size ≤ 60 := by simp [cut60f]; omega
def fewL11 (l : List Sp) : List Sp := (l.take 20).map fun s => (s.1, s.2.1, cut60f s.2.2)
theorem fewL11_take (l : List Sp) (j : Nat) (h : j < l.length) (h20 : j < 20) : fewL11 (l.take (j + 1)) = fewL11 (l.take j) ++ [(l[j].1, l[j].2.1, cut60f l[j].2.2)] := by
  unfold fewL11
  have e1 : (l.take (j + 1)).take 20 = l.take (j + 1) := List.take_of_length_le (by rw [List.length_take]; omega)
  have e2 : (l.take j).take 20 = l.take j := List.take_of_length_le (by rw [List.length_take]; omega)
  rw [e1, e2, List.take_add_one, List.getElem?_eq_getElem h, List.map_append]
  rfl
theorem fewL11_size (l : List Sp) : ∀ s ∈ fewL11 l, s.2.2.size ≤ 60 := by
  intro s hs
  obtain ⟨x, _, rfl⟩ := List.mem_map.1 hs
  exact cut60f_size _
theorem fewL11_len (l : List Sp) : (fewL11 l).length = min 20 l.length := by simp [fewL11]
theorem few11_c (A : Option Addr) (q c : Nat) (l : List Sp) (w : World) (h : Rd w 3 (.slice A q c) q (spCells l)) (hl : l.length = q) (hs : ∀ s ∈ l, s.2.2.size ≤ maxLen) :
    Calls Tryd.prog 15 #[.slice A q c] w fun e w' => ∃ v, e = .returned v ∧ Ext w w' ∧ Own w' w.heap.size 49 3 v (fewL11 l).length (spCells (fewL11 l)) := by
  obtain ⟨i, hi, hz0, hz1, hz2⟩ := info_parts info_sp5
  have H := Lib.hid h; have HL := Lib.hid hl; have HS := Lib.hid hs
  have hrel0 : Own (w.alloc (.cells #[] 49)) w.heap.size 49 3 (.slice (some ⟨w.heap.size, 0, none⟩) 0 0) 0 (spCells []) ∧ Below w.heap.size w (w.alloc (.cells #[] 49)) :=
    ⟨Own.made w w.heap.size 49 3 0 #[] (Nat.le_refl _) (by omega) rfl, (Below.refl _ _).alloc (Nat.le_refl _) _⟩
  have HR0 := Lib.hid hrel0
  clear h hl hs hrel0
  go_enter Tryd.func15, Tryd.ntmps15
  go_wp2_with fail
  go_loopw [3, 4] (fun o z wr => ∃ j : Nat, j ≤ q ∧ j ≤ 20 ∧ z = .int .i64 j ∧ Own wr w.heap.size 49 3 o j (spCells (fewL11 (l.take j))) ∧ Below w.heap.size w wr) (fun _ z _ => 20 - (intOf z).toNat)
  case atStart => exact ⟨0, by omega, by omega, rfl, HR0.out.1, HR0.out.2⟩
  case round =>
    obtain ⟨j, hj, hj20, rfl, hown, hbel⟩ := hrel
    by_cases hlt : j < q ∧ j < 20
    · have hjl : j < l.length := by have := HL.out; omega
      obtain ⟨b, off, rfl, hb, q0, q1, q2⟩ := sp_at (H.out.ext hbel) HL.out hlt.1
      have dn : decide (j < q) = true := by rw [decide_eq_true_eq]; exact hlt.1
      have d20 : decide ((j : Int) < 20) = true := by rw [decide_eq_true_eq]; omega
      have i0 : (0 : Int) ≤ (j : Int) := by omega
      have i1 : (j : Int) < (q : Int) := by omega
      have hsz : l[j].2.2.size ≤ maxLen := HS.out _ (List.getElem_mem hjl)
      have hst := fewL11_take l j hjl hlt.2
      obtain ⟨R1, hR1⟩ : ∃ R1, fewL11 (l.take (j + 1)) = R1 := ⟨_, rfl⟩
      rw [hR1] at hst
      generalize fewL11 (l.take j) = xs at *
      generalize l[j].1 = a1 at *
      generalize l[j].2.1 = a2 at *
      generalize l[j].2.2 = a3 at *
      unfold maxLen at hsz
      have hm : (min (a3.size : Int) 60).toNat = min a3.size 60 := by omega
      have HST := Lib.hid hst; have HR1 := Lib.hid hR1; have HM := Lib.hid hm
      clear hst hR1 hm
      have hX : a3.extract 0 (min (a3.size : Int) 60).toNat = cut60f a3 := by rw [HM.out]; rfl
      have hbx := hbel.alloc hown.2 (.cells #[.int .i64 a1, .int .i64 a2, .string (a3.extract 0 (min (a3.size : Int) 60).toNat)] 49)
      have hox := hown.alloc (.cells #[.int .i64 a1, .int .i64 a2, .string (a3.extract 0 (min (a3.size : Int) 60).toNat)] 49)
      obtain ⟨v', w', happ, hown', hbel'⟩ := app_new (P := Tryd.prog) 22 22 49 i _ 3 32 Tryd.underlying22 hi hz0 hz1 hz2 rfl (by omega) (by omega)
        hbx hox (by omega) 1 #[.int .i64 a1, .int .i64 a2, .string (a3.extract 0 (min (a3.size : Int) 60).toNat)] rfl (by omega) (by simp [Value.oneCell']) 49
      rw [size_alloc] at happ
      have HAP := Lib.hid happ
      have hown2 : Own w' w.heap.size 49 3 v' (j + 1) (spCells R1) := by rw [HST.out, spCells_append, ← hX]; exact hown'
      clear happ hX hbx hox hown'
      go_wp2_with (at_builtin; refine wpList_append_run rfl rfl HAP.out rfl rfl ?_)
      go_roundw
      case rel => exact ⟨j + 1, by omega, by omega, by go_num, by rw [HR1.out]; exact hown2, hbel'⟩
      case measure => simp [intOf]; omega
    · have hall : l.take j = l.take 20 := by
        rcases (by omega : j = 20 ∨ j = q) with e | e
        · rw [e]
        · have e2 := HL.out
          rw [List.take_of_length_le (by omega), List.take_of_length_le (by omega)]
      have hcase : (decide (j < q) = false) ∨ (decide (j < q) = true ∧ decide ((j : Int) < 20) = false) := by
        by_cases e : j < q
        · exact .inr ⟨by rw [decide_eq_true_eq]; exact e, by rw [decide_eq_false_iff_not]; omega⟩
        · exact .inl (by rw [decide_eq_false_iff_not]; exact e)
      have hfl : fewL11 (l.take j) = fewL11 l := by rw [hall]; unfold fewL11; rw [List.take_take]; rfl
      have hlen : (fewL11 l).length = j := by rw [← hfl, fewL11_len]; have := HL.out; simp; omega
      rw [hfl] at hown
      have HLN := Lib.hid hlen
      clear hall hfl hlen hlt
      rcases hcase with d1 | ⟨d1, d2⟩
      all_goals
        go_wp2_with fail
        go_ret
        refine ⟨_, rfl, hbel, ?_⟩
        rw [HLN.out]
        exact hown
theorem few11G (A : Option Addr) (q c : Nat) (l : List Sp) {w w' : World} (h : Rd w 3 (.slice A q c) q (spCells l)) (hl : l.length = q) (hs : ∀ s ∈ l, s.2.2.size ≤ maxLen) (hx : Ext w w') :
    Calls Tryd.prog 15 #[.slice A q c] w' (TellsL w' (fewL11 l)) := by
  refine (few11_c A q c l w' (h.ext hx) hl hs).mono ?_
  rintro e w'' ⟨v, rfl, hx, ho⟩
  obtain ⟨A, n, c, rfl, hr⟩ := rdO_own ho
  exact ⟨hx, A, n, c, rfl, hr⟩
/-- An operation of a letter and a number each; what is put is the letter. -/
def sp11 (s : ByteArray) (i : Nat) : Sp := if nth (bs s) (2 * i) = 107 then (1, ((nth (bs s) (2 * i + 1) - 48 : Nat) : Int), ⟨#[]⟩) else if nth (bs s) (2 * i) = 100 then (3, ((nth (bs s) (2 * i + 1) - 48 : Nat) : Int), ⟨#[]⟩) else (2, 0, s.extract (2 * i) (2 * i + 1))
def spV11 (s : ByteArray) (j : Nat) : List Sp := (List.range j).map fun i => sp11 s i
theorem spV11_succ (s : ByteArray) (j : Nat) : spV11 s (j + 1) = spV11 s j ++ [sp11 s j] := by
  unfold spV11; rw [List.range_succ, List.map_append]; rfl
theorem spV11_len (s : ByteArray) (j : Nat) : (spV11 s j).length = j := by simp [spV11]
theorem spans11_c (s : ByteArray) (w : World) (hs : s.size ≤ 1000) (hd : ∀ i, 48 ≤ nth (bs s) (2 * i + 1) ∨ s.size ≤ 2 * i + 1) :
    Calls Tryd.prog 30 #[.string s] w fun e w' => ∃ v, e = .returned v ∧ Ext w w' ∧ Own w' w.heap.size 49 3 v (spV11 s (s.size / 2)).length (spCells (spV11 s (s.size / 2))) := by
  obtain ⟨i, hi, hz0, hz1, hz2⟩ := info_parts info_sp5
  have HD := Lib.hid hd
  have hrel0 : Own (w.alloc (.cells #[] 49)) w.heap.size 49 3 (.slice (some ⟨w.heap.size, 0, none⟩) 0 0) 0 (spCells []) ∧ Below w.heap.size w (w.alloc (.cells #[] 49)) :=
    ⟨Own.made w w.heap.size 49 3 0 #[] (Nat.le_refl _) (by omega) rfl, (Below.refl _ _).alloc (Nat.le_refl _) _⟩
  have HR0 := Lib.hid hrel0
  clear hrel0 hd
  obtain ⟨Z, hZ⟩ : ∃ Z, s.size = Z := ⟨_, rfl⟩
  go_enter Tryd.func30, Tryd.ntmps30
  go_wp2_with fail
  go_loopw [3, 4] (fun o z wr => ∃ j M : Nat, M = 2 * j ∧ M ≤ Z ∧ z = .int .i64 M ∧ Own wr w.heap.size 49 3 o j (spCells (spV11 s j)) ∧ Below w.heap.size w wr) (fun _ z _ => Z + 1 - (intOf z).toNat)
  case atStart => exact ⟨0, 0, rfl, by omega, rfl, HR0.out.1, HR0.out.2⟩
  case round =>
    obtain ⟨j, M, hM, hMZ, rfl, hown, hbel⟩ := hrel
    by_cases hlt : M + 1 < Z
    · have hst := spV11_succ s j
      have hsp0 : sp11 s j = if nth (bs s) M = 107 then (1, ((nth (bs s) (M + 1) - 48 : Nat) : Int), ⟨#[]⟩) else if nth (bs s) M = 100 then (3, ((nth (bs s) (M + 1) - 48 : Nat) : Int), ⟨#[]⟩) else (2, 0, s.extract M (M + 1)) := by unfold sp11; rw [← hM]
      rw [hsp0] at hst
      have h48 : 48 ≤ nth (bs s) (M + 1) := by
        rcases HD.out j with h | h
        · rw [hM]; exact h
        · omega
      have hM0 : M < s.size := by omega
      have hM1 : M + 1 < s.size := by omega
      have hb0 := nth_bs s M hM0
      have hb1 := nth_bs s (M + 1) hM1
      have i0 : (0 : Int) ≤ (M : Int) := by omega
      have i1 : (M : Int) + 1 < (Z : Int) := by omega
      have i2 : (M : Int) < (Z : Int) := by omega
      have i3 : (M : Int) ≤ (M : Int) + 1 := by omega
      have i4 : (M : Int) + 1 ≤ (Z : Int) := by omega
      have l0 : (nth (bs s) M) < 256 := nth_lt _ _
      have l1 : (nth (bs s) (M + 1)) < 256 := nth_lt _ _
      obtain ⟨R1, hR1⟩ : ∃ R1, spV11 s (j + 1) = R1 := ⟨_, rfl⟩
      rw [hR1] at hst
      obtain ⟨a, ha⟩ : ∃ a, nth (bs s) M = a := ⟨_, rfl⟩
      obtain ⟨b, hb⟩ : ∃ b, nth (bs s) (M + 1) = b := ⟨_, rfl⟩
      rw [ha] at hst hb0 l0
      rw [hb] at hst hb1 l1 h48
      obtain ⟨n, hn⟩ : ∃ n : Nat, (b : Int) - 48 = (n : Int) := ⟨b - 48, by omega⟩
      have hnb : b - 48 = n := by omega
      have hb0' := hb0.symm
      have hb1' := hb1.symm
      have hjb : j ≤ 1000 := by omega
      rw [hnb] at hst
      obtain ⟨T, hT⟩ : ∃ T, s.extract M (M + 1) = T := ⟨_, rfl⟩
      rw [hT] at hst
      obtain ⟨S, hS⟩ : ∃ S : Sp, (if a = 107 then (1, (n : Int), (⟨#[]⟩ : ByteArray)) else if a = 100 then (3, (n : Int), ⟨#[]⟩) else (2, 0, T)) = S := ⟨_, rfl⟩
      rw [hS] at hst
      have HST := Lib.hid hst; have HR1 := Lib.hid hR1; have HM := Lib.hid hM
      have hcase : (((a : Int) == 107) = true ∧ S = (1, (n : Int), ⟨#[]⟩)) ∨ (((a : Int) == 107) = false ∧ ((a : Int) == 100) = true ∧ S = (3, (n : Int), ⟨#[]⟩)) ∨ (((a : Int) == 107) = false ∧ ((a : Int) == 100) = false ∧ S = (2, 0, T)) := by
        rw [← hS]
        by_cases e1 : a = 107
        · exact .inl ⟨by rw [beq_iff_eq]; omega, by rw [if_pos e1]⟩
        · by_cases e2 : a = 100
          · exact .inr (.inl ⟨by rw [beq_eq_false_iff_ne]; omega, by rw [beq_iff_eq]; omega, by rw [if_neg e1, if_pos e2]⟩)
          · exact .inr (.inr ⟨by rw [beq_eq_false_iff_ne]; omega, by rw [beq_eq_false_iff_ne]; omega, by rw [if_neg e1, if_neg e2]⟩)
      clear hst hR1 hM hb0 hb1 ha hb hsp0 hS hnb h48
      generalize spV11 s j = xs at *
      rcases hcase with ⟨k1, hsp⟩ | ⟨k1, k2, hsp⟩ | ⟨k1, k2, hsp⟩
      · have HSP := Lib.hid hsp
        clear hsp
        obtain ⟨v', w', happ, hown', hbel'⟩ := app_new (P := Tryd.prog) 22 22 49 i _ 3 32 Tryd.underlying22 hi hz0 hz1 hz2 rfl (by omega) (by omega)
          hbel hown (by omega) 1 #[.int .i64 1, .int .i64 (n : Int), .string ⟨#[]⟩] rfl (by omega) (by simp [Value.oneCell']) 49
        have HAP := Lib.hid happ
        have hown2 : Own w' w.heap.size 49 3 v' (j + 1) (spCells R1) := by rw [HST.out, spCells_append, HSP.out]; exact hown'
        clear happ hown'
        go_wp2_with (at_builtin; refine wpList_append_run rfl rfl HAP.out rfl rfl ?_)
        go_roundw
        case rel => exact ⟨j + 1, M + 2, by have := HM.out; omega, by omega, by go_num, by rw [HR1.out]; exact hown2, hbel'⟩
        case measure => simp [intOf]; omega
      · have HSP := Lib.hid hsp
        clear hsp
        obtain ⟨v', w', happ, hown', hbel'⟩ := app_new (P := Tryd.prog) 22 22 49 i _ 3 32 Tryd.underlying22 hi hz0 hz1 hz2 rfl (by omega) (by omega)
          hbel hown (by omega) 1 #[.int .i64 3, .int .i64 (n : Int), .string ⟨#[]⟩] rfl (by omega) (by simp [Value.oneCell']) 49
        have HAP := Lib.hid happ
        have hown2 : Own w' w.heap.size 49 3 v' (j + 1) (spCells R1) := by rw [HST.out, spCells_append, HSP.out]; exact hown'
        clear happ hown'
        go_wp2_with (at_builtin; refine wpList_append_run rfl rfl HAP.out rfl rfl ?_)
        go_roundw
        case rel => exact ⟨j + 1, M + 2, by have := HM.out; omega, by omega, by go_num, by rw [HR1.out]; exact hown2, hbel'⟩
        case measure => simp [intOf]; omega
      · have HSP := Lib.hid hsp
        clear hsp
        obtain ⟨v', w', happ, hown', hbel'⟩ := app_new (P := Tryd.prog) 22 22 49 i _ 3 32 Tryd.underlying22 hi hz0 hz1 hz2 rfl (by omega) (by omega)
          hbel hown (by omega) 1 #[.int .i64 2, .int .i64 0, .string T] rfl (by omega) (by simp [Value.oneCell']) 49
        have HAP := Lib.hid happ
        have hown2 : Own w' w.heap.size 49 3 v' (j + 1) (spCells R1) := by rw [HST.out, spCells_append, HSP.out]; exact hown'
        clear happ hown'
        go_wp2_with (at_builtin; refine wpList_append_run rfl rfl HAP.out rfl rfl ?_)
        go_roundw
        case rel => exact ⟨j + 1, M + 2, by have := HM.out; omega, by omega, by go_num, by rw [HR1.out]; exact hown2, hbel'⟩
        case measure => simp [intOf]; omega
    · have e1 : spV11 s j = spV11 s (Z / 2) := by rw [show Z / 2 = j by omega]
      have e2 : (spV11 s (Z / 2)).length = j := by rw [spV11_len]; omega
      have HE := Lib.hid e2
      rw [e1] at hown
      have d1 : decide (M + 1 < Z) = false := by rw [decide_eq_false_iff_not]; exact hlt
      clear e1 e2 hM
      go_wp2_with fail
      go_ret
      refine ⟨_, rfl, hbel, ?_⟩
      rw [hZ, HE.out]
      exact hown
/-- What is said of two that take the same. -/
theorem good_over {X Y : List Sp} (gX : Good X) (gY : Good Y) (hf : inL X = inL Y) (hl : X.length + Y.length ≤ 300) (hb : outL Y ≤ 100000) :
    Good (overL X Y) ∧ tok (overL X Y) = overT (tok X) (tok Y) ∧ isN (overL X Y) ∧ inL (overL X Y) = outL Y ∧ (overL X Y).length ≤ X.length + Y.length ∧ sumT (overL X Y) ≤ sumT X := by
  obtain ⟨h1, h2, h3, h4, h5, h6⟩ := overL_all X Y gX.ok gY.ok hf
  have e1 := norm_len X
  have e2 := norm_len Y
  have e3 := gX.txt
  exact ⟨⟨h1, by omega, by omega, by omega⟩, h2, h3, h4, by omega, h6⟩
theorem overG {X Y : List Sp} (gX : Good X) (gY : Good Y) (hf : inL X = inL Y) {w w' : World} [Tab w] (hx : Ext w w') {A B : Option Addr} {n c k d : Nat} (hX : RdO w' A n c X) (hY : RdO w' B k d Y) :
    Calls Tryd.prog 12 #[.slice A n c, .slice B k d] w' (TellsE w' (overL X Y)) := by
  have hTb := tab_ext hx
  have hE : overE X Y = 0 := by unfold overE; rw [if_pos gX.may, if_pos gY.may, if_pos hf]
  have h1 := hX.1; have h2 := hY.1; have h3 := gX.len; have h4 := gY.len; have h5 := gX.txt; have h6 := gY.txt
  refine (overP_c A n c X B k d Y w' hX hY (by omega) (by omega) gX.size gY.size (by omega)).mono ?_
  rintro e w'' ⟨hx, A', n', c', rfl, hr⟩
  rw [hE, if_pos rfl] at hr
  rw [hE]
  exact ⟨hx, A', n', c', rfl, hr⟩
theorem overRG {X Y : List Sp} (gX : Good X) (gY : Good Y) (hf : inL X = inL Y) {w' : World} {A B : Option Addr} {n c k d : Nat} (hX : RdO w' A n c X) (hY : RdO w' B k d Y) :
    Calls Tryd.prog 14 #[.slice A n c, .slice B k d] w' (TellsE w' (overL X Y)) := by
  have hE : overE X Y = 0 := by unfold overE; rw [if_pos gX.may, if_pos gY.may, if_pos hf]
  have h1 := hX.1; have h2 := hY.1; have h3 := gX.len; have h4 := gY.len; have h5 := gX.txt; have h6 := gY.txt
  refine (overR_c A n c X B k d Y w' hX hY (by omega) (by omega) gX.size gY.size (by omega)).mono ?_
  rintro e w'' ⟨hx, A', n', c', rfl, hr⟩
  rw [hE, if_pos rfl] at hr
  rw [hE]
  exact ⟨hx, A', n', c', rfl, hr⟩
theorem digs11 (s : ByteArray) (n : Nat) (h : s.size = 2 * n) (hd : ∀ i, i < n → 48 ≤ nth (bs s) (2 * i + 1)) : ∀ i, 48 ≤ nth (bs s) (2 * i + 1) ∨ s.size ≤ 2 * i + 1 := fun i => by
  by_cases e : i < n
  · exact .inl (hd i e)
  · exact .inr (by omega)
def e11_0 : ByteArray := ⟨#[107, 49, 121, 49, 107, 50]⟩
theorem e11_0_c (w : World) : Calls Tryd.prog 30 #[.string ⟨#[107, 49, 121, 49, 107, 50]⟩] w (TellsL w (spV11 e11_0 3)) := by
  refine (spans11_c e11_0 w (by decide) (digs11 _ 3 rfl (by decide +kernel))).mono ?_
  rintro e w' ⟨v, rfl, hx, ho⟩
  obtain ⟨A, n, c, rfl, hr⟩ := rdO_own ho
  exact ⟨hx, A, n, c, rfl, hr⟩
theorem e11_0_g : Good (spV11 e11_0 3) := ⟨fun s hs => okW_of_may ((by decide +kernel : ∀ s ∈ spV11 e11_0 3, mayS s.1 s.2.1 s.2.2 = 0) s hs), by decide +kernel, by decide +kernel, by decide +kernel⟩
def e11_1 : ByteArray := ⟨#[107, 49, 100, 49, 120, 49, 107, 49]⟩
theorem e11_1_c (w : World) : Calls Tryd.prog 30 #[.string ⟨#[107, 49, 100, 49, 120, 49, 107, 49]⟩] w (TellsL w (spV11 e11_1 4)) := by
  refine (spans11_c e11_1 w (by decide) (digs11 _ 4 rfl (by decide +kernel))).mono ?_
  rintro e w' ⟨v, rfl, hx, ho⟩
  obtain ⟨A, n, c, rfl, hr⟩ := rdO_own ho
  exact ⟨hx, A, n, c, rfl, hr⟩
theorem e11_1_g : Good (spV11 e11_1 4) := ⟨fun s hs => okW_of_may ((by decide +kernel : ∀ s ∈ spV11 e11_1 4, mayS s.1 s.2.1 s.2.2 = 0) s hs), by decide +kernel, by decide +kernel, by decide +kernel⟩
def e11_2 : ByteArray := ⟨#[107, 49, 120, 49, 100, 49, 107, 49]⟩
theorem e11_2_c (w : World) : Calls Tryd.prog 30 #[.string ⟨#[107, 49, 120, 49, 100, 49, 107, 49]⟩] w (TellsL w (spV11 e11_2 4)) := by
  refine (spans11_c e11_2 w (by decide) (digs11 _ 4 rfl (by decide +kernel))).mono ?_
  rintro e w' ⟨v, rfl, hx, ho⟩
  obtain ⟨A, n, c, rfl, hr⟩ := rdO_own ho
  exact ⟨hx, A, n, c, rfl, hr⟩
theorem e11_2_g : Good (spV11 e11_2 4) := ⟨fun s hs => okW_of_may ((by decide +kernel : ∀ s ∈ spV11 e11_2 4, mayS s.1 s.2.1 s.2.2 = 0) s hs), by decide +kernel, by decide +kernel, by decide +kernel⟩
def e11_3 : ByteArray := ⟨#[107, 50, 121, 49, 107, 49]⟩
theorem e11_3_c (w : World) : Calls Tryd.prog 30 #[.string ⟨#[107, 50, 121, 49, 107, 49]⟩] w (TellsL w (spV11 e11_3 3)) := by
  refine (spans11_c e11_3 w (by decide) (digs11 _ 3 rfl (by decide +kernel))).mono ?_
  rintro e w' ⟨v, rfl, hx, ho⟩
  obtain ⟨A, n, c, rfl, hr⟩ := rdO_own ho
  exact ⟨hx, A, n, c, rfl, hr⟩
theorem e11_3_g : Good (spV11 e11_3 3) := ⟨fun s hs => okW_of_may ((by decide +kernel : ∀ s ∈ spV11 e11_3 3, mayS s.1 s.2.1 s.2.2 = 0) s hs), by decide +kernel, by decide +kernel, by decide +kernel⟩
theorem e11_s : overL (spV11 e11_0 3) (spV11 e11_1 4) = spV11 e11_0 3 ∧ overL (spV11 e11_0 3) (spV11 e11_2 4) = spV11 e11_3 3 := by decide +kernel
theorem shown11_c (w : World) [Tab w] : Calls Tryd.prog 11 #[] w fun e w' => e = .returned (.bool true) ∧ Ext w w' := by
  have g0 := Lib.hid e11_0_g; have g1 := Lib.hid e11_1_g; have g2 := Lib.hid e11_2_g
  have f1 : Hid (inL (spV11 e11_0 3) = inL (spV11 e11_1 4)) := Lib.hid (by decide +kernel)
  have f2 : Hid (inL (spV11 e11_0 3) = inL (spV11 e11_2 4)) := Lib.hid (by decide +kernel)
  have hs := Lib.hid e11_s
  have hl1 : Hid ((overL (spV11 e11_0 3) (spV11 e11_1 4)).length ≤ 300) := Lib.hid (by rw [e11_s.1, spV11_len]; omega)
  have hl2 : Hid ((overL (spV11 e11_0 3) (spV11 e11_2 4)).length ≤ 300) := Lib.hid (by rw [e11_s.2, spV11_len]; omega)
  go_enter Tryd.func11, Tryd.ntmps11
  go_wp2_with fail
  refine (e11_0_c _).mono ?_; rintro e w1 ⟨hx1, a0, n0, c0, rfl, r0⟩
  have e1 : Ext w w1 := hx1
  have R0 := Lib.hid r0
  clear hx1 r0
  go_wp2_with fail
  refine (e11_1_c _).mono ?_; rintro e w2 ⟨hx2, a1, n1, c1, rfl, r1⟩
  have e2 : Ext w w2 := e1.trans hx2
  replace R0 := Lib.hid (R0.out.ext hx2)
  have R1 := Lib.hid r1
  clear hx2 r1
  go_wp2_with fail
  refine (overG g0.out g1.out f1.out e2 R0.out R1.out).mono ?_; rintro e w3 ⟨hx3, aA, nA, cA, rfl, rA⟩
  have e3 : Ext w w3 := e2.trans hx3
  replace R0 := Lib.hid (R0.out.ext hx3)
  replace R1 := Lib.hid (R1.out.ext hx3)
  have RA := Lib.hid rA
  clear hx3 rA
  go_wp2_with fail
  refine (e11_0_c _).mono ?_; rintro e w4 ⟨hx4, a2, n2, c2, rfl, r2⟩
  have e4 : Ext w w4 := e3.trans hx4
  replace R0 := Lib.hid (R0.out.ext hx4)
  replace R1 := Lib.hid (R1.out.ext hx4)
  replace RA := Lib.hid (RA.out.ext hx4)
  have R2 := Lib.hid r2
  clear hx4 r2
  go_wp2_with fail
  refine (e11_2_c _).mono ?_; rintro e w5 ⟨hx5, a3, n3, c3, rfl, r3⟩
  have e5 : Ext w w5 := e4.trans hx5
  replace R0 := Lib.hid (R0.out.ext hx5)
  replace R1 := Lib.hid (R1.out.ext hx5)
  replace RA := Lib.hid (RA.out.ext hx5)
  replace R2 := Lib.hid (R2.out.ext hx5)
  have R3 := Lib.hid r3
  clear hx5 r3
  go_wp2_with fail
  refine (overG g0.out g2.out f2.out e5 R2.out R3.out).mono ?_; rintro e w6 ⟨hx6, aB, nB, cB, rfl, rB⟩
  have e6 : Ext w w6 := e5.trans hx6
  replace R0 := Lib.hid (R0.out.ext hx6)
  replace R1 := Lib.hid (R1.out.ext hx6)
  replace RA := Lib.hid (RA.out.ext hx6)
  replace R2 := Lib.hid (R2.out.ext hx6)
  replace R3 := Lib.hid (R3.out.ext hx6)
  have RB := Lib.hid rB
  clear hx6 rB
  go_wp2_with fail
  refine (e11_0_c _).mono ?_; rintro e w7 ⟨hx7, a4, n4, c4, rfl, r4⟩
  have e7 : Ext w w7 := e6.trans hx7
  replace R0 := Lib.hid (R0.out.ext hx7)
  replace R1 := Lib.hid (R1.out.ext hx7)
  replace RA := Lib.hid (RA.out.ext hx7)
  replace R2 := Lib.hid (R2.out.ext hx7)
  replace R3 := Lib.hid (R3.out.ext hx7)
  replace RB := Lib.hid (RB.out.ext hx7)
  have R4 := Lib.hid r4
  clear hx7 r4
  go_wp2_with fail
  refine (sameTrueG hs.out.1 hl1.out RA.out R4.out).mono ?_; rintro e w8 ⟨rfl, hx8⟩
  have e8 : Ext w w8 := e7.trans hx8
  replace R0 := Lib.hid (R0.out.ext hx8)
  replace R1 := Lib.hid (R1.out.ext hx8)
  replace RA := Lib.hid (RA.out.ext hx8)
  replace R2 := Lib.hid (R2.out.ext hx8)
  replace R3 := Lib.hid (R3.out.ext hx8)
  replace RB := Lib.hid (RB.out.ext hx8)
  replace R4 := Lib.hid (R4.out.ext hx8)
  clear hx8
  go_wp2_with fail
  refine (e11_3_c _).mono ?_; rintro e w9 ⟨hx9, a5, n5, c5, rfl, r5⟩
  have e9 : Ext w w9 := e8.trans hx9
  replace R0 := Lib.hid (R0.out.ext hx9)
  replace R1 := Lib.hid (R1.out.ext hx9)
  replace RA := Lib.hid (RA.out.ext hx9)
  replace R2 := Lib.hid (R2.out.ext hx9)
  replace R3 := Lib.hid (R3.out.ext hx9)
  replace RB := Lib.hid (RB.out.ext hx9)
  replace R4 := Lib.hid (R4.out.ext hx9)
  have R5 := Lib.hid r5
  clear hx9 r5
  go_wp2_with fail
  refine (sameTrueG hs.out.2 hl2.out RB.out R5.out).mono ?_; rintro e w10 ⟨rfl, hx10⟩
  have e10 : Ext w w10 := e9.trans hx10
  replace R0 := Lib.hid (R0.out.ext hx10)
  replace R1 := Lib.hid (R1.out.ext hx10)
  replace RA := Lib.hid (RA.out.ext hx10)
  replace R2 := Lib.hid (R2.out.ext hx10)
  replace R3 := Lib.hid (R3.out.ext hx10)
  replace RB := Lib.hid (RB.out.ext hx10)
  replace R4 := Lib.hid (R4.out.ext hx10)
  replace R5 := Lib.hid (R5.out.ext hx10)
  clear hx10
  go_wp2_with fail
  go_ret
  exact ⟨rfl, e10⟩
end Go.Proofs.YtplbpddkmhmjiaaDoor
