/- Layer 9, the statements' own functions: few, spans, puts, shown. -/
import Derived.Test.YtlhhcjhjkameoaaDoorG9
import Derived.Test.YtlhhcjhjkameoaaDoorFr
import Derived.Test.YtlhhcjhjkameoaaDoorC5
import Derived.Test.YtlhhcjhjkameoaaDoorL6b
namespace Go.Proofs.YtlhhcjhjkameoaaDoor
open Go.RowKit
set_option maxRecDepth 100000
set_option maxHeartbeats 4000000
def cut60d (s : ByteArray) : ByteArray := s.extract 0 (min s.size 60)
theorem cut60d_size (s : ByteArray) : (cut60d s).size ≤ 60 := by simp [cut60d]; omega
def fewL9 (l : List Sp) : List Sp := (l.take 20).map fun s => (s.1, s.2.1, cut60d s.2.2)
theorem fewL9_take (l : List Sp) (j : Nat) (h : j < l.length) (h20 : j < 20) : fewL9 (l.take (j + 1)) = fewL9 (l.take j) ++ [(l[j].1, l[j].2.1, cut60d l[j].2.2)] := by
  unfold fewL9
  have e1 : (l.take (j + 1)).take 20 = l.take (j + 1) := List.take_of_length_le (by rw [List.length_take]; omega)
  have e2 : (l.take j).take 20 = l.take j := List.take_of_length_le (by rw [List.length_take]; omega)
  rw [e1, e2, List.take_add_one, List.getElem?_eq_getElem h, List.map_append]
  rfl
theorem fewL9_size (l : List Sp) : ∀ s ∈ fewL9 l, s.2.2.size ≤ 60 := by
  intro s hs
  obtain ⟨x, _, rfl⟩ := List.mem_map.1 hs
  exact cut60d_size _
theorem fewL9_len (l : List Sp) : (fewL9 l).length = min 20 l.length := by simp [fewL9]
theorem few9_c (A : Option Addr) (q c : Nat) (l : List Sp) (w : World) (h : Rd w 3 (.slice A q c) q (spCells l)) (hl : l.length = q) (hs : ∀ s ∈ l, s.2.2.size ≤ maxLen) :
    Calls Tryd.prog 15 #[.slice A q c] w fun e w' => ∃ v, e = .returned v ∧ Ext w w' ∧ Own w' w.heap.size 54 3 v (fewL9 l).length (spCells (fewL9 l)) := by
  obtain ⟨i, hi, hz0, hz1, hz2⟩ := info_parts info_sp5
  have H := Lib.hid h; have HL := Lib.hid hl; have HS := Lib.hid hs
  have hrel0 : Own (w.alloc (.cells #[] 54)) w.heap.size 54 3 (.slice (some ⟨w.heap.size, 0, none⟩) 0 0) 0 (spCells []) ∧ Below w.heap.size w (w.alloc (.cells #[] 54)) :=
    ⟨Own.made w w.heap.size 54 3 0 #[] (Nat.le_refl _) (by omega) rfl, (Below.refl _ _).alloc (Nat.le_refl _) _⟩
  have HR0 := Lib.hid hrel0
  clear h hl hs hrel0
  go_enter Tryd.func15, Tryd.ntmps15
  go_wp2_with fail
  go_loopw [3, 4] (fun o z wr => ∃ j : Nat, j ≤ q ∧ j ≤ 20 ∧ z = .int .i64 j ∧ Own wr w.heap.size 54 3 o j (spCells (fewL9 (l.take j))) ∧ Below w.heap.size w wr) (fun _ z _ => 20 - (intOf z).toNat)
  case atStart => exact ⟨0, by omega, by omega, rfl, HR0.out.1, HR0.out.2⟩
  case round =>
    obtain ⟨j, hj, hj20, rfl, hown, hbel⟩ := hrel
    by_cases hlt : j < q ∧ j < 20
    · have hjl : j < l.length := by have := HL.out; omega
      obtain ⟨b, off, rfl, hb, q0, q1, q2⟩ := sp_at (H.out.ext hbel) HL.out hlt.1
      have dn : decide (j < q) = true := by rw [decide_eq_true_eq]; exact hlt.1
      have d20 : decide ((j : Int) < 20) = true := by rw [decide_eq_true_eq]; omega
      have i0 : (0 : Int) ≤ (j : Int) := by omega
      have i1 : (j : Int) < (q : Int) := by omega
      have hsz : l[j].2.2.size ≤ maxLen := HS.out _ (List.getElem_mem hjl)
      have hst := fewL9_take l j hjl hlt.2
      obtain ⟨R1, hR1⟩ : ∃ R1, fewL9 (l.take (j + 1)) = R1 := ⟨_, rfl⟩
      rw [hR1] at hst
      generalize fewL9 (l.take j) = xs at *
      generalize l[j].1 = a1 at *
      generalize l[j].2.1 = a2 at *
      generalize l[j].2.2 = a3 at *
      unfold maxLen at hsz
      have hm : (min (a3.size : Int) 60).toNat = min a3.size 60 := by omega
      have HST := Lib.hid hst; have HR1 := Lib.hid hR1; have HM := Lib.hid hm
      clear hst hR1 hm
      have hX : a3.extract 0 (min (a3.size : Int) 60).toNat = cut60d a3 := by rw [HM.out]; rfl
      have hbx := hbel.alloc hown.2 (.cells #[.int .i64 a1, .int .i64 a2, .string (a3.extract 0 (min (a3.size : Int) 60).toNat)] 54)
      have hox := hown.alloc (.cells #[.int .i64 a1, .int .i64 a2, .string (a3.extract 0 (min (a3.size : Int) 60).toNat)] 54)
      obtain ⟨v', w', happ, hown', hbel'⟩ := app_new (P := Tryd.prog) 22 22 54 i _ 3 32 Tryd.underlying22 hi hz0 hz1 hz2 rfl (by omega) (by omega)
        hbx hox (by omega) 1 #[.int .i64 a1, .int .i64 a2, .string (a3.extract 0 (min (a3.size : Int) 60).toNat)] rfl (by omega) (by simp [Value.oneCell']) 54
      rw [size_alloc] at happ
      have HAP := Lib.hid happ
      have hown2 : Own w' w.heap.size 54 3 v' (j + 1) (spCells R1) := by rw [HST.out, spCells_append, ← hX]; exact hown'
      clear happ hX hbx hox hown'
      go_wp2_with (at_builtin; refine wpList_append_run rfl rfl HAP.out rfl rfl ?_)
      go_roundw
      case rel => exact ⟨j + 1, by omega, by omega, by go_num, by rw [HR1.out]; exact hown2, hbel'⟩
      case measure => simp [intOf]; omega
    · have hall : l.take j = l.take 20 := by
        rcases (by omega : j = 20 ∨ j = q) with e | e
        · rw [e]
        · have e2 := HL.out
          rw [List.take_of_length_le (by omega), List.take_of_length_le (by omega)]
      have hcase : (decide (j < q) = false) ∨ (decide (j < q) = true ∧ decide ((j : Int) < 20) = false) := by
        by_cases e : j < q
        · exact .inr ⟨by rw [decide_eq_true_eq]; exact e, by rw [decide_eq_false_iff_not]; omega⟩
        · exact .inl (by rw [decide_eq_false_iff_not]; exact e)
      have hfl : fewL9 (l.take j) = fewL9 l := by rw [hall]; unfold fewL9; rw [List.take_take]; rfl
      have hlen : (fewL9 l).length = j := by rw [← hfl, fewL9_len]; have := HL.out; simp; omega
      rw [hfl] at hown
      have HLN := Lib.hid hlen
      clear hall hfl hlen hlt
      rcases hcase with d1 | ⟨d1, d2⟩
      all_goals
        go_wp2_with fail
        go_ret
        refine ⟨_, rfl, hbel, ?_⟩
        rw [HLN.out]
        exact hown
/-- An operation of a letter and a number each. -/
def sp9 (a b : Nat) : Sp := if a = 107 then (1, ((b - 48 : Nat) : Int), ⟨#[]⟩) else if a = 100 then (3, ((b - 48 : Nat) : Int), ⟨#[]⟩) else (2, 0, ⟨#[120]⟩)
def spV9 (s : ByteArray) (j : Nat) : List Sp := (List.range j).map fun i => sp9 (nth (bs s) (2 * i)) (nth (bs s) (2 * i + 1))
theorem spV9_succ (s : ByteArray) (j : Nat) : spV9 s (j + 1) = spV9 s j ++ [sp9 (nth (bs s) (2 * j)) (nth (bs s) (2 * j + 1))] := by
  unfold spV9; rw [List.range_succ, List.map_append]; rfl
theorem spV9_len (s : ByteArray) (j : Nat) : (spV9 s j).length = j := by simp [spV9]
theorem spans9_c (s : ByteArray) (w : World) (hs : s.size ≤ 1000) (hd : ∀ i, 48 ≤ nth (bs s) (2 * i + 1) ∨ s.size ≤ 2 * i + 1) :
    Calls Tryd.prog 31 #[.string s] w fun e w' => ∃ v, e = .returned v ∧ Ext w w' ∧ Own w' w.heap.size 54 3 v (spV9 s (s.size / 2)).length (spCells (spV9 s (s.size / 2))) := by
  obtain ⟨i, hi, hz0, hz1, hz2⟩ := info_parts info_sp5
  have HD := Lib.hid hd
  have hrel0 : Own (w.alloc (.cells #[] 54)) w.heap.size 54 3 (.slice (some ⟨w.heap.size, 0, none⟩) 0 0) 0 (spCells []) ∧ Below w.heap.size w (w.alloc (.cells #[] 54)) :=
    ⟨Own.made w w.heap.size 54 3 0 #[] (Nat.le_refl _) (by omega) rfl, (Below.refl _ _).alloc (Nat.le_refl _) _⟩
  have HR0 := Lib.hid hrel0
  clear hrel0 hd
  obtain ⟨Z, hZ⟩ : ∃ Z, s.size = Z := ⟨_, rfl⟩
  go_enter Tryd.func31, Tryd.ntmps31
  go_wp2_with fail
  go_loopw [3, 4] (fun o z wr => ∃ j M : Nat, M = 2 * j ∧ M ≤ Z ∧ z = .int .i64 M ∧ Own wr w.heap.size 54 3 o j (spCells (spV9 s j)) ∧ Below w.heap.size w wr) (fun _ z _ => Z + 1 - (intOf z).toNat)
  case atStart => exact ⟨0, 0, rfl, by omega, rfl, HR0.out.1, HR0.out.2⟩
  case round =>
    obtain ⟨j, M, hM, hMZ, rfl, hown, hbel⟩ := hrel
    by_cases hlt : M + 1 < Z
    · have hst := spV9_succ s j
      rw [← hM] at hst
      have h48 : 48 ≤ nth (bs s) (M + 1) := by
        rcases HD.out j with h | h
        · rw [hM]; exact h
        · omega
      have hM0 : M < s.size := by omega
      have hM1 : M + 1 < s.size := by omega
      have hb0 := nth_bs s M hM0
      have hb1 := nth_bs s (M + 1) hM1
      have i0 : (0 : Int) ≤ (M : Int) := by omega
      have i1 : (M : Int) + 1 < (Z : Int) := by omega
      have i2 : (M : Int) < (Z : Int) := by omega
      have l0 : (nth (bs s) M) < 256 := nth_lt _ _
      have l1 : (nth (bs s) (M + 1)) < 256 := nth_lt _ _
      obtain ⟨R1, hR1⟩ : ∃ R1, spV9 s (j + 1) = R1 := ⟨_, rfl⟩
      rw [hR1] at hst
      obtain ⟨a, ha⟩ : ∃ a, nth (bs s) M = a := ⟨_, rfl⟩
      obtain ⟨b, hb⟩ : ∃ b, nth (bs s) (M + 1) = b := ⟨_, rfl⟩
      rw [ha] at hst hb0 l0
      rw [hb] at hst hb1 l1 h48
      obtain ⟨n, hn⟩ : ∃ n : Nat, (b : Int) - 48 = (n : Int) := ⟨b - 48, by omega⟩
      have hnb : b - 48 = n := by omega
      have hb0' := hb0.symm
      have hb1' := hb1.symm
      have hjb : j ≤ 1000 := by omega
      have HST := Lib.hid hst; have HR1 := Lib.hid hR1; have HM := Lib.hid hM
      clear hst hR1 hM hb0 hb1 ha hb
      generalize spV9 s j = xs at *
      have hcase : (((a : Int) == 107) = true ∧ sp9 a b = (1, (n : Int), ⟨#[]⟩)) ∨ (((a : Int) == 107) = false ∧ ((a : Int) == 100) = true ∧ sp9 a b = (3, (n : Int), ⟨#[]⟩)) ∨ (((a : Int) == 107) = false ∧ ((a : Int) == 100) = false ∧ sp9 a b = (2, 0, ⟨#[120]⟩)) := by
        unfold sp9
        rw [hnb]
        by_cases e1 : a = 107
        · exact .inl ⟨by rw [beq_iff_eq]; omega, by rw [if_pos e1]⟩
        · by_cases e2 : a = 100
          · exact .inr (.inl ⟨by rw [beq_eq_false_iff_ne]; omega, by rw [beq_iff_eq]; omega, by rw [if_neg e1, if_pos e2]⟩)
          · exact .inr (.inr ⟨by rw [beq_eq_false_iff_ne]; omega, by rw [beq_eq_false_iff_ne]; omega, by rw [if_neg e1, if_neg e2]⟩)
      clear hnb h48
      rcases hcase with ⟨k1, hsp⟩ | ⟨k1, k2, hsp⟩ | ⟨k1, k2, hsp⟩
      · have HSP := Lib.hid hsp
        clear hsp
        obtain ⟨v', w', happ, hown', hbel'⟩ := app_new (P := Tryd.prog) 22 22 54 i _ 3 32 Tryd.underlying22 hi hz0 hz1 hz2 rfl (by omega) (by omega)
          hbel hown (by omega) 1 #[.int .i64 1, .int .i64 (n : Int), .string ⟨#[]⟩] rfl (by omega) (by simp [Value.oneCell']) 54
        have HAP := Lib.hid happ
        have hown2 : Own w' w.heap.size 54 3 v' (j + 1) (spCells R1) := by rw [HST.out, spCells_append, HSP.out]; exact hown'
        clear happ hown'
        go_wp2_with (at_builtin; refine wpList_append_run rfl rfl HAP.out rfl rfl ?_)
        go_roundw
        case rel => exact ⟨j + 1, M + 2, by have := HM.out; omega, by omega, by go_num, by rw [HR1.out]; exact hown2, hbel'⟩
        case measure => simp [intOf]; omega
      · have HSP := Lib.hid hsp
        clear hsp
        obtain ⟨v', w', happ, hown', hbel'⟩ := app_new (P := Tryd.prog) 22 22 54 i _ 3 32 Tryd.underlying22 hi hz0 hz1 hz2 rfl (by omega) (by omega)
          hbel hown (by omega) 1 #[.int .i64 3, .int .i64 (n : Int), .string ⟨#[]⟩] rfl (by omega) (by simp [Value.oneCell']) 54
        have HAP := Lib.hid happ
        have hown2 : Own w' w.heap.size 54 3 v' (j + 1) (spCells R1) := by rw [HST.out, spCells_append, HSP.out]; exact hown'
        clear happ hown'
        go_wp2_with (at_builtin; refine wpList_append_run rfl rfl HAP.out rfl rfl ?_)
        go_roundw
        case rel => exact ⟨j + 1, M + 2, by have := HM.out; omega, by omega, by go_num, by rw [HR1.out]; exact hown2, hbel'⟩
        case measure => simp [intOf]; omega
      · have HSP := Lib.hid hsp
        clear hsp
        obtain ⟨v', w', happ, hown', hbel'⟩ := app_new (P := Tryd.prog) 22 22 54 i _ 3 32 Tryd.underlying22 hi hz0 hz1 hz2 rfl (by omega) (by omega)
          hbel hown (by omega) 1 #[.int .i64 2, .int .i64 0, .string ⟨#[120]⟩] rfl (by omega) (by simp [Value.oneCell']) 54
        have HAP := Lib.hid happ
        have hown2 : Own w' w.heap.size 54 3 v' (j + 1) (spCells R1) := by rw [HST.out, spCells_append, HSP.out]; exact hown'
        clear happ hown'
        go_wp2_with (at_builtin; refine wpList_append_run rfl rfl HAP.out rfl rfl ?_)
        go_roundw
        case rel => exact ⟨j + 1, M + 2, by have := HM.out; omega, by omega, by go_num, by rw [HR1.out]; exact hown2, hbel'⟩
        case measure => simp [intOf]; omega
    · have e1 : spV9 s j = spV9 s (Z / 2) := by rw [show Z / 2 = j by omega]
      have e2 : (spV9 s (Z / 2)).length = j := by rw [spV9_len]; omega
      have HE := Lib.hid e2
      rw [e1] at hown
      have d1 : decide (M + 1 < Z) = false := by rw [decide_eq_false_iff_not]; exact hlt
      clear e1 e2 hM
      go_wp2_with fail
      go_ret
      refine ⟨_, rfl, hbel, ?_⟩
      rw [hZ, HE.out]
      exact hown
theorem insT_text (us : List Nat) : insT (us.map Tok.ins) = us := by
  induction us with
  | nil => rfl
  | cons u us ih => rw [List.map_cons]; show u :: insT _ = _; rw [ih]
theorem insT_keeps (n : Nat) : insT (List.replicate n Tok.keep) = [] := by
  induction n with
  | zero => rfl
  | succ n ih => rw [List.replicate_succ]; exact ih
theorem insT_dels (n : Nat) : insT (List.replicate n Tok.del) = [] := by
  induction n with
  | zero => rfl
  | succ n ih => rw [List.replicate_succ]; exact ih
theorem enc1_pos (c : Nat) : 0 < (enc1 c).length := by
  unfold enc1
  repeat' split
  all_goals simp
theorem encs_ge (cs : List Nat) : cs.length ≤ (encs cs).length := by
  induction cs with
  | nil => exact Nat.le_refl _
  | cons c cs ih => rw [encs_cons, List.length_append, List.length_cons]; have := enc1_pos c; omega
theorem insT_len (ts : List Tok) : (insT ts).length ≤ (encs (insT ts)).length := encs_ge _
theorem dec_len {s : ByteArray} {cs : List Nat} (h : dec (bs s) = some cs) : cs.length ≤ s.size := by
  have h1 := (dec_some h).2
  have h2 := encs_ge cs
  rw [← h1, bs_length] at h2
  exact h2
theorem puts9_c {X : List Sp} (gX : Good X) {A : Option Addr} {q c : Nat} (w : World) (hX : RdO w A q c X) :
    Calls Tryd.prog 23 #[.slice A q c] w fun e w' => e = .returned (.int .i64 (((insT (tok X)).length : Nat) : Int)) ∧ Ext w w' := by
  have H := Lib.hid hX.2; have HL := Lib.hid hX.1; have HG := Lib.hid gX
  have hq : q ≤ 300 := by have := gX.len; have := hX.1; omega
  clear hX gX
  go_enter Tryd.func23, Tryd.ntmps23
  go_wp2_with fail
  go_loopw [3, 4] (fun n z wr => ∃ j m : Nat, j ≤ q ∧ z = .int .i64 j ∧ n = .int .i64 m ∧ m = (insT (tok (X.take j))).length ∧ Ext w wr) (fun _ z _ => q - (intOf z).toNat)
  case atStart => exact ⟨0, 0, by omega, rfl, rfl, rfl, Ext.refl _⟩
  case round =>
    obtain ⟨j, m, hj, rfl, rfl, hm, hxr⟩ := hrel
    by_cases hlt : j < q
    · have hjl : j < X.length := by have := HL.out; omega
      obtain ⟨b, off, rfl, hb, q0, q1, q2⟩ := sp_at (H.out.ext hxr) HL.out hlt
      have dn : decide (j < q) = true := by rw [decide_eq_true_eq]; exact hlt
      have i0 : (0 : Int) ≤ (j : Int) := by omega
      have i1 : (j : Int) < (q : Int) := by omega
      have hmb : m ≤ 100000 := by
        have h1 := insT_len (tok (X.take j))
        have h2 := insT_sum (X.take j) (fun s hs => HG.out.ok s (List.mem_of_mem_take hs))
        have h3 : sumT (X.take j) ≤ sumT X := by
          have := sumT_append (X.take j) (X.drop j)
          rw [List.take_append_drop] at this; omega
        have := HG.out.txt
        omega
      have hst := tok_take X j hjl
      have hmn : (insT (tok (X.take (j + 1)))).length = m + (insT (tokS X[j])).length := by rw [hst, insT_append, List.length_append, hm]
      have ok := HG.out.ok _ (List.getElem_mem hjl)
      have ht := HG.out.size _ (List.getElem_mem hjl)
      obtain ⟨sp, hsp⟩ : ∃ sp, X[j] = sp := ⟨_, rfl⟩
      rw [hsp] at q0 q1 q2 hmn ok ht
      clear hsp hst hm
      obtain ⟨a1, a2, a3⟩ := sp
      simp only at q0 q1 q2 ht
      unfold OkW at ok
      simp only at ok
      rcases ok with ⟨k1, n1, us, hu⟩ | ⟨k1, n1, t1e⟩
      · subst k1
        rw [tokS_text _ _ hu, insT_text] at hmn
        have hcn := count_c a3
        rw [cntF_some hu] at hcn
        have HC := Lib.hid (fun w' => hcn w' ht)
        have HMN := Lib.hid hmn
        have hul : us.length ≤ 1000000000 := by have := dec_len hu; omega
        clear hmn hcn hu
        generalize us.length = U at *
        go_wp2_with fail
        refine (HC.out _).mono ?_; rintro e w1 ⟨rfl, hx1⟩
        go_wp2_with fail
        go_roundw
        case rel => exact ⟨j + 1, m + U, by omega, by go_num, by go_num, HMN.out.symm, hxr.trans hx1⟩
        case measure => simp [intOf]; omega
      · have e0 : insT (tokS (a1, a2, a3)) = [] := by
          rw [tokS_num _ _ _ (by omega)]
          rcases k1 with k1 | k1
          · rw [if_neg (by omega)]; exact insT_keeps _
          · rw [if_pos k1]; exact insT_dels _
        rw [e0] at hmn
        have HMN := Lib.hid hmn
        have hk : (a1 == 2) = false := by rw [beq_eq_false_iff_ne]; omega
        clear hmn e0
        go_wp2_with fail
        go_roundw
        case rel => exact ⟨j + 1, m, by omega, by go_num, rfl, HMN.out.symm, hxr⟩
        case measure => simp [intOf]; omega
    · obtain rfl : j = q := by omega
      have hall : X.take j = X := by rw [← HL.out]; exact List.take_length
      have dn : decide (j < j) = false := by rw [decide_eq_false_iff_not]; omega
      rw [hall] at hm
      have HM := Lib.hid hm
      clear hm hall
      go_wp2_with fail
      go_ret
      rw [HM.out]
      exact ⟨rfl, hxr⟩
theorem digs (s : ByteArray) (n : Nat) (hs : s.size = 2 * n) (h : ∀ i, i < n → 48 ≤ nth (bs s) (2 * i + 1)) : ∀ i, 48 ≤ nth (bs s) (2 * i + 1) ∨ s.size ≤ 2 * i + 1 := by
  intro i
  rcases Nat.lt_or_ge i n with h1 | h1
  · exact .inl (h i h1)
  · exact .inr (by omega)
def e9_0 : ByteArray := ⟨#[107, 50, 112, 49, 107, 49]⟩
theorem e9_0_c (w : World) : Calls Tryd.prog 31 #[.string ⟨#[107, 50, 112, 49, 107, 49]⟩] w (TellsL w (spV9 e9_0 3)) := by
  refine (spans9_c e9_0 w (by decide) (digs _ 3 rfl (by decide +kernel))).mono ?_
  rintro e w' ⟨v, rfl, hx, ho⟩
  obtain ⟨A, n, c, rfl, hr⟩ := rdO_own ho
  exact ⟨hx, A, n, c, rfl, hr⟩
def e9_1 : ByteArray := ⟨#[107, 49, 100, 49, 107, 50]⟩
theorem e9_1_c (w : World) : Calls Tryd.prog 31 #[.string ⟨#[107, 49, 100, 49, 107, 50]⟩] w (TellsL w (spV9 e9_1 3)) := by
  refine (spans9_c e9_1 w (by decide) (digs _ 3 rfl (by decide +kernel))).mono ?_
  rintro e w' ⟨v, rfl, hx, ho⟩
  obtain ⟨A, n, c, rfl, hr⟩ := rdO_own ho
  exact ⟨hx, A, n, c, rfl, hr⟩
def e9_2 : ByteArray := ⟨#[107, 49, 100, 49, 107, 49]⟩
theorem e9_2_c (w : World) : Calls Tryd.prog 31 #[.string ⟨#[107, 49, 100, 49, 107, 49]⟩] w (TellsL w (spV9 e9_2 3)) := by
  refine (spans9_c e9_2 w (by decide) (digs _ 3 rfl (by decide +kernel))).mono ?_
  rintro e w' ⟨v, rfl, hx, ho⟩
  obtain ⟨A, n, c, rfl, hr⟩ := rdO_own ho
  exact ⟨hx, A, n, c, rfl, hr⟩
def e9_3 : ByteArray := ⟨#[107, 49, 112, 49, 107, 49]⟩
theorem e9_3_c (w : World) : Calls Tryd.prog 31 #[.string ⟨#[107, 49, 112, 49, 107, 49]⟩] w (TellsL w (spV9 e9_3 3)) := by
  refine (spans9_c e9_3 w (by decide) (digs _ 3 rfl (by decide +kernel))).mono ?_
  rintro e w' ⟨v, rfl, hx, ho⟩
  obtain ⟨A, n, c, rfl, hr⟩ := rdO_own ho
  exact ⟨hx, A, n, c, rfl, hr⟩
def e9_4 : ByteArray := ⟨#[107, 49, 100, 49, 112, 49, 107, 49]⟩
theorem e9_4_c (w : World) : Calls Tryd.prog 31 #[.string ⟨#[107, 49, 100, 49, 112, 49, 107, 49]⟩] w (TellsL w (spV9 e9_4 4)) := by
  refine (spans9_c e9_4 w (by decide) (digs _ 4 rfl (by decide +kernel))).mono ?_
  rintro e w' ⟨v, rfl, hx, ho⟩
  obtain ⟨A, n, c, rfl, hr⟩ := rdO_own ho
  exact ⟨hx, A, n, c, rfl, hr⟩
def e9_5 : ByteArray := ⟨#[107, 49, 112, 49, 100, 49, 107, 49]⟩
theorem e9_5_c (w : World) : Calls Tryd.prog 31 #[.string ⟨#[107, 49, 112, 49, 100, 49, 107, 49]⟩] w (TellsL w (spV9 e9_5 4)) := by
  refine (spans9_c e9_5 w (by decide) (digs _ 4 rfl (by decide +kernel))).mono ?_
  rintro e w' ⟨v, rfl, hx, ho⟩
  obtain ⟨A, n, c, rfl, hr⟩ := rdO_own ho
  exact ⟨hx, A, n, c, rfl, hr⟩
theorem e9_0_g : Good (spV9 e9_0 3) := ⟨fun s hs => okW_of_may ((by decide +kernel : ∀ s ∈ spV9 e9_0 3, mayS s.1 s.2.1 s.2.2 = 0) s hs), by decide +kernel, by decide +kernel, by decide +kernel⟩
theorem e9_1_g : Good (spV9 e9_1 3) := ⟨fun s hs => okW_of_may ((by decide +kernel : ∀ s ∈ spV9 e9_1 3, mayS s.1 s.2.1 s.2.2 = 0) s hs), by decide +kernel, by decide +kernel, by decide +kernel⟩
theorem e9_2_g : Good (spV9 e9_2 3) := ⟨fun s hs => okW_of_may ((by decide +kernel : ∀ s ∈ spV9 e9_2 3, mayS s.1 s.2.1 s.2.2 = 0) s hs), by decide +kernel, by decide +kernel, by decide +kernel⟩
theorem e9_3_g : Good (spV9 e9_3 3) := ⟨fun s hs => okW_of_may ((by decide +kernel : ∀ s ∈ spV9 e9_3 3, mayS s.1 s.2.1 s.2.2 = 0) s hs), by decide +kernel, by decide +kernel, by decide +kernel⟩
theorem e9_s : compL (spV9 e9_0 3) (spV9 e9_1 3) = spV9 e9_4 4 ∧ compL (spV9 e9_2 3) (spV9 e9_3 3) = spV9 e9_5 4 := by decide +kernel
theorem shown9_c (w : World) [Tab w] : Calls Tryd.prog 10 #[] w fun e w' => e = .returned (.bool true) ∧ Ext w w' := by
  have g0 := Lib.hid e9_0_g; have g1 := Lib.hid e9_1_g; have g2 := Lib.hid e9_2_g; have g3 := Lib.hid e9_3_g
  have f1 : Hid (outL (spV9 e9_0 3) = inL (spV9 e9_1 3)) := Lib.hid (by decide +kernel)
  have f2 : Hid (outL (spV9 e9_2 3) = inL (spV9 e9_3 3)) := Lib.hid (by decide +kernel)
  have hs := Lib.hid e9_s
  have hl1 : Hid ((compL (spV9 e9_0 3) (spV9 e9_1 3)).length ≤ 300) := Lib.hid (by rw [e9_s.1, spV9_len]; omega)
  have hl2 : Hid ((compL (spV9 e9_2 3) (spV9 e9_3 3)).length ≤ 300) := Lib.hid (by rw [e9_s.2, spV9_len]; omega)
  go_enter Tryd.func10, Tryd.ntmps10
  go_wp2_with fail
  refine (e9_0_c _).mono ?_; rintro e w1 ⟨hx1, a0, n0, c0, rfl, r0⟩
  have e1 : Ext w w1 := hx1
  have R0 := Lib.hid r0
  clear hx1 r0
  go_wp2_with fail
  refine (e9_1_c _).mono ?_; rintro e w2 ⟨hx2, a1, n1, c1, rfl, r1⟩
  have e2 : Ext w w2 := e1.trans hx2
  replace R0 := Lib.hid (R0.out.ext hx2)
  have R1 := Lib.hid r1
  clear hx2 r1
  go_wp2_with fail
  refine (compG g0.out g1.out f1.out e2 R0.out R1.out).mono ?_; rintro e w3 ⟨hx3, aA, nA, cA, rfl, rA⟩
  have e3 : Ext w w3 := e2.trans hx3
  replace R0 := Lib.hid (R0.out.ext hx3)
  replace R1 := Lib.hid (R1.out.ext hx3)
  have RA := Lib.hid rA
  clear hx3 rA
  go_wp2_with fail
  refine (e9_2_c _).mono ?_; rintro e w4 ⟨hx4, a2, n2, c2, rfl, r2⟩
  have e4 : Ext w w4 := e3.trans hx4
  replace R0 := Lib.hid (R0.out.ext hx4)
  replace R1 := Lib.hid (R1.out.ext hx4)
  replace RA := Lib.hid (RA.out.ext hx4)
  have R2 := Lib.hid r2
  clear hx4 r2
  go_wp2_with fail
  refine (e9_3_c _).mono ?_; rintro e w5 ⟨hx5, a3, n3, c3, rfl, r3⟩
  have e5 : Ext w w5 := e4.trans hx5
  replace R0 := Lib.hid (R0.out.ext hx5)
  replace R1 := Lib.hid (R1.out.ext hx5)
  replace RA := Lib.hid (RA.out.ext hx5)
  replace R2 := Lib.hid (R2.out.ext hx5)
  have R3 := Lib.hid r3
  clear hx5 r3
  go_wp2_with fail
  refine (compG g2.out g3.out f2.out e5 R2.out R3.out).mono ?_; rintro e w6 ⟨hx6, aB, nB, cB, rfl, rB⟩
  have e6 : Ext w w6 := e5.trans hx6
  replace R0 := Lib.hid (R0.out.ext hx6)
  replace R1 := Lib.hid (R1.out.ext hx6)
  replace RA := Lib.hid (RA.out.ext hx6)
  replace R2 := Lib.hid (R2.out.ext hx6)
  replace R3 := Lib.hid (R3.out.ext hx6)
  have RB := Lib.hid rB
  clear hx6 rB
  go_wp2_with fail
  refine (e9_4_c _).mono ?_; rintro e w7 ⟨hx7, a4, n4, c4, rfl, r4⟩
  have e7 : Ext w w7 := e6.trans hx7
  replace R0 := Lib.hid (R0.out.ext hx7)
  replace R1 := Lib.hid (R1.out.ext hx7)
  replace RA := Lib.hid (RA.out.ext hx7)
  replace R2 := Lib.hid (R2.out.ext hx7)
  replace R3 := Lib.hid (R3.out.ext hx7)
  replace RB := Lib.hid (RB.out.ext hx7)
  have R4 := Lib.hid r4
  clear hx7 r4
  go_wp2_with fail
  refine (sameTrueG hs.out.1 hl1.out RA.out R4.out).mono ?_; rintro e w8 ⟨rfl, hx8⟩
  have e8 : Ext w w8 := e7.trans hx8
  replace R0 := Lib.hid (R0.out.ext hx8)
  replace R1 := Lib.hid (R1.out.ext hx8)
  replace RA := Lib.hid (RA.out.ext hx8)
  replace R2 := Lib.hid (R2.out.ext hx8)
  replace R3 := Lib.hid (R3.out.ext hx8)
  replace RB := Lib.hid (RB.out.ext hx8)
  replace R4 := Lib.hid (R4.out.ext hx8)
  clear hx8
  go_wp2_with fail
  refine (e9_5_c _).mono ?_; rintro e w9 ⟨hx9, a5, n5, c5, rfl, r5⟩
  have e9 : Ext w w9 := e8.trans hx9
  replace R0 := Lib.hid (R0.out.ext hx9)
  replace R1 := Lib.hid (R1.out.ext hx9)
  replace RA := Lib.hid (RA.out.ext hx9)
  replace R2 := Lib.hid (R2.out.ext hx9)
  replace R3 := Lib.hid (R3.out.ext hx9)
  replace RB := Lib.hid (RB.out.ext hx9)
  replace R4 := Lib.hid (R4.out.ext hx9)
  have R5 := Lib.hid r5
  clear hx9 r5
  go_wp2_with fail
  refine (sameTrueG hs.out.2 hl2.out RB.out R5.out).mono ?_; rintro e w10 ⟨rfl, hx10⟩
  have e10 : Ext w w10 := e9.trans hx10
  replace R0 := Lib.hid (R0.out.ext hx10)
  replace R1 := Lib.hid (R1.out.ext hx10)
  replace RA := Lib.hid (RA.out.ext hx10)
  replace R2 := Lib.hid (R2.out.ext hx10)
  replace R3 := Lib.hid (R3.out.ext hx10)
  replace RB := Lib.hid (RB.out.ext hx10)
  replace R4 := Lib.hid (R4.out.ext hx10)
  replace R5 := Lib.hid (R5.out.ext hx10)
  clear hx10
  go_wp2_with fail
  go_ret
  exact ⟨rfl, e10⟩
end Go.Proofs.YtlhhcjhjkameoaaDoor
