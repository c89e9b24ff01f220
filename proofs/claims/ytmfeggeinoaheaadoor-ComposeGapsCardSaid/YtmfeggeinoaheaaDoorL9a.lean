/- Layer 9, the statements' own functions: few, spans, puts, shown. -/
import Derived.Test.YtmfeggeinoaheaaDoorG9
import Derived.Test.YtmfeggeinoaheaaDoorFr
import Derived.Test.YtmfeggeinoaheaaDoorC5
import Derived.Test.YtmfeggeinoaheaaDoorL6b
namespace Go.Proofs.YtmfeggeinoaheaaDoor
open Go.RowKit
set_option maxRecDepth 100000
set_option maxHeartbeats 4000000
/-- An operation of a letter and a number each. -/
def sp9 (a b : Nat) : Sp := if a = 107 then (1, ((b - 48 : Nat) : Int), ⟨#[]⟩) else if a = 100 then (3, ((b - 48 : Nat) : Int), ⟨#[]⟩) else (2, 0, ⟨#[120]⟩)
def spV9 (s : ByteArray) (j : Nat) : List Sp := (List.range j).map fun i => sp9 (nth (bs s) (2 * i)) (nth (bs s) (2 * i + 1))
theorem spV9_succ (s : ByteArray) (j : Nat) : spV9 s (j + 1) = spV9 s j ++ [sp9 (nth (bs s) (2 * j)) (nth (bs s) (2 * j + 1))] := by
  unfold spV9; rw [List.range_succ, List.map_append]; rfl
theorem spV9_len (s : ByteArray) (j : Nat) : (spV9 s j).length = j := by simp [spV9]
theorem spans9_c (s : ByteArray) (w : World) (hs : s.size ≤ 1000) (hd : ∀ i, 48 ≤ nth (bs s) (2 * i + 1) ∨ s.size ≤ 2 * i + 1) :
    Calls Tryd.prog 13 #[.string s] w fun e w' => ∃ v, e = .returned v ∧ Ext w w' ∧ Own w' w.heap.size 45 3 v (spV9 s (s.size / 2)).length (spCells (spV9 s (s.size / 2))) := by
  obtain ⟨i, hi, hz0, hz1, hz2⟩ := info_parts info_sp5
  have HD := Lib.hid hd
  have hrel0 : Own (w.alloc (.cells #[] 45)) w.heap.size 45 3 (.slice (some ⟨w.heap.size, 0, none⟩) 0 0) 0 (spCells []) ∧ Below w.heap.size w (w.alloc (.cells #[] 45)) :=
    ⟨Own.made w w.heap.size 45 3 0 #[] (Nat.le_refl _) (by omega) rfl, (Below.refl _ _).alloc (Nat.le_refl _) _⟩
  have HR0 := Lib.hid hrel0
  clear hrel0 hd
  obtain ⟨Z, hZ⟩ : ∃ Z, s.size = Z := ⟨_, rfl⟩
  go_enter Tryd.func13, Tryd.ntmps13
  go_wp2_with fail
  go_loopw [3, 4] (fun o z wr => ∃ j M : Nat, M = 2 * j ∧ M ≤ Z ∧ z = .int .i64 M ∧ Own wr w.heap.size 45 3 o j (spCells (spV9 s j)) ∧ Below w.heap.size w wr) (fun _ z _ => Z + 1 - (intOf z).toNat)
  case atStart => exact ⟨0, 0, rfl, by omega, rfl, HR0.out.1, HR0.out.2⟩
  case round =>
    obtain ⟨j, M, hM, hMZ, rfl, hown, hbel⟩ := hrel
    by_cases hlt : M + 1 < Z
    · have hst := spV9_succ s j
      rw [← hM] at hst
      have h48 : 48 ≤ nth (bs s) (M + 1) := by
        rcases HD.out j with h | h
        · rw [hM]; exact h
        · omega
      have hM0 : M < s.size := by omega
      have hM1 : M + 1 < s.size := by omega
      have hb0 := nth_bs s M hM0
      have hb1 := nth_bs s (M + 1) hM1
      have i0 : (0 : Int) ≤ (M : Int) := by omega
      have i1 : (M : Int) + 1 < (Z : Int) := by omega
      have i2 : (M : Int) < (Z : Int) := by omega
      have l0 : (nth (bs s) M) < 256 := nth_lt _ _
      have l1 : (nth (bs s) (M + 1)) < 256 := nth_lt _ _
      obtain ⟨R1, hR1⟩ : ∃ R1, spV9 s (j + 1) = R1 := ⟨_, rfl⟩
      rw [hR1] at hst
      obtain ⟨a, ha⟩ : ∃ a, nth (bs s) M = a := ⟨_, rfl⟩
      obtain ⟨b, hb⟩ : ∃ b, nth (bs s) (M + 1) = b := ⟨_, rfl⟩
      rw [ha] at hst hb0 l0
      rw [hb] at hst hb1 l1 h48
      obtain ⟨n, hn⟩ : ∃ n : Nat, (b : Int) - 48 = (n : Int) := ⟨b - 48, by omega⟩
      have hnb : b - 48 = n := by omega
      have hb0' := hb0.symm
      have hb1' := hb1.symm
      have hjb : j ≤ 1000 := by omega
      have HST := Lib.hid hst; have HR1 := Lib.hid hR1; have HM := Lib.hid hM
      clear hst hR1 hM hb0 hb1 ha hb
      generalize spV9 s j = xs at *
      have hcase : (((a : Int) == 107) = true ∧ sp9 a b = (1, (n : Int), ⟨#[]⟩)) ∨ (((a : Int) == 107) = false ∧ ((a : Int) == 100) = true ∧ sp9 a b = (3, (n : Int), ⟨#[]⟩)) ∨ (((a : Int) == 107) = false ∧ ((a : Int) == 100) = false ∧ sp9 a b = (2, 0, ⟨#[120]⟩)) := by
        unfold sp9
        rw [hnb]
        by_cases e1 : a = 107
        · exact .inl ⟨by rw [beq_iff_eq]; omega, by rw [if_pos e1]⟩
        · by_cases e2 : a = 100
          · exact .inr (.inl ⟨by rw [beq_eq_false_iff_ne]; omega, by rw [beq_iff_eq]; omega, by rw [if_neg e1, if_pos e2]⟩)
          · exact .inr (.inr ⟨by rw [beq_eq_false_iff_ne]; omega, by rw [beq_eq_false_iff_ne]; omega, by rw [if_neg e1, if_neg e2]⟩)
      clear hnb h48
      rcases hcase with ⟨k1, hsp⟩ | ⟨k1, k2, hsp⟩ | ⟨k1, k2, hsp⟩
      · have HSP := Lib.hid hsp
        clear hsp
        obtain ⟨v', w', happ, hown', hbel'⟩ := app_new (P := Tryd.prog) 22 22 45 i _ 3 32 Tryd.underlying22 hi hz0 hz1 hz2 rfl (by omega) (by omega)
          hbel hown (by omega) 1 #[.int .i64 1, .int .i64 (n : Int), .string ⟨#[]⟩] rfl (by omega) (by simp [Value.oneCell']) 45
        have HAP := Lib.hid happ
        have hown2 : Own w' w.heap.size 45 3 v' (j + 1) (spCells R1) := by rw [HST.out, spCells_append, HSP.out]; exact hown'
        clear happ hown'
        go_wp2_with (at_builtin; refine wpList_append_run rfl rfl HAP.out rfl rfl ?_)
        go_roundw
        case rel => exact ⟨j + 1, M + 2, by have := HM.out; omega, by omega, by go_num, by rw [HR1.out]; exact hown2, hbel'⟩
        case measure => simp [intOf]; omega
      · have HSP := Lib.hid hsp
        clear hsp
        obtain ⟨v', w', happ, hown', hbel'⟩ := app_new (P := Tryd.prog) 22 22 45 i _ 3 32 Tryd.underlying22 hi hz0 hz1 hz2 rfl (by omega) (by omega)
          hbel hown (by omega) 1 #[.int .i64 3, .int .i64 (n : Int), .string ⟨#[]⟩] rfl (by omega) (by simp [Value.oneCell']) 45
        have HAP := Lib.hid happ
        have hown2 : Own w' w.heap.size 45 3 v' (j + 1) (spCells R1) := by rw [HST.out, spCells_append, HSP.out]; exact hown'
        clear happ hown'
        go_wp2_with (at_builtin; refine wpList_append_run rfl rfl HAP.out rfl rfl ?_)
        go_roundw
        case rel => exact ⟨j + 1, M + 2, by have := HM.out; omega, by omega, by go_num, by rw [HR1.out]; exact hown2, hbel'⟩
        case measure => simp [intOf]; omega
      · have HSP := Lib.hid hsp
        clear hsp
        obtain ⟨v', w', happ, hown', hbel'⟩ := app_new (P := Tryd.prog) 22 22 45 i _ 3 32 Tryd.underlying22 hi hz0 hz1 hz2 rfl (by omega) (by omega)
          hbel hown (by omega) 1 #[.int .i64 2, .int .i64 0, .string ⟨#[120]⟩] rfl (by omega) (by simp [Value.oneCell']) 45
        have HAP := Lib.hid happ
        have hown2 : Own w' w.heap.size 45 3 v' (j + 1) (spCells R1) := by rw [HST.out, spCells_append, HSP.out]; exact hown'
        clear happ hown'
        go_wp2_with (at_builtin; refine wpList_append_run rfl rfl HAP.out rfl rfl ?_)
        go_roundw
        case rel => exact ⟨j + 1, M + 2, by have := HM.out; omega, by omega, by go_num, by rw [HR1.out]; exact hown2, hbel'⟩
        case measure => simp [intOf]; omega
    · have e1 : spV9 s j = spV9 s (Z / 2) := by rw [show Z / 2 = j by omega]
      have e2 : (spV9 s (Z / 2)).length = j := by rw [spV9_len]; omega
      have HE := Lib.hid e2
      rw [e1] at hown
      have d1 : decide (M + 1 < Z) = false := by rw [decide_eq_false_iff_not]; exact hlt
      clear e1 e2 hM
      go_wp2_with fail
      go_ret
      refine ⟨_, rfl, hbel, ?_⟩
      rw [hZ, HE.out]
      exact hown
theorem digs (s : ByteArray) (n : Nat) (hs : s.size = 2 * n) (h : ∀ i, i < n → 48 ≤ nth (bs s) (2 * i + 1)) : ∀ i, 48 ≤ nth (bs s) (2 * i + 1) ∨ s.size ≤ 2 * i + 1 := by
  intro i
  rcases Nat.lt_or_ge i n with h1 | h1
  · exact .inl (h i h1)
  · exact .inr (by omega)
def e9_0 : ByteArray := ⟨#[107, 50, 112, 49, 107, 49]⟩
theorem e9_0_c (w : World) : Calls Tryd.prog 13 #[.string ⟨#[107, 50, 112, 49, 107, 49]⟩] w (TellsL w (spV9 e9_0 3)) := by
  refine (spans9_c e9_0 w (by decide) (digs _ 3 rfl (by decide +kernel))).mono ?_
  rintro e w' ⟨v, rfl, hx, ho⟩
  obtain ⟨A, n, c, rfl, hr⟩ := rdO_own ho
  exact ⟨hx, A, n, c, rfl, hr⟩
def e9_1 : ByteArray := ⟨#[107, 49, 100, 49, 107, 50]⟩
theorem e9_1_c (w : World) : Calls Tryd.prog 13 #[.string ⟨#[107, 49, 100, 49, 107, 50]⟩] w (TellsL w (spV9 e9_1 3)) := by
  refine (spans9_c e9_1 w (by decide) (digs _ 3 rfl (by decide +kernel))).mono ?_
  rintro e w' ⟨v, rfl, hx, ho⟩
  obtain ⟨A, n, c, rfl, hr⟩ := rdO_own ho
  exact ⟨hx, A, n, c, rfl, hr⟩
def e9_2 : ByteArray := ⟨#[107, 49, 100, 49, 107, 49]⟩
theorem e9_2_c (w : World) : Calls Tryd.prog 13 #[.string ⟨#[107, 49, 100, 49, 107, 49]⟩] w (TellsL w (spV9 e9_2 3)) := by
  refine (spans9_c e9_2 w (by decide) (digs _ 3 rfl (by decide +kernel))).mono ?_
  rintro e w' ⟨v, rfl, hx, ho⟩
  obtain ⟨A, n, c, rfl, hr⟩ := rdO_own ho
  exact ⟨hx, A, n, c, rfl, hr⟩
def e9_3 : ByteArray := ⟨#[107, 49, 112, 49, 107, 49]⟩
theorem e9_3_c (w : World) : Calls Tryd.prog 13 #[.string ⟨#[107, 49, 112, 49, 107, 49]⟩] w (TellsL w (spV9 e9_3 3)) := by
  refine (spans9_c e9_3 w (by decide) (digs _ 3 rfl (by decide +kernel))).mono ?_
  rintro e w' ⟨v, rfl, hx, ho⟩
  obtain ⟨A, n, c, rfl, hr⟩ := rdO_own ho
  exact ⟨hx, A, n, c, rfl, hr⟩
def e9_4 : ByteArray := ⟨#[107, 49, 100, 49, 112, 49, 107, 49]⟩
theorem e9_4_c (w : World) : Calls Tryd.prog 13 #[.string ⟨#[107, 49, 100, 49, 112, 49, 107, 49]⟩] w (TellsL w (spV9 e9_4 4)) := by
  refine (spans9_c e9_4 w (by decide) (digs _ 4 rfl (by decide +kernel))).mono ?_
  rintro e w' ⟨v, rfl, hx, ho⟩
  obtain ⟨A, n, c, rfl, hr⟩ := rdO_own ho
  exact ⟨hx, A, n, c, rfl, hr⟩
def e9_5 : ByteArray := ⟨#[107, 49, 112, 49, 100, 49, 107, 49]⟩
theorem e9_5_c (w : World) : Calls Tryd.prog 13 #[.string ⟨#[107, 49, 112, 49, 100, 49, 107, 49]⟩] w (TellsL w (spV9 e9_5 4)) := by
  refine (spans9_c e9_5 w (by decide) (digs _ 4 rfl (by decide +kernel))).mono ?_
  rintro e w' ⟨v, rfl, hx, ho⟩
  obtain ⟨A, n, c, rfl, hr⟩ := rdO_own ho
  exact ⟨hx, A, n, c, rfl, hr⟩
theorem e9_0_g : Good (spV9 e9_0 3) := ⟨fun s hs => okW_of_may ((by decide +kernel : ∀ s ∈ spV9 e9_0 3, mayS s.1 s.2.1 s.2.2 = 0) s hs), by decide +kernel, by decide +kernel, by decide +kernel⟩
theorem e9_1_g : Good (spV9 e9_1 3) := ⟨fun s hs => okW_of_may ((by decide +kernel : ∀ s ∈ spV9 e9_1 3, mayS s.1 s.2.1 s.2.2 = 0) s hs), by decide +kernel, by decide +kernel, by decide +kernel⟩
theorem e9_2_g : Good (spV9 e9_2 3) := ⟨fun s hs => okW_of_may ((by decide +kernel : ∀ s ∈ spV9 e9_2 3, mayS s.1 s.2.1 s.2.2 = 0) s hs), by decide +kernel, by decide +kernel, by decide +kernel⟩
theorem e9_3_g : Good (spV9 e9_3 3) := ⟨fun s hs => okW_of_may ((by decide +kernel : ∀ s ∈ spV9 e9_3 3, mayS s.1 s.2.1 s.2.2 = 0) s hs), by decide +kernel, by decide +kernel, by decide +kernel⟩
theorem e9_s : compL (spV9 e9_0 3) (spV9 e9_1 3) = spV9 e9_4 4 ∧ compL (spV9 e9_2 3) (spV9 e9_3 3) = spV9 e9_5 4 := by decide +kernel
theorem shown9_c (w : World) [Tab w] : Calls Tryd.prog 4 #[] w fun e w' => e = .returned (.bool true) ∧ Ext w w' := by
  have g0 := Lib.hid e9_0_g; have g1 := Lib.hid e9_1_g; have g2 := Lib.hid e9_2_g; have g3 := Lib.hid e9_3_g
  have f1 : Hid (outL (spV9 e9_0 3) = inL (spV9 e9_1 3)) := Lib.hid (by decide +kernel)
  have f2 : Hid (outL (spV9 e9_2 3) = inL (spV9 e9_3 3)) := Lib.hid (by decide +kernel)
  have hs := Lib.hid e9_s
  have hl1 : Hid ((compL (spV9 e9_0 3) (spV9 e9_1 3)).length ≤ 300) := Lib.hid (by rw [e9_s.1, spV9_len]; omega)
  have hl2 : Hid ((compL (spV9 e9_2 3) (spV9 e9_3 3)).length ≤ 300) := Lib.hid (by rw [e9_s.2, spV9_len]; omega)
  go_enter Tryd.func4, Tryd.ntmps4
  go_wp2_with fail
  refine (e9_0_c _).mono ?_; rintro e w1 ⟨hx1, a0, n0, c0, rfl, r0⟩
  have e1 : Ext w w1 := hx1
  have R0 := Lib.hid r0
  clear hx1 r0
  go_wp2_with fail
  refine (e9_1_c _).mono ?_; rintro e w2 ⟨hx2, a1, n1, c1, rfl, r1⟩
  have e2 : Ext w w2 := e1.trans hx2
  replace R0 := Lib.hid (R0.out.ext hx2)
  have R1 := Lib.hid r1
  clear hx2 r1
  go_wp2_with fail
  refine (compG g0.out g1.out f1.out e2 R0.out R1.out).mono ?_; rintro e w3 ⟨hx3, aA, nA, cA, rfl, rA⟩
  have e3 : Ext w w3 := e2.trans hx3
  replace R0 := Lib.hid (R0.out.ext hx3)
  replace R1 := Lib.hid (R1.out.ext hx3)
  have RA := Lib.hid rA
  clear hx3 rA
  go_wp2_with fail
  refine (e9_2_c _).mono ?_; rintro e w4 ⟨hx4, a2, n2, c2, rfl, r2⟩
  have e4 : Ext w w4 := e3.trans hx4
  replace R0 := Lib.hid (R0.out.ext hx4)
  replace R1 := Lib.hid (R1.out.ext hx4)
  replace RA := Lib.hid (RA.out.ext hx4)
  have R2 := Lib.hid r2
  clear hx4 r2
  go_wp2_with fail
  refine (e9_3_c _).mono ?_; rintro e w5 ⟨hx5, a3, n3, c3, rfl, r3⟩
  have e5 : Ext w w5 := e4.trans hx5
  replace R0 := Lib.hid (R0.out.ext hx5)
  replace R1 := Lib.hid (R1.out.ext hx5)
  replace RA := Lib.hid (RA.out.ext hx5)
  replace R2 := Lib.hid (R2.out.ext hx5)
  have R3 := Lib.hid r3
  clear hx5 r3
  go_wp2_with fail
  refine (compG g2.out g3.out f2.out e5 R2.out R3.out).mono ?_; rintro e w6 ⟨hx6, aB, nB, cB, rfl, rB⟩
  have e6 : Ext w w6 := e5.trans hx6
  replace R0 := Lib.hid (R0.out.ext hx6)
  replace R1 := Lib.hid (R1.out.ext hx6)
  replace RA := Lib.hid (RA.out.ext hx6)
  replace R2 := Lib.hid (R2.out.ext hx6)
  replace R3 := Lib.hid (R3.out.ext hx6)
  have RB := Lib.hid rB
  clear hx6 rB
  go_wp2_with fail
  refine (e9_4_c _).mono ?_; rintro e w7 ⟨hx7, a4, n4, c4, rfl, r4⟩
  have e7 : Ext w w7 := e6.trans hx7
  replace R0 := Lib.hid (R0.out.ext hx7)
  replace R1 := Lib.hid (R1.out.ext hx7)
  replace RA := Lib.hid (RA.out.ext hx7)
  replace R2 := Lib.hid (R2.out.ext hx7)
  replace R3 := Lib.hid (R3.out.ext hx7)
  replace RB := Lib.hid (RB.out.ext hx7)
  have R4 := Lib.hid r4
  clear hx7 r4
  go_wp2_with fail
  refine (sameTrueG hs.out.1 hl1.out RA.out R4.out).mono ?_; rintro e w8 ⟨rfl, hx8⟩
  have e8 : Ext w w8 := e7.trans hx8
  replace R0 := Lib.hid (R0.out.ext hx8)
  replace R1 := Lib.hid (R1.out.ext hx8)
  replace RA := Lib.hid (RA.out.ext hx8)
  replace R2 := Lib.hid (R2.out.ext hx8)
  replace R3 := Lib.hid (R3.out.ext hx8)
  replace RB := Lib.hid (RB.out.ext hx8)
  replace R4 := Lib.hid (R4.out.ext hx8)
  clear hx8
  go_wp2_with fail
  refine (e9_5_c _).mono ?_; rintro e w9 ⟨hx9, a5, n5, c5, rfl, r5⟩
  have e9 : Ext w w9 := e8.trans hx9
  replace R0 := Lib.hid (R0.out.ext hx9)
  replace R1 := Lib.hid (R1.out.ext hx9)
  replace RA := Lib.hid (RA.out.ext hx9)
  replace R2 := Lib.hid (R2.out.ext hx9)
  replace R3 := Lib.hid (R3.out.ext hx9)
  replace RB := Lib.hid (RB.out.ext hx9)
  replace R4 := Lib.hid (R4.out.ext hx9)
  have R5 := Lib.hid r5
  clear hx9 r5
  go_wp2_with fail
  refine (sameTrueG hs.out.2 hl2.out RB.out R5.out).mono ?_; rintro e w10 ⟨rfl, hx10⟩
  have e10 : Ext w w10 := e9.trans hx10
  replace R0 := Lib.hid (R0.out.ext hx10)
  replace R1 := Lib.hid (R1.out.ext hx10)
  replace RA := Lib.hid (RA.out.ext hx10)
  replace R2 := Lib.hid (R2.out.ext hx10)
  replace R3 := Lib.hid (R3.out.ext hx10)
  replace RB := Lib.hid (RB.out.ext hx10)
  replace R4 := Lib.hid (R4.out.ext hx10)
  replace R5 := Lib.hid (R5.out.ext hx10)
  clear hx10
  go_wp2_with fail
  go_ret
  exact ⟨rfl, e10⟩
end Go.Proofs.YtmfeggeinoaheaaDoor
