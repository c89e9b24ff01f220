/- Layer 15, the statements' own functions: few, short, shown. -/
import Derived.Test.YtilldbbfdmdggaaC15
import Derived.Test.YtilldbbfdmdggaaP15
import Derived.Test.YtilldbbfdmdggaaFr
namespace Go.Proofs.Ytilldbbfdmdggaa
open Go.RowKit
set_option maxRecDepth 100000
set_option maxHeartbeats 4000000
set_option linter.unusedSimpArgs false
theorem few15_c (A : Option Addr) (n c : Nat) (hc : n ≤ c) (hn : n ≤ maxLen) (w : World) : Calls Try.prog 12 #[.slice A n c] w fun e w' => e = .returned (.slice A (min n 200) c) ∧ w = w' := by
  unfold maxLen at hn
  by_cases h : n ≤ 200
  · have hmn : min (n : Int) 200 = (n : Int) := by omega
    rw [Nat.min_eq_left h]
    go_enter Try.func12, Try.ntmps12
    go_wp2_with fail
    go_ret
    exact ⟨rfl, rfl⟩
  · have hmn : min (n : Int) 200 = 200 := by omega
    have h20 : 200 ≤ c := by omega
    rw [Nat.min_eq_right (by omega)]
    go_enter Try.func12, Try.ntmps12
    go_wp2_with fail
    go_ret
    exact ⟨rfl, rfl⟩
theorem short15_c (A : Option Addr) (n c : Nat) (hc : n ≤ c) (hn : n ≤ maxLen) (w : World) : Calls Try.prog 15 #[.slice A n c] w fun e w' => e = .returned (.slice A (min n 40) c) ∧ w = w' := by
  unfold maxLen at hn
  by_cases h : n ≤ 40
  · have hmn : min (n : Int) 40 = (n : Int) := by omega
    rw [Nat.min_eq_left h]
    go_enter Try.func15, Try.ntmps15
    go_wp2_with fail
    go_ret
    exact ⟨rfl, rfl⟩
  · have hmn : min (n : Int) 40 = 40 := by omega
    have h20 : 40 ≤ c := by omega
    rw [Nat.min_eq_right (by omega)]
    go_enter Try.func15, Try.ntmps15
    go_wp2_with fail
    go_ret
    exact ⟨rfl, rfl⟩
theorem few15_in {A : Option Addr} {n c : Nat} {zs : List Int} {w : World} (h : IsInts .u8 w A n c zs) : ∃ (m : Nat) (l : List UInt8), m ≤ 200 ∧ l.length = m ∧ Rd w 1 (.slice A m c) m (Lib.byteCells l) ∧
    ∀ w', Calls Try.prog 12 #[.slice A n c] w' fun e w'' => e = .returned (.slice A m c) ∧ Ext w' w'' := by
  obtain ⟨hl, hcm, hrd, hwf⟩ := h
  obtain ⟨l, h1, h2⟩ := ints_bytes zs (fun z hz => bounds_u8 (hwf z hz))
  rw [h1] at hrd
  have hb : n ≤ c ∧ n ≤ maxLen := by
    obtain ⟨A', c', hv, hc⟩ := hrd.len
    injection hv with _ _ h3
    subst h3
    exact ⟨hc, by omega⟩
  refine ⟨min n 200, l.take (min n 200), by omega, by rw [List.length_take]; omega, ?_, fun w' => (few15_c A n c hb.1 hb.2 w').mono fun e w'' h => ⟨h.1, by rw [← h.2]; exact Ext.refl _⟩⟩
  have := hrd.take (m := min n 200) (by omega)
  rw [Nat.mul_one, byteCells_take] at this
  exact this
theorem short15_in {A : Option Addr} {n c : Nat} {zs : List Int} {w : World} (h : IsInts .i64 w A n c zs) : ∃ (m : Nat) (l : List Int), m ≤ 40 ∧ l.length = m ∧ Rd w 1 (.slice A m c) m (nV l) ∧
    ∀ w', Calls Try.prog 15 #[.slice A n c] w' fun e w'' => e = .returned (.slice A m c) ∧ Ext w' w'' := by
  obtain ⟨hl, hcm, hrd, hwf⟩ := h
  have hb : n ≤ c ∧ n ≤ maxLen := by
    obtain ⟨A', c', hv, hc⟩ := hrd.len
    injection hv with _ _ h3
    subst h3
    exact ⟨hc, by omega⟩
  refine ⟨min n 40, zs.take (min n 40), by omega, by rw [List.length_take]; omega, ?_, fun w' => (short15_c A n c hb.1 hb.2 w').mono fun e w'' h => ⟨h.1, by rw [← h.2]; exact Ext.refl _⟩⟩
  have := hrd.take (m := min n 40) (by omega)
  rw [Nat.mul_one, ← List.map_take] at this
  exact this
theorem str_run15 (w : World) {v : Value} {n : Nat} {l : List UInt8} (h : Rd w 1 v n (Lib.byteCells l)) : (convert 22 9 v).run Try.prog w = .ok (.string (mkS l)) w :=
  run_str (P := Try.prog) w 22 9 5 Try.underlying22 Try.underlying5 Try.underlying9 h
theorem rdB15_made (w : World) (l : List UInt8) (cur : Array Value) (T : TypeId) {n : Nat} (hc : cur.toList = Lib.byteCells l) (hn : l.length = n) (hb : n ≤ 1000) : Rd (w.alloc (.cells cur T)) 1 (.slice (some ⟨w.heap.size, 0, none⟩) n n) n (Lib.byteCells l) := by
  have hs : cur.size = n * 1 := by rw [← Array.length_toList, hc]; simp [Lib.byteCells, hn]
  have h := (Own.made w w.heap.size T 1 n cur (Nat.le_refl _) (by omega) hs).rd
  rw [hc] at h; exact h
theorem ex15_1 : rowE [3, 4, 9] = 0 ∧ rwB [3, 4, 9] = [3, 3, 0, 4] := by decide +kernel
theorem ex15_2 : takeRw [3, 3, 0, 4, 7] = (0, [3, 4, 9], 4) := by decide +kernel
theorem ex15_3 : snE ⟨#[97, 98]⟩ = 0 ∧ snB ⟨#[97, 98]⟩ = [2, 97, 98] := by decide +kernel
theorem shown15_c (w : World) : Calls Try.prog 8 #[] w fun e w' => e = .returned (.bool true) ∧ Ext w w' := by
  have HP : Hid (∀ A w', Rd w' 1 (.slice A 3 3) 3 (nV [3, 4, 9]) → Calls Try.prog 14 #[.slice A 3 3] w' fun e w'' => Ext w' w'' ∧ ∃ v, e = .returned (.tuple #[v, .int .i64 0]) ∧ Rd w'' 1 v 4 (Lib.byteCells [3, 3, 0, 4])) := Lib.hid fun A w' hr => by
    refine (rwPutP_c A 3 3 [3, 4, 9] w' hr (by omega)).mono ?_
    rintro e w'' ⟨hx, v, rfl, ho⟩
    rw [ex15_1.1]
    rw [ex15_1.2] at ho
    exact ⟨hx, v, rfl, ho.rd⟩
  have HT : Hid (∀ A w', Rd w' 1 (.slice A 5 5) 5 (Lib.byteCells [3, 3, 0, 4, 7]) → Calls Try.prog 17 #[.slice A 5 5] w' fun e w'' => Ext w' w'' ∧ ∃ A n c, e = .returned (.tuple #[.slice A n c, .int .i64 4, .int .i64 0]) ∧ Rd w'' 1 (.slice A n c) n (nV [3, 4, 9])) := Lib.hid fun A w' hr => by
    refine (rwTakeP_c A 5 5 [3, 3, 0, 4, 7] w' hr (by omega)).mono ?_
    rintro e w'' ⟨hx, A, n, c, rfl, hr⟩
    rw [ex15_2] at hr ⊢
    exact ⟨hx, A, n, c, rfl, hr⟩
  have HS : Hid (∀ w', Calls Try.prog 9 #[.string ⟨#[97, 98]⟩] w' fun e w'' => Ext w' w'' ∧ ∃ v, e = .returned (.tuple #[v, .int .i64 0]) ∧ Rd w'' 1 v 3 (Lib.byteCells [2, 97, 98])) := Lib.hid fun w' => by
    refine (snPutP_c ⟨#[97, 98]⟩ w' (by decide)).mono ?_
    rintro e w'' ⟨hx, v, rfl, ho⟩
    rw [ex15_3.1]
    rw [ex15_3.2] at ho
    exact ⟨hx, v, rfl, ho.rd⟩
  have e0 := (Ext.refl w).alloc (.cells #[.int .i64 3, .int .i64 4, .int .i64 9] 3)
  have R0 := Lib.hid (rdN_made w [3, 4, 9] #[.int .i64 3, .int .i64 4, .int .i64 9] 3 (n := 3) rfl rfl (by omega))
  have E0 := Lib.hid e0
  clear e0
  go_enter Try.func8, Try.ntmps8
  go_wp2_with fail
  refine (HP.out _ _ R0.out).mono ?_; rintro e w1 ⟨hx1, v1, rfl, r1⟩
  have E1 := Lib.hid (E0.out.trans hx1)
  have R1 := Lib.hid r1
  have R5 := Lib.hid (rdB15_made w1 [3, 3, 0, 4, 7] #[.int .u8 3, .int .u8 3, .int .u8 0, .int .u8 4, .int .u8 7] 5 (n := 5) rfl rfl (by omega))
  have EA := Lib.hid ((Ext.refl w1).alloc (.cells #[.int .u8 3, .int .u8 3, .int .u8 0, .int .u8 4, .int .u8 7] 5))
  clear hx1 r1 R0 E0
  go_wp2_with fail
  refine (HT.out _ _ R5.out).mono ?_; rintro e w2 ⟨hx2, A2, n2, c2, rfl, r2⟩
  have R2 := Lib.hid r2
  have X2 := Lib.hid (EA.out.trans hx2)
  clear hx2 r2 R5 EA
  go_wp2_with fail
  refine (HS.out _).mono ?_; rintro e w3 ⟨hx3, v3, rfl, r3⟩
  have X3 := Lib.hid (X2.out.trans hx3)
  have c1 : Hid ((convert 22 9 v1).run Try.prog w3 = .ok (.string ⟨#[3, 3, 0, 4]⟩) w3) := Lib.hid (str_run15 w3 (R1.out.ext X3.out))
  have c3 : Hid (∀ W, Ext w3 W → (convert 22 9 v3).run Try.prog W = .ok (.string ⟨#[2, 97, 98]⟩) W) := Lib.hid fun W hx => str_run15 W (r3.ext hx)
  have R2' := Lib.hid (R2.out.ext hx3)
  have E3 := Lib.hid (E1.out.trans X3.out)
  have RM := Lib.hid (rdN_made w3 [3, 4, 9] #[.int .i64 3, .int .i64 4, .int .i64 9] 3 (n := 3) rfl rfl (by omega))
  have EM := Lib.hid ((Ext.refl w3).alloc (.cells #[.int .i64 3, .int .i64 4, .int .i64 9] 3))
  clear hx3 r3 R2 X2 X3
  go_wp2_with (with_reducible refine wpList_convert_run rfl rfl c1.out rfl ?_)
  refine (sameTrue15 rfl (by decide) (R2'.out.ext EM.out) RM.out).mono ?_; rintro e w4 ⟨rfl, hx4⟩
  have c4 := Lib.hid (c3.out w4 (EM.out.trans hx4))
  go_wp2_with ((with_reducible refine wpList_convert_g ?_ rfl c4.out rfl ?_); rfl)
  go_ret
  exact ⟨rfl, (E3.out.trans EM.out).trans hx4⟩
end Go.Proofs.Ytilldbbfdmdggaa
