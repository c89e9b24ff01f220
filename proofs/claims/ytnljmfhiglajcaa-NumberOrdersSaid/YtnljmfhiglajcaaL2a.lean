/- Layer 2, the statements' own functions: shown, few. -/
import Derived.Test.YtnljmfhiglajcaaP2
import Derived.Test.YtnljmfhiglajcaaBd
import Derived.Test.YtnljmfhiglajcaaFr
namespace Go.Proofs.Ytnljmfhiglajcaa
open Go.RowKit
set_option maxRecDepth 100000
set_option maxHeartbeats 1000000

theorem ex_put : putL 300 = [172, 2] := by decide
theorem ex_take : takeL [172, 2, 7] = (300, 2, 0) := by decide
/-- Put at a number that is one, written out. -/
theorem put_ok (m : Nat) (h : m < 268435456) (w : World) : Calls Try.prog 10 #[.int .i64 m] w fun e w' => ∃ v, e = .returned (.tuple #[v, .int .i64 0]) ∧ Rd w' 1 v (putL m).length (Lib.byteCells (putL m)) ∧ Ext w w' := by
  refine (put_c m w).mono fun e w' ⟨hx, h'⟩ => ?_
  rcases h' with ⟨h1, _⟩ | ⟨m', v, h1, _, he, hr⟩
  · omega
  · obtain rfl : m = m' := by omega
    exact ⟨v, he, hr, hx⟩
theorem put_bad (n : Int) (h : n < 0 ∨ 268435455 < n) (w : World) : Calls Try.prog 10 #[.int .i64 n] w fun e w' => e = .returned (.tuple #[.slice none 0 0, .int .i64 2]) ∧ Ext w w' := by
  refine (put_c n w).mono fun e w' ⟨hx, h'⟩ => ?_
  rcases h' with ⟨_, he⟩ | ⟨m', v, h1, h2, _⟩
  · exact ⟨he, hx⟩
  · omega
/-- Bytes to a string, as an equation of the run at the program's types. -/
theorem str_run (w : World) {v : Value} {n : Nat} {l : List UInt8} (h : Rd w 1 v n (Lib.byteCells l)) : (convert 22 9 v).run Try.prog w = .ok (.string (mkS l)) w :=
  run_str (P := Try.prog) w 22 9 5 Try.underlying22 Try.underlying5 Try.underlying9 h
/-- Take at bytes of a block just made. -/
theorem take_new (l : List UInt8) (n : Nat) (hn : l.length = n) (hn' : n ≤ 1000) (w : World) (e' : TypeId) :
    Calls Try.prog 12 #[.slice (some ⟨w.heap.size, 0, none⟩) n n] (w.alloc (.cells (Lib.byteCells l).toArray e')) fun e w' => e = .returned (takeV (takeL l)) ∧ Ext w w' := by
  have hrd : Rd (w.alloc (.cells (Lib.byteCells l).toArray e')) 1 (.slice (some ⟨w.heap.size, 0, none⟩) n n) n (Lib.byteCells l) := by
    have h := (Own.made w w.heap.size e' 1 n (Lib.byteCells l).toArray (Nat.le_refl _) (by omega) (by simp [Lib.byteCells, hn])).rd
    simpa using h
  exact (take_c _ n n l _ hrd (by omega)).mono fun e w' ⟨he, hx⟩ => ⟨he, ((Ext.refl w).alloc _).trans hx⟩

theorem shown2_c (w : World) : Calls Try.prog 9 #[] w fun e w' => e = .returned (.bool true) ∧ Ext w w' := by
  have H1 : Hid (∀ w', Calls Try.prog 10 #[.int .i64 300] w' fun e w'' => ∃ v, e = .returned (.tuple #[v, .int .i64 0]) ∧ Rd w'' 1 v 2 (Lib.byteCells [172, 2]) ∧ Ext w' w'') :=
    Lib.hid fun w' => by have h := put_ok 300 (by omega) w'; rw [ex_put] at h; exact h
  have H2 : Hid (∀ w', Calls Try.prog 12 #[.slice (some ⟨w'.heap.size, 0, none⟩) 3 3] (w'.alloc (.cells #[.int .u8 172, .int .u8 2, .int .u8 7] 5)) fun e w'' => e = .returned (.tuple #[.int .i64 300, .int .i64 2, .int .i64 0]) ∧ Ext w' w'') :=
    Lib.hid fun w' => by have h := take_new [172, 2, 7] 3 rfl (by omega) w' 5; rw [ex_take] at h; exact h
  go_enter Try.func9, Try.ntmps9
  go_wp2_with fail
  refine (H1.out _).mono ?_; rintro e w1 ⟨v, rfl, hrd, hx1⟩
  go_wp2_with fail
  refine (H2.out _).mono ?_; rintro e w2 ⟨rfl, hx2⟩
  have HS : Hid ((convert 22 9 v).run Try.prog w2 = .ok (.string ⟨#[172, 2]⟩) w2) := Lib.hid (str_run w2 (hrd.ext hx2))
  go_wp2_with (with_reducible refine wpList_convert_run rfl rfl HS.out rfl ?_)
  go_ret
  exact ⟨rfl, hx1.trans hx2⟩

theorem few2_c (A : Option Addr) (n c : Nat) (hc : n ≤ c) (hn : n ≤ maxLen) (w : World) : Calls Try.prog 13 #[.slice A n c] w fun e w' => e = .returned (.slice A (min n 20) c) ∧ w = w' := by
  unfold maxLen at hn
  by_cases h : n ≤ 20
  · have hmn : min (n : Int) 20 = (n : Int) := by omega
    rw [Nat.min_eq_left h]
    go_enter Try.func13, Try.ntmps13
    go_wp2_with fail
    go_ret
    exact ⟨rfl, rfl⟩
  · have hmn : min (n : Int) 20 = 20 := by omega
    have h20 : 20 ≤ c := by omega
    rw [Nat.min_eq_right (by omega)]
    go_enter Try.func13, Try.ntmps13
    go_wp2_with fail
    go_ret
    exact ⟨rfl, rfl⟩
/-- What few makes of bytes that came in. -/
theorem few2_in {A : Option Addr} {n c : Nat} {zs : List Int} {w : World} (h : IsInts .u8 w A n c zs) : ∃ (m : Nat) (l : List UInt8), m = min n 20 ∧ l.length = m ∧ Rd w 1 (.slice A m c) m (Lib.byteCells l) ∧
    ∀ w', Calls Try.prog 13 #[.slice A n c] w' fun e w'' => e = .returned (.slice A m c) ∧ w' = w'' := by
  obtain ⟨hl, hcm, hrd, hwf⟩ := h
  obtain ⟨l, h1, h2⟩ := ints_bytes zs (fun z hz => bounds_u8 (hwf z hz))
  rw [h1] at hrd
  have hb : n ≤ c ∧ n ≤ maxLen := by
    obtain ⟨A', c', hv, hc⟩ := hrd.len
    injection hv with _ _ h3
    subst h3
    exact ⟨hc, by omega⟩
  refine ⟨min n 20, l.take (min n 20), rfl, by rw [List.length_take]; omega, ?_, fun w' => few2_c A n c hb.1 hb.2 w'⟩
  have := hrd.take (m := min n 20) (by omega)
  rw [Nat.mul_one, byteCells_take] at this
  exact this
end Go.Proofs.Ytnljmfhiglajcaa
