/- Layer 2, the reference: Put. -/
import Derived.Test.YtilldbbfdmdggaaBa
import Derived.Test.YtilldbbfdmdggaaMb
namespace Go.Proofs.Ytilldbbfdmdggaa
open Go.RowKit
set_option maxRecDepth 100000
set_option maxHeartbeats 1000000

/-- What Put answers. -/
def PutR (w : World) (n : Int) (e : Ending) (w' : World) : Prop :=
  Ext w w' ∧ (((n < 0 ∨ 268435455 < n) ∧ e = .returned (.tuple #[.slice none 0 0, .int .i64 2])) ∨
    ∃ (m : Nat) (v : Value), n = (m : Int) ∧ m < 268435456 ∧ e = .returned (.tuple #[v, .int .i64 0]) ∧ Rd w' 1 v (putL m).length (Lib.byteCells (putL m)))
/-- .. the bytes are the call's own. -/
def PutO (w : World) (n : Int) (e : Ending) (w' : World) : Prop :=
  Ext w w' ∧ (((n < 0 ∨ 268435455 < n) ∧ e = .returned (.tuple #[.slice none 0 0, .int .i64 2])) ∨
    ∃ (m : Nat) (v : Value), n = (m : Int) ∧ m < 268435456 ∧ e = .returned (.tuple #[v, .int .i64 0]) ∧ Own w' w.heap.size 5 1 v (putL m).length (Lib.byteCells (putL m)))
theorem PutO.put {w : World} {n : Int} {e : Ending} {w' : World} (h : PutO w n e w') : PutR w n e w' := by
  rcases h with ⟨hx, h | ⟨m, v, h1, h2, h3, h4⟩⟩
  · exact ⟨hx, .inl h⟩
  · exact ⟨hx, .inr ⟨m, v, h1, h2, h3, h4.rd⟩⟩
theorem info_u8b : (Try.prog.info? 5).map (fun i => (i.zero, i.size, i.bytes)) = some (some (.int .u8 0), 1, 1) := by kernel_rfl
theorem byteCells_snoc (l : List UInt8) (n : Nat) (h : n < 256) : Lib.byteCells (l ++ [u8 n]) = Lib.byteCells l ++ [Value.int .u8 (n : Int)] := by
  simp [Lib.byteCells, u8_toNat h]

/-- How far Put has come: what it wrote, and what is left. -/
def PutAt (x : Nat) (pre : List UInt8) (m : Nat) : Prop := putL x = pre ++ putF (4 - pre.length) m ∧ ((pre.length = 0 ∧ m < 268435456) ∨ (pre.length = 1 ∧ m < 2097152) ∨ (pre.length = 2 ∧ m < 16384) ∨ (pre.length = 3 ∧ m < 128))
theorem PutAt.start (x : Nat) (h : x < 268435456) : PutAt x [] x := ⟨rfl, .inl ⟨rfl, h⟩⟩
theorem PutAt.next {x : Nat} {pre : List UInt8} {m : Nat} (h : PutAt x pre m) (hm : 128 ≤ m) : PutAt x (pre ++ [u8 (128 + m % 128)]) (m / 128) := by
  obtain ⟨h1, h2⟩ := h
  have hl : pre.length ≤ 2 := by rcases h2 with h | h | h | h <;> omega
  obtain ⟨k, hk⟩ : ∃ k, 4 - pre.length = k + 1 := ⟨3 - pre.length, by omega⟩
  refine ⟨?_, ?_⟩
  · rw [h1, hk, putF, if_neg (by omega), List.append_assoc, List.length_append, List.length_singleton, show 4 - (pre.length + 1) = k from by omega]
    rfl
  · rw [List.length_append, List.length_singleton]
    have e1 : 268435456 = 2097152 * 128 := rfl
    rcases h2 with ⟨h, h'⟩ | ⟨h, h'⟩ | ⟨h, h'⟩ | ⟨h, h'⟩
    · exact .inr (.inl ⟨by omega, by omega⟩)
    · exact .inr (.inr (.inl ⟨by omega, by omega⟩))
    · exact .inr (.inr (.inr ⟨by omega, by omega⟩))
    · omega
theorem PutAt.last {x : Nat} {pre : List UInt8} {m : Nat} (h : PutAt x pre m) (hm : m < 128) : putL x = pre ++ [u8 m] := by
  obtain ⟨h1, h2⟩ := h
  have hl : pre.length ≤ 3 := by rcases h2 with h | h | h | h <;> omega
  obtain ⟨k, hk⟩ : ∃ k, 4 - pre.length = k + 1 := ⟨3 - pre.length, by omega⟩
  rw [h1, hk, putF, if_pos hm]
theorem PutAt.len {x : Nat} {pre : List UInt8} {m : Nat} (h : PutAt x pre m) : pre.length ≤ 3 := by
  rcases h.2 with h | h | h | h <;> omega

theorem putRO_c (n : Int) (w : World) : Calls Try.prog 24 #[.int .i64 n] w (PutO w n) := by
  by_cases h : n < 0 ∨ 268435455 < n
  · have H := Lib.hid h
    rcases h with h | h
    · go_enter Try.func24, Try.ntmps24
      go_wp2_with fail
      go_ret2
      exact ⟨Ext.refl _, .inl ⟨H.out, rfl⟩⟩
    · have h0 : 0 ≤ n := by omega
      go_enter Try.func24, Try.ntmps24
      go_wp2_with fail
      go_ret2
      exact ⟨Ext.refl _, .inl ⟨H.out, rfl⟩⟩
  · obtain ⟨i, hi, hz0, hz1, hz2⟩ := info_parts info_u8b
    have h0 : 0 ≤ n := by omega
    have h1 : n ≤ 268435455 := by omega
    obtain ⟨x, hx⟩ := Int.eq_ofNat_of_zero_le h0
    have hxlt : x < 268435456 := by omega
    have HX := Lib.hid hx
    have hst : PutAt x [] x := PutAt.start x hxlt
    have hown0 : Own (w.alloc (.cells #[] 5)) w.heap.size 5 1 (.slice (some ⟨w.heap.size, 0, none⟩) 0 0) 0 (Lib.byteCells []) :=
      Own.made w w.heap.size 5 1 0 #[] (Nat.le_refl _) (by omega) rfl
    have hbel0 : Below w.heap.size w (w.alloc (.cells #[] 5)) := (Below.refl _ _).alloc (Nat.le_refl _) _
    have HXL := Lib.hid hxlt
    clear h hx hxlt
    go_enter Try.func24, Try.ntmps24
    go_wp2_with fail
    go_loopw [0, 4] (fun m o wr => ∃ (pre : List UInt8) (k : Nat), PutAt x pre k ∧ m = .int .i64 k ∧ Own wr w.heap.size 5 1 o pre.length (Lib.byteCells pre) ∧ Below w.heap.size w wr) (fun m _ _ => (intOf m).toNat)
    case atStart => exact ⟨[], x, hst, by rw [HX.out], hown0, hbel0⟩
    case round =>
      obtain ⟨pre, k, hat, rfl, hown, hbel⟩ := hrel
      have hl3 := hat.len
      by_cases hk : k < 128
      · have hb : decide (127 < (k : Int)) = false := by rw [decide_eq_false_iff_not]; omega
        obtain ⟨v', w', happ, hown', hbel'⟩ := app_new (P := Try.prog) 22 22 5 i _ 1 1 Try.underlying22 hi hz0 hz1 hz2 rfl (by omega) (by omega)
          hbel hown (by omega) 1 #[.int .u8 (k : Int)] rfl (by omega) (by simp [Value.oneCell']) 5
        have hrd : Own w' w.heap.size 5 1 v' (putL x).length (Lib.byteCells (putL x)) := by
          rw [hat.last hk, byteCells_snoc _ _ (by omega), List.length_append]; exact hown'
        have HAP := Lib.hid happ; clear happ
        go_wp2_with (at_builtin; refine wpList_append_run rfl rfl HAP.out rfl rfl ?_)
        go_ret2
        exact ⟨hbel', .inr ⟨x, v', HX.out, HXL.out, rfl, hrd⟩⟩
      · have hk1 : 128 ≤ k := by omega
        have hkb : k < 268435456 := by rcases hat.2 with h | h | h | h <;> omega
        have hnx := hat.next hk1
        obtain ⟨v', w', happ, hown', hbel'⟩ := app_new (P := Try.prog) 22 22 5 i _ 1 1 Try.underlying22 hi hz0 hz1 hz2 rfl (by omega) (by omega)
          hbel hown (by omega) 1 #[.int .u8 (128 + (k : Int) % 128)] rfl (by omega) (by simp [Value.oneCell']) 5
        have hown2 : Own w' w.heap.size 5 1 v' (pre ++ [u8 (128 + k % 128)]).length (Lib.byteCells (pre ++ [u8 (128 + k % 128)])) := by
          rw [byteCells_snoc _ _ (by omega), List.length_append]
          have e : ((128 + k % 128 : Nat) : Int) = 128 + (k : Int) % 128 := by omega
          rw [e]; exact hown'
        have HAP := Lib.hid happ; clear happ hk
        go_wp2_with (at_builtin; refine wpList_append_run rfl rfl HAP.out rfl rfl ?_)
        go_roundw
        case rel => exact ⟨_, k / 128, hnx, by rw [Int.natCast_ediv]; rfl, hown2, hbel'⟩
        case measure => simp [intOf]; omega
theorem putR_c (n : Int) (w : World) : Calls Try.prog 24 #[.int .i64 n] w (PutR w n) := (putRO_c n w).mono fun _ _ h => h.put
end Go.Proofs.Ytilldbbfdmdggaa
