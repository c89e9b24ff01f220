/- Layer 3, the statements' own functions: shown, few; SpanAll. -/
import Derived.Test.YtbejlojpajclbaaDoorP3
import Derived.Test.YtbejlojpajclbaaDoorFr
import Derived.Test.YtbejlojpajclbaaDoorBe
namespace Go.Proofs.YtbejlojpajclbaaDoor
open Go.RowKit
set_option maxRecDepth 100000
set_option maxHeartbeats 1000000

theorem ex3_out : outS 2 0 ⟨#[195, 169, 97]⟩ = 2 := by decide +kernel
theorem ex3_may : mayS 2 0 ⟨#[195, 169, 97]⟩ = 0 := by decide +kernel
theorem ex3_may0 : mayS 0 0 ⟨#[]⟩ = 1 := by decide +kernel
theorem shown3_c (w : World) [Tab w] : Calls Tryd.prog 6 #[] w fun e w' => e = .returned (.bool true) ∧ Ext w w' := by
  have H1 : Hid (∀ (w' : World) [Tab w'], Calls Tryd.prog 10 #[.agg #[.int .i64 2, .int .i64 0, .string ⟨#[195, 169, 97]⟩]] w' fun e w'' => e = .returned (.int .i64 0) ∧ Ext w' w'') := Lib.hid fun w' _ => in_c 2 0 _ w'
  have H2 : Hid (∀ (w' : World) [Tab w'], Calls Tryd.prog 12 #[.agg #[.int .i64 2, .int .i64 0, .string ⟨#[195, 169, 97]⟩]] w' fun e w'' => e = .returned (.int .i64 2) ∧ Ext w' w'') := Lib.hid fun w' _ => by
    have h := out_c 2 0 ⟨#[195, 169, 97]⟩ w' (by decide); rw [ex3_out] at h; exact h
  have H3 : Hid (∀ (w' : World) [Tab w'], Calls Tryd.prog 8 #[.agg #[.int .i64 2, .int .i64 0, .string ⟨#[195, 169, 97]⟩]] w' fun e w'' => e = .returned (.int .i64 0) ∧ Ext w' w'') := Lib.hid fun w' _ => by
    have h := may_c 2 0 ⟨#[195, 169, 97]⟩ w' (by decide); rw [ex3_may] at h; exact h
  have H4 : Hid (∀ (w' : World) [Tab w'], Calls Tryd.prog 8 #[.agg #[.int .i64 0, .int .i64 0, .string ⟨#[]⟩]] w' fun e w'' => e = .returned (.int .i64 1) ∧ Ext w' w'') := Lib.hid fun w' _ => by
    have h := may_c 0 0 ⟨#[]⟩ w' (by decide); rw [ex3_may0] at h; exact h
  go_enter Tryd.func6, Tryd.ntmps6
  go_wp2_with fail
  refine (H1.out _).mono ?_; rintro e w1 ⟨rfl, hx1⟩; have ht1 := tab_ext hx1
  have q0 := box_at _ _ _ _ hx1 0 _ rfl
  have q1 := box_at _ _ _ _ hx1 1 _ rfl
  have q2 := box_at _ _ _ _ hx1 2 _ rfl
  go_wp2_with fail
  refine (H2.out _).mono ?_; rintro e w2 ⟨rfl, hx2⟩; have ht2 := tab_ext hx2
  have hx12 := hx1.trans hx2
  have r0 := box_at _ _ _ _ hx12 0 _ rfl
  have r1 := box_at _ _ _ _ hx12 1 _ rfl
  have r2 := box_at _ _ _ _ hx12 2 _ rfl
  go_wp2_with fail
  refine (H3.out _).mono ?_; rintro e w3 ⟨rfl, hx3⟩; have ht3 := tab_ext hx3
  go_wp2_with fail
  refine (H4.out _).mono ?_; rintro e w4 ⟨rfl, hx4⟩
  go_wp2_with fail
  go_ret
  exact ⟨rfl, (((Ext.refl w).alloc _).trans hx12).trans (hx3.trans hx4)⟩
/-- The first 100 bytes of a string. -/
def few100 (s : ByteArray) : ByteArray := s.extract 0 (min s.size 100)
theorem few100_size (s : ByteArray) : (few100 s).size ≤ 100 := by simp [few100]; omega
theorem few3_c (k n : Int) (t : ByteArray) (w : World) (hs : t.size ≤ maxLen) : Calls Tryd.prog 7 #[spanV k n t] w fun e w' => e = .returned (spanV k n (few100 t)) ∧ Ext w w' := by
  unfold maxLen at hs
  have hm : (min (t.size : Int) 100).toNat = min t.size 100 := by omega
  have HM := Lib.hid hm; clear hm
  have HX : Hid (∀ o, Ext w (w.alloc o)) := Lib.hid fun o => (Ext.refl w).alloc o
  unfold spanV
  go_enter Tryd.func7, Tryd.ntmps7
  go_wp2_with fail
  rw [HM.out]
  refine bodyPost_ret (results_cell_row rfl _ _ (w.heap.size + 1) _ _ (0, 0) _ rfl (heap_alloc2_new w _ _) Tryd.underlying23 rfl (by kernel_rfl)) rfl ?_
  exact ⟨rfl, (HX.out _).alloc _⟩
end Go.Proofs.YtbejlojpajclbaaDoor
