/- Layer 3, SpanAll. -/
import Derived.Test.YtbejlojpajclbaaDoorL3a
import Derived.Deep.RegionHeld3
import Derived.Deep.DrawnRows
namespace Go.Proofs.YtbejlojpajclbaaDoor
open Go.RowKit
set_option maxRecDepth 100000
set_option maxHeartbeats 1000000
attribute [local go_sem ↓] Go.wp_at_zero Go.wp_at_succ

theorem spanAll_c (k n : Int) (t : ByteArray) (w : World) [Tab w] (hs : t.size ≤ maxLen) :
    Calls Tryd.prog 3 #[spanV k n t] w fun e w' => e = .returned (.bool true) ∧ Below w.heap.size w w' := by
  have HF := Lib.hid (fun w' => few3_c k n t w' hs)
  have hfs := few100_size t
  have H1 := Lib.hid (fun (w' : World) [Tab w'] => may_c k n (few100 t) w' (by omega))
  have H2 := Lib.hid (fun w' => mayR_c k n (few100 t) w' (by omega))
  have H3 := Lib.hid (fun (w' : World) [Tab w'] => in_c k n (few100 t) w')
  have H4 := Lib.hid (fun w' => inR_c k n (few100 t) w')
  have H5 := Lib.hid (fun (w' : World) [Tab w'] => out_c k n (few100 t) w' (by omega))
  have H6 := Lib.hid (fun w' => outR_c k n (few100 t) w' (by omega))
  generalize few100 t = u at *
  generalize mayS k n u = m at *
  generalize inS k n = i at *
  generalize outS k n u = o at *
  unfold spanV at *
  clear hs hfs
  go_enter Tryd.func3, Tryd.ntmps3
  go_wp2_with fail
  refine (shown3_c _).mono ?_; rintro e w1 ⟨rfl, hx1⟩
  have q0 := box_at _ _ _ _ hx1 0 _ rfl
  have q1 := box_at _ _ _ _ hx1 1 _ rfl
  have q2 := box_at _ _ _ _ hx1 2 _ rfl
  go_wp2_with fail
  refine (HF.out _).mono ?_; rintro e w2 ⟨rfl, hx2⟩
  go_wp2_with fail
  have HX2 := Lib.hid (Ext.refl (w2.alloc (.cells #[.int .i64 k, .int .i64 n, .string u] 23)))
  obtain ⟨W0, hW0⟩ : ∃ W0, W0 = w2.alloc (.cells #[.int .i64 k, .int .i64 n, .string u] 23) := ⟨_, rfl⟩
  obtain ⟨b, hb⟩ : ∃ b, b = w2.heap.size := ⟨_, rfl⟩
  have z0 : W0.cell? ⟨b, 0, none⟩ = some (.int .i64 k) := by rw [hW0, hb]; exact box_at _ _ _ _ (Ext.refl _) 0 _ rfl
  have z1 : W0.cell? ⟨b, 1, none⟩ = some (.int .i64 n) := by rw [hW0, hb]; exact box_at _ _ _ _ (Ext.refl _) 1 _ rfl
  have z2 : W0.cell? ⟨b, 2, none⟩ = some (.string u) := by rw [hW0, hb]; exact box_at _ _ _ _ (Ext.refl _) 2 _ rfl
  have hx0 : Ext w W0 := by rw [hW0]; exact (((Ext.refl w).alloc _).trans hx1).trans (hx2.alloc _)
  have HX0 := Lib.hid hx0
  have ht0 := tab_ext hx0
  rw [← hW0, ← hb]
  clear hW0 hb HX2 hx0 q0 q1 q2 hx1 hx2
  have hxx := Ext.refl W0
  go_region_held3 (fun w' => Tab w' ∧ Ext W0 w' ∧ w'.cell? ⟨b, 0, none⟩ = some (.int .i64 k) ∧ w'.cell? ⟨b, 1, none⟩ = some (.int .i64 n) ∧ w'.cell? ⟨b, 2, none⟩ = some (.string u))
    ((go_split_ands; refine ⟨?_, ?_, ?_, ?_, ?_⟩ <;> first | (exact Ext.drew ‹_›) | (exact Ext.trans ‹_› hxk) | (exact ext_cell hxk ‹_›) | (exact tab_ext hxk) | (exact inferInstance) | go_keep))
    (first
      | (go_at_call 8; (try go_split_ands); refine (H1.out _).mono ?_; rintro e w' ⟨rfl, hxk⟩)
      | (go_at_call 9; refine (H2.out _).mono ?_; rintro e w' ⟨rfl, hxk⟩)
      | (go_at_call 10; (try go_split_ands); refine (H3.out _).mono ?_; rintro e w' ⟨rfl, hxk⟩)
      | (go_at_call 11; refine (H4.out _).mono ?_; rintro e w' ⟨rfl, hxk⟩)
      | (go_at_call 12; (try go_split_ands); refine (H5.out _).mono ?_; rintro e w' ⟨rfl, hxk⟩)
      | (go_at_call 13; refine (H6.out _).mono ?_; rintro e w' ⟨rfl, hxk⟩))
  go_split_ands
  go_wp2_with fail
  go_ret
  first | exact ⟨rfl, HX0.out.trans ‹Ext W0 _›⟩ | exact ⟨rfl, HX0.out.trans (Ext.trans ‹Ext W0 _› hxk)⟩
end Go.Proofs.YtbejlojpajclbaaDoor
