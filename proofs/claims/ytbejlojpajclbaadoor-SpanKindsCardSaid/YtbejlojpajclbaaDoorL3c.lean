/- Layer 3, SpanKinds. -/
import Derived.Test.YtbejlojpajclbaaDoorL3a
import Derived.Test.YtbejlojpajclbaaDoorC1i
import Derived.Deep.RegionHeld3
import Derived.Deep.DrawnRows
namespace Go.Proofs.YtbejlojpajclbaaDoor
open Go.RowKit
set_option maxRecDepth 100000
set_option maxHeartbeats 4000000
attribute [local go_sem ↓] Go.wp_at_zero Go.wp_at_succ
/-- The five boxes. -/
def BX (B : Nat) (n : Int) (T : ByteArray) (W : World) : Prop := W.cell? ⟨B, 0, none⟩ = some (.int .i64 1) ∧ W.cell? ⟨B, 1, none⟩ = some (.int .i64 n) ∧ W.cell? ⟨B, 2, none⟩ = some (.string ⟨#[]⟩) ∧ W.cell? ⟨B + 1, 0, none⟩ = some (.int .i64 3) ∧ W.cell? ⟨B + 1, 1, none⟩ = some (.int .i64 n) ∧ W.cell? ⟨B + 1, 2, none⟩ = some (.string ⟨#[]⟩) ∧ W.cell? ⟨B + 1 + 1, 0, none⟩ = some (.int .i64 2) ∧ W.cell? ⟨B + 1 + 1, 1, none⟩ = some (.int .i64 0) ∧ W.cell? ⟨B + 1 + 1, 2, none⟩ = some (.string T) ∧ W.cell? ⟨B + 1 + 1 + 1, 0, none⟩ = some (.int .i64 2) ∧ W.cell? ⟨B + 1 + 1 + 1, 1, none⟩ = some (.int .i64 n) ∧ W.cell? ⟨B + 1 + 1 + 1, 2, none⟩ = some (.string T) ∧ W.cell? ⟨B + 1 + 1 + 1 + 1, 0, none⟩ = some (.int .i64 3) ∧ W.cell? ⟨B + 1 + 1 + 1 + 1, 1, none⟩ = some (.int .i64 n) ∧ W.cell? ⟨B + 1 + 1 + 1 + 1, 2, none⟩ = some (.string T)
theorem BX.ext {B : Nat} {n : Int} {T : ByteArray} {W W' : World} (h : BX B n T W) (hx : Ext W W') : BX B n T W' := by
  obtain ⟨g00, g01, g02, g10, g11, g12, g20, g21, g22, g30, g31, g32, g40, g41, g42⟩ := h
  exact ⟨ext_cell hx g00, ext_cell hx g01, ext_cell hx g02, ext_cell hx g10, ext_cell hx g11, ext_cell hx g12, ext_cell hx g20, ext_cell hx g21, ext_cell hx g22, ext_cell hx g30, ext_cell hx g31, ext_cell hx g32, ext_cell hx g40, ext_cell hx g41, ext_cell hx g42⟩
theorem BX.made (w : World) (n : Int) (T : ByteArray) (e : TypeId) : BX w.heap.size n T (((((w.alloc (.cells #[.int .i64 1, .int .i64 n, .string ⟨#[]⟩] e)).alloc (.cells #[.int .i64 3, .int .i64 n, .string ⟨#[]⟩] e)).alloc (.cells #[.int .i64 2, .int .i64 0, .string T] e)).alloc (.cells #[.int .i64 2, .int .i64 n, .string T] e)).alloc (.cells #[.int .i64 3, .int .i64 n, .string T] e)) := by
  have a1 := fun q u hu => box_at w _ #[.int .i64 1, .int .i64 n, .string ⟨#[]⟩] e (((((Ext.refl _).alloc (.cells #[.int .i64 3, .int .i64 n, .string ⟨#[]⟩] e)).alloc (.cells #[.int .i64 2, .int .i64 0, .string T] e)).alloc (.cells #[.int .i64 2, .int .i64 n, .string T] e)).alloc (.cells #[.int .i64 3, .int .i64 n, .string T] e)) q u hu
  have a2 := fun q u hu => box_at (w.alloc (.cells #[.int .i64 1, .int .i64 n, .string ⟨#[]⟩] e)) _ #[.int .i64 3, .int .i64 n, .string ⟨#[]⟩] e ((((Ext.refl _).alloc (.cells #[.int .i64 2, .int .i64 0, .string T] e)).alloc (.cells #[.int .i64 2, .int .i64 n, .string T] e)).alloc (.cells #[.int .i64 3, .int .i64 n, .string T] e)) q u hu
  have a3 := fun q u hu => box_at ((w.alloc (.cells #[.int .i64 1, .int .i64 n, .string ⟨#[]⟩] e)).alloc (.cells #[.int .i64 3, .int .i64 n, .string ⟨#[]⟩] e)) _ #[.int .i64 2, .int .i64 0, .string T] e (((Ext.refl _).alloc (.cells #[.int .i64 2, .int .i64 n, .string T] e)).alloc (.cells #[.int .i64 3, .int .i64 n, .string T] e)) q u hu
  have a4 := fun q u hu => box_at (((w.alloc (.cells #[.int .i64 1, .int .i64 n, .string ⟨#[]⟩] e)).alloc (.cells #[.int .i64 3, .int .i64 n, .string ⟨#[]⟩] e)).alloc (.cells #[.int .i64 2, .int .i64 0, .string T] e)) _ #[.int .i64 2, .int .i64 n, .string T] e ((Ext.refl _).alloc (.cells #[.int .i64 3, .int .i64 n, .string T] e)) q u hu
  have a5 := fun q u hu => box_at ((((w.alloc (.cells #[.int .i64 1, .int .i64 n, .string ⟨#[]⟩] e)).alloc (.cells #[.int .i64 3, .int .i64 n, .string ⟨#[]⟩] e)).alloc (.cells #[.int .i64 2, .int .i64 0, .string T] e)).alloc (.cells #[.int .i64 2, .int .i64 n, .string T] e)) _ #[.int .i64 3, .int .i64 n, .string T] e (Ext.refl _) q u hu
  simp only [size_alloc] at a2 a3 a4 a5
  exact ⟨a1 0 _ rfl, a1 1 _ rfl, a1 2 _ rfl, a2 0 _ rfl, a2 1 _ rfl, a2 2 _ rfl, a3 0 _ rfl, a3 1 _ rfl, a3 2 _ rfl, a4 0 _ rfl, a4 1 _ rfl, a4 2 _ rfl, a5 0 _ rfl, a5 1 _ rfl, a5 2 _ rfl⟩

theorem spanKinds_walk (n : Int) (s T : ByteArray) (c mk ms mo : Int) (w : World) [Tab w] (hs : s.size ≤ 9223372036854775807)
    (hfit : ∀ w', Calls Tryd.prog 14 #[.string (s.extract 0 (min (s.size : Int) 100).toNat)] w' fun e w'' => e = .returned (.string T) ∧ Ext w' w'')
    (hk : (n < 0 ∧ mk = 2 ∧ ms = 2 ∧ mo = 2 ∧ (n == 0) = false) ∨ (0 ≤ n ∧ 1048576 < n ∧ mk = 2 ∧ ms = 2 ∧ mo = 2 ∧ (n == 0) = false) ∨ (0 ≤ n ∧ n ≤ 1048576 ∧ mk = 0 ∧ (((n == 0) = true ∧ mo = 0) ∨ ((n == 0) = false ∧ mo = 2)) ∧ ((T.toList.isEmpty = true ∧ ms = 0) ∨ (T.toList.isEmpty = false ∧ ms = 3))))
    (hMk : ∀ (w' : World) [Tab w'], Calls Tryd.prog 8 #[.agg #[.int .i64 1, .int .i64 n, .string ⟨#[]⟩]] w' fun e w'' => e = .returned (.int .i64 mk) ∧ Ext w' w'') (hMd : ∀ (w' : World) [Tab w'], Calls Tryd.prog 8 #[.agg #[.int .i64 3, .int .i64 n, .string ⟨#[]⟩]] w' fun e w'' => e = .returned (.int .i64 mk) ∧ Ext w' w'') (hMs : ∀ (w' : World) [Tab w'], Calls Tryd.prog 8 #[.agg #[.int .i64 3, .int .i64 n, .string T]] w' fun e w'' => e = .returned (.int .i64 ms) ∧ Ext w' w'') (hMp : ∀ (w' : World) [Tab w'], Calls Tryd.prog 8 #[.agg #[.int .i64 2, .int .i64 0, .string T]] w' fun e w'' => e = .returned (.int .i64 0) ∧ Ext w' w'') (hMo : ∀ (w' : World) [Tab w'], Calls Tryd.prog 8 #[.agg #[.int .i64 2, .int .i64 n, .string T]] w' fun e w'' => e = .returned (.int .i64 mo) ∧ Ext w' w'')
    (hIk : ∀ (w' : World) [Tab w'], Calls Tryd.prog 10 #[.agg #[.int .i64 1, .int .i64 n, .string ⟨#[]⟩]] w' fun e w'' => e = .returned (.int .i64 n) ∧ Ext w' w'') (hId : ∀ (w' : World) [Tab w'], Calls Tryd.prog 10 #[.agg #[.int .i64 3, .int .i64 n, .string ⟨#[]⟩]] w' fun e w'' => e = .returned (.int .i64 n) ∧ Ext w' w'') (hIp : ∀ (w' : World) [Tab w'], Calls Tryd.prog 10 #[.agg #[.int .i64 2, .int .i64 0, .string T]] w' fun e w'' => e = .returned (.int .i64 0) ∧ Ext w' w'')
    (hOk : ∀ (w' : World) [Tab w'], Calls Tryd.prog 12 #[.agg #[.int .i64 1, .int .i64 n, .string ⟨#[]⟩]] w' fun e w'' => e = .returned (.int .i64 n) ∧ Ext w' w'') (hOd : ∀ (w' : World) [Tab w'], Calls Tryd.prog 12 #[.agg #[.int .i64 3, .int .i64 n, .string ⟨#[]⟩]] w' fun e w'' => e = .returned (.int .i64 0) ∧ Ext w' w'') (hOp : ∀ (w' : World) [Tab w'], Calls Tryd.prog 12 #[.agg #[.int .i64 2, .int .i64 0, .string T]] w' fun e w'' => e = .returned (.int .i64 c) ∧ Ext w' w'')
    (hC : ∀ w', Calls Tryd.prog 15 #[.string T] w' fun e w'' => e = .returned (.int .i64 c) ∧ Ext w' w'') :
    Calls Tryd.prog 4 #[.int .i64 n, .string s] w fun e w' => e = .returned (.bool true) ∧ Below w.heap.size w w' := by
  have HFIT := Lib.hid hfit; have HMk := Lib.hid hMk; have HMd := Lib.hid hMd; have HMs := Lib.hid hMs; have HMp := Lib.hid hMp; have HMo := Lib.hid hMo
  have HIk := Lib.hid hIk; have HId := Lib.hid hId; have HIp := Lib.hid hIp; have HOk := Lib.hid hOk; have HOd := Lib.hid hOd; have HOp := Lib.hid hOp; have HC := Lib.hid hC
  clear hfit hMk hMd hMs hMp hMo hIk hId hIp hOk hOd hOp hC
  rcases hk with ⟨n0, rfl, rfl, rfl, d0⟩ | ⟨n0, n1, rfl, rfl, rfl, d0⟩ | ⟨n0, n1, rfl, ⟨d0, rfl⟩ | ⟨d0, rfl⟩, ⟨dE, rfl⟩ | ⟨dE, rfl⟩⟩
  all_goals
    go_enter Tryd.func4, Tryd.ntmps4
    go_wp2_with fail
    refine (shown3_c _).mono ?_; rintro e w1 ⟨rfl, hx1⟩; have ht1 := tab_ext hx1
    go_wp2_with fail
    refine (HFIT.out _).mono ?_; rintro e w2 ⟨rfl, hx2⟩; have ht2 := tab_ext hx2
    have hbx := BX.made w2 n T 23
    have hx0 := (((((hx1.trans hx2).alloc (.cells #[.int .i64 1, .int .i64 n, .string ⟨#[]⟩] 23)).alloc (.cells #[.int .i64 3, .int .i64 n, .string ⟨#[]⟩] 23)).alloc (.cells #[.int .i64 2, .int .i64 0, .string T] 23)).alloc (.cells #[.int .i64 2, .int .i64 n, .string T] 23)).alloc (.cells #[.int .i64 3, .int .i64 n, .string T] 23)
    have HBX := Lib.hid hbx
    have ht0 := tab_ext hx0
    have HX0 := Lib.hid hx0
    clear hbx hx0 hx1 hx2
    go_wp2_with fail
    generalize (((((w2.alloc (.cells #[.int .i64 1, .int .i64 n, .string ⟨#[]⟩] 23)).alloc (.cells #[.int .i64 3, .int .i64 n, .string ⟨#[]⟩] 23)).alloc (.cells #[.int .i64 2, .int .i64 0, .string T] 23)).alloc (.cells #[.int .i64 2, .int .i64 n, .string T] 23)).alloc (.cells #[.int .i64 3, .int .i64 n, .string T] 23)) = W0 at *
    generalize w2.heap.size = B at *
    have hbx := HBX.out
    have hxx := Ext.refl W0
    (refine (HMk.out _).mono ?_); rintro e w3 ⟨rfl, hxk⟩; have htk := tab_ext hxk
    replace hbx := hbx.ext hxk
    replace hxx := hxx.trans hxk
    obtain ⟨g00, g01, g02, g10, g11, g12, g20, g21, g22, g30, g31, g32, g40, g41, g42⟩ := id hbx
    go_wp2_with (first
      | (go_at_call 8; (with_reducible refine (HMk.out _).mono ?_); rintro e w' ⟨rfl, hxk⟩; replace htk := tab_ext hxk; replace hbx := hbx.ext hxk; replace hxx := hxx.trans hxk; clear hxk; obtain ⟨g00, g01, g02, g10, g11, g12, g20, g21, g22, g30, g31, g32, g40, g41, g42⟩ := id hbx)
      | (go_at_call 8; (with_reducible refine (HMd.out _).mono ?_); rintro e w' ⟨rfl, hxk⟩; replace htk := tab_ext hxk; replace hbx := hbx.ext hxk; replace hxx := hxx.trans hxk; clear hxk; obtain ⟨g00, g01, g02, g10, g11, g12, g20, g21, g22, g30, g31, g32, g40, g41, g42⟩ := id hbx)
      | (go_at_call 8; (with_reducible refine (HMs.out _).mono ?_); rintro e w' ⟨rfl, hxk⟩; replace htk := tab_ext hxk; replace hbx := hbx.ext hxk; replace hxx := hxx.trans hxk; clear hxk; obtain ⟨g00, g01, g02, g10, g11, g12, g20, g21, g22, g30, g31, g32, g40, g41, g42⟩ := id hbx)
      | (go_at_call 8; (with_reducible refine (HMp.out _).mono ?_); rintro e w' ⟨rfl, hxk⟩; replace htk := tab_ext hxk; replace hbx := hbx.ext hxk; replace hxx := hxx.trans hxk; clear hxk; obtain ⟨g00, g01, g02, g10, g11, g12, g20, g21, g22, g30, g31, g32, g40, g41, g42⟩ := id hbx)
      | (go_at_call 8; (with_reducible refine (HMo.out _).mono ?_); rintro e w' ⟨rfl, hxk⟩; replace htk := tab_ext hxk; replace hbx := hbx.ext hxk; replace hxx := hxx.trans hxk; clear hxk; obtain ⟨g00, g01, g02, g10, g11, g12, g20, g21, g22, g30, g31, g32, g40, g41, g42⟩ := id hbx)
      | (go_at_call 10; (with_reducible refine (HIk.out _).mono ?_); rintro e w' ⟨rfl, hxk⟩; replace htk := tab_ext hxk; replace hbx := hbx.ext hxk; replace hxx := hxx.trans hxk; clear hxk; obtain ⟨g00, g01, g02, g10, g11, g12, g20, g21, g22, g30, g31, g32, g40, g41, g42⟩ := id hbx)
      | (go_at_call 10; (with_reducible refine (HId.out _).mono ?_); rintro e w' ⟨rfl, hxk⟩; replace htk := tab_ext hxk; replace hbx := hbx.ext hxk; replace hxx := hxx.trans hxk; clear hxk; obtain ⟨g00, g01, g02, g10, g11, g12, g20, g21, g22, g30, g31, g32, g40, g41, g42⟩ := id hbx)
      | (go_at_call 10; (with_reducible refine (HIp.out _).mono ?_); rintro e w' ⟨rfl, hxk⟩; replace htk := tab_ext hxk; replace hbx := hbx.ext hxk; replace hxx := hxx.trans hxk; clear hxk; obtain ⟨g00, g01, g02, g10, g11, g12, g20, g21, g22, g30, g31, g32, g40, g41, g42⟩ := id hbx)
      | (go_at_call 12; (with_reducible refine (HOk.out _).mono ?_); rintro e w' ⟨rfl, hxk⟩; replace htk := tab_ext hxk; replace hbx := hbx.ext hxk; replace hxx := hxx.trans hxk; clear hxk; obtain ⟨g00, g01, g02, g10, g11, g12, g20, g21, g22, g30, g31, g32, g40, g41, g42⟩ := id hbx)
      | (go_at_call 12; (with_reducible refine (HOd.out _).mono ?_); rintro e w' ⟨rfl, hxk⟩; replace htk := tab_ext hxk; replace hbx := hbx.ext hxk; replace hxx := hxx.trans hxk; clear hxk; obtain ⟨g00, g01, g02, g10, g11, g12, g20, g21, g22, g30, g31, g32, g40, g41, g42⟩ := id hbx)
      | (go_at_call 12; (with_reducible refine (HOp.out _).mono ?_); rintro e w' ⟨rfl, hxk⟩; replace htk := tab_ext hxk; replace hbx := hbx.ext hxk; replace hxx := hxx.trans hxk; clear hxk; obtain ⟨g00, g01, g02, g10, g11, g12, g20, g21, g22, g30, g31, g32, g40, g41, g42⟩ := id hbx)
      | (go_at_call 15; (with_reducible refine (HC.out _).mono ?_); rintro e w' ⟨rfl, hxk⟩; replace htk := tab_ext hxk; replace hbx := hbx.ext hxk; replace hxx := hxx.trans hxk; clear hxk; obtain ⟨g00, g01, g02, g10, g11, g12, g20, g21, g22, g30, g31, g32, g40, g41, g42⟩ := id hbx))
    go_ret
    exact ⟨rfl, HX0.out.trans hxx⟩

theorem spanKinds_c (n : Int) (s : ByteArray) (w : World) [Tab w] (_hn : (Lit.int .i64 n).wf = true) (hs : s.size ≤ maxLen) :
    Calls Tryd.prog 4 #[.int .i64 n, .string s] w fun e w' => e = .returned (.bool true) ∧ Below w.heap.size w w' := by
  unfold maxLen at hs
  have hm : (min (s.size : Int) 100).toNat = min s.size 100 := by omega
  have hfs := few100_size s
  have hfit := fun w' => fit_c (few100 s) w' (by omega)
  have hcp := fitC_cp (bs (few100 s))
  have hln : (fitC (bs (few100 s))).length ≤ 100 := by rw [fitC_length, bs_length]; exact hfs
  unfold few100 at hfit hcp hln
  rw [← hm] at hfit hcp hln
  generalize fitC (bs (s.extract 0 (min (s.size : Int) 100).toNat)) = cs at *
  have hsz : (mkS (encs cs)).size ≤ 1000000000 := by rw [size_mkS]; have := encs_le cs; omega
  have hd : dec (bs (mkS (encs cs))) = some cs := by rw [bs_mkS, dec_encs hcp]
  have hcnt : cntF (bs (mkS (encs cs))) = cs.length := by unfold cntF; rw [hd]
  have hE := toList_bs (mkS (encs cs))
  refine spanKinds_walk n s (mkS (encs cs)) cs.length (mayS 1 n ⟨#[]⟩) (mayS 3 n (mkS (encs cs))) (mayS 2 n (mkS (encs cs))) w (by omega) hfit ?_
    (fun w' _ => may_c 1 n ⟨#[]⟩ w' (by decide)) (fun w' _ => may_c 3 n ⟨#[]⟩ w' (by decide)) (fun w' _ => may_c 3 n _ w' hsz) ?_ (fun w' _ => may_c 2 n _ w' hsz)
    (fun w' _ => in_c 1 n _ w') (fun w' _ => in_c 3 n _ w') (fun w' _ => in_c 2 0 _ w') (fun w' _ => out_c 1 n _ w' (by decide)) (fun w' _ => out_c 3 n _ w' (by decide)) ?_ ?_
  · have e1 : mayS 1 n ⟨#[]⟩ = if n < 0 ∨ 1048576 < n then 2 else 0 := by
      unfold mayS; rw [if_pos (by omega)]; rfl
    have e2 : mayS 3 n (mkS (encs cs)) = if n < 0 ∨ 1048576 < n then 2 else if (bs (mkS (encs cs))).isEmpty then 0 else 3 := by
      unfold mayS; rw [if_pos (by omega)]
    have e3 : mayS 2 n (mkS (encs cs)) = if n = 0 then 0 else 2 := by
      unfold mayS; rw [if_neg (by omega), if_pos rfl, hd]; rfl
    rw [e1, e2, e3, hE]
    rcases (by omega : n < 0 ∨ (0 ≤ n ∧ 1048576 < n) ∨ (0 ≤ n ∧ n ≤ 1048576)) with h | ⟨h, h'⟩ | ⟨h, h'⟩
    · exact .inl ⟨h, by rw [if_pos (by omega)], by rw [if_pos (by omega)], by rw [if_neg (by omega)], by rw [beq_eq_false_iff_ne]; omega⟩
    · exact .inr (.inl ⟨h, h', by rw [if_pos (by omega)], by rw [if_pos (by omega)], by rw [if_neg (by omega)], by rw [beq_eq_false_iff_ne]; omega⟩)
    · refine .inr (.inr ⟨h, h', by rw [if_neg (by omega)], ?_, ?_⟩)
      · by_cases h0 : n = 0
        · exact .inl ⟨by rw [beq_iff_eq]; exact h0, by rw [if_pos h0]⟩
        · exact .inr ⟨by rw [beq_eq_false_iff_ne]; exact h0, by rw [if_neg h0]⟩
      · rw [if_neg (by omega)]
        cases (bs (mkS (encs cs))).isEmpty
        · exact .inr ⟨rfl, rfl⟩
        · exact .inl ⟨rfl, rfl⟩
  · intro w' _
    have h := may_c 2 0 (mkS (encs cs)) w' hsz
    have e : mayS 2 0 (mkS (encs cs)) = 0 := by unfold mayS; rw [if_neg (by omega), if_pos rfl, if_pos rfl, hd]; rfl
    rw [e] at h; exact h
  · intro w' _
    have h := out_c 2 0 (mkS (encs cs)) w' hsz
    have e : outS 2 0 (mkS (encs cs)) = cs.length := by unfold outS; rw [if_neg (by omega), if_pos rfl, hcnt]; omega
    rw [e] at h; exact h
  · intro w'
    have h := count_c (mkS (encs cs)) w' hsz
    rw [hcnt] at h; exact h
end Go.Proofs.YtbejlojpajclbaaDoor
