/- Layer 16, ChainAll. -/
import Derived.Test.YtejgkhmpmnjgaaaDoorL16b
namespace Go.Proofs.YtejgkhmpmnjgaaaDoor
open Go.RowKit
set_option maxRecDepth 100000
set_option maxHeartbeats 4000000
set_option linter.unusedSimpArgs false
theorem few_sm {s : ByteArray} {rv : List Int} {ls : List (List Sp)} : SmL (cut60k16 s) (rv.take 9) (fewS16 ls) := by
  have hl : (fewS16 ls).length ≤ 8 := by rw [fewS16_len]; omega
  have hll : ∀ l ∈ fewS16 ls, l.length ≤ 20 ∧ sumT l ≤ 1200 := by
    intro l h
    obtain ⟨x, _, rfl⟩ := List.mem_map.1 h
    have h1 : (fewL16 x).length ≤ 20 := by rw [fewL16_len]; omega
    refine ⟨h1, ?_⟩
    have h2 := sumT_le (fewL16 x) 60 (fewL16_size x)
    omega
  refine ⟨by have := cut60k16_size s; omega, by rw [List.length_take]; omega, by omega, fun l h => by have := (hll l h).1; omega, ?_⟩
  have h3 := sumTT_le (fewS16 ls) 1200 fun l h => (hll l h).2
  omega
theorem chainAll_c (A : Option Addr) (n c : Nat) (B : Option Addr) (m d : Nat) (s : ByteArray) (rv : List Int) (ls : List (List Sp)) (i : Int) (w : World) [Tab w] (h1 : Rd w 1 (.slice A n c) n (nV rv)) (h2 : RdSS w B m d ls) (hls : ∀ l ∈ ls, ∀ x ∈ l, x.2.2.size ≤ maxLen) (hs : s.size ≤ maxLen) (hn : n ≤ maxLen) (_hi : (Lit.int .i64 i).wf = true) :
    Calls Tryd.prog 3 #[.agg #[.string s, .slice A n c, .slice B m d], .int .i64 i] w fun e w' => e = .returned (.bool true) ∧ Ext w w' := by
  have HSH := Lib.hid (fun w' (hx : Ext w w') => have hTb := tab_ext hx; shown16_c w')
  have HFW0 := Lib.hid (fun w' (hx : Ext w w') => few16_c A n c B m d s rv ls w' (h1.ext hx) (h2.ext hx) hls hs hn)
  have hsm := few_sm (s := s) (rv := rv) (ls := ls)
  have hl8 : (fewS16 ls).length ≤ 8 := by rw [fewS16_len]; omega
  generalize cut60k16 s = FS at *
  generalize rv.take 9 = FR at *
  generalize fewS16 ls = FL at *
  have HFW := HFW0
  clear HFW0
  obtain ⟨FN, hFN⟩ : ∃ n, FL.length = n := ⟨_, rfl⟩
  rw [hFN] at HFW
  have hsz : (if logE FS FR FL = 0 then sizesL FS FL else []).length ≤ 1000 := by
    split
    · simp only [sizesL, List.length_cons, List.length_map]; omega
    · simp
  have HSZ := Lib.hid hsz
  have HA : Hid (∀ V, Ext w V → ∀ {x A2 n2 k2 B2 d2}, LogB V x A2 n2 k2 B2 FN d2 FS FR FL → Calls Tryd.prog 11 #[.agg #[.string FS, .slice A2 n2 k2, .slice B2 FN d2], .int .i64 i] V fun e w' => e = .returned (.tuple #[.string (atL FS FR FL i).1, .int .i64 (atL FS FR FL i).2]) ∧ Ext V w') := Lib.hid fun V hx _ _ _ _ _ _ hl => have hTb := tab_ext hx; atP16_c _ _ _ _ _ _ FS FR FL i V hl.rev hl.seg hsm
  have HB : Hid (∀ V, Ext w V → ∀ {x A2 n2 k2 B2 d2}, LogB V x A2 n2 k2 B2 FN d2 FS FR FL → Calls Tryd.prog 12 #[.agg #[.string FS, .slice A2 n2 k2, .slice B2 FN d2], .int .i64 i] V fun e w' => e = .returned (.tuple #[.string (atL FS FR FL i).1, .int .i64 (atL FS FR FL i).2]) ∧ Ext V w') := Lib.hid fun V _ _ _ _ _ _ _ hl => atR16_c _ _ _ _ _ _ FS FR FL i V hl.rev hl.seg hsm
  have HC : Hid (∀ V, Ext w V → ∀ {x A2 n2 k2 B2 d2}, LogB V x A2 n2 k2 B2 FN d2 FS FR FL → Calls Tryd.prog 13 #[.agg #[.string FS, .slice A2 n2 k2, .slice B2 FN d2]] V (SizesR V FS FR FL)) := Lib.hid fun V hx _ _ _ _ _ _ hl => have hTb := tab_ext hx; sizesP16_c _ _ _ _ _ _ FS FR FL V hl.rev hl.seg hsm
  have HD : Hid (∀ V, Ext w V → ∀ {x A2 n2 k2 B2 d2}, LogB V x A2 n2 k2 B2 FN d2 FS FR FL → Calls Tryd.prog 14 #[.agg #[.string FS, .slice A2 n2 k2, .slice B2 FN d2]] V (SizesR V FS FR FL)) := Lib.hid fun V _ _ _ _ _ _ _ hl => sizesR16_c _ _ _ _ _ _ FS FR FL V hl.rev hl.seg hsm
  have HM : Hid (∀ V, Ext w V → ∀ {x A2 n2 k2 B2 d2}, LogB V x A2 n2 k2 B2 FN d2 FS FR FL → Calls Tryd.prog 15 #[.agg #[.string FS, .slice A2 n2 k2, .slice B2 FN d2]] V fun e w' => e = .returned (.int .i64 (logE FS FR FL)) ∧ Ext V w') := Lib.hid fun V hx _ _ _ _ _ _ hl => have hTb := tab_ext hx; mayP16_c _ _ _ _ _ _ FS FR FL V hl.rev hl.seg hsm
  have HN : Hid (∀ V, Ext w V → ∀ {x A2 n2 k2 B2 d2}, LogB V x A2 n2 k2 B2 FN d2 FS FR FL → Calls Tryd.prog 16 #[.agg #[.string FS, .slice A2 n2 k2, .slice B2 FN d2]] V fun e w' => e = .returned (.int .i64 (logE FS FR FL)) ∧ Ext V w') := Lib.hid fun V _ _ _ _ _ _ _ hl => mayR16_c _ _ _ _ _ _ FS FR FL V hl.rev hl.seg hsm
  unfold SizesR at HC HD
  generalize (if logE FS FR FL = 0 then sizesL FS FL else []) = SZ at *
  generalize (atL FS FR FL i).1 = a1 at *
  generalize (atL FS FR FL i).2 = a2 at *
  generalize logE FS FR FL = EE at *
  clear hFN hsz hsm
  obtain ⟨x1, hx1⟩ : ∃ x, w.heap.size = x := ⟨_, rfl⟩
  obtain ⟨W1, hW1⟩ : ∃ V, w.alloc (.cells #[.string s, .slice A n c, .slice B m d] 25) = V := ⟨_, rfl⟩
  have hX1 : Ext w W1 := by rw [← hW1]; exact (Ext.refl w).alloc _
  have HB1 := Lib.hid (show LogB W1 x1 A n c B m d s rv ls by rw [← hW1, ← hx1]; exact LogB.new h1 h2)
  have E1 := Lib.hid (hX1 : Ext w W1)
  have HW1 := Lib.hid hW1; have HX1 := Lib.hid hx1
  clear hW1 hx1 hX1
  clear h1 h2 hls hs hn
  go_enter Tryd.func3, Tryd.ntmps3
  go_wp2_with fail
  rw [HW1.out, HX1.out]
  refine (HSH.out _ E1.out).mono ?_; rintro e w1 ⟨rfl, hx1⟩
  have e1 : Ext w w1 := E1.out.trans hx1
  replace HB1 := Lib.hid (HB1.out.ext hx1)
  obtain ⟨c0, c1, c2⟩ := HB1.out.cells
  clear hx1
  go_wp2_with fail
  refine (HFW.out _ e1).mono ?_; rintro e w2 ⟨hx2, A2, n2, k2, B2, d2, rfl, r2, q2⟩
  have e2 : Ext w w2 := e1.trans hx2
  replace HB1 := Lib.hid (HB1.out.ext hx2)
  clear hx2
  clear c0 c1 c2
  clear HB1
  obtain ⟨x2, hx2⟩ : ∃ x, w2.heap.size = x := ⟨_, rfl⟩
  obtain ⟨W2, hW2⟩ : ∃ V, w2.alloc (.cells #[.string FS, .slice A2 n2 k2, .slice B2 FN d2] 25) = V := ⟨_, rfl⟩
  have hX2 : Ext w2 W2 := by rw [← hW2]; exact (Ext.refl w2).alloc _
  have HB2 := Lib.hid (show LogB W2 x2 A2 n2 k2 B2 FN d2 FS FR FL by rw [← hW2, ← hx2]; exact LogB.new r2 q2)
  have E2 := Lib.hid (e2.trans hX2 : Ext w W2)
  have HW2 := Lib.hid hW2; have HX2 := Lib.hid hx2
  clear hW2 hx2 hX2
  clear r2 q2
  go_wp2_with fail
  rw [HW2.out, HX2.out]
  refine (HA.out _ E2.out HB2.out).mono ?_; rintro e w3 ⟨rfl, hx3⟩
  have e3 : Ext w w3 := E2.out.trans hx3
  replace HB2 := Lib.hid (HB2.out.ext hx3)
  obtain ⟨c0, c1, c2⟩ := HB2.out.cells
  clear hx3
  go_wp2_with fail
  clear c0 c1 c2
  refine (HB.out _ e3 HB2.out).mono ?_; rintro e w4 ⟨rfl, hx4⟩
  have e4 : Ext w w4 := e3.trans hx4
  replace HB2 := Lib.hid (HB2.out.ext hx4)
  obtain ⟨c0, c1, c2⟩ := HB2.out.cells
  clear hx4
  go_wp2_with fail
  clear c0 c1 c2
  refine (HC.out _ e4 HB2.out).mono ?_; rintro e w5 ⟨hx5, A3, n3, k3, rfl, r3⟩
  have e5 : Ext w w5 := e4.trans hx5
  replace HB2 := Lib.hid (HB2.out.ext hx5)
  obtain ⟨c0, c1, c2⟩ := HB2.out.cells
  have R3 := Lib.hid r3
  clear r3
  clear hx5
  go_wp2_with fail
  clear c0 c1 c2
  refine (HD.out _ e5 HB2.out).mono ?_; rintro e w6 ⟨hx6, A4, n4, k4, rfl, r4⟩
  have e6 : Ext w w6 := e5.trans hx6
  replace HB2 := Lib.hid (HB2.out.ext hx6)
  replace R3 := Lib.hid (R3.out.ext hx6)
  obtain ⟨c0, c1, c2⟩ := HB2.out.cells
  have R4 := Lib.hid r4
  clear r4
  clear hx6
  go_wp2_with fail
  have hrr := Ext.refl w6
  go_region_held3 (fun W => Ext w6 W ∧ W.cell? ⟨x2, 0, none⟩ = some (.string FS) ∧ W.cell? ⟨x2, 1, none⟩ = some (.slice A2 n2 k2) ∧ W.cell? ⟨x2, 2, none⟩ = some (.slice B2 FN d2))
    ((go_split_ands; refine ⟨?_, ?_, ?_, ?_⟩ <;> first | (exact True.intro) | (exact Ext.drew ‹_›) | (exact Ext.trans ‹_› hxk) | (exact ext_cell hxk ‹_›) | go_keep))
    (first
    | (go_at_call 15; go_split_ands; refine ((HM.out _ (e6.trans ‹Ext w6 _›) (HB2.out.ext ‹Ext w6 _›))).mono ?_; rintro e w31 ⟨rfl, hxk⟩)
    | (go_at_call 16; go_split_ands; refine ((HN.out _ (e6.trans ‹Ext w6 _›) (HB2.out.ext ‹Ext w6 _›))).mono ?_; rintro e w32 ⟨rfl, hxk⟩)
    | (go_at_call 17; go_split_ands; refine ((sameTrue15 rfl HSZ.out (R3.out.ext ‹Ext w6 _›) (R4.out.ext ‹Ext w6 _›))).mono ?_; rintro e w33 ⟨rfl, hxk⟩))
  go_split_ands
  have hx7 : Ext w6 w33 := by first | assumption | exact Ext.trans ‹Ext w6 _› hxk
  have e7 : Ext w w33 := e6.trans hx7
  replace HB2 := Lib.hid (HB2.out.ext hx7)
  replace R3 := Lib.hid (R3.out.ext hx7)
  replace R4 := Lib.hid (R4.out.ext hx7)
  go_wp2_with fail
  go_ret
  exact ⟨rfl, e7⟩
end Go.Proofs.YtejgkhmpmnjgaaaDoor
