/- Layer 16: shown; logs in boxes. -/
import Derived.Test.YtejgkhmpmnjgaaaDoorL16a
namespace Go.Proofs.YtejgkhmpmnjgaaaDoor
open Go.RowKit
set_option maxRecDepth 100000
set_option maxHeartbeats 4000000
set_option linter.unusedSimpArgs false
/-- A log in a box, with all that it holds. -/
structure LogB (W : World) (x : Nat) (A : Option Addr) (n c : Nat) (B : Option Addr) (m d : Nat) (s : ByteArray) (rv : List Int) (ls : List (List Sp)) : Prop where
  box : BxT 25 W x #[.string s, .slice A n c, .slice B m d]
  rev : Rd W 1 (.slice A n c) n (nV rv)
  seg : RdSS W B m d ls
theorem LogB.ext {W W' : World} {x : Nat} {A : Option Addr} {n c : Nat} {B : Option Addr} {m d : Nat} {s : ByteArray} {rv : List Int} {ls : List (List Sp)} (h : LogB W x A n c B m d s rv ls) (hx : Ext W W') : LogB W' x A n c B m d s rv ls := ⟨h.box.ext hx, h.rev.ext hx, h.seg.ext hx⟩
theorem LogB.new {W : World} {A : Option Addr} {n c : Nat} {B : Option Addr} {m d : Nat} {s : ByteArray} {rv : List Int} {ls : List (List Sp)} (h1 : Rd W 1 (.slice A n c) n (nV rv)) (h2 : RdSS W B m d ls) : LogB (W.alloc (.cells #[.string s, .slice A n c, .slice B m d] 25)) W.heap.size A n c B m d s rv ls :=
  ⟨BxT.new W 25 _, h1.ext ((Ext.refl W).alloc _), h2.ext ((Ext.refl W).alloc _)⟩
theorem LogB.cells {W : World} {x : Nat} {A : Option Addr} {n c : Nat} {B : Option Addr} {m d : Nat} {s : ByteArray} {rv : List Int} {ls : List (List Sp)} (h : LogB W x A n c B m d s rv ls) : W.cell? ⟨x, 0, none⟩ = some (.string s) ∧ W.cell? ⟨x, 1, none⟩ = some (.slice A n c) ∧ W.cell? ⟨x, 2, none⟩ = some (.slice B m d) := ⟨h.box.cell rfl, h.box.cell rfl, h.box.cell rfl⟩
def ex16 : List Sp := [(1, 2, ⟨#[]⟩), (2, 0, ⟨#[99]⟩)]
theorem ex16_e : logE ⟨#[97, 98]⟩ [0, 3] [ex16] = 0 := by decide +kernel
theorem ex16_a : atL ⟨#[97, 98]⟩ [0, 3] [ex16] 1 = (⟨#[97, 98, 99]⟩, 0) := by decide +kernel
theorem ex16_n : logE ⟨#[]⟩ [] [] = 6 := by decide +kernel
theorem ex16_s : SmL ⟨#[97, 98]⟩ [0, 3] [ex16] := ⟨by decide, by decide, by decide, by decide, by decide⟩
theorem shown16_c (w : World) [Tab w] : Calls Tryd.prog 9 #[] w fun e w' => e = .returned (.bool true) ∧ Ext w w' := by
  obtain ⟨B, hB⟩ : ∃ B, w.heap.size = B := ⟨_, rfl⟩
  have s1 : (w.alloc (.cells #[.int .i64 0, .int .i64 3] 3)).heap.size = B + 1 := by rw [size_alloc, hB]
  have s2 : ((w.alloc (.cells #[.int .i64 0, .int .i64 3] 3)).alloc (.cells #[.int .i64 1, .int .i64 2, .string ⟨#[]⟩, .int .i64 2, .int .i64 0, .string ⟨#[99]⟩] 43)).heap.size = B + 1 + 1 := by rw [size_alloc, s1]
  have s3 : (((w.alloc (.cells #[.int .i64 0, .int .i64 3] 3)).alloc (.cells #[.int .i64 1, .int .i64 2, .string ⟨#[]⟩, .int .i64 2, .int .i64 0, .string ⟨#[99]⟩] 43)).alloc (.cells #[.slice (some ⟨B + 1, 0, none⟩) 2 2] 39)).heap.size = B + 1 + 1 + 1 := by rw [size_alloc, s2]
  have r0 := rdN_made w [0, 3] #[.int .i64 0, .int .i64 3] 3 (n := 2) rfl rfl (by decide)
  rw [hB] at r0
  have r1 : RdO ((w.alloc (.cells #[.int .i64 0, .int .i64 3] 3)).alloc (.cells #[.int .i64 1, .int .i64 2, .string ⟨#[]⟩, .int .i64 2, .int .i64 0, .string ⟨#[99]⟩] 43)) (some ⟨B + 1, 0, none⟩) 2 2 ex16 := ⟨rfl, rd_made6 s1 (Ext.refl _)⟩
  have r2 := rdSS1 39 r1
  rw [s2] at r2
  have e1 : Ext w (w.alloc (.cells #[.int .i64 0, .int .i64 3] 3)) := (Ext.refl w).alloc _
  have r0b := ((r0.ext ((Ext.refl _).alloc (.cells #[.int .i64 1, .int .i64 2, .string ⟨#[]⟩, .int .i64 2, .int .i64 0, .string ⟨#[99]⟩] 43))).ext ((Ext.refl _).alloc (.cells #[.slice (some ⟨B + 1, 0, none⟩) 2 2] 39)))
  have hl := LogB.new (s := ⟨#[97, 98]⟩) r0b r2
  rw [s3] at hl
  have e4 : Ext w ((((w.alloc (.cells #[.int .i64 0, .int .i64 3] 3)).alloc (.cells #[.int .i64 1, .int .i64 2, .string ⟨#[]⟩, .int .i64 2, .int .i64 0, .string ⟨#[99]⟩] 43)).alloc (.cells #[.slice (some ⟨B + 1, 0, none⟩) 2 2] 39)).alloc (.cells #[.string ⟨#[97, 98]⟩, .slice (some ⟨B, 0, none⟩) 2 2, .slice (some ⟨B + 1 + 1, 0, none⟩) 1 1] 25)) := (((e1.alloc _).alloc _).alloc _)
  have HL := Lib.hid hl; have E4 := Lib.hid e4
  have hTb := tab_ext e4
  have HA : Hid (Calls Tryd.prog 11 #[.agg #[.string ⟨#[97, 98]⟩, .slice (some ⟨B, 0, none⟩) 2 2, .slice (some ⟨B + 1 + 1, 0, none⟩) 1 1], .int .i64 1] ((((w.alloc (.cells #[.int .i64 0, .int .i64 3] 3)).alloc (.cells #[.int .i64 1, .int .i64 2, .string ⟨#[]⟩, .int .i64 2, .int .i64 0, .string ⟨#[99]⟩] 43)).alloc (.cells #[.slice (some ⟨B + 1, 0, none⟩) 2 2] 39)).alloc (.cells #[.string ⟨#[97, 98]⟩, .slice (some ⟨B, 0, none⟩) 2 2, .slice (some ⟨B + 1 + 1, 0, none⟩) 1 1] 25)) _) := Lib.hid (atP16_c _ _ _ _ _ _ ⟨#[97, 98]⟩ [0, 3] [ex16] 1 ((((w.alloc (.cells #[.int .i64 0, .int .i64 3] 3)).alloc (.cells #[.int .i64 1, .int .i64 2, .string ⟨#[]⟩, .int .i64 2, .int .i64 0, .string ⟨#[99]⟩] 43)).alloc (.cells #[.slice (some ⟨B + 1, 0, none⟩) 2 2] 39)).alloc (.cells #[.string ⟨#[97, 98]⟩, .slice (some ⟨B, 0, none⟩) 2 2, .slice (some ⟨B + 1 + 1, 0, none⟩) 1 1] 25)) hl.rev hl.seg ex16_s)
  have HM : Hid (∀ w', Ext ((((w.alloc (.cells #[.int .i64 0, .int .i64 3] 3)).alloc (.cells #[.int .i64 1, .int .i64 2, .string ⟨#[]⟩, .int .i64 2, .int .i64 0, .string ⟨#[99]⟩] 43)).alloc (.cells #[.slice (some ⟨B + 1, 0, none⟩) 2 2] 39)).alloc (.cells #[.string ⟨#[97, 98]⟩, .slice (some ⟨B, 0, none⟩) 2 2, .slice (some ⟨B + 1 + 1, 0, none⟩) 1 1] 25)) w' → Calls Tryd.prog 15 #[.agg #[.string ⟨#[97, 98]⟩, .slice (some ⟨B, 0, none⟩) 2 2, .slice (some ⟨B + 1 + 1, 0, none⟩) 1 1]] w' fun e w'' => e = .returned (.int .i64 0) ∧ Ext w' w'') := Lib.hid fun w' hx => by
    have hTb := tab_ext (e4.trans hx)
    have h := mayP16_c _ _ _ _ _ _ ⟨#[97, 98]⟩ [0, 3] [ex16] w' (hl.rev.ext hx) (hl.seg.ext hx) ex16_s
    rw [ex16_e] at h; exact h
  have HN : Hid (∀ w', Ext w w' → Calls Tryd.prog 15 #[.agg #[.string ⟨#[]⟩, .slice none 0 0, .slice none 0 0]] w' fun e w'' => e = .returned (.int .i64 6) ∧ Ext w' w'') := Lib.hid fun w' hx => by
    have hTb := tab_ext hx
    have h := mayP16_c none 0 0 none 0 0 ⟨#[]⟩ [] [] w' (Rd.nil _ _) (RdSS.nil _) ⟨by decide, by decide, by decide, by decide, by decide⟩
    rw [ex16_n] at h; exact h
  unfold atV at HA
  rw [ex16_a] at HA
  clear hl e4 r0 r0b r1 r2 e1 s1 s2 s3
  go_enter Tryd.func9, Tryd.ntmps9
  go_wp2_with fail
  rw [hB] at *
  refine HA.out.mono ?_; rintro e w1 ⟨rfl, hx1⟩
  obtain ⟨c0, c1, c2⟩ := (HL.out.ext hx1).cells
  have HX1 := Lib.hid hx1
  clear hx1
  go_wp2_with fail
  refine (HM.out _ HX1.out).mono ?_; rintro e w2 ⟨rfl, hx2⟩
  have E2 := Lib.hid ((E4.out.trans HX1.out).trans hx2)
  clear c0 c1 c2 hx2
  go_wp2_with fail
  refine (HN.out _ E2.out).mono ?_; rintro e w3 ⟨rfl, hx3⟩
  go_wp2_with fail
  go_ret
  exact ⟨rfl, E2.out.trans hx3⟩
end Go.Proofs.YtejgkhmpmnjgaaaDoor
