/- Layer 1, the program: Of, and the strings.Builder that it writes to. -/
import Derived.Test.YtpiklijbdpdjcaaC1i
import Derived.Test.YtpiklijbdpdjcaaShelf
import Derived.Lib.Builder
namespace Go.Proofs.Ytpiklijbdpdjcaa
open Go.RowKit
set_option maxRecDepth 100000
set_option maxHeartbeats 1000000

theorem size_builder : (Try.prog.info? 48).map (fun i => decide (i.size ≠ 0)) = some true := by kernel_rfl

theorem copyCheck_used (b : Nat) (w : World) (h0 : w.cell? ⟨b, 0, none⟩ = some (.pointer (some ⟨b, 0, none⟩))) :
    Calls Try.prog 31 #[.pointer (some ⟨b, 0, none⟩)] w fun e w' => e = .returned (.tuple #[]) ∧ w' = w := by
  obtain ⟨j, hj, _⟩ := Option.map_eq_some_iff.1 size_builder
  have HJ := Lib.hid hj; clear hj
  go_enter Try.func31, Try.ntmps31
  go_wp2_with fail
  rw [Lib.run_neq_ptr_same w _ Try.underlying46 HJ.out]
  go_wp2_with fail
  go_end0
  exact ⟨rfl, rfl⟩

theorem copyCheck_fresh (b : Nat) (w : World) (h0 : w.cell? ⟨b, 0, none⟩ = some (.pointer none)) (hsh : w.shape? b = some (48, 2)) (hfz : w.frozen? ⟨b, 0, none⟩ = false) :
    Calls Try.prog 31 #[.pointer (some ⟨b, 0, none⟩)] w fun e w' => e = .returned (.tuple #[]) ∧ w' = w.setCell ⟨b, 0, none⟩ (.pointer (some ⟨b, 0, none⟩)) := by
  obtain ⟨j, hj, hjs⟩ := Option.map_eq_some_iff.1 size_builder
  have hjs' : j.size ≠ 0 := by simpa using hjs
  have HJ := Lib.hid hj; have HJS := Lib.hid hjs'; clear hj hjs hjs'
  go_enter Try.func31, Try.ntmps31
  go_wp2_with fail
  rw [Lib.run_to_unsafe w ⟨b, 0, none⟩ Try.underlying46 Try.underlying60 HJ.out HJS.out hsh (Nat.zero_lt_succ 1)]
  simp only [Result.andThen]
  rw [Oper.upon_value]
  go_wp2_with fail
  rw [run_callFunc_extern Try.func33 (by kernel_rfl) (by kernel_rfl) (by kernel_rfl) (e := Extern.AbiNoEscape.same) (by kernel_rfl)]
  rw [Lib.run_noEscape]
  simp only [Result.andThen]
  rw [Oper.upon_value]
  go_wp2_with fail
  rw [Lib.run_from_unsafe w ⟨b, 0, none⟩ Try.underlying60 Try.underlying46 HJ.out hsh (by kernel_rfl)]
  simp only [Result.andThen]
  rw [Oper.upon_value]
  go_wp2_with fail
  go_end0
  exact ⟨rfl, rfl⟩

theorem copyCheck_c (B b : Nat) (bs : List Value) (w : World) (h : Lib.IsBuilder 48 5 B b bs w) :
    Calls Try.prog 31 #[.pointer (some ⟨b, 0, none⟩)] w fun e w' => e = .returned (.tuple #[]) ∧ Lib.BuilderAt 48 5 B b (.pointer (some ⟨b, 0, none⟩)) bs w' ∧ Below B w w' := by
  rcases h with h | h
  · refine (copyCheck_fresh b w h.cell0 h.shape h.frozen0).mono ?_
    rintro e w' ⟨rfl, rfl⟩
    exact ⟨rfl, h.used _, (Below.refl B w).setCell (p := ⟨b, 0, none⟩) h.1 _⟩
  · refine (copyCheck_used b w h.cell0).mono ?_
    rintro e w' ⟨rfl, rfl⟩
    exact ⟨rfl, h, Below.refl B _⟩

theorem writeRune_c (B b : Nat) (l : List Value) (r : Int) (hr0 : -2147483648 ≤ r) (hr1 : r ≤ 2147483647) (w : World) (h : Lib.IsBuilder 48 5 B b l w) (hlen : l.length ≤ 1000000000) (hBw : B ≤ w.heap.size) :
    Calls Try.prog 25 #[.pointer (some ⟨b, 0, none⟩), .int .i32 r] w fun e w' => (∃ v, e = .returned v) ∧ Lib.IsBuilder 48 5 B b (l ++ Lib.runeCells r) w' ∧ Below B w w' := by
  have HC := Lib.hid (copyCheck_c B b l w h)
  have hrc := Lib.runeCells_le r
  clear h
  go_enter Try.func25, Try.ntmps25
  go_wp2_with fail
  refine HC.out.mono ?_
  rintro e w1 ⟨rfl, ⟨hB, v, hbk, hown, hne⟩, hb1⟩
  obtain ⟨ao, cap, rfl⟩ : ∃ ao cap, v = .slice ao l.length cap := by
    rcases hown.2 with ⟨hv, h0⟩ | ⟨g, cap, cur, hv, _⟩
    · exact ⟨none, 0, by rw [hv, h0]⟩
    · exact ⟨_, _, hv⟩
  have c1 : w1.cell? ⟨b, 1, none⟩ = some (.slice ao l.length cap) := by rw [Lib.cell_of_heap hbk]; rfl
  have hlt : b < w1.heap.size := (Array.getElem?_eq_some_iff.1 hbk).1
  have HA := Lib.hid (Try.utf8_AppendRune_plain B _ l.length l r hr0 hr1 w1 hown (by omega) (Nat.le_trans hBw hb1.size))
  have HBK := Lib.hid hbk
  have HLT := Lib.hid (fun k hk => (hown.lt k hk).1)
  clear hbk hown
  go_wp2_with fail
  refine HA.out.mono ?_
  rintro e w2 ⟨v', rfl, hown2, o, hgr⟩
  have hbk2 : w2.heap[b]? = some (.cells #[.pointer (some ⟨b, 0, none⟩), .slice ao l.length cap] 48 (0, 0)) := by
    rw [hgr.block b (by simp; omega) (fun e => hne e.symm), Below.heap_alloc w1 o b hlt]; exact HBK.out
  have hb2 : Below B w1 w2 := ((Below.refl B w1).alloc (Nat.le_trans hBw hb1.size) o).grown hgr (by have := hb1.size; simp; omega) HLT.out
  have hl2 : (l ++ Lib.runeCells r).length = l.length + (Lib.runeCells r).length := List.length_append
  rw [← hl2] at hown2
  have hput := Lib.BuilderAt.put (T := 48) (e := 5) hB hbk2 hown2 (by decide)
  obtain ⟨ao', cap', rfl⟩ : ∃ ao cap, v' = .slice ao (l ++ Lib.runeCells r).length cap := by
    rcases hown2.2 with ⟨hv, h0⟩ | ⟨g, cap, cur, hv, _⟩
    · exact ⟨none, 0, by rw [hv, h0]⟩
    · exact ⟨_, _, hv⟩
  have c2 : w2.cell? ⟨b, 1, none⟩ = some (.slice ao l.length cap) := by rw [Lib.cell_of_heap hbk2]; rfl
  have f2 : w2.frozen? ⟨b, 1, none⟩ = false := Lib.frozen_of_heap hbk2 1
  have hle : (l ++ Lib.runeCells r).length ≤ 1000000004 := by rw [hl2]; omega
  have hB1 : Below B w (w2.setCell ⟨b, 1, none⟩ (.slice ao' (l ++ Lib.runeCells r).length cap')) := (hb1.trans hb2).setCell (p := ⟨b, 1, none⟩) hB _
  have HP := Lib.hid hput; have HB1 := Lib.hid hB1; have HL2 := Lib.hid hl2
  clear hput hB1 hl2 hown2 hbk2
  generalize hle2 : l ++ Lib.runeCells r = l2 at *
  have HE := Lib.hid hle2; clear hle2
  go_wp2_with fail
  go_ret2
  exact ⟨⟨_, rfl⟩, .inr (by rw [HE.out]; exact HP.out), HB1.out⟩

theorem runeCells_of (m : Nat) (h : IsCp m) : Lib.runeCells (m : Int) = Lib.byteCells (enc1 m) := by
  unfold IsCp at h
  unfold Lib.runeCells
  by_cases c1 : m < 128
  · rw [Lib.encodeRuneZ_one (by omega) (by omega)]; unfold enc1; rw [if_pos c1]; simp only [Lib.byteCells, List.map_cons, List.map_nil]; rw [u8_toNat (by omega)]
  by_cases c2 : m < 2048
  · rw [Lib.encodeRuneZ_two (by omega) (by omega)]; unfold enc1; rw [if_neg c1, if_pos c2]; simp only [Lib.byteCells, List.map_cons, List.map_nil]; rw [u8_toNat (by omega), u8_toNat (by omega)]; rfl
  by_cases c3 : m < 65536
  · rw [Lib.encodeRuneZ_three (by omega)]; unfold enc1; rw [if_neg c1, if_neg c2, if_pos c3]; simp only [Lib.byteCells, List.map_cons, List.map_nil]; rw [u8_toNat (by omega), u8_toNat (by omega), u8_toNat (by omega)]; rfl
  · rw [Lib.encodeRuneZ_four (by omega) (by omega)]; unfold enc1; rw [if_neg c1, if_neg c2, if_neg c3]; simp only [Lib.byteCells, List.map_cons, List.map_nil]; rw [u8_toNat (by omega), u8_toNat (by omega), u8_toNat (by omega), u8_toNat (by omega)]; rfl

theorem of_c (v : Value) (rs : List Int) (w : World) (hv : Rd w 1 v rs.length (runesV rs)) (hn : rs.length ≤ 10000000) (hr : ∀ r ∈ rs, -2147483648 ≤ r ∧ r ≤ 2147483647) :
    Calls Try.prog 17 #[v] w fun e w' => e = .returned (.string (mkS (ofL rs))) ∧ Ext w w' := by
  have hb0 : Lib.IsBuilder 48 5 w.heap.size w.heap.size (Lib.byteCells (ofL (rs.take 0))) (w.alloc (.cells #[.pointer none, .slice none 0 0] 48)) := Lib.fresh_isBuilder _ _ w
  have hbel0 : Below w.heap.size w (w.alloc (.cells #[.pointer none, .slice none 0 0] 48)) := (Below.refl _ _).alloc (Nat.le_refl _) _
  have HB := Lib.hid hb0; have HBEL := Lib.hid hbel0; have HR := Lib.hid hr; have HV := Lib.hid hv
  obtain ⟨A, c, hva, hc⟩ : ∃ A c, v = .slice A rs.length c ∧ rs.length ≤ c := by obtain ⟨_, A, c, h, h', _⟩ := hv; exact ⟨A, c, h, h'⟩
  clear hb0 hbel0 hr hv
  subst hva
  go_enter Try.func17, Try.ntmps17
  go_wp2_with fail
  go_loopw [8] (fun j wr => ∃ k : Nat, k ≤ rs.length ∧ j = .int .i64 k ∧ Lib.IsBuilder 48 5 w.heap.size w.heap.size (Lib.byteCells (ofL (rs.take k))) wr ∧ Below w.heap.size w wr) (fun j _ => rs.length - (intOf j).toNat)
  case atStart => exact ⟨0, by omega, rfl, HB.out, HBEL.out⟩
  case round =>
    obtain ⟨k, hk, rfl, hbd, hbel⟩ := hrel
    have HBD := Lib.hid hbd; clear hbd
    by_cases hlt : k < rs.length
    · have hx : Ext w wr := hbel
      obtain ⟨b, off, u, rfl, hb, hu, hcell⟩ := (HV.out.ext hx).cell hlt
      obtain ⟨r, hrk⟩ : ∃ r, r = rs[k] := ⟨_, rfl⟩
      have hu2 : u = .int .i32 r := by
        rw [hrk]; unfold runesV at hu; rw [List.getElem?_map, List.getElem?_eq_getElem hlt] at hu; simpa using hu.symm
      subst hu2
      have hbd := HR.out r (by rw [hrk]; exact List.getElem_mem hlt)
      have hsn : ofL (rs.take (k + 1)) = ofL (rs.take k) ++ of1 r := by rw [List.take_succ_eq_append_getElem hlt, ofL_snoc, hrk]
      have hlen : (ofL (rs.take k)).length ≤ 40000000 := by have := ofL_le (rs.take k); rw [List.length_take] at this; omega
      have HSN := Lib.hid hsn
      obtain ⟨hb1, hb2⟩ := hbd
      have HVR := Lib.hid (Try.utf8_ValidRune r wr)
      have HWR := Lib.hid (writeRune_c w.heap.size w.heap.size _ r hb1 hb2 wr HBD.out (by simp [Lib.byteCells]; omega) hbel.size)
      clear hsn hrk hu
      by_cases hcp : 0 ≤ r ∧ IsCp r.toNat
      · obtain ⟨hp, hcp⟩ := hcp
        obtain ⟨m, rfl⟩ := Int.eq_ofNat_of_zero_le hp
        rw [Int.toNat_natCast] at hcp
        have hvr : Lib.validRune (m : Int) = true := by unfold IsCp at hcp; unfold Lib.validRune; rw [decide_eq_true_eq]; omega
        have hof : of1 (m : Int) = enc1 m := by unfold of1; rw [Int.toNat_natCast, if_pos ⟨hp, hcp⟩]
        have hcells : Lib.byteCells (ofL (rs.take (k + 1))) = Lib.byteCells (ofL (rs.take k)) ++ Lib.runeCells (m : Int) := by rw [HSN.out, hof, byteCells_append, runeCells_of m hcp]
        have HCE := Lib.hid hcells
        clear hcp hof hp hcells
        go_wp2_with (first | (go_at_call 24; refine HVR.out.mono ?_; rintro e w' ⟨rfl, rfl⟩) | (go_at_call 25; refine HWR.out.mono ?_; rintro e w' ⟨⟨v2, rfl⟩, hbd2, hbel2⟩))
        go_roundw
        case rel => exact ⟨k + 1, by omega, by go_num, by rw [HCE.out]; exact hbd2, hbel.trans hbel2⟩
        case measure => simp [intOf]; omega
      · have hvr : Lib.validRune r = false := by unfold IsCp at hcp; unfold Lib.validRune; rw [decide_eq_false_iff_not]; omega
        have hof : of1 r = [] := by unfold of1; rw [if_neg hcp]
        have hcells : ofL (rs.take (k + 1)) = ofL (rs.take k) := by rw [HSN.out, hof, List.append_nil]
        have HCE := Lib.hid hcells
        clear hcp hof hcells
        go_wp2_with (go_at_call 24; refine HVR.out.mono ?_; rintro e w' ⟨rfl, rfl⟩)
        go_roundw
        case rel => exact ⟨k + 1, by omega, by go_num, by rw [HCE.out]; exact HBD.out, hbel⟩
        case measure => simp [intOf]; omega
    · have hk2 : k = rs.length := by omega
      have HST : Hid (Calls Try.prog 26 #[.pointer (some ⟨w.heap.size, 0, none⟩)] wr fun e w' => e = .returned (.string (mkS (ofL rs))) ∧ Below w.heap.size wr w') :=
        Lib.hid (by have h := HBD.out; rw [hk2, List.take_length] at h; exact Try.Builder_String_any w.heap.size w.heap.size (ofL rs) wr h hbel.size)
      clear hk2
      go_wp2_with (go_at_call 26; refine HST.out.mono ?_; rintro e w' ⟨rfl, hbel2⟩)
      go_ret
      exact ⟨rfl, hbel.trans hbel2⟩
end Go.Proofs.Ytpiklijbdpdjcaa
