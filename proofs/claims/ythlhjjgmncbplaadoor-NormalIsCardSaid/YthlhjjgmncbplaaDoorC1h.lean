/- Layer 1, the reference: Of. -/
import Derived.Test.YthlhjjgmncbplaaDoorC1e
import Derived.Test.YthlhjjgmncbplaaDoorBc
namespace Go.Proofs.YthlhjjgmncbplaaDoor
open Go.RowKit
set_option maxRecDepth 100000
set_option maxHeartbeats 1000000

def of1 (r : Int) : List UInt8 := if 0 ≤ r ∧ IsCp r.toNat then enc1 r.toNat else []
def ofL (rs : List Int) : List UInt8 := rs.flatMap of1
def runesV (rs : List Int) : List Value := rs.map (Value.int .i32)
theorem ofL_snoc (rs : List Int) (r : Int) : ofL (rs ++ [r]) = ofL rs ++ of1 r := by simp [ofL]
theorem of1_le (r : Int) : (of1 r).length ≤ 4 := by
  unfold of1; split
  · rw [enc1_length]; exact wid_le _
  · simp
theorem ofL_le (rs : List Int) : (ofL rs).length ≤ 4 * rs.length := by
  induction rs with
  | nil => simp [ofL]
  | cons r rs ih => have := of1_le r; simp only [ofL, List.flatMap_cons, List.length_append, List.length_cons] at *; omega
theorem info_u8 : (Tryd.prog.info? 5).map (fun i => (i.zero, i.size, i.bytes)) = some (some (.int .u8 0), 1, 1) := by kernel_rfl
theorem byteCells_append (a b : List UInt8) : Lib.byteCells (a ++ b) = Lib.byteCells a ++ Lib.byteCells b := by simp [Lib.byteCells]
theorem byteV {n : Nat} (h : n < 256) : Value.int .u8 (u8 n).toNat = Value.int .u8 n := by rw [u8_toNat h]

theorem ofR_c (v : Value) (rs : List Int) (w : World) (hv : Rd w 1 v rs.length (runesV rs)) (hn : rs.length ≤ 10000000) (hr : ∀ r ∈ rs, -2147483648 ≤ r ∧ r ≤ 2147483647) :
    Calls Tryd.prog 21 #[v] w fun e w' => e = .returned (.string (mkS (ofL rs))) ∧ Ext w w' := by
  obtain ⟨i, hi, hz0, hz1, hz2⟩ := info_parts info_u8
  have hown0 : Own (w.alloc (.cells #[] 5)) w.heap.size 5 1 (.slice (some ⟨w.heap.size, 0, none⟩) 0 0) 0 (Lib.byteCells (ofL (rs.take 0))) :=
    Own.made w w.heap.size 5 1 0 #[] (Nat.le_refl _) (by omega) rfl
  have hbel0 : Below w.heap.size w (w.alloc (.cells #[] 5)) := (Below.refl _ _).alloc (Nat.le_refl _) _
  have HI := Lib.hid hi; have HZ0 := Lib.hid hz0; have HZ1 := Lib.hid hz1; have HZ2 := Lib.hid hz2
  have HO := Lib.hid hown0; have HB := Lib.hid hbel0; have HR := Lib.hid hr; have HV := Lib.hid hv
  obtain ⟨A, c, hva, hc⟩ : ∃ A c, v = .slice A rs.length c ∧ rs.length ≤ c := by obtain ⟨_, A, c, h, h', _⟩ := hv; exact ⟨A, c, h, h'⟩
  clear hi hz0 hz1 hz2 hown0 hbel0 hr hv
  subst hva
  go_enter Tryd.func21, Tryd.ntmps21
  go_wp2_with fail
  go_loopw [3, 4] (fun o j wr => ∃ k : Nat, k ≤ rs.length ∧ j = .int .i64 k ∧ Own wr w.heap.size 5 1 o (ofL (rs.take k)).length (Lib.byteCells (ofL (rs.take k))) ∧ Below w.heap.size w wr) (fun _ j _ => rs.length - (intOf j).toNat)
  case atStart => exact ⟨0, by omega, rfl, HO.out, HB.out⟩
  case round =>
    obtain ⟨k, hk, rfl, hown, hbel⟩ := hrel
    by_cases hlt : k < rs.length
    · have hx : Ext w wr := hbel
      obtain ⟨b, off, u, rfl, hb, hu, hcell⟩ := (HV.out.ext hx).cell hlt
      obtain ⟨r, hrk⟩ : ∃ r, r = rs[k] := ⟨_, rfl⟩
      have hu2 : u = .int .i32 r := by
        rw [hrk]; unfold runesV at hu; rw [List.getElem?_map, List.getElem?_eq_getElem hlt] at hu; simpa using hu.symm
      subst hu2
      have hbd := HR.out r (by rw [hrk]; exact List.getElem_mem hlt)
      have hsn : ofL (rs.take (k + 1)) = ofL (rs.take k) ++ of1 r := by rw [List.take_succ_eq_append_getElem hlt, ofL_snoc, hrk]
      have hlen : (ofL (rs.take k)).length ≤ 40000000 := by have := ofL_le (rs.take k); rw [List.length_take] at this; omega
      have HSN := Lib.hid hsn; have HRK := Lib.hid hrk
      obtain ⟨hb1, hb2⟩ := hbd
      clear hsn hrk hu
      by_cases hcp : 0 ≤ r ∧ IsCp r.toNat
      · obtain ⟨hp, hcp⟩ := hcp
        obtain ⟨m, rfl⟩ := Int.eq_ofNat_of_zero_le hp
        rw [Int.toNat_natCast] at hcp
        have hsz := sizeF_cp hcp
        have hof : of1 (m : Int) = enc1 m := by unfold of1; rw [Int.toNat_natCast, if_pos ⟨hp, hcp⟩]
        have HOF := Lib.hid hof
        have hm : m ≤ 1114111 := hcp.1
        clear hcp hof hp
        by_cases c1 : m < 128
        · have hw : wid m = 1 := by unfold wid; rw [if_pos c1]
          have he : Lib.byteCells (enc1 m) = [.int .u8 (m : Int)] := by
            unfold enc1; rw [if_pos c1]; simp only [Lib.byteCells, List.map_cons, List.map_nil]
            rw [u8_toNat (by omega)]
          have hl : (enc1 m).length = 1 := by rw [enc1_length, hw]
          rw [hw] at hsz
          obtain ⟨v', w', happ, hown', hbel'⟩ := app_new (P := Tryd.prog) 48 48 5 i _ 1 1 Tryd.underlying48 HI.out HZ0.out HZ1.out HZ2.out rfl (by omega) (by omega)
            hbel hown (by omega) 1 #[.int .u8 (m : Int)] rfl (by omega) (by simp [Value.oneCell']) 5
          have hown2 : Own w' w.heap.size 5 1 v' (ofL (rs.take (k + 1))).length (Lib.byteCells (ofL (rs.take (k + 1)))) := by
            rw [HSN.out, HOF.out, byteCells_append, List.length_append, hl, he]; exact hown'
          have HW := Lib.hid hw; have HE := Lib.hid he; have HL := Lib.hid hl; have HAP := Lib.hid happ
          clear hw he hl happ
          go_wp2_with (first | (go_at_call 29; refine (size_c _ _).mono ?_; rintro e w' ⟨rfl, rfl⟩) | (at_builtin; refine wpList_append_run rfl rfl HAP.out rfl rfl ?_))
          go_roundw
          case rel => exact ⟨k + 1, by omega, by go_num, hown2, hbel'⟩
          case measure => simp [intOf]; omega
        by_cases c2 : m < 2048
        · have hw : wid m = 2 := by unfold wid; rw [if_neg c1, if_pos c2]
          have he : Lib.byteCells (enc1 m) = [.int .u8 (192 + (m : Int) / 64), .int .u8 (128 + (m : Int) % 64)] := by
            unfold enc1; rw [if_neg c1, if_pos c2]; simp only [Lib.byteCells, List.map_cons, List.map_nil]
            rw [u8_toNat (by omega), u8_toNat (by omega)]; rfl
          have hl : (enc1 m).length = 2 := by rw [enc1_length, hw]
          rw [hw] at hsz
          obtain ⟨v', w', happ, hown', hbel'⟩ := app_new (P := Tryd.prog) 48 48 5 i _ 1 1 Tryd.underlying48 HI.out HZ0.out HZ1.out HZ2.out rfl (by omega) (by omega)
            hbel hown (by omega) 2 #[.int .u8 (192 + (m : Int) / 64), .int .u8 (128 + (m : Int) % 64)] rfl (by omega) (by simp [Value.oneCell']) 5
          have hown2 : Own w' w.heap.size 5 1 v' (ofL (rs.take (k + 1))).length (Lib.byteCells (ofL (rs.take (k + 1)))) := by
            rw [HSN.out, HOF.out, byteCells_append, List.length_append, hl, he]; exact hown'
          have HW := Lib.hid hw; have HE := Lib.hid he; have HL := Lib.hid hl; have HAP := Lib.hid happ
          clear hw he hl happ
          go_wp2_with (first | (go_at_call 29; refine (size_c _ _).mono ?_; rintro e w' ⟨rfl, rfl⟩) | (at_builtin; refine wpList_append_run rfl rfl HAP.out rfl rfl ?_))
          go_roundw
          case rel => exact ⟨k + 1, by omega, by go_num, hown2, hbel'⟩
          case measure => simp [intOf]; omega
        by_cases c3 : m < 65536
        · have hw : wid m = 3 := by unfold wid; rw [if_neg c1, if_neg c2, if_pos c3]
          have he : Lib.byteCells (enc1 m) = [.int .u8 (224 + (m : Int) / 4096), .int .u8 (128 + (m : Int) / 64 % 64), .int .u8 (128 + (m : Int) % 64)] := by
            unfold enc1; rw [if_neg c1, if_neg c2, if_pos c3]; simp only [Lib.byteCells, List.map_cons, List.map_nil]
            rw [u8_toNat (by omega), u8_toNat (by omega), u8_toNat (by omega)]; rfl
          have hl : (enc1 m).length = 3 := by rw [enc1_length, hw]
          rw [hw] at hsz
          obtain ⟨v', w', happ, hown', hbel'⟩ := app_new (P := Tryd.prog) 48 48 5 i _ 1 1 Tryd.underlying48 HI.out HZ0.out HZ1.out HZ2.out rfl (by omega) (by omega)
            hbel hown (by omega) 3 #[.int .u8 (224 + (m : Int) / 4096), .int .u8 (128 + (m : Int) / 64 % 64), .int .u8 (128 + (m : Int) % 64)] rfl (by omega) (by simp [Value.oneCell']) 5
          have hown2 : Own w' w.heap.size 5 1 v' (ofL (rs.take (k + 1))).length (Lib.byteCells (ofL (rs.take (k + 1)))) := by
            rw [HSN.out, HOF.out, byteCells_append, List.length_append, hl, he]; exact hown'
          have HW := Lib.hid hw; have HE := Lib.hid he; have HL := Lib.hid hl; have HAP := Lib.hid happ
          clear hw he hl happ
          go_wp2_with (first | (go_at_call 29; refine (size_c _ _).mono ?_; rintro e w' ⟨rfl, rfl⟩) | (at_builtin; refine wpList_append_run rfl rfl HAP.out rfl rfl ?_))
          go_roundw
          case rel => exact ⟨k + 1, by omega, by go_num, hown2, hbel'⟩
          case measure => simp [intOf]; omega
        · have hw : wid m = 4 := by unfold wid; rw [if_neg c1, if_neg c2, if_neg c3]
          have he : Lib.byteCells (enc1 m) = [.int .u8 (240 + (m : Int) / 262144), .int .u8 (128 + (m : Int) / 4096 % 64), .int .u8 (128 + (m : Int) / 64 % 64), .int .u8 (128 + (m : Int) % 64)] := by
            unfold enc1; rw [if_neg c1, if_neg c2, if_neg c3]; simp only [Lib.byteCells, List.map_cons, List.map_nil]
            rw [u8_toNat (by omega), u8_toNat (by omega), u8_toNat (by omega), u8_toNat (by omega)]; rfl
          have hl : (enc1 m).length = 4 := by rw [enc1_length, hw]
          rw [hw] at hsz
          obtain ⟨v', w', happ, hown', hbel'⟩ := app_new (P := Tryd.prog) 48 48 5 i _ 1 1 Tryd.underlying48 HI.out HZ0.out HZ1.out HZ2.out rfl (by omega) (by omega)
            hbel hown (by omega) 4 #[.int .u8 (240 + (m : Int) / 262144), .int .u8 (128 + (m : Int) / 4096 % 64), .int .u8 (128 + (m : Int) / 64 % 64), .int .u8 (128 + (m : Int) % 64)] rfl (by omega) (by simp [Value.oneCell']) 5
          have hown2 : Own w' w.heap.size 5 1 v' (ofL (rs.take (k + 1))).length (Lib.byteCells (ofL (rs.take (k + 1)))) := by
            rw [HSN.out, HOF.out, byteCells_append, List.length_append, hl, he]; exact hown'
          have HW := Lib.hid hw; have HE := Lib.hid he; have HL := Lib.hid hl; have HAP := Lib.hid happ
          clear hw he hl happ
          go_wp2_with (first | (go_at_call 29; refine (size_c _ _).mono ?_; rintro e w' ⟨rfl, rfl⟩) | (at_builtin; refine wpList_append_run rfl rfl HAP.out rfl rfl ?_))
          go_roundw
          case rel => exact ⟨k + 1, by omega, by go_num, hown2, hbel'⟩
          case measure => simp [intOf]; omega
      · have hsz : sizeF r = 0 := by
          unfold sizeF
          unfold IsCp at hcp
          rw [if_pos (by omega)]
        have hof : of1 r = [] := by unfold of1; rw [if_neg hcp]
        have hown2 : Own wr w.heap.size 5 1 u3 (ofL (rs.take (k + 1))).length (Lib.byteCells (ofL (rs.take (k + 1)))) := by
          rw [HSN.out, hof, List.append_nil]; exact hown
        have HOF := Lib.hid hof
        clear hcp hof
        go_wp2_with (go_at_call 29; refine (size_c _ _).mono ?_; rintro e w' ⟨rfl, rfl⟩)
        go_roundw
        case rel => exact ⟨k + 1, by omega, by go_num, hown2, hbel⟩
        case measure => simp [intOf]; omega
    · have hk2 : k = rs.length := by omega
      have hout : Rd wr 1 u3 (ofL rs).length (Lib.byteCells (ofL rs)) := by
        have h := hown.rd; rw [hk2, List.take_length] at h; exact h
      have HRUN := Lib.hid (run_str (P := Tryd.prog) wr 48 9 5 Tryd.underlying48 Tryd.underlying5 Tryd.underlying9 hout)
      clear hk2
      go_wp2_with (with_reducible refine wpList_convert_run rfl rfl HRUN.out rfl ?_)
      go_ret
      exact ⟨rfl, hbel⟩
end Go.Proofs.YthlhjjgmncbplaaDoor
