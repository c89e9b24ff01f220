/- Layer 1, the reference: Fit. -/
import Derived.Test.YtejgkhmpmnjgaaaDoorC1a
import Derived.Test.YtejgkhmpmnjgaaaDoorBa
namespace Go.Proofs.YtejgkhmpmnjgaaaDoor
open Go.RowKit
set_option maxRecDepth 100000
set_option maxHeartbeats 1000000

def of1 (r : Int) : List UInt8 := if 0 ≤ r ∧ IsCp r.toNat then enc1 r.toNat else []
def ofL (rs : List Int) : List UInt8 := rs.flatMap of1
def runesV (rs : List Int) : List Value := rs.map (Value.int .i32)
theorem ofL_snoc (rs : List Int) (r : Int) : ofL (rs ++ [r]) = ofL rs ++ of1 r := by simp [ofL]
theorem of1_le (r : Int) : (of1 r).length ≤ 4 := by
  unfold of1; split
  · rw [enc1_length]; exact wid_le _
  · simp
theorem ofL_le (rs : List Int) : (ofL rs).length ≤ 4 * rs.length := by
  induction rs with
  | nil => simp [ofL]
  | cons r rs ih => have := of1_le r; simp only [ofL, List.flatMap_cons, List.length_append, List.length_cons] at *; omega
theorem info_u8 : (Tryd.prog.info? 5).map (fun i => (i.zero, i.size, i.bytes)) = some (some (.int .u8 0), 1, 1) := by kernel_rfl
theorem byteCells_append (a b : List UInt8) : Lib.byteCells (a ++ b) = Lib.byteCells a ++ Lib.byteCells b := by simp [Lib.byteCells]
theorem byteV {n : Nat} (h : n < 256) : Value.int .u8 (u8 n).toNat = Value.int .u8 n := by rw [u8_toNat h]

theorem ofR_c (v : Value) (rs : List Int) (w : World) (hv : Rd w 1 v rs.length (runesV rs)) (hn : rs.length ≤ 10000000) (hr : ∀ r ∈ rs, -2147483648 ≤ r ∧ r ≤ 2147483647) :
    Calls Tryd.prog 47 #[v] w fun e w' => e = .returned (.string (mkS (ofL rs))) ∧ Ext w w' := by
  obtain ⟨i, hi, hz0, hz1, hz2⟩ := info_parts info_u8
  have hown0 : Own (w.alloc (.cells #[] 5)) w.heap.size 5 1 (.slice (some ⟨w.heap.size, 0, none⟩) 0 0) 0 (Lib.byteCells (ofL (rs.take 0))) :=
    Own.made w w.heap.size 5 1 0 #[] (Nat.le_refl _) (by omega) rfl
  have hbel0 : Below w.heap.size w (w.alloc (.cells #[] 5)) := (Below.refl _ _).alloc (Nat.le_refl _) _
  have HI := Lib.hid hi; have HZ0 := Lib.hid hz0; have HZ1 := Lib.hid hz1; have HZ2 := Lib.hid hz2
  have HO := Lib.hid hown0; have HB := Lib.hid hbel0; have HR := Lib.hid hr; have HV := Lib.hid hv
  obtain ⟨A, c, hva, hc⟩ : ∃ A c, v = .slice A rs.length c ∧ rs.length ≤ c := by obtain ⟨_, A, c, h, h', _⟩ := hv; exact ⟨A, c, h, h'⟩
  clear hi hz0 hz1 hz2 hown0 hbel0 hr hv
  subst hva
  go_enter Tryd.func47, Tryd.ntmps47
  go_wp2_with fail
  go_loopw [3, 4] (fun o j wr => ∃ k : Nat, k ≤ rs.length ∧ j = .int .i64 k ∧ Own wr w.heap.size 5 1 o (ofL (rs.take k)).length (Lib.byteCells (ofL (rs.take k))) ∧ Below w.heap.size w wr) (fun _ j _ => rs.length - (intOf j).toNat)
  case atStart => exact ⟨0, by omega, rfl, HO.out, HB.out⟩
  case round =>
    obtain ⟨k, hk, rfl, hown, hbel⟩ := hrel
    by_cases hlt : k < rs.length
    · have hx : Ext w wr := hbel
      obtain ⟨b, off, u, rfl, hb, hu, hcell⟩ := (HV.out.ext hx).cell hlt
      obtain ⟨r, hrk⟩ : ∃ r, r = rs[k] := ⟨_, rfl⟩
      have hu2 : u = .int .i32 r := by
        rw [hrk]; unfold runesV at hu; rw [List.getElem?_map, List.getElem?_eq_getElem hlt] at hu; simpa using hu.symm
      subst hu2
      have hbd := HR.out r (by rw [hrk]; exact List.getElem_mem hlt)
      have hsn : ofL (rs.take (k + 1)) = ofL (rs.take k) ++ of1 r := by rw [List.take_succ_eq_append_getElem hlt, ofL_snoc, hrk]
      have hlen : (ofL (rs.take k)).length ≤ 40000000 := by have := ofL_le (rs.take k); rw [List.length_take] at this; omega
      have HSN := Lib.hid hsn; have HRK := Lib.hid hrk
      obtain ⟨hb1, hb2⟩ := hbd
      clear hsn hrk hu
      by_cases hcp : 0 ≤ r ∧ IsCp r.toNat
      · obtain ⟨hp, hcp⟩ := hcp
        obtain ⟨m, rfl⟩ := Int.eq_ofNat_of_zero_le hp
        rw [Int.toNat_natCast] at hcp
        have hsz := sizeF_cp hcp
        have hof : of1 (m : Int) = enc1 m := by unfold of1; rw [Int.toNat_natCast, if_pos ⟨hp, hcp⟩]
        have HOF := Lib.hid hof
        have hm : m ≤ 1114111 := hcp.1
        clear hcp hof hp
        by_cases c1 : m < 128
        · have hw : wid m = 1 := by unfold wid; rw [if_pos c1]
          have he : Lib.byteCells (enc1 m) = [.int .u8 (m : Int)] := by
            unfold enc1; rw [if_pos c1]; simp only [Lib.byteCells, List.map_cons, List.map_nil]
            rw [u8_toNat (by omega)]
          have hl : (enc1 m).length = 1 := by rw [enc1_length, hw]
          rw [hw] at hsz
          obtain ⟨v', w', happ, hown', hbel'⟩ := app_new (P := Tryd.prog) 48 48 5 i _ 1 1 Tryd.underlying48 HI.out HZ0.out HZ1.out HZ2.out rfl (by omega) (by omega)
            hbel hown (by omega) 1 #[.int .u8 (m : Int)] rfl (by omega) (by simp [Value.oneCell']) 5
          have hown2 : Own w' w.heap.size 5 1 v' (ofL (rs.take (k + 1))).length (Lib.byteCells (ofL (rs.take (k + 1)))) := by
            rw [HSN.out, HOF.out, byteCells_append, List.length_append, hl, he]; exact hown'
          have HW := Lib.hid hw; have HE := Lib.hid he; have HL := Lib.hid hl; have HAP := Lib.hid happ
          clear hw he hl happ
          go_wp2_with (first | (go_at_call 62; refine (size_c _ _).mono ?_; rintro e w' ⟨rfl, rfl⟩) | (at_builtin; refine wpList_append_run rfl rfl HAP.out rfl rfl ?_))
          go_roundw
          case rel => exact ⟨k + 1, by omega, by go_num, hown2, hbel'⟩
          case measure => simp [intOf]; omega
        by_cases c2 : m < 2048
        · have hw : wid m = 2 := by unfold wid; rw [if_neg c1, if_pos c2]
          have he : Lib.byteCells (enc1 m) = [.int .u8 (192 + (m : Int) / 64), .int .u8 (128 + (m : Int) % 64)] := by
            unfold enc1; rw [if_neg c1, if_pos c2]; simp only [Lib.byteCells, List.map_cons, List.map_nil]
            rw [u8_toNat (by omega), u8_toNat (by omega)]; rfl
          have hl : (enc1 m).length = 2 := by rw [enc1_length, hw]
          rw [hw] at hsz
          obtain ⟨v', w', happ, hown', hbel'⟩ := app_new (P := Tryd.prog) 48 48 5 i _ 1 1 Tryd.underlying48 HI.out HZ0.out HZ1.out HZ2.out rfl (by omega) (by omega)
            hbel hown (by omega) 2 #[.int .u8 (192 + (m : Int) / 64), .int .u8 (128 + (m : Int) % 64)] rfl (by omega) (by simp [Value.oneCell']) 5
          have hown2 : Own w' w.heap.size 5 1 v' (ofL (rs.take (k + 1))).length (Lib.byteCells (ofL (rs.take (k + 1)))) := by
            rw [HSN.out, HOF.out, byteCells_append, List.length_append, hl, he]; exact hown'
          have HW := Lib.hid hw; have HE := Lib.hid he; have HL := Lib.hid hl; have HAP := Lib.hid happ
          clear hw he hl happ
          go_wp2_with (first | (go_at_call 62; refine (size_c _ _).mono ?_; rintro e w' ⟨rfl, rfl⟩) | (at_builtin; refine wpList_append_run rfl rfl HAP.out rfl rfl ?_))
          go_roundw
          case rel => exact ⟨k + 1, by omega, by go_num, hown2, hbel'⟩
          case measure => simp [intOf]; omega
        by_cases c3 : m < 65536
        · have hw : wid m = 3 := by unfold wid; rw [if_neg c1, if_neg c2, if_pos c3]
          have he : Lib.byteCells (enc1 m) = [.int .u8 (224 + (m : Int) / 4096), .int .u8 (128 + (m : Int) / 64 % 64), .int .u8 (128 + (m : Int) % 64)] := by
            unfold enc1; rw [if_neg c1, if_neg c2, if_pos c3]; simp only [Lib.byteCells, List.map_cons, List.map_nil]
            rw [u8_toNat (by omega), u8_toNat (by omega), u8_toNat (by omega)]; rfl
          have hl : (enc1 m).length = 3 := by rw [enc1_length, hw]
          rw [hw] at hsz
          obtain ⟨v', w', happ, hown', hbel'⟩ := app_new (P := Tryd.prog) 48 48 5 i _ 1 1 Tryd.underlying48 HI.out HZ0.out HZ1.out HZ2.out rfl (by omega) (by omega)
            hbel hown (by omega) 3 #[.int .u8 (224 + (m : Int) / 4096), .int .u8 (128 + (m : Int) / 64 % 64), .int .u8 (128 + (m : Int) % 64)] rfl (by omega) (by simp [Value.oneCell']) 5
          have hown2 : Own w' w.heap.size 5 1 v' (ofL (rs.take (k + 1))).length (Lib.byteCells (ofL (rs.take (k + 1)))) := by
            rw [HSN.out, HOF.out, byteCells_append, List.length_append, hl, he]; exact hown'
          have HW := Lib.hid hw; have HE := Lib.hid he; have HL := Lib.hid hl; have HAP := Lib.hid happ
          clear hw he hl happ
          go_wp2_with (first | (go_at_call 62; refine (size_c _ _).mono ?_; rintro e w' ⟨rfl, rfl⟩) | (at_builtin; refine wpList_append_run rfl rfl HAP.out rfl rfl ?_))
          go_roundw
          case rel => exact ⟨k + 1, by omega, by go_num, hown2, hbel'⟩
          case measure => simp [intOf]; omega
        · have hw : wid m = 4 := by unfold wid; rw [if_neg c1, if_neg c2, if_neg c3]
          have he : Lib.byteCells (enc1 m) = [.int .u8 (240 + (m : Int) / 262144), .int .u8 (128 + (m : Int) / 4096 % 64), .int .u8 (128 + (m : Int) / 64 % 64), .int .u8 (128 + (m : Int) % 64)] := by
            unfold enc1; rw [if_neg c1, if_neg c2, if_neg c3]; simp only [Lib.byteCells, List.map_cons, List.map_nil]
            rw [u8_toNat (by omega), u8_toNat (by omega), u8_toNat (by omega), u8_toNat (by omega)]; rfl
          have hl : (enc1 m).length = 4 := by rw [enc1_length, hw]
          rw [hw] at hsz
          obtain ⟨v', w', happ, hown', hbel'⟩ := app_new (P := Tryd.prog) 48 48 5 i _ 1 1 Tryd.underlying48 HI.out HZ0.out HZ1.out HZ2.out rfl (by omega) (by omega)
            hbel hown (by omega) 4 #[.int .u8 (240 + (m : Int) / 262144), .int .u8 (128 + (m : Int) / 4096 % 64), .int .u8 (128 + (m : Int) / 64 % 64), .int .u8 (128 + (m : Int) % 64)] rfl (by omega) (by simp [Value.oneCell']) 5
          have hown2 : Own w' w.heap.size 5 1 v' (ofL (rs.take (k + 1))).length (Lib.byteCells (ofL (rs.take (k + 1)))) := by
            rw [HSN.out, HOF.out, byteCells_append, List.length_append, hl, he]; exact hown'
          have HW := Lib.hid hw; have HE := Lib.hid he; have HL := Lib.hid hl; have HAP := Lib.hid happ
          clear hw he hl happ
          go_wp2_with (first | (go_at_call 62; refine (size_c _ _).mono ?_; rintro e w' ⟨rfl, rfl⟩) | (at_builtin; refine wpList_append_run rfl rfl HAP.out rfl rfl ?_))
          go_roundw
          case rel => exact ⟨k + 1, by omega, by go_num, hown2, hbel'⟩
          case measure => simp [intOf]; omega
      · have hsz : sizeF r = 0 := by
          unfold sizeF
          unfold IsCp at hcp
          rw [if_pos (by omega)]
        have hof : of1 r = [] := by unfold of1; rw [if_neg hcp]
        have hown2 : Own wr w.heap.size 5 1 u3 (ofL (rs.take (k + 1))).length (Lib.byteCells (ofL (rs.take (k + 1)))) := by
          rw [HSN.out, hof, List.append_nil]; exact hown
        have HOF := Lib.hid hof
        clear hcp hof
        go_wp2_with (go_at_call 62; refine (size_c _ _).mono ?_; rintro e w' ⟨rfl, rfl⟩)
        go_roundw
        case rel => exact ⟨k + 1, by omega, by go_num, hown2, hbel⟩
        case measure => simp [intOf]; omega
    · have hk2 : k = rs.length := by omega
      have hout : Rd wr 1 u3 (ofL rs).length (Lib.byteCells (ofL rs)) := by
        have h := hown.rd; rw [hk2, List.take_length] at h; exact h
      have HRUN := Lib.hid (run_str (P := Tryd.prog) wr 48 9 5 Tryd.underlying48 Tryd.underlying5 Tryd.underlying9 hout)
      clear hk2
      go_wp2_with (with_reducible refine wpList_convert_run rfl rfl HRUN.out rfl ?_)
      go_ret
      exact ⟨rfl, hbel⟩
end Go.Proofs.YtejgkhmpmnjgaaaDoor
namespace Go.Proofs.YtejgkhmpmnjgaaaDoor
open Go.RowKit
set_option maxRecDepth 100000
set_option maxHeartbeats 1000000

def tab8 : List Nat := [97, 98, 99, 120, 121, 233, 8364, 128512]
def fit1 (b : UInt8) : Nat := tab8.getD (b.toNat % 8) 0
/-- The code points that Fit makes of some bytes. -/
def fitC (l : List UInt8) : List Nat := l.map fit1
theorem tab8_cp (i : Nat) : IsCp (tab8.getD i 0) := by
  match i with
  | 0 | 1 | 2 | 3 | 4 | 5 | 6 | 7 => decide
  | i + 8 => exact (by decide : IsCp 0)
theorem fitC_cp (l : List UInt8) : ∀ c ∈ fitC l, IsCp c := by
  intro c hc
  obtain ⟨b, _, rfl⟩ := List.mem_map.1 hc
  exact tab8_cp _
theorem fitC_length (l : List UInt8) : (fitC l).length = l.length := by simp [fitC]
theorem dec_fit (l : List UInt8) : dec (encs (fitC l)) = some (fitC l) := dec_encs (fitC_cp l)
theorem ofL_cps (cs : List Nat) (h : ∀ c ∈ cs, IsCp c) : ofL (cs.map fun (c : Nat) => (c : Int)) = encs cs := by
  induction cs with
  | nil => rfl
  | cons c cs ih =>
    have h1 : of1 (c : Int) = enc1 c := by unfold of1; rw [Int.toNat_natCast, if_pos ⟨by omega, h c (by simp)⟩]
    rw [encs_cons, ← ih (fun x hx => h x (by simp [hx])), ← h1]; simp [ofL]
def fitR (l : List UInt8) : List Int := (fitC l).map fun (c : Nat) => (c : Int)
theorem fitR_le (l : List UInt8) : ∀ r ∈ fitR l, -2147483648 ≤ r ∧ r ≤ 2147483647 := by
  intro r hr
  obtain ⟨c, hc, rfl⟩ := List.mem_map.1 hr
  have := (fitC_cp l c hc).1
  omega
theorem info_i32 : (Tryd.prog.info? 21).map (fun i => (i.zero, i.size, i.bytes)) = some (some (.int .i32 0), 1, 4) := by kernel_rfl
def tabV : Array Value := #[.int .i32 97, .int .i32 98, .int .i32 99, .int .i32 120, .int .i32 121, .int .i32 233, .int .i32 8364, .int .i32 128512]
theorem tabV_at (i : Nat) (h : i < 8) : tabV[i]? = some (.int .i32 (tab8.getD i 0 : Nat)) := by
  match i, h with
  | 0, _ | 1, _ | 2, _ | 3, _ | 4, _ | 5, _ | 6, _ | 7, _ => rfl
theorem fitR_snoc (s : ByteArray) (k : Nat) (h : k < s.size) : fitR ((bs s).take (k + 1)) = fitR ((bs s).take k) ++ [((tab8.getD ((s[k]'h).toNat % 8) 0 : Nat) : Int)] := by
  have h' : k < (bs s).length := by rw [bs_length]; exact h
  rw [List.take_succ_eq_append_getElem h']
  simp only [fitR, fitC, List.map_append, List.map_cons, List.map_nil]
  rfl

theorem fit_c (s : ByteArray) (w : World) (hs : s.size ≤ 10000000) :
    Calls Tryd.prog 33 #[.string s] w fun e w' => e = .returned (.string (mkS (encs (fitC (bs s))))) ∧ Ext w w' := by
  obtain ⟨i, hi, hz0, hz1, hz2⟩ := info_parts info_i32
  have HI := Lib.hid hi; have HZ0 := Lib.hid hz0; have HZ1 := Lib.hid hz1; have HZ2 := Lib.hid hz2
  clear hi hz0 hz1 hz2
  have hrel0 : Own ((w.alloc (.cells tabV 73)).alloc (.cells #[] 21)) (w.heap.size + 1) 21 1 (.slice (some ⟨w.heap.size + 1, 0, none⟩) 0 0) 0 (runesV (fitR ((bs s).take 0))) ∧
      Below (w.heap.size + 1) (w.alloc (.cells tabV 73)) ((w.alloc (.cells tabV 73)).alloc (.cells #[] 21)) := by
    have h := Own.made (w.alloc (.cells tabV 73)) (w.heap.size + 1) 21 1 0 #[] (by simp) (by omega) rfl
    exact ⟨by simpa [fitR, fitC, runesV] using h, (Below.refl _ _).alloc (by simp) _⟩
  have HR0 := Lib.hid hrel0; clear hrel0
  go_enter Tryd.func33, Tryd.ntmps33
  go_wp2_with fail
  go_loopw [4, 5] (fun o j wr => ∃ k : Nat, k ≤ s.size ∧ j = .int .i64 k ∧ Own wr (w.heap.size + 1) 21 1 o k (runesV (fitR ((bs s).take k))) ∧ Below (w.heap.size + 1) (w.alloc (.cells tabV 73)) wr) (fun _ j _ => s.size - (intOf j).toNat)
  case atStart => exact ⟨0, by omega, rfl, HR0.out.1, HR0.out.2⟩
  case round =>
    obtain ⟨k, hk, rfl, hown, hbel⟩ := hrel
    by_cases hlt : k < s.size
    · have hb := (s[k]'hlt).toNat_lt
      have hm : (s[k]'hlt).toNat % 8 < 8 := Nat.mod_lt _ (by decide)
      have hcell : wr.cell? ⟨w.heap.size, (s[k]'hlt).toNat % 8, none⟩ = some (.int .i32 (tab8.getD ((s[k]'hlt).toNat % 8) 0 : Nat)) := by
        rw [hbel.cell (p := ⟨w.heap.size, (s[k]'hlt).toNat % 8, none⟩) (by simp)]
        rw [cell_of_row (w.alloc (.cells tabV 73)) w.heap.size _ tabV 73 (0, 0) (heap_alloc_new w _)]
        exact tabV_at _ hm
      have HSN := Lib.hid (fitR_snoc s k hlt)
      generalize htb : tab8.getD ((s[k]'hlt).toNat % 8) 0 = tb at *
      obtain ⟨v', w', happ, hown', hbel'⟩ := app_new (P := Tryd.prog) 74 74 21 i _ 1 4 Tryd.underlying74 HI.out HZ0.out HZ1.out HZ2.out rfl (by omega) (by omega)
        hbel hown (by omega) 1 #[.int .i32 (tb : Int)] rfl (by omega) (by simp [Value.oneCell']) 21
      have hown2 : Own w' (w.heap.size + 1) 21 1 v' (k + 1) (runesV (fitR ((bs s).take (k + 1)))) := by
        rw [HSN.out]; simpa [runesV] using hown'
      have HAP := Lib.hid happ; have HTB := Lib.hid htb
      clear happ htb
      go_wp2_with (at_builtin; refine wpList_append_run rfl rfl HAP.out rfl rfl ?_)
      go_roundw
      case rel => exact ⟨k + 1, by omega, by go_num, hown2, hbel'⟩
      case measure => simp [intOf]; omega
    · have hk2 : k = s.size := by omega
      have hlen : (fitR (bs s)).length = s.size := by simp [fitR, fitC, bs_length]
      have hrd : Rd wr 1 u4 (fitR (bs s)).length (runesV (fitR (bs s))) := by
        have h := hown.rd; rw [hk2, List.take_of_length_le (by rw [bs_length]; omega)] at h; rw [hlen]; exact h
      have HOF := Lib.hid (ofR_c u4 (fitR (bs s)) wr hrd (by omega) (fitR_le _))
      have hres : ofL (fitR (bs s)) = encs (fitC (bs s)) := ofL_cps _ (fitC_cp _)
      have HRES := Lib.hid hres
      have hx : Ext w wr := ((Ext.refl w).alloc _).trans (hbel.mono (by simp))
      clear hk2 hlen hres
      go_wp2_with (go_at_call 47; refine HOF.out.mono ?_; rintro e w' ⟨rfl, hx2⟩)
      go_ret
      rw [HRES.out]
      exact ⟨rfl, hx.trans hx2⟩
end Go.Proofs.YtejgkhmpmnjgaaaDoor
