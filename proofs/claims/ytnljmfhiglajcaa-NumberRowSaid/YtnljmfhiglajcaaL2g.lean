/- Layer 2, NumberRow. -/
import Derived.Test.YtnljmfhiglajcaaL2c
namespace Go.Proofs.Ytnljmfhiglajcaa
open Go.RowKit
set_option maxRecDepth 100000
set_option maxHeartbeats 1000000

/-- The number that a cell is made, and the bytes of the first j. -/
def mskN (z : Int) : Nat := (bits .and .i64 z 268435455).toNat
def rowL (zs : List Int) : List UInt8 := (zs.map fun z => putL (mskN z)).flatten
theorem rowL_take (zs : List Int) (j : Nat) (h : j < zs.length) : rowL (zs.take (j + 1)) = rowL (zs.take j) ++ putL (mskN zs[j]) := by
  unfold rowL
  rw [List.take_add_one, List.getElem?_eq_getElem h, List.map_append, List.flatten_append]
  simp only [Option.toList_some, List.map_cons, List.map_nil, List.flatten_cons, List.flatten_nil, List.append_nil]
theorem rowL_split (zs : List Int) (j m : Nat) (hj : j < m) (hm : m ≤ zs.length) : ∃ rest, rowL (zs.take m) = rowL (zs.take j) ++ (putL (mskN (zs[j]'(by omega))) ++ rest) := by
  refine ⟨rowL ((zs.take m).drop (j + 1)), ?_⟩
  have e : zs.take m = zs.take j ++ zs[j]'(by omega) :: (zs.take m).drop (j + 1) := by
    have h1 : (zs.take m).take j = zs.take j := by rw [List.take_take]; congr 1; omega
    have hl : j < (zs.take m).length := by rw [List.length_take]; omega
    have h2 : (zs.take m)[j]'hl = zs[j]'(by omega) := by simp
    rw [← h1, ← h2, ← List.drop_eq_getElem_cons hl, List.take_append_drop]
  conv => lhs; rw [e]
  unfold rowL
  simp
theorem rowL_len (zs : List Int) : (rowL zs).length ≤ 4 * zs.length := by
  induction zs with
  | nil => simp [rowL]
  | cons z t ih =>
    have e : rowL (z :: t) = putL (mskN z) ++ rowL t := by simp [rowL]
    have := putL_length (mskN z)
    rw [e, List.length_append, List.length_cons]
    omega
theorem int_at {k : IntKind} {w : World} {A : Option Addr} {n c : Nat} {zs : List Int} (h : Rd w 1 (.slice A n c) n (zs.map (Value.int k))) {j : Nat} (hj : j < n) (hl : j < zs.length) :
    ∃ b off, A = some ⟨b, off, none⟩ ∧ w.cell? ⟨b, off + j, none⟩ = some (.int k zs[j]) ∧ b < w.heap.size := by
  obtain ⟨b, off, u, hA, hb, hu, hc⟩ := h.cell hj
  refine ⟨b, off, hA, ?_, hb⟩
  rw [hc]
  rw [List.getElem?_map, List.getElem?_eq_getElem hl] at hu
  simp only [Option.map_some, Option.some.injEq] at hu
  rw [← hu]

theorem numberRow_c (A : Option Addr) (n c : Nat) (zs : List Int) (w : World) (h : IsInts .u32 w A n c zs) :
    Calls Try.prog 7 #[.slice A n c] w fun e w' => e = .returned (.bool true) ∧ Below w.heap.size w w' := by
  obtain ⟨hl, hcm, hrd, hwf⟩ := h
  obtain ⟨i, hi, hz0, hz1, hz2⟩ := info_parts info_u8b
  obtain ⟨m, hm⟩ : ∃ m, m = min n 20 := ⟨_, rfl⟩
  have HI := Lib.hid hi; have HZ0 := Lib.hid hz0; have HZ1 := Lib.hid hz1; have HZ2 := Lib.hid hz2
  have HL := Lib.hid hl; have HRD := Lib.hid hrd; have HWF := Lib.hid hwf; have HM := Lib.hid hm
  clear hl hrd hwf hi hz0 hz1 hz2 hm
  go_enter Try.func7, Try.ntmps7
  go_wp2_with fail
  refine (shown2_c _).mono ?_; rintro e w1 ⟨rfl, hx1⟩
  go_wp2_with fail
  go_loopw [4, 5] (fun b q wr => ∃ j : Nat, j ≤ m ∧ q = .int .i64 j ∧ Ext w1 wr ∧ Own wr w1.heap.size 5 1 b (rowL (zs.take j)).length (Lib.byteCells (rowL (zs.take j)))) (fun _ q _ => m - (intOf q).toNat)
  case atStart => exact ⟨0, by omega, rfl, (Ext.refl w1).alloc _, Own.made w1 w1.heap.size 5 1 0 #[] (Nat.le_refl _) (by omega) rfl⟩
  case round =>
    obtain ⟨j, hj, rfl, hxr, hown⟩ := hrel
    by_cases hlt : j < m
    · have hjn : j < n := by have := HM.out; omega
      have hjl : j < zs.length := by have := HL.out; omega
      have d20 : (j : Int) < 20 := by have := HM.out; omega
      have dn : decide (j < n) = true := by rw [decide_eq_true_eq]; exact hjn
      obtain ⟨z0, z1⟩ := bounds_u32 (HWF.out zs[j] (List.getElem_mem hjl))
      obtain ⟨b, off, rfl, hcell, hb⟩ := int_at (HRD.out.ext (hx1.trans hxr)) hjn hjl
      have hstep := rowL_take zs j hjl
      obtain ⟨X, hX, hX0, hX1⟩ := and28 zs[j] z0 z1
      have hmk : mskN zs[j] = X.toNat := by unfold mskN; rw [hX]
      rw [hmk] at hstep
      have HP := Lib.hid (fun w' => put_okI X hX0 hX1 w')
      have hlen := rowL_len (zs.take j)
      have hlen2 : (zs.take j).length ≤ 20 := by rw [List.length_take]; omega
      have HSTEP := Lib.hid hstep
      have hpl := putL_length X.toNat
      clear hmk hstep
      generalize zs[j] = z at *
      go_wp2_with fail
      refine (HP.out _).mono ?_; rintro e w6 ⟨p, rfl, hrp, hx6⟩
      obtain ⟨v', w7, happ, hown', hbel'⟩ := app_rd (P := Try.prog) 22 22 5 i _ 1 1 Try.underlying22 HI.out HZ0.out HZ1.out HZ2.out rfl (by omega) (by omega) (hxr.trans hx6) (hown.ext hx6) (by omega) hrp (by omega) (byteCells_one _)
      have HAP := Lib.hid happ
      have hnext : Own w7 w1.heap.size 5 1 v' (rowL (zs.take (j + 1))).length (Lib.byteCells (rowL (zs.take (j + 1)))) := by
        rw [HSTEP.out, List.length_append, byteCells_append2]; exact hown'
      clear happ hown'
      go_wp2_with (at_builtin; refine wpList_append_run rfl rfl HAP.out rfl rfl ?_)
      go_roundw
      case rel => exact ⟨j + 1, by omega, by go_num, hbel', hnext⟩
      case measure => simp [intOf]; omega
    · obtain rfl : j = m := by omega
      clear hlt hj
      have hx := hx1.trans hxr
      have hjl : j ≤ zs.length := by have := HM.out; have := HL.out; omega
      have hlen := rowL_len (zs.take j)
      have hlen2 : (zs.take j).length ≤ 20 := by rw [List.length_take]; have := HM.out; omega
      obtain ⟨N, hN⟩ : ∃ N, N = (rowL (zs.take j)).length := ⟨_, rfl⟩
      rw [← hN] at hown hlen
      have hrdb := hown.rd
      obtain ⟨A2, c2, rfl, hc2⟩ := hrdb.len
      have HRB := Lib.hid hrdb; have HN := Lib.hid hN
      clear hN hrdb hown
      have hends : (decide (j < n) = false ∧ True) ∨ (decide (j < n) = true ∧ decide ((j : Int) < 20) = false ∧ ¬ ((j : Int) < 20)) := by
        have := HM.out
        by_cases hh : j < n
        · exact .inr ⟨by rw [decide_eq_true_eq]; exact hh, by rw [decide_eq_false_iff_not]; omega, by omega⟩
        · exact .inl ⟨by rw [decide_eq_false_iff_not]; exact hh, trivial⟩
      have HE := Lib.hid hends
      rcases hends with ⟨e1, e2⟩ | ⟨e1, e2, e3⟩
      all_goals
        go_wp2_with fail
        go_loopw [8, 9] (fun z q w3 => ∃ t : Nat, t ≤ j ∧ q = .int .i64 t ∧ z = .int .i64 ((rowL (zs.take t)).length : Int) ∧ Ext wr w3) (fun _ q _ => j - (intOf q).toNat)
        case atStart => exact ⟨0, by omega, rfl, rfl, Ext.refl _⟩
        case round =>
          obtain ⟨t, ht, rfl, rfl, hxr3⟩ := hrel
          by_cases hlt : t < j
          · have htn : t < n := by
              have := HE.out
              rcases this with ⟨h1, _⟩ | ⟨h1, _, h3⟩
              · have h1 := of_decide_eq_false h1
                have := HM.out
                omega
              · have h1 := of_decide_eq_true h1
                omega
            have htl : t < zs.length := by have := HL.out; omega
            have d20 : (t : Int) < 20 := by have := HM.out; omega
            have dn : decide (t < n) = true := by rw [decide_eq_true_eq]; exact htn
            obtain ⟨z0, z1⟩ := bounds_u32 (HWF.out zs[t] (List.getElem_mem htl))
            obtain ⟨b, off, rfl, hcell, hb⟩ := int_at (HRD.out.ext (hx.trans hxr3)) htn htl
            have hstep := rowL_take zs t htl
            obtain ⟨rest, hsp⟩ := rowL_split zs t j hlt hjl
            obtain ⟨X, hX, hX0, hX1⟩ := and28 zs[t] z0 z1
            have hmk : mskN zs[t] = X.toNat := by unfold mskN; rw [hX]
            rw [hmk] at hstep hsp
            obtain ⟨K, hK⟩ : ∃ K, K = (rowL (zs.take t)).length := ⟨_, rfl⟩
            obtain ⟨q, hq⟩ : ∃ q, q = (putL X.toNat).length := ⟨_, rfl⟩
            have hq1 : 0 < q := by rw [hq]; exact putL_pos _
            have hnext : (rowL (zs.take (t + 1))).length = K + q := by rw [hstep, List.length_append, hK, hq]
            have hKN : K + q ≤ N := by have := HN.out; rw [this, hsp, List.length_append, List.length_append, ← hK, ← hq]; omega
            obtain ⟨b2, off2, rfl, _, hb2⟩ := byte_at (HRB.out.ext hxr3) (j := 0) (by omega)
            have hrdk := (HRB.out.ext hxr3).drop (m := K) (by omega)
            rw [Nat.mul_one, byteCells_drop, hsp, hK, List.drop_left] at hrdk
            rw [← hK] at hrdk ⊢
            have hXX : ((X.toNat : Nat) : Int) = X := by omega
            have HTK : Hid (Calls Try.prog 12 #[.slice (some ⟨b2, off2 + K, none⟩) (N - K) (c2 - K)] wr fun e w' => e = .returned (.tuple #[.int .i64 X, .int .i64 q, .int .i64 0]) ∧ Ext wr w') := Lib.hid (by
              have h := take_c (some ⟨b2, off2 + K, none⟩) (N - K) (c2 - K) _ wr hrdk (by omega)
              rw [take_put X.toNat (by omega) rest, ← hq] at h
              unfold takeV at h
              simp only [hXX] at h
              exact h)
            have HNX := Lib.hid hnext
            have dq : decide ((q : Int) < 1) = false := by rw [decide_eq_false_iff_not]; omega
            have dq2 : decide (q < 1) = false := by rw [decide_eq_false_iff_not]; omega
            have dKN : decide (N < K) = false := by rw [decide_eq_false_iff_not]; omega
            have hKN2 : K ≤ N := by omega
            have hKc : K ≤ c2 := by omega
            clear hmk hstep hsp hK hq hXX hrdk hnext
            generalize zs[t] = z at *
            go_wp2_with fail
            refine HTK.out.mono ?_; rintro e w6 ⟨rfl, hx6⟩
            have hcell6 := (hx6.below.cell (p := ⟨b, off + t, none⟩) hb).trans hcell
            go_wp2_with fail
            go_roundw
            case rel => exact ⟨t + 1, by omega, by go_num, by rw [HNX.out]; go_num, hxr3.trans hx6⟩
            case measure => simp [intOf]; omega
          · obtain rfl : t = j := by omega
            clear hlt ht
            rw [← HN.out]
            go_wp2_with fail
            go_ret
            exact ⟨rfl, hx.trans hxr3⟩
end Go.Proofs.Ytnljmfhiglajcaa
