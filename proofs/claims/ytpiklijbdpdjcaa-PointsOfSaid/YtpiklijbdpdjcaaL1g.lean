/- Layer 1, PointsOf. -/
import Derived.Test.YtpiklijbdpdjcaaL1d
import Derived.Test.YtpiklijbdpdjcaaL1c
import Derived.Test.YtpiklijbdpdjcaaFr
namespace Go.Proofs.Ytpiklijbdpdjcaa
open Go.RowKit
set_option maxRecDepth 100000
set_option maxHeartbeats 1000000

def cp1 (r : Int) : List Nat := if 0 ≤ r ∧ IsCp r.toNat then [r.toNat] else []
def cpL (rs : List Int) : List Nat := rs.flatMap cp1
theorem ofL_cpL (rs : List Int) : ofL rs = encs (cpL rs) := by
  induction rs with
  | nil => rfl
  | cons r rs ih =>
    have h1 : of1 r = encs (cp1 r) := by unfold of1 cp1; split <;> simp [encs]
    simp only [ofL, cpL, List.flatMap_cons, encs_append] at *
    rw [ih, h1]
theorem cpL_cp (rs : List Int) : ∀ c ∈ cpL rs, IsCp c := by
  intro c hc
  obtain ⟨r, _, h⟩ := List.mem_flatMap.1 hc
  unfold cp1 at h
  split at h
  · rename_i hr; rw [List.mem_singleton.1 h]; exact hr.2
  · simp at h
theorem cp1_le (r : Int) : (cp1 r).length ≤ 1 := by unfold cp1; split <;> simp
theorem cpL_le (rs : List Int) : (cpL rs).length ≤ rs.length := by
  induction rs with
  | nil => simp [cpL]
  | cons r rs ih => have := cp1_le r; simp only [cpL, List.flatMap_cons, List.length_append, List.length_cons] at *; omega
theorem cpL_append (a b : List Int) : cpL (a ++ b) = cpL a ++ cpL b := by simp [cpL]
theorem cpL_take (rs : List Int) (k : Nat) (h : k < rs.length) : cpL (rs.take (k + 1)) = cpL (rs.take k) ++ cp1 rs[k] := by
  rw [List.take_succ_eq_append_getElem h, cpL_append]; simp [cpL]
theorem cpL_at (rs : List Int) (k : Nat) (h : k < rs.length) (m : Nat) (hm : cp1 rs[k] = [m]) :
    ((cpL rs).take ((cpL (rs.take k)).length + 1)).drop (cpL (rs.take k)).length = [m] ∧ (cpL (rs.take k)).length + 1 ≤ (cpL rs).length := by
  have e : cpL rs = cpL (rs.take k) ++ ([m] ++ cpL (rs.drop (k + 1))) := by
    rw [← hm, ← List.append_assoc, ← cpL_take rs k h, ← cpL_append, List.take_append_drop]
  rw [e]
  generalize cpL (rs.take k) = x
  constructor
  · rw [List.take_append, List.take_of_length_le (by omega), List.drop_append_of_le_length (by omega), List.drop_length, Nat.add_sub_cancel_left]
    rfl
  · simp

theorem pointsOf_c (a : Option Addr) (len cap : Nat) (zs : List Int) (w : World) (h : IsInts .i32 w a len cap zs) :
    Calls Try.prog 4 #[.slice a len cap] w fun e w' => e = .returned (.bool true) ∧ Below w.heap.size w w' := by
  obtain ⟨hl, hrd, hwf⟩ := h
  obtain ⟨n, hn⟩ : ∃ n, n = min len 40 := ⟨_, rfl⟩
  have hmn : min (len : Int) 40 = (n : Int) := by rw [hn]; omega
  have hn40 : n ≤ 40 := by omega
  have hnl : n ≤ len := by omega
  obtain ⟨rs, hrs⟩ : ∃ rs, rs = zs.take n := ⟨_, rfl⟩
  have hrl : rs.length = n := by rw [hrs, List.length_take]; omega
  have hr : ∀ r ∈ rs, -2147483648 ≤ r ∧ r ≤ 2147483647 := fun r hr => bounds_i32 (hwf r (by rw [hrs] at hr; exact List.mem_of_mem_take hr))
  have hcap : len ≤ cap := by obtain ⟨_, A, c, hv, hc, _⟩ := hrd; injection hv with _ _ h3; omega
  have hrd2 : Rd w 1 (.slice a n cap) n (runesV rs) := by
    obtain ⟨_, A, c, hv, hc, hcell⟩ := hrd
    injection hv with h1 h2 h3
    subst h1; subst h3
    refine ⟨by simp [runesV, hrl], a, cap, rfl, by omega, fun h0 => ?_⟩
    obtain ⟨b, off, hA, hb, hcl⟩ := hcell (by omega)
    refine ⟨b, off, hA, hb, fun j u hu => hcl j u ?_⟩
    unfold runesV at hu
    rw [hrs, List.map_take, List.getElem?_take] at hu
    split at hu
    · exact hu
    · cases hu
  have HR := Lib.hid hr; have HRD := Lib.hid hrd2; have HN := Lib.hid hn; have HRL := Lib.hid hrl
  clear hr hrd2 hn hrs hrd hwf hl
  have hcl : (cpL rs).length ≤ 40 := by have := cpL_le rs; have := HRL.out; omega
  have HOF : Hid (∀ w', Ext w w' → Calls Try.prog 17 #[.slice a n cap] w' fun e w'' => e = .returned (.string (mkS (encs (cpL rs)))) ∧ Ext w' w'') := Lib.hid fun w' hx => by
    have h := of_c (.slice a n cap) rs w' (by rw [HRL.out]; exact HRD.out.ext hx) (by rw [HRL.out]; omega) HR.out
    rw [ofL_cpL] at h; exact h
  have HOR : Hid (∀ w', Ext w w' → Calls Try.prog 18 #[.slice a n cap] w' fun e w'' => e = .returned (.string (mkS (encs (cpL rs)))) ∧ Ext w' w'') := Lib.hid fun w' hx => by
    have h := ofR_c (.slice a n cap) rs w' (by rw [HRL.out]; exact HRD.out.ext hx) (by rw [HRL.out]; omega) HR.out
    rw [ofL_cpL] at h; exact h
  have HV := Lib.hid (fun w' => valid_ok (cpL rs) (cpL_cp rs) (by omega) w')
  have HC := Lib.hid (fun w' => count_ok (cpL rs) (cpL_cp rs) (by omega) w')
  have HCUT := Lib.hid (fun i j hij hj w' => cut_ok (cpL rs) (cpL_cp rs) (by omega) i j hij hj w')
  generalize hS : mkS (encs (cpL rs)) = S at *
  clear hS
  go_enter Try.func4, Try.ntmps4
  go_wp2_with fail
  refine (shown_c _).mono ?_; rintro e w1 ⟨rfl, hx1⟩
  go_wp2_with fail
  refine (HOF.out _ hx1).mono ?_; rintro e w2 ⟨rfl, hx2⟩
  have hx := hx1.trans hx2
  clear hx1 hx2
  go_wp2_with fail
  go_loopw [6, 7] (fun m j wr => ∃ k : Nat, k ≤ n ∧ j = .int .i64 k ∧ m = .int .i64 (cpL (rs.take k)).length ∧ Ext w wr) (fun _ j _ => n - (intOf j).toNat)
  case atStart => exact ⟨0, by omega, rfl, rfl, hx⟩
  case round =>
    obtain ⟨k, hk, rfl, rfl, hxr⟩ := hrel
    have hml : (cpL (rs.take k)).length ≤ 40 := by have := cpL_le (rs.take k); rw [List.length_take] at this; have := HRL.out; omega
    by_cases hlt : k < n
    · obtain ⟨b, off, u, rfl, hb, hu, hcell⟩ := (HRD.out.ext hxr).cell hlt
      have hkl : k < rs.length := by rw [HRL.out]; exact hlt
      obtain ⟨r, hrk⟩ : ∃ r, r = rs[k] := ⟨_, rfl⟩
      have hu2 : u = .int .i32 r := by
        rw [hrk]; unfold runesV at hu; rw [List.getElem?_map, List.getElem?_eq_getElem hkl] at hu; simpa using hu.symm
      subst hu2
      have hbd := HR.out r (by rw [hrk]; exact List.getElem_mem hkl)
      have hsn : cpL (rs.take (k + 1)) = cpL (rs.take k) ++ cp1 r := by rw [hrk]; exact cpL_take rs k hkl
      have HSN := Lib.hid hsn
      obtain ⟨hb1, hb2⟩ := hbd
      clear hsn hu
      by_cases hcp : 0 ≤ r ∧ IsCp r.toNat
      · have hc1 : cp1 r = [r.toNat] := by unfold cp1; rw [if_pos hcp]
        obtain ⟨hat, hle⟩ := cpL_at rs k hkl r.toNat (by rw [← hrk]; exact hc1)
        have H1 := Lib.hid (fun w' => HCUT.out (cpL (rs.take k)).length ((cpL (rs.take k)).length + 1) (by omega) hle w')
        rw [hat, encs_single] at H1
        have hof : of1 r = enc1 r.toNat := by unfold of1; rw [if_pos hcp]
        have H2 : Hid (∀ w', Calls Try.prog 17 #[.slice (some ⟨w'.heap.size, 0, none⟩) 1 1] (w'.alloc (.cells #[.int .i32 r] 21)) fun e w'' => e = .returned (.string (mkS (enc1 r.toNat))) ∧ Ext w' w'') :=
          Lib.hid (fun w' => by
            have h := of_new [r] 1 rfl (by omega) (by simpa using ⟨hb1, hb2⟩) w' 21
            rw [ofL_one, hof] at h; exact h)
        have hnx : (cpL (rs.take (k + 1))).length = (cpL (rs.take k)).length + 1 := by rw [HSN.out, hc1, List.length_append]; rfl
        have HNX := Lib.hid hnx
        obtain ⟨hp, hcp⟩ := hcp
        have hd1 : r ≤ 1114111 := by unfold IsCp at hcp; omega
        have hd2 : r < 55296 ∨ (55296 ≤ r ∧ 57343 < r) := by unfold IsCp at hcp; omega
        simp only [Int.natCast_add, Int.natCast_one] at H1
        generalize mkS (enc1 r.toNat) = T at *
        clear hat hle hof hnx hc1 hcp hrk hb1 hb2
        generalize hmm : (cpL (rs.take k)).length = m at *
        have HMM := Lib.hid hmm; clear hmm
        rcases hd2 with hd2 | ⟨hd2, hd3⟩
        all_goals
          go_wp2_with fail
          refine (H1.out _).mono ?_; rintro e w3 ⟨rfl, hx3⟩
          have hcell3 : w3.cell? ⟨b, off + k, none⟩ = some (.int .i32 r) := (hx3.below.cell (p := ⟨b, off + k, none⟩) hb).trans hcell
          go_wp2_with fail
          refine (H2.out _).mono ?_; rintro e w4 ⟨rfl, hx4⟩
          go_wp2_with fail
          go_roundw
          case rel => exact ⟨k + 1, by omega, by go_num, by rw [HNX.out]; go_num, (hxr.trans hx3).trans hx4⟩
          case measure => simp [intOf]; omega
      · have hc1 : cp1 r = [] := by unfold cp1; rw [if_neg hcp]
        have hnx : (cpL (rs.take (k + 1))).length = (cpL (rs.take k)).length := by rw [HSN.out, hc1, List.append_nil]
        have HNX := Lib.hid hnx
        have hd : r < 0 ∨ (0 ≤ r ∧ 1114111 < r) ∨ (0 ≤ r ∧ r ≤ 1114111 ∧ 55296 ≤ r ∧ r ≤ 57343) := by unfold IsCp at hcp; omega
        clear hnx hc1 hcp hrk hb1 hb2
        rcases hd with hd | ⟨hd, hd2⟩ | ⟨hd, hd2, hd3, hd4⟩
        all_goals
          go_wp2_with fail
          go_roundw
          case rel => exact ⟨k + 1, by omega, by go_num, by rw [HNX.out], hxr⟩
          case measure => simp [intOf]; omega
    · have hk2 : k = n := by omega
      have hlen : (cpL (rs.take k)).length = (cpL rs).length := by rw [hk2, List.take_of_length_le (by rw [HRL.out]; omega)]
      rw [← hlen] at HC
      have HLEN := Lib.hid hlen
      clear hk2 hlen
      generalize (cpL (rs.take k)).length = m at *
      go_wp2_with fail
      refine (HOR.out _ hxr).mono ?_; rintro e w3 ⟨rfl, hx3⟩
      go_wp2_with fail
      refine (HV.out _).mono ?_; rintro e w4 ⟨rfl, hx4⟩
      go_wp2_with fail
      refine (HC.out _).mono ?_; rintro e w5 ⟨rfl, hx5⟩
      go_wp2_with fail
      go_ret
      exact ⟨rfl, ((hxr.trans hx3).trans hx4).trans hx5⟩
end Go.Proofs.Ytpiklijbdpdjcaa
