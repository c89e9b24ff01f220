/- Layer 1, the reference: Cut. -/
import Derived.Test.YtpiklijbdpdjcaaC1d
namespace Go.Proofs.Ytpiklijbdpdjcaa
open Go.RowKit
set_option maxRecDepth 100000
set_option maxHeartbeats 1000000

theorem startsV_at (cs : List Nat) (i : Nat) (h : i ≤ cs.length) : (startsV cs)[i]? = some (Value.int .i64 ((encs (cs.take i)).length : Nat)) := by
  unfold startsV startsL
  rw [List.map_map, List.getElem?_map, List.getElem?_range (by omega)]
  rfl
theorem encs_take_drop (cs : List Nat) (i : Nat) : encs cs = encs (cs.take i) ++ encs (cs.drop i) := by rw [← encs_append, List.take_append_drop]
theorem encs_cut (cs : List Nat) (i j : Nat) (h : i ≤ j) :
    ((encs cs).drop (encs (cs.take i)).length).take ((encs (cs.take j)).length - (encs (cs.take i)).length) = encs ((cs.take j).drop i) := by
  have e1 : cs.take j = cs.take i ++ (cs.take j).drop i := by
    rw [show cs.take i = (cs.take j).take i from by rw [List.take_take, Nat.min_eq_left h]]; exact (List.take_append_drop i (cs.take j)).symm
  have e2 : encs cs = encs (cs.take i) ++ (encs ((cs.take j).drop i) ++ encs (cs.drop j)) := by
    rw [encs_take_drop cs j, e1, encs_append, List.append_assoc]
    congr 2
    rw [← e1]
  have e3 : (encs (cs.take j)).length - (encs (cs.take i)).length = (encs ((cs.take j).drop i)).length := by
    conv => lhs; rw [e1, encs_append, List.length_append]
    omega
  rw [e3]
  conv => lhs; rw [e2]
  rw [List.drop_left, List.take_left]
theorem encs_take_le (cs : List Nat) (i j : Nat) (h : i ≤ j) : (encs (cs.take i)).length ≤ (encs (cs.take j)).length := by
  have e : cs.take i = (cs.take j).take i := by rw [List.take_take, Nat.min_eq_left h]
  have := congrArg List.length (encs_take_drop (cs.take j) i)
  rw [List.length_append, ← e] at this
  omega

def cutV (r : List UInt8 × Int) : Value := .tuple #[.string (mkS r.1), .int .i64 r.2]

theorem cutR_c (s : ByteArray) (a b : Int) (w : World) (hs : s.size ≤ 1000000000) :
    Calls Try.prog 12 #[.string s, .int .i64 a, .int .i64 b] w fun e w' => e = .returned (cutV (cutF (bs s) a b)) ∧ Ext w w' := by
  go_enter Try.func12, Try.ntmps12
  go_wp2_with fail
  refine (starts_c s _ hs).mono ?_
  rintro e w1 ⟨hx, ⟨hd, rfl⟩ | ⟨cs, v, hd, rfl, hown⟩⟩
  · have HD : Hid (cutF (bs s) a b = ([], 3)) := Lib.hid (by unfold cutF; rw [hd])
    clear hd
    go_wp2_with fail
    go_ret2
    rw [HD.out]
    exact ⟨rfl, hx⟩
  obtain ⟨hcp, hbs⟩ := dec_some hd
  have hl : cs.length ≤ 1000000000 := by have h2 := length_le_encs cs; rw [← hbs, bs_length] at h2; omega
  by_cases hr : 0 ≤ a ∧ a ≤ b ∧ b ≤ cs.length
  · have hcut : cutF (bs s) a b = (encs ((cs.take b.toNat).drop a.toNat), 0) := by unfold cutF; rw [hd]; simp only; rw [if_pos hr]
    obtain ⟨h0, h1, h2⟩ := hr
    obtain ⟨i, rfl⟩ := Int.eq_ofNat_of_zero_le h0
    obtain ⟨j, rfl⟩ := Int.eq_ofNat_of_zero_le (Int.le_trans h0 h1)
    rw [Int.toNat_natCast, Int.toNat_natCast] at hcut
    obtain ⟨g, c, rfl, hc, _, _, hcell⟩ := hown.cells (by omega)
    have c1 := hcell i _ (startsV_at cs i (by omega))
    have c2 := hcell j _ (startsV_at cs j (by omega))
    have hle := encs_take_le cs i j (by omega)
    have hle2 : (encs (cs.take j)).length ≤ s.size := by
      have := encs_take_le cs j cs.length (by omega); rw [List.take_length, ← hbs, bs_length] at this; exact this
    have hout : s.extract (encs (cs.take i)).length (encs (cs.take j)).length = mkS (encs ((cs.take j).drop i)) :=
      mkS_of (by rw [bs_extract, hbs, encs_cut cs i j (by omega)])
    have HC := Lib.hid hcut; have HO := Lib.hid hout
    clear hcut hout hd hbs hcp hcell
    generalize (encs (cs.take i)).length = p at *
    generalize (encs (cs.take j)).length = q at *
    go_wp2_with fail
    go_quiet (fail)
    go_wp2_with fail
    go_ret2
    rw [HC.out, HO.out]
    exact ⟨rfl, hx.drewN _⟩
  · have hcut : cutF (bs s) a b = ([], 6) := by unfold cutF; rw [hd]; simp only; rw [if_neg hr]
    have HC := Lib.hid hcut; clear hcut hd hbs
    have hr' : a < 0 ∨ (0 ≤ a ∧ b < a) ∨ (0 ≤ a ∧ a ≤ b ∧ (cs.length : Int) < b) := by omega
    obtain ⟨aa, c, rfl, hc⟩ := hown.len
    clear hr
    rcases hr' with h | ⟨h, h'⟩ | ⟨h, h', h''⟩
    all_goals
      go_wp2_with fail
      go_ret2
      rw [HC.out]
      exact ⟨rfl, hx⟩
end Go.Proofs.Ytpiklijbdpdjcaa
