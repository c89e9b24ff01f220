/- Layer 2, the reference: Take. -/
import Derived.Test.YtilldbbfdmdggaaC2a
import Derived.Deep.QuietTactic
import Derived.BigQuiet
namespace Go.Proofs.Ytilldbbfdmdggaa
open Go.RowKit
set_option maxRecDepth 100000
set_option maxHeartbeats 1000000

theorem lead_lt {k j : Nat} {l : List UInt8} (h : j < leadN k l) : j < l.length ∧ j < k ∧ 128 ≤ nth l j := by
  induction k generalizing j l with
  | zero => simp [leadN] at h
  | succ k ih =>
    cases l with
    | nil => simp [leadN] at h
    | cons b t =>
      simp only [leadN] at h
      split at h
      · omega
      · cases j with
        | zero => refine ⟨by simp, by omega, ?_⟩; simp [nth]; omega
        | succ j =>
          obtain ⟨h1, h2, h3⟩ := ih (j := j) (l := t) (by omega)
          exact ⟨by simpa using h1, by omega, by simpa [nth] using h3⟩
theorem lead_eq {k : Nat} {l : List UInt8} : leadN k l = k ∨ l.length ≤ leadN k l ∨ nth l (leadN k l) < 128 := by
  induction k generalizing l with
  | zero => simp [leadN]
  | succ k ih =>
    cases l with
    | nil => simp [leadN]
    | cons b t =>
      simp only [leadN]
      split
      · rename_i hb; right; right; simpa [nth] using hb
      · rcases ih (l := t) with h | h | h
        · left; omega
        · right; left; simpa using h
        · right; right; simpa [nth] using h
theorem valN_lt (j : Nat) (l : List UInt8) : valN j l < 256 * capN j := by
  induction j generalizing l with
  | zero => cases l with
    | nil => simp [valN, capN]
    | cons b t => have := b.toNat_lt; simp only [valN, capN]; omega
  | succ j ih => cases l with
    | nil => have := capN_pos (j + 1); simp only [valN]; omega
    | cons b t => have := b.toNat_lt; have := ih t; have := capN_pos j; simp only [valN, capN]; omega
theorem capN_le {j : Nat} (h : j ≤ 3) : capN j ≤ 2097152 := by
  have e0 : capN 0 = 1 := rfl
  have e1 : capN 1 = 128 := rfl
  have e2 : capN 2 = 16384 := rfl
  have e3 : capN 3 = 2097152 := rfl
  match j, h with
  | 0, _ => omega
  | 1, _ => omega
  | 2, _ => omega
  | 3, _ => omega
theorem valN_le {j : Nat} (h : j ≤ 3) (l : List UInt8) : valN j l < 536870912 := by
  have := valN_lt j l; have := capN_le h; omega
theorem valN_step (l : List UInt8) (k j : Nat) (hj : j < k) (hk : k < l.length) : valN (k - j) (l.drop j) = (nth l j - 128) + 128 * valN (k - (j + 1)) (l.drop (j + 1)) := by
  have hjl : j < l.length := by omega
  obtain ⟨d, hd⟩ : ∃ d, k - j = d + 1 := ⟨k - j - 1, by omega⟩
  rw [List.drop_eq_getElem_cons hjl, hd, valN, show k - (j + 1) = d from by omega]
  simp [nth, hjl]

/-- What Take answers. -/
def takeV (r : Nat × Nat × Nat) : Value := .tuple #[.int .i64 r.1, .int .i64 r.2.1, .int .i64 r.2.2]
theorem take_form (l : List UInt8) : takeL l = (0, 0, 8) ∨ takeL l = (0, 0, 7) ∨ takeL l = (0, 0, 8) ∨ True := by simp
theorem byte_at {w : World} {A : Option Addr} {n c : Nat} {l : List UInt8} (h : Rd w 1 (.slice A n c) n (Lib.byteCells l)) {j : Nat} (hj : j < n) :
    ∃ b off, A = some ⟨b, off, none⟩ ∧ w.cell? ⟨b, off + j, none⟩ = some (.int .u8 (nth l j)) ∧ b < w.heap.size := by
  obtain ⟨b, off, u, hA, hb, hu, hc⟩ := h.cell hj
  refine ⟨b, off, hA, ?_, hb⟩
  rw [hc]
  unfold Lib.byteCells at hu
  rw [List.getElem?_map] at hu
  have hjl : j < l.length := by have := h.1; simp [Lib.byteCells] at this; omega
  rw [List.getElem?_eq_getElem hjl] at hu
  simp only [Option.map_some, Option.some.injEq] at hu
  rw [← hu]
  simp [nth, hjl]

theorem takeR_c (A : Option Addr) (n c : Nat) (l : List UInt8) (w : World) (h : Rd w 1 (.slice A n c) n (Lib.byteCells l)) (hn : n ≤ 1000000000) :
    Calls Try.prog 26 #[.slice A n c] w fun e w' => e = .returned (takeV (takeL l)) ∧ Ext w w' := by
  have hl : l.length = n := by have := h.1; simpa [Lib.byteCells] using this
  have hle := leadN_le 4 l
  have H := Lib.hid h; have HL := Lib.hid hl
  have hkn : leadN 4 l ≤ n := by omega
  obtain ⟨k, hk⟩ : ∃ k, k = leadN 4 l := ⟨_, rfl⟩
  have hk4 : k ≤ 4 := by omega
  rw [← hk] at hkn
  have HK := Lib.hid hk
  clear h hl hle hk
  go_enter Try.func26, Try.ntmps26
  go_wp2_with fail
  go_loop [5] (fun q => ∃ j : Nat, j ≤ k ∧ q = .int .i64 j) (fun q => 4 - (intOf q).toNat)
  case atStart => exact ⟨0, by omega, rfl⟩
  case round =>
    obtain ⟨j, hj, rfl⟩ := hrel
    by_cases hlt : j < k
    · obtain ⟨h1, h2, h3⟩ := lead_lt (k := 4) (l := l) (j := j) (by rw [← HK.out]; exact hlt)
      have hjn : j < n := by rw [← HL.out]; exact h1
      obtain ⟨b, off, rfl, hcell, hb⟩ := byte_at H.out hjn
      have d1 : decide (j < n) = true := by rw [decide_eq_true_eq]; exact hjn
      have hbl := nth_lt l j
      have d3 : (127 : Int) < (nth l j : Int) := by omega
      clear h1 h3
      go_wp2_with fail
      go_round
      case rel => exact ⟨j + 1, by omega, by go_num⟩
      case measure => simp [intOf]; omega
    · obtain rfl : j = k := by omega
      clear hlt hj
      by_cases c4 : j = 4
      · have ht : takeL l = (0, 0, 8) := by unfold takeL; simp only; rw [← HK.out, if_pos c4]
        have HT := Lib.hid ht
        have q4 : ((j : Int) == 4) = true := by rw [c4]; rfl
        have d4 : decide ((j : Int) < 4) = false := by rw [decide_eq_false_iff_not]; omega
        by_cases cn : j < n
        · have dn : decide (j < n) = true := by rw [decide_eq_true_eq]; exact cn
          clear c4 ht
          go_wp2_with fail
          refine bodyPost_ret (results_tmp3 rfl _ _ _) rfl ?_
          rw [HT.out]
          exact ⟨rfl, Ext.refl _⟩
        · have dn : decide (j < n) = false := by rw [decide_eq_false_iff_not]; exact cn
          clear c4 ht
          go_wp2_with fail
          refine bodyPost_ret (results_tmp3 rfl _ _ _) rfl ?_
          rw [HT.out]
          exact ⟨rfl, Ext.refl _⟩
      have q4 : ((j : Int) == 4) = false := by rw [beq_eq_false_iff_ne]; omega
      have d4 : (j : Int) < 4 := by omega
      by_cases cn : j < n
      · have dn : decide (j < n) = true := by rw [decide_eq_true_eq]; exact cn
        have qn : ((j : Int) == (n : Int)) = false := by rw [beq_eq_false_iff_ne]; omega
        have hsm : nth l j < 128 := by
          have e := lead_eq (k := 4) (l := l)
          rw [← HK.out] at e
          have := HL.out
          rcases e with e | e | e
          · omega
          · omega
          · exact e
        have hsm' : (nth l j : Int) ≤ 127 := by omega
        obtain ⟨b, off, rfl, hcell, hb⟩ := byte_at H.out cn
        by_cases cz : 0 < j ∧ nth l j = 0
        · have ht : takeL l = (0, 0, 8) := by unfold takeL; simp only; rw [← HK.out, if_neg c4, if_neg (by have := HL.out; omega), if_pos cz]
          have HT := Lib.hid ht
          have cj : (0 : Int) < j := by omega
          rw [cz.2, Int.natCast_zero] at hcell
          clear c4 ht cz hsm hsm'
          go_wp2_with fail
          refine bodyPost_ret (results_tmp3 rfl _ _ _) rfl ?_
          rw [HT.out]
          exact ⟨rfl, Ext.refl _⟩
        · have ht : takeL l = (valN j l, j + 1, 0) := by unfold takeL; simp only; rw [← HK.out, if_neg c4, if_neg (by have := HL.out; omega), if_neg cz]
          have HT := Lib.hid ht
          have hcz : (decide (0 < j) = false) ∨ (decide (0 < j) = true ∧ ((nth l j : Int) == 0) = false) := by
            by_cases h0 : 0 < j
            · exact .inr ⟨by rw [decide_eq_true_eq]; exact h0, by rw [beq_eq_false_iff_ne]; have : ¬ nth l j = 0 := fun e => cz ⟨h0, e⟩; omega⟩
            · exact .inl (by rw [decide_eq_false_iff_not]; omega)
          have hlen : j < l.length := by have := HL.out; omega
          have hv0 : valN (j - j) (l.drop j) = nth l j := by rw [Nat.sub_self, valN_zero]; simp [nth]
          have HV0 := Lib.hid hv0; have HLEN := Lib.hid hlen
          have hj3 : j ≤ 3 := by omega
          have H0 := Lib.hid cz
          clear c4 ht cz hsm hv0 hlen
          rcases hcz with e0 | ⟨e0, e1⟩
          all_goals
            go_wp2_with fail
            go_loop [6, 7] (fun m i => (i = .int .i64 (-1) ∧ m = .int .i64 (valN j l)) ∨ ∃ p : Nat, p < j ∧ i = .int .i64 p ∧ m = .int .i64 (valN (j - (p + 1)) (l.drop (p + 1)))) (fun _ i => (intOf i + 1).toNat)
            case atStart =>
              rcases Nat.eq_zero_or_pos j with hz | hz
              · subst hz
                exact .inl ⟨rfl, by rw [valN_zero]⟩
              · refine .inr ⟨j - 1, by omega, by rw [show ((j - 1 : Nat) : Int) = (j : Int) - 1 from by omega], ?_⟩
                rw [show j - 1 + 1 = j from by omega, HV0.out]
            case round =>
              rcases hrel with ⟨rfl, rfl⟩ | ⟨p, hp, rfl, rfl⟩
              · go_wp2_with fail
                refine bodyPost_ret (results_tmp3 rfl _ _ _) rfl ?_
                rw [HT.out]
                exact ⟨rfl, Ext.refl _⟩
              · have hpn : p < n := by omega
                obtain ⟨b', off', hA, hcell', hb'⟩ := byte_at H.out hpn
                injection hA with hA
                injection hA with h1 h2
                subst h1; subst h2
                have hlead := (lead_lt (k := 4) (l := l) (j := p) (by rw [← HK.out]; exact hp)).2.2
                have hbl := nth_lt l p
                have hval := valN_le (show j - (p + 1) ≤ 3 by omega) (l.drop (p + 1))
                have hst : ((valN (j - p) (l.drop p) : Nat) : Int) = (valN (j - (p + 1)) (l.drop (p + 1)) : Int) * 128 + nth l p - 128 := by
                  rw [valN_step l j p hp HLEN.out]; omega
                have HST := Lib.hid hst
                generalize valN (j - (p + 1)) (l.drop (p + 1)) = vv at *
                clear hst
                go_wp2_with fail
                go_round
                case rel =>
                  rcases Nat.eq_zero_or_pos p with hz | hz
                  · subst hz
                    refine .inl ⟨rfl, ?_⟩
                    have := HST.out
                    rw [Nat.sub_zero, List.drop_zero] at this
                    exact congrArg (Value.int .i64) this.symm
                  · refine .inr ⟨p - 1, by omega, by rw [show ((p - 1 : Nat) : Int) = (p : Int) - 1 from by omega], ?_⟩
                    rw [show p - 1 + 1 = p from by omega, HST.out]
                case measure => simp [intOf]
      · have ht : takeL l = (0, 0, 7) := by unfold takeL; simp only; rw [← HK.out, if_neg c4, if_pos (by have := HL.out; omega)]
        have HT := Lib.hid ht
        have dn : decide (j < n) = false := by rw [decide_eq_false_iff_not]; exact cn
        have qn : ((j : Int) == (n : Int)) = true := by rw [beq_iff_eq]; omega
        clear c4 ht
        go_wp2_with fail
        refine bodyPost_ret (results_tmp3 rfl _ _ _) rfl ?_
        rw [HT.out]
        exact ⟨rfl, Ext.refl _⟩
end Go.Proofs.Ytilldbbfdmdggaa
