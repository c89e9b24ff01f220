/- Layer 2, NumberTaken. -/
import Derived.Test.YtnljmfhiglajcaaL2a
import Derived.Deep.QuietTactic
import Derived.BigQuiet
namespace Go.Proofs.Ytnljmfhiglajcaa
open Go.RowKit
set_option maxRecDepth 100000
set_option maxHeartbeats 1000000

theorem lead_app (k : Nat) (l r : List UInt8) (h : leadN k l = k ∨ leadN k l < l.length) : leadN k (l ++ r) = leadN k l := by
  induction k generalizing l with
  | zero => simp [leadN]
  | succ k ih =>
    cases l with
    | nil => simp [leadN] at h
    | cons b t =>
      simp only [List.cons_append, leadN] at h ⊢
      split
      · rfl
      · rename_i hb
        rw [if_neg hb] at h
        rw [ih t (by simp only [List.length_cons] at h; omega)]
theorem lead_all (k : Nat) (l : List UInt8) (h : leadN k l = l.length) (hk : l.length < k) : leadN k (l ++ [1]) = l.length := by
  induction k generalizing l with
  | zero => omega
  | succ k ih =>
    cases l with
    | nil => rfl
    | cons b t =>
      simp only [List.cons_append, leadN, List.length_cons] at h ⊢
      split at h
      · omega
      · rename_i hb
        rw [if_neg hb, ih t (by omega) (by simpa using hk)]
theorem take_bad (l r : List UInt8) (h : takeL l = (0, 0, 8)) : takeL (l ++ r) = (0, 0, 8) := by
  unfold takeL at h ⊢
  simp only at h ⊢
  have hle := leadN_le 4 l
  split at h
  · rename_i h4
    rw [lead_app 4 l r (.inl h4), if_pos h4]
  split at h
  · simp at h
  split at h
  · rename_i h4 h5 h6
    have e := lead_app 4 l r (.inr (by omega))
    have e2 : nth (l ++ r) (leadN 4 l) = nth l (leadN 4 l) := by
      unfold nth; rw [List.getD_eq_getElem?_getD, List.getD_eq_getElem?_getD, List.getElem?_append_left (by omega)]
    rw [e, if_neg h4, if_neg (by rw [List.length_append]; omega), e2, if_pos h6]
  · simp at h
theorem take_short (l : List UInt8) (h : takeL l = (0, 0, 7)) : l.length < 4 ∧ takeL (l ++ [1]) = (valN l.length (l ++ [1]), l.length + 1, 0) := by
  unfold takeL at h ⊢
  simp only at h ⊢
  have hle := leadN_le 4 l
  split at h
  · simp at h
  split at h
  · rename_i h4 h5
    have hl : leadN 4 l = l.length := by omega
    have h4' : l.length < 4 := by omega
    refine ⟨h4', ?_⟩
    have e := lead_all 4 l hl h4'
    have e2 : nth (l ++ [1]) l.length = 1 := by
      unfold nth; rw [List.getD_eq_getElem?_getD, List.getElem?_append_right (by omega), Nat.sub_self]; rfl
    rw [e, if_neg (by omega), if_neg (by simp), e2, if_neg (by omega)]
  split at h
  · simp at h
  · simp at h
theorem take_three (l : List UInt8) : takeL l = (0, 0, 8) ∨ takeL l = (0, 0, 7) ∨ ∃ n k, takeL l = (n, k, 0) := by
  unfold takeL
  simp only
  split
  · exact .inl rfl
  split
  · exact .inr (.inl rfl)
  split
  · exact .inl rfl
  · exact .inr (.inr ⟨_, _, rfl⟩)

theorem numberTaken_c (A : Option Addr) (k c : Nat) (zs : List Int) (w : World) (h : IsInts .u8 w A k c zs) :
    Calls Try.prog 5 #[.slice A k c] w fun e w' => e = .returned (.bool true) ∧ Below w.heap.size w w' := by
  obtain ⟨m, l, hm, hl, hrd, hfew⟩ := few2_in h
  have hm20 : m ≤ 20 := by omega
  obtain ⟨i, hi, hz0, hz1, hz2⟩ := info_parts info_u8b
  have HF := Lib.hid hfew; have HRD := Lib.hid hrd; have HI := Lib.hid hi; have HZ0 := Lib.hid hz0; have HZ1 := Lib.hid hz1; have HZ2 := Lib.hid hz2
  have HT : Hid (∀ w', Ext w w' → Calls Try.prog 12 #[.slice A m c] w' fun e w'' => e = .returned (takeV (takeL l)) ∧ Ext w' w'') := Lib.hid fun w' hx => take_c A m c l w' (HRD.out.ext hx) (by omega)
  have HL := Lib.hid hl
  have hcm : m ≤ c := by obtain ⟨_, c', hv, hc⟩ := hrd.len; injection hv with _ _ h3; omega
  clear h hm hl hrd hfew hi hz0 hz1 hz2
  rcases take_three l with ht | ht | ⟨n, q, ht⟩
  · have HT2 := Lib.hid (take_bad l [1] ht)
    rw [ht] at HT
    unfold takeV at HT
    clear ht
    go_enter Try.func5, Try.ntmps5
    go_wp2_with fail
    refine (shown2_c _).mono ?_; rintro e w1 ⟨rfl, hx1⟩
    go_wp2_with fail
    refine (HF.out _).mono ?_; rintro e w' ⟨rfl, rfl⟩
    go_wp2_with fail
    refine (HT.out _ hx1).mono ?_; rintro e w2 ⟨rfl, hx2⟩
    have hx := hx1.trans hx2
    have hown0 : Own (w2.alloc (.cells #[] 5)) w2.heap.size 5 1 (.slice (some ⟨w2.heap.size, 0, none⟩) 0 0) 0 [] := Own.made w2 w2.heap.size 5 1 0 #[] (Nat.le_refl _) (by omega) rfl
    have hb0 : Below w2.heap.size w2 (w2.alloc (.cells #[] 5)) := (Below.refl _ _).alloc (Nat.le_refl _) _
    obtain ⟨v1, w3, happ1, hown1, hb1⟩ := app_rd (P := Try.prog) 22 22 5 i _ 1 1 Try.underlying22 HI.out HZ0.out HZ1.out HZ2.out rfl (by omega) (by omega) hb0 hown0 (by omega) (HRD.out.ext (hx.alloc _)) (by omega) (byteCells_one _)
    obtain ⟨v2, w4, happ2, hown2, hb2⟩ := app_new (P := Try.prog) 22 22 5 i _ 1 1 Try.underlying22 HI.out HZ0.out HZ1.out HZ2.out rfl (by omega) (by omega) hb1 hown1 (by omega) 1 #[.int .u8 1] rfl (by omega) (by simp [Value.oneCell']) 5
    obtain ⟨A2, c2, rfl, hc2⟩ := hown2.len
    have HC2 : Hid (Calls Try.prog 12 #[.slice A2 (m + 1) c2] w4 fun e w' => e = .returned (.tuple #[.int .i64 0, .int .i64 0, .int .i64 8]) ∧ Ext w4 w') := Lib.hid (by
      have h := take_c A2 (0 + m + 1) c2 (l ++ [1]) w4 (by
        have h := hown2.rd; rw [List.nil_append] at h; rw [byteCells_append2]; exact h) (by omega)
      rw [HT2.out, Nat.zero_add] at h
      exact h)
    rw [Nat.zero_add] at happ2
    have HA1 := Lib.hid happ1; have HA2 := Lib.hid happ2
    have hx4 : Ext w2 w4 := hb2
    clear happ1 happ2 hown0 hown1 hown2 hb0 hb1 hb2
    go_wp2_with (first | (at_builtin; refine wpList_append_run rfl rfl HA1.out rfl rfl ?_) | (at_builtin; refine wpList_append_run rfl rfl HA2.out rfl rfl ?_))
    refine HC2.out.mono ?_; rintro e w5 ⟨rfl, hx5⟩
    go_wp2_with fail
    go_ret
    exact ⟨rfl, (hx.trans hx4).trans hx5⟩
  · obtain ⟨hm4, ht2⟩ := take_short l ht
    rw [HL.out] at ht2 hm4
    have HT2 := Lib.hid ht2
    clear ht2
    have d4 : (m : Int) < 4 := by omega
    generalize valN m (l ++ [1]) = vv at *
    rw [ht] at HT
    unfold takeV at HT
    clear ht
    go_enter Try.func5, Try.ntmps5
    go_wp2_with fail
    refine (shown2_c _).mono ?_; rintro e w1 ⟨rfl, hx1⟩
    go_wp2_with fail
    refine (HF.out _).mono ?_; rintro e w' ⟨rfl, rfl⟩
    go_wp2_with fail
    refine (HT.out _ hx1).mono ?_; rintro e w2 ⟨rfl, hx2⟩
    have hx := hx1.trans hx2
    have hown0 : Own (w2.alloc (.cells #[] 5)) w2.heap.size 5 1 (.slice (some ⟨w2.heap.size, 0, none⟩) 0 0) 0 [] := Own.made w2 w2.heap.size 5 1 0 #[] (Nat.le_refl _) (by omega) rfl
    have hb0 : Below w2.heap.size w2 (w2.alloc (.cells #[] 5)) := (Below.refl _ _).alloc (Nat.le_refl _) _
    obtain ⟨v1, w3, happ1, hown1, hb1⟩ := app_rd (P := Try.prog) 22 22 5 i _ 1 1 Try.underlying22 HI.out HZ0.out HZ1.out HZ2.out rfl (by omega) (by omega) hb0 hown0 (by omega) (HRD.out.ext (hx.alloc _)) (by omega) (byteCells_one _)
    obtain ⟨v2, w4, happ2, hown2, hb2⟩ := app_new (P := Try.prog) 22 22 5 i _ 1 1 Try.underlying22 HI.out HZ0.out HZ1.out HZ2.out rfl (by omega) (by omega) hb1 hown1 (by omega) 1 #[.int .u8 1] rfl (by omega) (by simp [Value.oneCell']) 5
    obtain ⟨A2, c2, rfl, hc2⟩ := hown2.len
    have HC2 : Hid (Calls Try.prog 12 #[.slice A2 (m + 1) c2] w4 fun e w' => e = .returned (.tuple #[.int .i64 vv, .int .i64 ((m : Int) + 1), .int .i64 0]) ∧ Ext w4 w') := Lib.hid (by
      have h := take_c A2 (0 + m + 1) c2 (l ++ [1]) w4 (by
        have h := hown2.rd; rw [List.nil_append] at h; rw [byteCells_append2]; exact h) (by omega)
      rw [HT2.out, Nat.zero_add] at h
      exact h)
    rw [Nat.zero_add] at happ2
    have HA1 := Lib.hid happ1; have HA2 := Lib.hid happ2
    have hx4 : Ext w2 w4 := hb2
    clear happ1 happ2 hown0 hown1 hown2 hb0 hb1 hb2
    go_wp2_with (first | (at_builtin; refine wpList_append_run rfl rfl HA1.out rfl rfl ?_) | (at_builtin; refine wpList_append_run rfl rfl HA2.out rfl rfl ?_))
    refine HC2.out.mono ?_; rintro e w5 ⟨rfl, hx5⟩
    go_wp2_with fail
    go_ret
    exact ⟨rfl, (hx.trans hx4).trans hx5⟩
  · obtain ⟨hn, hput, hq1, hq2⟩ := take_some ht
    rw [HL.out] at hq2
    rw [ht] at HT
    unfold takeV at HT
    have HP := Lib.hid (fun w' => put_ok n hn w')
    rw [hput] at HP
    have hlq : (l.take q).length = q := by rw [List.length_take, HL.out]; omega
    rw [hlq] at HP
    have hq3 : decide (1 ≤ q) = true := by rw [decide_eq_true_eq]; exact hq1
    have hq5 : decide ((1 : Int) ≤ (q : Int)) = true := by rw [decide_eq_true_eq]; omega
    have hq6 : decide (0 < q) = true := by rw [decide_eq_true_eq]; omega
    have hq7 : decide ((q : Int) ≤ (m : Int)) = true := by rw [decide_eq_true_eq]; omega
    have hq4 : decide (q ≤ m) = true := by rw [decide_eq_true_eq]; exact hq2
    have hrq : Rd w 1 (.slice A q c) q (Lib.byteCells (l.take q)) := by
      have h := HRD.out.take (m := q) hq2
      rw [Nat.mul_one, byteCells_take] at h; exact h
    have HRQ := Lib.hid hrq
    clear ht hn hput hlq hrq
    go_enter Try.func5, Try.ntmps5
    go_wp2_with fail
    refine (shown2_c _).mono ?_; rintro e w1 ⟨rfl, hx1⟩
    go_wp2_with fail
    refine (HF.out _).mono ?_; rintro e w' ⟨rfl, rfl⟩
    go_wp2_with fail
    refine (HT.out _ hx1).mono ?_; rintro e w2 ⟨rfl, hx2⟩
    go_wp2_with fail
    refine (HP.out _).mono ?_; rintro e w3 ⟨p, rfl, hrp, hx3⟩
    have hx := (hx1.trans hx2).trans hx3
    have k1 : ∀ nq, (convert 22 9 p).run Try.prog (w3.drewN nq) = .ok (.string (mkS (l.take q))) (w3.drewN nq) := fun nq => str_run _ (hrp.ext ((Ext.refl w3).drewN nq))
    have k2 : ∀ nq, (convert 22 9 (.slice A q c)).run Try.prog (w3.drewN nq) = .ok (.string (mkS (l.take q))) (w3.drewN nq) := fun nq => str_run _ (HRQ.out.ext (hx.drewN nq))
    generalize mkS (l.take q) = S at *
    have hqc : q ≤ c := by omega
    go_wp2_with fail
    go_quiet (fail)
    go_wp2_with fail
    go_ret
    exact ⟨rfl, hx.drewN _⟩
end Go.Proofs.Ytnljmfhiglajcaa
