/- Layer 15, the reference: Put, Take, Rises, PutRow, TakeRow, SameRow. -/
import Derived.Test.YtejgkhmpmnjgaaaDoorM15
import Derived.Test.YtejgkhmpmnjgaaaDoorBn
import Derived.Test.YtejgkhmpmnjgaaaDoorBv
import Derived.Test.YtejgkhmpmnjgaaaDoorC2b
import Derived.Test.YtejgkhmpmnjgaaaDoorC1a
namespace Go.Proofs.YtejgkhmpmnjgaaaDoor
open Go.RowKit
set_option maxRecDepth 100000
set_option maxHeartbeats 4000000
set_option linter.unusedSimpArgs false
/-- What makes bytes tells: the error, and the bytes. -/
def BytesR (w : World) (E : Int) (B : List UInt8) (e : Ending) (w' : World) : Prop :=
  Ext w w' ∧ ∃ v, e = .returned (.tuple #[v, .int .i64 E]) ∧ Own w' w.heap.size 5 1 v B.length (Lib.byteCells B)
def snB (s : ByteArray) : List UInt8 := if snE s = 0 then snL s else []
def rwB (l : List Int) : List UInt8 := if rowE l = 0 then rwL l else []
/-- What takes a text tells. -/
def TextR (w : World) (r : Nat × List UInt8 × Nat) (e : Ending) (w' : World) : Prop := Ext w w' ∧ e = .returned (.tuple #[.string (mkS r.2.1), .int .i64 (r.2.2 : Int), .int .i64 (r.1 : Int)])
/-- What takes a row tells. -/
def RowR (w : World) (r : Nat × List Int × Nat) (e : Ending) (w' : World) : Prop := Ext w w' ∧ ∃ A n c, e = .returned (.tuple #[.slice A n c, .int .i64 (r.2.2 : Int), .int .i64 (r.1 : Int)]) ∧ Rd w' 1 (.slice A n c) n (nV r.2.1)
theorem mkS_nil : mkS [] = ⟨#[]⟩ := rfl
theorem rises_drop {l : List Int} {j : Nat} (hj : j < l.length) (was : Int) : rises was (l.drop j) ↔ was < l[j] ∧ l[j] ≤ 268435455 ∧ rises l[j] (l.drop (j + 1)) := by
  rw [List.drop_eq_getElem_cons hj]; exact Iff.rfl
theorem rises_at {l : List Int} : ∀ {was : Int}, rises was l → ∀ j (hj : j < l.length), was < l[j] ∧ l[j] ≤ 268435455 ∧ rises l[j] (l.drop (j + 1)) := by
  induction l with
  | nil => intro was _ j hj; exact absurd hj (by simp)
  | cons x r ih =>
    intro was h j hj
    obtain ⟨h1, h2, h3⟩ := h
    cases j with
    | zero => exact ⟨h1, h2, h3⟩
    | succ j =>
      obtain ⟨a, b, c⟩ := ih h3 j (by simpa using hj)
      exact ⟨by rw [List.getElem_cons_succ]; omega, b, c⟩

/-- The number ahead of place j. -/
def lastI (l : List Int) : Nat → Int
  | 0 => -1
  | j + 1 => l.getD j (-1)
theorem lastI_succ {l : List Int} {j : Nat} (h : j < l.length) : lastI l (j + 1) = l[j] := by simp [lastI, h]
theorem rises_step {l : List Int} {j : Nat} (hj : j < l.length) : rises (lastI l j) (l.drop j) ↔ lastI l j < l[j] ∧ l[j] ≤ 268435455 ∧ rises (lastI l (j + 1)) (l.drop (j + 1)) := by
  rw [rises_drop hj, lastI_succ hj]
def addR (ls : List Int) (o : Nat) (q : Nat × List Int × Nat) : Nat × List Int × Nat := if q.1 ≠ 0 then (q.1, [], 0) else (0, ls ++ q.2.1, o + q.2.2)
theorem addR_nil (q : Nat × List Int × Nat) (h : q.1 ≠ 0 → q = (q.1, [], 0)) : addR [] 0 q = q := by
  unfold addR
  by_cases h0 : q.1 = 0
  · obtain ⟨a, b, c⟩ := q
    simp only at h0
    subst h0; simp
  · rw [if_pos h0, ← h h0]
theorem tR_shape (m : Nat) (was : Int) (b : List UInt8) (h : (tR m was b).1 ≠ 0) : tR m was b = ((tR m was b).1, [], 0) := by
  cases m with
  | zero => exact absurd rfl h
  | succ m =>
    rw [tR] at h ⊢
    split
    · rfl
    · split
      · rfl
      · split
        · rfl
        · rename_i h1 h2 h3
          rw [if_neg h1, if_neg h2, if_neg h3] at h
          exact absurd rfl h
theorem addR_e {ls : List Int} {o m : Nat} {was : Int} {b : List UInt8} {N K F : Nat} (h : takeL b = (N, K, F)) (hF : F ≠ 0) : addR ls o (tR (m + 1) was b) = (F, [], 0) := by
  rw [tR, h]; simp only; rw [if_pos hF]; unfold addR; rw [if_pos hF]
theorem addR_8 {ls : List Int} {o m : Nat} {was : Int} {b : List UInt8} {N K : Nat} (h : takeL b = (N, K, 0)) (hc : 268435455 < was + 1 + (N : Int)) : addR ls o (tR (m + 1) was b) = (8, [], 0) := by
  rw [tR, h]; simp only; rw [if_neg (by decide), if_pos hc]; rfl
theorem addR_ok {ls : List Int} {o m : Nat} {was : Int} {b : List UInt8} {N K : Nat} (h : takeL b = (N, K, 0)) (hc : ¬ 268435455 < was + 1 + (N : Int)) : addR ls o (tR (m + 1) was b) = addR (ls ++ [was + 1 + (N : Int)]) (o + K) (tR m (was + 1 + (N : Int)) (b.drop K)) := by
  rw [tR, h]; simp only
  rw [if_neg (by decide), if_neg hc]
  by_cases h0 : (tR m (was + 1 + (N : Int)) (b.drop K)).1 = 0
  · rw [if_neg (by omega)]
    unfold addR
    rw [if_neg (by simp), if_neg (by omega)]
    simp [List.append_assoc, Nat.add_assoc]
  · rw [if_pos h0]
    unfold addR
    rw [if_pos h0, if_pos h0]
theorem takeRw_1 {b : List UInt8} {N K F : Nat} (h : takeL b = (N, K, F)) (hF : F ≠ 0) : takeRw b = (F, [], 0) := by unfold takeRw; rw [h]; simp only; rw [if_pos hF]
theorem takeRw_2 {b : List UInt8} {N K : Nat} (h : takeL b = (N, K, 0)) (hN : N = 0 ∨ 65536 < N) : takeRw b = (8, [], 0) := by unfold takeRw; rw [h]; simp only; rw [if_neg (by decide), if_pos hN]
theorem takeRw_3 {b : List UInt8} {N K : Nat} (h : takeL b = (N, K, 0)) (hN : ¬ (N = 0 ∨ 65536 < N)) {E : Nat} (hR : tR N (-1) (b.drop K) = (E, [], 0)) (hE : E ≠ 0) : takeRw b = (E, [], 0) := by
  unfold takeRw; rw [h]; simp only; rw [if_neg (by decide), if_neg hN, hR]; simp only; rw [if_pos hE]
theorem takeRw_4 {b : List UInt8} {N K : Nat} (h : takeL b = (N, K, 0)) (hN : ¬ (N = 0 ∨ 65536 < N)) {l : List Int} {o : Nat} (hR : tR N (-1) (b.drop K) = (0, l, o)) : takeRw b = (0, l, K + o) := by
  unfold takeRw; rw [h]; simp only; rw [if_neg (by decide), if_neg hN, hR]; simp only; rw [if_neg (by decide)]
theorem rsL_take (l : List Int) : ∀ (was : Int) (j : Nat) (hj : j < l.length), rsL was (l.take (j + 1)) = rsL was (l.take j) ++ rS (if j = 0 then was else l.getD (j - 1) (-1)) l[j] := by
  induction l with
  | nil => intro was j hj; exact absurd hj (by simp)
  | cons x r ih =>
    intro was j hj
    cases j with
    | zero => show rS was x ++ rsL x [] = [] ++ rS was x; simp [rsL]
    | succ j =>
      have h := ih x j (by simpa using hj)
      show rS was x ++ rsL x (r.take (j + 1)) = (rS was x ++ rsL x (r.take j)) ++ _
      rw [h, List.append_assoc, List.getElem_cons_succ]
      cases j with
      | zero => simp
      | succ j => simp
theorem rsL_take' {l : List Int} {j : Nat} (hj : j < l.length) : rsL (-1) (l.take (j + 1)) = rsL (-1) (l.take j) ++ rS (lastI l j) l[j] := by
  rw [rsL_take l (-1) j hj]
  cases j with
  | zero => rfl
  | succ j => rw [if_neg (by omega), Nat.add_sub_cancel]; rfl
theorem risesR_c (A : Option Addr) (n c : Nat) (l : List Int) (w : World) (h : Rd w 1 (.slice A n c) n (nV l)) (hn : n ≤ 1000000) : Calls Tryd.prog 29 #[.slice A n c] w fun e w' => e = .returned (.bool (decide (rowOk l))) ∧ Ext w w' := by
  have hl := nV_len h
  have H := Lib.hid h
  have HL := Lib.hid hl
  by_cases hbad : n = 0 ∨ 65536 < n
  · have hR : decide (rowOk l) = false := by
      rw [decide_eq_false_iff_not]
      rintro ⟨h1, h2, _⟩
      have := List.length_pos_iff.2 h1
      omega
    rw [hR]
    clear h hl hR
    rcases hbad with hb | hb
    · subst hb
      go_enter Tryd.func29, Tryd.ntmps29
      go_wp2_with fail
      go_ret
      exact ⟨rfl, Ext.refl _⟩
    · have g1 : (65536 : Int) < (n : Int) := by omega
      have g2 : ((n : Int) == 0) = false := by rw [beq_eq_false_iff_ne]; omega
      go_enter Tryd.func29, Tryd.ntmps29
      go_wp2_with fail
      go_ret
      exact ⟨rfl, Ext.refl _⟩
  · simp only [not_or] at hbad
    obtain ⟨b1, b2⟩ := hbad
    have g1 : ¬ (65536 : Int) < (n : Int) := by omega
    have g2 : ((n : Int) == 0) = false := by rw [beq_eq_false_iff_ne]; omega
    have HD : Hid (rowOk l ↔ rises (-1) l) := Lib.hid ⟨fun h => h.2.2, fun h => ⟨fun e => by subst e; simp at hl; omega, by omega, h⟩⟩
    clear h hl
    go_enter Tryd.func29, Tryd.ntmps29
    go_wp2_with fail
    go_loopw [3] (fun z wr => ∃ j : Nat, j ≤ n ∧ z = .int .i64 j ∧ Hid ((rises (-1) l ↔ rises (lastI l j) (l.drop j)) ∧ -1 ≤ lastI l j) ∧ Hid (Ext w wr)) (fun z _ => n - (intOf z).toNat)
    case atStart => exact ⟨0, by omega, rfl, Lib.hid ⟨Iff.rfl, by show (-1 : Int) ≤ -1; omega⟩, Lib.hid (Ext.refl _)⟩
    case round =>
      obtain ⟨j, hj, rfl, HI, HX⟩ := hrel
      by_cases hlt : j < n
      · have dn : decide (j < n) = true := by rw [decide_eq_true_eq]; exact hlt
        have hjl : j < l.length := by have := HL.out; omega
        obtain ⟨b, off, rfl, q0, hb⟩ := int_at (H.out.ext HX.out) hlt hjl
        have i0 : (0 : Int) ≤ (j : Int) := by omega
        have i1 : (j : Int) < (n : Int) := by omega
        have hst := rises_step hjl
        have hls := lastI_succ hjl
        have HNO : Hid (¬ (lastI l j < l[j] ∧ l[j] ≤ 268435455) → decide (rowOk l) = false) := Lib.hid fun hc => by
          rw [decide_eq_false_iff_not, HD.out, HI.out.1, hst]
          exact fun h => hc ⟨h.1, h.2.1⟩
        have HYES : Hid (lastI l j < l[j] ∧ l[j] ≤ 268435455 → (rises (-1) l ↔ rises (lastI l (j + 1)) (l.drop (j + 1))) ∧ -1 ≤ lastI l (j + 1)) := Lib.hid fun hc => by
          refine ⟨?_, by rw [hls]; have := HI.out.2; omega⟩
          rw [HI.out.1, hst]
          exact ⟨fun h => h.2.2, fun h => ⟨hc.1, hc.2, h⟩⟩
        have hlow := HI.out.2
        have HP : Hid (0 < j → ((off + (j - 1) : Nat), (.int .i64 (lastI l j) : Value)) = ((off + (j - 1) : Nat), (.int .i64 (lastI l j) : Value)) ∧ wr.cell? ⟨b, off + (j - 1), none⟩ = some (.int .i64 (lastI l j))) := Lib.hid fun h0 => by
          obtain ⟨b', off', hA, q1, _⟩ := int_at (H.out.ext HX.out) (j := j - 1) (by omega) (by omega)
          injection hA with hA; injection hA with e1 e2; subst e1; subst e2
          refine ⟨rfl, ?_⟩
          rw [q1, show lastI l j = l[j - 1] by
            obtain ⟨t, rfl⟩ : ∃ t, j = t + 1 := ⟨j - 1, by omega⟩
            rw [lastI_succ (by omega)]; simp]
        clear hst hls
        obtain ⟨x, hx⟩ : ∃ x, l[j] = x := ⟨_, rfl⟩
        obtain ⟨y, hy⟩ : ∃ y, lastI l j = y := ⟨_, rfl⟩
        rw [hx] at q0
        rw [hx, hy] at HNO HYES
        rw [hy] at HP hlow
        have HYY : Hid (j = 0 → y = -1) := Lib.hid fun e => by subst e; rw [← hy]; rfl
        clear hx hy HI
        by_cases c1 : x < 0
        · have HR := Lib.hid (HNO.out (by omega))
          have d1 : decide (x < 0) = true := by rw [decide_eq_true_eq]; exact c1
          clear hlow HNO HYES HP
          go_wp2_with fail
          go_quiet (fail)
          go_wp2_with fail
          go_ret
          rw [HR.out]
          exact ⟨rfl, HX.out.drewN nq⟩
        · have d1 : decide (x < 0) = false := by rw [decide_eq_false_iff_not]; exact c1
          by_cases c2 : 268435455 < x
          · have HR := Lib.hid (HNO.out (by omega))
            have d2 : decide ((268435455 : Int) < x) = true := by rw [decide_eq_true_eq]; exact c2
            clear hlow HNO HYES HP
            go_wp2_with fail
            go_quiet (fail)
            go_wp2_with fail
            go_ret
            rw [HR.out]
            exact ⟨rfl, HX.out.drewN nq⟩
          · have d2 : decide ((268435455 : Int) < x) = false := by rw [decide_eq_false_iff_not]; exact c2
            by_cases c3 : 0 < j
            · have q1 := (HP.out c3).2
              have d3 : decide ((0 : Int) < (j : Int)) = true := by rw [decide_eq_true_eq]; omega
              have d3' : decide (0 < j) = true := by rw [decide_eq_true_eq]; exact c3
              have e4 : ((j : Int) - 1).toNat = j - 1 := by omega
              have i2 : (0 : Int) ≤ (j : Int) - 1 := by omega
              have i3 : (j : Int) - 1 < (n : Int) := by omega
              by_cases c4 : x ≤ y
              · have HR := Lib.hid (HNO.out (by omega))
                have d4 : decide (x ≤ y) = true := by rw [decide_eq_true_eq]; exact c4
                clear hlow HNO HYES HP
                go_wp2_with fail
                go_quiet (fail)
                go_wp2_with fail
                go_ret
                rw [HR.out]
                exact ⟨rfl, HX.out.drewN nq⟩
              · have HI2 := Lib.hid (HYES.out ⟨by omega, by omega⟩)
                have d4 : decide (x ≤ y) = false := by rw [decide_eq_false_iff_not]; exact c4
                clear hlow HNO HYES HP
                go_wp2_with fail
                go_quiet (fail)
                go_wp2_with fail
                go_roundw
                case rel => exact ⟨j + 1, by omega, by go_num, HI2, Lib.hid (HX.out.drewN nq)⟩
                case measure => simp [intOf]; omega
            · obtain rfl : j = 0 := by omega
              have HI2 := Lib.hid (HYES.out ⟨by have := HYY.out rfl; omega, by omega⟩)
              rw [Nat.add_zero] at q0
              clear hlow HNO HYES HP
              go_wp2_with fail
              go_quiet (fail)
              go_wp2_with fail
              go_roundw
              case rel => exact ⟨1, by omega, by go_num, HI2, Lib.hid (HX.out.drewN nq)⟩
              case measure => simp [intOf]; omega
      · obtain rfl : j = n := by omega
        have dn : decide (j < j) = false := by rw [decide_eq_false_iff_not]; omega
        have hall : l.drop j = [] := List.drop_eq_nil_of_le (by have := HL.out; omega)
        have HR : Hid (decide (rowOk l) = true) := Lib.hid (by rw [decide_eq_true_eq, HD.out, HI.out.1, hall]; trivial)
        clear hall
        go_wp2_with fail
        go_ret
        rw [HR.out]
        exact ⟨rfl, HX.out⟩
end Go.Proofs.YtejgkhmpmnjgaaaDoor
