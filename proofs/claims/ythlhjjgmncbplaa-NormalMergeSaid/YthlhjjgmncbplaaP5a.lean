/- Layer 5, the program: empty, alike, slices.IndexFunc. -/
import Derived.Test.YthlhjjgmncbplaaMo
import Derived.Test.YthlhjjgmncbplaaBk
import Derived.Test.YthlhjjgmncbplaaBt
namespace Go.Proofs.Ythlhjjgmncbplaa
open Go.RowKit
set_option maxRecDepth 100000
set_option maxHeartbeats 1000000
theorem emp_ways (n : Int) (t : ByteArray) (k : Int) : (emp (k, n, t) ∧ n = 0 ∧ t = ⟨#[]⟩) ∨ (¬ emp (k, n, t) ∧ ((n == 0) = false ∨ ((n == 0) = true ∧ t.toList.isEmpty = false))) := by
  by_cases h : emp (k, n, t)
  · exact .inl ⟨h, h.1, ba_empty h.2⟩
  · refine .inr ⟨h, ?_⟩
    by_cases h2 : n = 0
    · right
      refine ⟨by rw [beq_iff_eq]; exact h2, ?_⟩
      rw [toList_bs]
      cases hb3 : bs t with
      | nil => exact absurd ⟨h2, by rw [← bs_length, hb3]; rfl⟩ h
      | cons x y => rfl
    · left; rw [beq_eq_false_iff_ne]; exact h2
theorem empty5_c (k n : Int) (t : ByteArray) (w : World) :
    Calls Try.prog 16 #[spanV k n t] w fun e w' => e = .returned (.bool (decide (emp (k, n, t)))) ∧ Ext w w' := by
  have HX : Hid (∀ o, Ext w (w.alloc o)) := Lib.hid fun o => (Ext.refl w).alloc o
  unfold spanV
  rcases emp_ways n t k with ⟨h, h2, h3⟩ | ⟨h, h2⟩
  · rw [decide_eq_true h]
    subst h2; subst h3
    clear h
    go_enter Try.func16, Try.ntmps16
    go_wp2_with fail
    go_ret
    exact ⟨rfl, HX.out _⟩
  · rw [decide_eq_false h]
    clear h
    rcases h2 with n1 | ⟨n1, n2⟩
    all_goals
      go_enter Try.func16, Try.ntmps16
      go_wp2_with fail
      go_ret
      exact ⟨rfl, HX.out _⟩
theorem alike5_c (A : Option Addr) (q c : Nat) (l : List Sp) (w : World) (h : Rd w 3 (.slice A q c) q (spCells l)) (hl : l.length = q) (hq : q ≤ 100000) (h0 : 0 < q) :
    Calls Try.prog 17 #[.slice A q c] w fun e w' => ∃ n : Nat, e = .returned (.int .i64 n) ∧ Ext w w' ∧ runOf l n := by
  have H := Lib.hid h; have HL := Lib.hid hl
  have hl0 : 0 < l.length := by omega
  obtain ⟨k0, hk0⟩ : ∃ k0, l[0].1 = k0 := ⟨_, rfl⟩
  have HK := Lib.hid hk0
  clear h hl
  go_enter Try.func17, Try.ntmps17
  go_wp2_with fail
  go_loopw [3] (fun z wr => ∃ j : Nat, 1 ≤ j ∧ j ≤ q ∧ z = .int .i64 j ∧ Ext w wr ∧ ∀ i (h : i < l.length), i < j → l[i].1 = k0) (fun z _ => q - (intOf z).toNat)
  case atStart => exact ⟨1, by omega, by omega, rfl, Ext.refl _, fun i hi h1 => by obtain rfl : i = 0 := (by omega); exact HK.out⟩
  case round =>
    obtain ⟨j, hj1, hj, rfl, hxr, hall⟩ := hrel
    have HA := Lib.hid hall
    clear hall
    have HR := Lib.hid (H.out.ext hxr)
    obtain ⟨b, off, rfl, hb, r0, _, _⟩ := sp_at HR.out HL.out h0
    rw [hk0] at r0
    simp only [Nat.zero_mul, Nat.add_zero] at r0
    have i0 : (0 : Int) ≤ (j : Int) := by omega
    have i2 : (0 : Int) < (q : Int) := by omega
    by_cases hlt : j < q
    · have hjl : j < l.length := by have := HL.out; omega
      obtain ⟨b', off', hA, _, q0, _, _⟩ := sp_at HR.out HL.out hlt
      injection hA with hA
      injection hA with e1 e2
      subst e1; subst e2
      have dn : decide (j < q) = true := by rw [decide_eq_true_eq]; exact hlt
      have i1 : (j : Int) < (q : Int) := by omega
      obtain ⟨k1, hk1⟩ : ∃ k1, l[j].1 = k1 := ⟨_, rfl⟩
      rw [hk1] at q0
      have HK1 := Lib.hid hk1
      clear hk1 hk0
      by_cases hk : k1 = k0
      · subst hk
        go_wp2_with fail
        go_quiet (fail)
        go_wp2_with fail
        go_roundw
        case rel => exact ⟨j + 1, by omega, by omega, by go_num, hxr.drewN _, fun i hi h1 => by
          rcases (by omega : i < j ∨ i = j) with h | rfl
          · exact HA.out i hi h
          · exact HK1.out⟩
        case measure => simp [intOf]; omega
      · have hkb : (k1 == k0) = false := by rw [beq_eq_false_iff_ne]; exact hk
        have HN := Lib.hid hk
        clear hk
        go_wp2_with fail
        go_quiet (fail)
        go_wp2_with fail
        go_ret
        exact ⟨j, rfl, hxr.drewN _, hj1, by omega, fun i hi h1 => by rw [HA.out i hi h1]; exact HK.out.symm, fun h1 => by rw [HK1.out, HK.out]; exact HN.out⟩
    · obtain rfl : j = q := by omega
      have dn : decide (j < j) = false := by rw [decide_eq_false_iff_not]; exact hlt
      clear hlt hj hk0
      go_wp2_with fail
      go_quiet (fail)
      go_wp2_with fail
      go_ret
      exact ⟨j, rfl, hxr.drewN _, hj1, by have := HL.out; omega, fun i hi h1 => by rw [HA.out i hi h1]; exact HK.out.symm, fun h1 => by have := HL.out; omega⟩
theorem indexEmpty_c (A : Option Addr) (q c : Nat) (l : List Sp) (w : World) (h : Rd w 3 (.slice A q c) q (spCells l)) (hl : l.length = q) (hq : q ≤ 100000) :
    Calls Try.prog 20 #[.slice A q c, .func (.func 16) #[] #[]] w fun e w' =>
      Ext w w' ∧ ((e = .returned (.int .i64 (-1)) ∧ ∀ s ∈ l, ¬ emp s) ∨ ∃ i : Nat, e = .returned (.int .i64 i) ∧ ∃ hi : i < l.length, emp l[i] ∧ ∀ s ∈ l.take i, ¬ emp s) := by
  have H := Lib.hid h; have HL := Lib.hid hl
  clear h hl
  go_enter Try.func20, Try.ntmps20
  go_wp2_with fail
  go_loopw [8] (fun z wr => ∃ j : Nat, j ≤ q ∧ z = .int .i64 j ∧ Ext w wr ∧ ∀ s ∈ l.take j, ¬ emp s) (fun z _ => q - (intOf z).toNat)
  case atStart => exact ⟨0, by omega, rfl, Ext.refl _, fun s hs => by simp at hs⟩
  case round =>
    obtain ⟨j, hj, rfl, hxr, hall⟩ := hrel
    have HA := Lib.hid hall
    clear hall
    by_cases hlt : j < q
    · have hjl : j < l.length := by have := HL.out; omega
      obtain ⟨b, off, rfl, hb, q0, q1, q2⟩ := sp_at (H.out.ext hxr) HL.out hlt
      have dn : decide (j < q) = true := by rw [decide_eq_true_eq]; exact hlt
      have i0 : (0 : Int) ≤ (j : Int) := by omega
      have i1 : (j : Int) < (q : Int) := by omega
      obtain ⟨s, hs⟩ : ∃ s, l[j] = s := ⟨_, rfl⟩
      obtain ⟨a1, a2, a3⟩ := s
      rw [hs] at q0 q1 q2
      have HS := Lib.hid hs
      have HIN := Lib.hid (fun (w' : World) => empty5_c a1 a2 a3 w')
      unfold spanV at HIN
      clear hs
      by_cases hemp : emp (a1, a2, a3)
      · rw [decide_eq_true hemp] at HIN
        have HE := Lib.hid hemp
        clear hemp
        go_wp2_with fail
        refine (HIN.out _).mono ?_; rintro e w1 ⟨rfl, hx1⟩
        go_wp2_with fail
        go_ret
        exact ⟨hxr.trans hx1, .inr ⟨j, rfl, hjl, by rw [HS.out]; exact HE.out, HA.out⟩⟩
      · rw [decide_eq_false hemp] at HIN
        have HE := Lib.hid hemp
        clear hemp
        go_wp2_with fail
        refine (HIN.out _).mono ?_; rintro e w1 ⟨rfl, hx1⟩
        go_wp2_with fail
        go_roundw
        case rel => exact ⟨j + 1, by omega, by go_num, hxr.trans hx1, fun s hs => by
          rw [List.take_add_one, List.getElem?_eq_getElem hjl, Option.toList_some, HS.out] at hs
          rcases List.mem_append.1 hs with h | h
          · exact HA.out s h
          · rw [List.mem_singleton] at h; rw [h]; exact HE.out⟩
        case measure => simp [intOf]; omega
    · obtain rfl : j = q := by omega
      have dn : decide (j < j) = false := by rw [decide_eq_false_iff_not]; exact hlt
      clear hlt hj
      go_wp2_with fail
      go_ret
      exact ⟨hxr, .inl ⟨rfl, fun s hs => HA.out s (by rw [← HL.out, List.take_length]; exact hs)⟩⟩
end Go.Proofs.Ythlhjjgmncbplaa
