/- Layer 3, the reference: May, In, Out. -/
import Derived.Test.YtejgkhmpmnjgaaaDoorC1a
namespace Go.Proofs.YtejgkhmpmnjgaaaDoor
open Go.RowKit
set_option maxRecDepth 100000
set_option maxHeartbeats 1000000

theorem toList_bs (t : ByteArray) : t.toList = bs t := by
  rw [ByteArray.toList_eq]; rfl
/-- A span's value: three cells. -/
def spanV (k n : Int) (t : ByteArray) : Value := .agg #[.int .i64 k, .int .i64 n, .string t]
def mayS (k n : Int) (t : ByteArray) : Int :=
  if k = 1 ∨ k = 3 then (if n < 0 ∨ 1048576 < n then 2 else if (bs t).isEmpty then 0 else 3)
  else if k = 2 then (if n = 0 then (if (dec (bs t)).isSome then 0 else 3) else 2) else 1
def inS (k n : Int) : Int := if k = 1 ∨ k = 3 then n else 0
def outS (k n : Int) (t : ByteArray) : Int := if k = 1 then n else if k = 2 then max (cntF (bs t)) 0 else 0
theorem mayR_c (k n : Int) (t : ByteArray) (w : World) (ht : t.size ≤ 1000000000) :
    Calls Tryd.prog 45 #[spanV k n t] w fun e w' => e = .returned (.int .i64 (mayS k n t)) ∧ Ext w w' := by
  have HX : Hid (∀ o, Ext w (w.alloc o)) := Lib.hid fun o => (Ext.refl w).alloc o
  have HV := Lib.hid (fun w' => validR_c t w' ht)
  have htl := toList_bs t
  rcases (by omega : (k = 1 ∨ k = 3) ∨ k = 2 ∨ (k ≠ 1 ∧ k ≠ 2 ∧ k ≠ 3)) with hk | hk | ⟨h1, h2, h3⟩
  · have hs : mayS k n t = if n < 0 ∨ 1048576 < n then 2 else if (bs t).isEmpty then 0 else 3 := by unfold mayS; rw [if_pos hk]
    rw [hs]
    clear hs
    rcases (by omega : n < 0 ∨ (0 ≤ n ∧ 1048576 < n) ∨ (0 ≤ n ∧ n ≤ 1048576)) with hn | ⟨hn, hn'⟩ | ⟨hn, hn'⟩
    · rw [if_pos (by omega)]
      clear htl
      rcases hk with rfl | rfl
      all_goals
        unfold spanV
        go_enter Tryd.func45, Tryd.ntmps45
        go_wp2_with fail
        go_ret
        exact ⟨rfl, HX.out _⟩
    · rw [if_pos (by omega)]
      clear htl
      rcases hk with rfl | rfl
      all_goals
        unfold spanV
        go_enter Tryd.func45, Tryd.ntmps45
        go_wp2_with fail
        go_ret
        exact ⟨rfl, HX.out _⟩
    · rw [if_neg (by omega)]
      obtain ⟨e, he⟩ : ∃ e, e = (bs t).isEmpty := ⟨_, rfl⟩
      have hE : t.toList.isEmpty = e := by rw [htl]; exact he.symm
      rw [← he]
      clear htl he
      rcases hk with rfl | rfl
      all_goals
        cases e
        all_goals
          unfold spanV
          go_enter Tryd.func45, Tryd.ntmps45
          go_wp2_with fail
          go_ret
          exact ⟨rfl, HX.out _⟩
  · subst hk
    by_cases hn : n = 0
    · have hs : mayS 2 n t = if (dec (bs t)).isSome then 0 else 3 := by unfold mayS; rw [if_neg (by omega), if_pos rfl, if_pos hn]
      subst hn
      rw [hs]
      clear hs htl
      generalize (dec (bs t)).isSome = v at *
      unfold spanV
      cases v
      all_goals
        go_enter Tryd.func45, Tryd.ntmps45
        go_wp2_with fail
        refine (HV.out _).mono ?_; rintro e w1 ⟨rfl, hx1⟩
        go_wp2_with fail
        go_ret
        exact ⟨rfl, (HX.out _).trans hx1⟩
    · have hs : mayS 2 n t = 2 := by unfold mayS; rw [if_neg (by omega), if_pos rfl, if_neg hn]
      have hn1 : (n != 0) = true := by rw [bne_iff_ne]; exact hn
      rw [hs]
      clear hs htl
      unfold spanV
      go_enter Tryd.func45, Tryd.ntmps45
      go_wp2_with fail
      go_ret
      exact ⟨rfl, HX.out _⟩
  · have hs : mayS k n t = 1 := by unfold mayS; rw [if_neg (by omega), if_neg (by omega)]
    have b1 : (k == 1) = false := by rw [beq_eq_false_iff_ne]; exact h1
    have b2 : (k == 2) = false := by rw [beq_eq_false_iff_ne]; exact h2
    have b3 : (k == 3) = false := by rw [beq_eq_false_iff_ne]; exact h3
    rw [hs]
    clear hs htl
    unfold spanV
    go_enter Tryd.func45, Tryd.ntmps45
    go_wp2_with fail
    go_ret
    exact ⟨rfl, HX.out _⟩
theorem inR_c (k n : Int) (t : ByteArray) (w : World) :
    Calls Tryd.prog 46 #[spanV k n t] w fun e w' => e = .returned (.int .i64 (inS k n)) ∧ Ext w w' := by
  rcases (by omega : k = 1 ∨ k = 3 ∨ (k ≠ 1 ∧ k ≠ 3)) with hk | hk | ⟨h1, h3⟩
  · have hs : inS k n = n := by unfold inS; rw [if_pos (by omega)]
    subst hk
    rw [hs]
    clear hs
    unfold spanV
    go_enter Tryd.func46, Tryd.ntmps46
    go_wp2_with fail
    go_ret
    exact ⟨rfl, (Ext.refl w).alloc _⟩
  · have hs : inS k n = n := by unfold inS; rw [if_pos (by omega)]
    subst hk
    rw [hs]
    clear hs
    unfold spanV
    go_enter Tryd.func46, Tryd.ntmps46
    go_wp2_with fail
    go_ret
    exact ⟨rfl, (Ext.refl w).alloc _⟩
  · have hs : inS k n = 0 := by unfold inS; rw [if_neg (by omega)]
    have b1 : (k == 1) = false := by rw [beq_eq_false_iff_ne]; exact h1
    have b3 : (k == 3) = false := by rw [beq_eq_false_iff_ne]; exact h3
    rw [hs]
    clear hs
    unfold spanV
    go_enter Tryd.func46, Tryd.ntmps46
    go_wp2_with fail
    go_ret
    exact ⟨rfl, (Ext.refl w).alloc _⟩
theorem outR_c (k n : Int) (t : ByteArray) (w : World) (ht : t.size ≤ 1000000000) :
    Calls Tryd.prog 44 #[spanV k n t] w fun e w' => e = .returned (.int .i64 (outS k n t)) ∧ Ext w w' := by
  have HX : Hid (∀ o, Ext w (w.alloc o)) := Lib.hid fun o => (Ext.refl w).alloc o
  have HV := Lib.hid (fun w' => countR_c t w' ht)
  have hc0 : -1 ≤ cntF (bs t) := by unfold cntF; split <;> omega
  rcases (by omega : k = 1 ∨ k = 2 ∨ (k ≠ 1 ∧ k ≠ 2)) with hk | hk | ⟨h1, h2⟩
  · have hs : outS k n t = n := by unfold outS; rw [if_pos hk]
    subst hk
    rw [hs]
    clear hs
    unfold spanV
    go_enter Tryd.func44, Tryd.ntmps44
    go_wp2_with fail
    go_ret
    exact ⟨rfl, (Ext.refl w).alloc _⟩
  · have hs : outS k n t = max (cntF (bs t)) 0 := by unfold outS; rw [if_neg (by omega), if_pos hk]
    subst hk
    rw [hs]
    clear hs
    generalize cntF (bs t) = v at *
    unfold spanV
    rcases (by omega : 0 < v ∨ v = 0 ∨ v < 0) with hv | hv | hv
    · have hv1 : max v 0 = v := by omega
      have hv2 : ¬ (v ≤ 0) := by omega
      rw [hv1]
      clear hv1
      go_enter Tryd.func44, Tryd.ntmps44
      go_wp2_with fail
      refine (HV.out _).mono ?_; rintro e w1 ⟨rfl, hx1⟩
      go_wp2_with fail
      go_ret
      exact ⟨rfl, (HX.out _).trans hx1⟩
    · subst hv
      have hv1 : max (0 : Int) 0 = 0 := by omega
      rw [hv1]
      clear hv1
      go_enter Tryd.func44, Tryd.ntmps44
      go_wp2_with fail
      refine (HV.out _).mono ?_; rintro e w1 ⟨rfl, hx1⟩
      go_wp2_with fail
      go_ret
      exact ⟨rfl, (HX.out _).trans hx1⟩
    · have hv1 : max v 0 = 0 := by omega
      have hv2 : v ≤ 0 := by omega
      rw [hv1]
      clear hv1
      go_enter Tryd.func44, Tryd.ntmps44
      go_wp2_with fail
      refine (HV.out _).mono ?_; rintro e w1 ⟨rfl, hx1⟩
      go_wp2_with fail
      go_ret
      exact ⟨rfl, (HX.out _).trans hx1⟩
  · have hs : outS k n t = 0 := by unfold outS; rw [if_neg h1, if_neg h2]
    have b1 : (k == 1) = false := by rw [beq_eq_false_iff_ne]; exact h1
    have b2 : (k == 2) = false := by rw [beq_eq_false_iff_ne]; exact h2
    rw [hs]
    clear hs
    unfold spanV
    go_enter Tryd.func44, Tryd.ntmps44
    go_wp2_with fail
    go_ret
    exact ⟨rfl, (Ext.refl w).alloc _⟩
end Go.Proofs.YtejgkhmpmnjgaaaDoor
