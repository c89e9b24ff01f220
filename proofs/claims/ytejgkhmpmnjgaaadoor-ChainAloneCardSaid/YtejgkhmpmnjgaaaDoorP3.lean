/- Layer 3, the program: ruleOf, textMay, May, In, Out, over the table of rules. -/
import Derived.Test.YtejgkhmpmnjgaaaDoorC3
import Derived.Test.YtejgkhmpmnjgaaaDoorC1f
import Derived.Test.YtejgkhmpmnjgaaaDoorBa
namespace Go.Proofs.YtejgkhmpmnjgaaaDoor
open Go.RowKit
set_option maxRecDepth 100000
set_option maxHeartbeats 1000000

/-- The rule of a kind, as five cells. -/
def ruleC (k : Int) : Array Value :=
  if k = 1 then #[.bool true, .int .i64 1048576, .bool true, .bool true, .bool false]
  else if k = 2 then #[.bool true, .int .i64 0, .bool false, .bool false, .bool true]
  else if k = 3 then #[.bool true, .int .i64 1048576, .bool true, .bool false, .bool false]
  else #[.bool false, .int .i64 0, .bool false, .bool false, .bool false]
theorem ruleOf_c (k : Int) (w : World) [hT : Tab w] :
    Calls Tryd.prog 71 #[.int .i64 k] w fun e w' => e = .returned (.agg (ruleC k)) ∧ Ext w w' := by
  have HX : Hid (∀ o, Ext w (w.alloc o)) := Lib.hid fun o => (Ext.refl w).alloc o
  rcases (by omega : k < 0 ∨ k = 0 ∨ k = 1 ∨ k = 2 ∨ k = 3 ∨ (0 ≤ k ∧ 4 ≤ k)) with h | h | h | h | h | ⟨h0, h⟩
  · have e : ruleC k = #[.bool false, .int .i64 0, .bool false, .bool false, .bool false] := by
      unfold ruleC; rw [if_neg (by omega), if_neg (by omega), if_neg (by omega)]
    rw [e]
    clear e
    go_enter Tryd.func71, Tryd.ntmps71
    go_wp2_with fail
    refine bodyPost_ret (results_cell_row rfl _ _ w.heap.size _ _ (0, 0) _ rfl (heap_alloc_new w _) Tryd.underlying102 rfl (by kernel_rfl)) rfl ?_
    exact ⟨rfl, HX.out _⟩
  · subst h
    have e : ruleC 0 = #[.bool false, .int .i64 0, .bool false, .bool false, .bool false] := by
      unfold ruleC; simp
    rw [e]
    clear e
    have c0 := fun o => tab_rules (w := w.alloc o) inferInstance 0 _ rfl
    have c1 := fun o => tab_rules (w := w.alloc o) inferInstance 1 _ rfl
    have c2 := fun o => tab_rules (w := w.alloc o) inferInstance 2 _ rfl
    have c3 := fun o => tab_rules (w := w.alloc o) inferInstance 3 _ rfl
    have c4 := fun o => tab_rules (w := w.alloc o) inferInstance 4 _ rfl
    go_enter Tryd.func71, Tryd.ntmps71
    go_wp2_with fail
    refine bodyPost_ret (results_cell_row rfl _ _ w.heap.size _ _ (0, 0) _ rfl (heap_alloc_new w _) Tryd.underlying102 rfl (by kernel_rfl)) rfl ?_
    exact ⟨rfl, HX.out _⟩
  · subst h
    have e : ruleC 1 = #[.bool true, .int .i64 1048576, .bool true, .bool true, .bool false] := by
      unfold ruleC; simp
    rw [e]
    clear e
    have c0 := fun o => tab_rules (w := w.alloc o) inferInstance 5 _ rfl
    have c1 := fun o => tab_rules (w := w.alloc o) inferInstance 6 _ rfl
    have c2 := fun o => tab_rules (w := w.alloc o) inferInstance 7 _ rfl
    have c3 := fun o => tab_rules (w := w.alloc o) inferInstance 8 _ rfl
    have c4 := fun o => tab_rules (w := w.alloc o) inferInstance 9 _ rfl
    go_enter Tryd.func71, Tryd.ntmps71
    go_wp2_with fail
    refine bodyPost_ret (results_cell_row rfl _ _ w.heap.size _ _ (0, 0) _ rfl (heap_alloc_new w _) Tryd.underlying102 rfl (by kernel_rfl)) rfl ?_
    exact ⟨rfl, HX.out _⟩
  · subst h
    have e : ruleC 2 = #[.bool true, .int .i64 0, .bool false, .bool false, .bool true] := by
      unfold ruleC; simp
    rw [e]
    clear e
    have c0 := fun o => tab_rules (w := w.alloc o) inferInstance 10 _ rfl
    have c1 := fun o => tab_rules (w := w.alloc o) inferInstance 11 _ rfl
    have c2 := fun o => tab_rules (w := w.alloc o) inferInstance 12 _ rfl
    have c3 := fun o => tab_rules (w := w.alloc o) inferInstance 13 _ rfl
    have c4 := fun o => tab_rules (w := w.alloc o) inferInstance 14 _ rfl
    go_enter Tryd.func71, Tryd.ntmps71
    go_wp2_with fail
    refine bodyPost_ret (results_cell_row rfl _ _ w.heap.size _ _ (0, 0) _ rfl (heap_alloc_new w _) Tryd.underlying102 rfl (by kernel_rfl)) rfl ?_
    exact ⟨rfl, HX.out _⟩
  · subst h
    have e : ruleC 3 = #[.bool true, .int .i64 1048576, .bool true, .bool false, .bool false] := by
      unfold ruleC; simp
    rw [e]
    clear e
    have c0 := fun o => tab_rules (w := w.alloc o) inferInstance 15 _ rfl
    have c1 := fun o => tab_rules (w := w.alloc o) inferInstance 16 _ rfl
    have c2 := fun o => tab_rules (w := w.alloc o) inferInstance 17 _ rfl
    have c3 := fun o => tab_rules (w := w.alloc o) inferInstance 18 _ rfl
    have c4 := fun o => tab_rules (w := w.alloc o) inferInstance 19 _ rfl
    go_enter Tryd.func71, Tryd.ntmps71
    go_wp2_with fail
    refine bodyPost_ret (results_cell_row rfl _ _ w.heap.size _ _ (0, 0) _ rfl (heap_alloc_new w _) Tryd.underlying102 rfl (by kernel_rfl)) rfl ?_
    exact ⟨rfl, HX.out _⟩
  · have e : ruleC k = #[.bool false, .int .i64 0, .bool false, .bool false, .bool false] := by
      unfold ruleC; rw [if_neg (by omega), if_neg (by omega), if_neg (by omega)]
    rw [e]
    clear e
    go_enter Tryd.func71, Tryd.ntmps71
    go_wp2_with fail
    refine bodyPost_ret (results_cell_row rfl _ _ w.heap.size _ _ (0, 0) _ rfl (heap_alloc_new w _) Tryd.underlying102 rfl (by kernel_rfl)) rfl ?_
    exact ⟨rfl, HX.out _⟩

theorem textMay_c (a b c p : Bool) (m : Int) (t : ByteArray) (w : World) (ht : t.size ≤ 1000000000) :
    Calls Tryd.prog 72 #[.agg #[.bool a, .int .i64 m, .bool b, .bool c, .bool p], .string t] w fun e w' => e = .returned (.bool (if p then (dec (bs t)).isSome else (bs t).isEmpty)) ∧ Ext w w' := by
  have HX : Hid (∀ o, Ext w (w.alloc o)) := Lib.hid fun o => (Ext.refl w).alloc o
  have HV := Lib.hid (fun w' => valid_c t w' ht)
  have htl := toList_bs t
  cases p
  · rw [if_neg (by decide)]
    obtain ⟨e, he⟩ : ∃ e, e = (bs t).isEmpty := ⟨_, rfl⟩
    have hE : t.toList.isEmpty = e := by rw [htl]; exact he.symm
    rw [← he]
    clear htl he
    cases e
    all_goals
      go_enter Tryd.func72, Tryd.ntmps72
      go_wp2_with fail
      go_ret
      exact ⟨rfl, HX.out _⟩
  · rw [if_pos rfl]
    clear htl
    generalize (dec (bs t)).isSome = v at *
    go_enter Tryd.func72, Tryd.ntmps72
    go_wp2_with fail
    refine (HV.out _).mono ?_; rintro e w1 ⟨rfl, hx1⟩
    go_wp2_with fail
    go_ret
    exact ⟨rfl, (HX.out _).trans hx1⟩
theorem may_c (k n : Int) (t : ByteArray) (w : World) [Tab w] (ht : t.size ≤ 1000000000) :
    Calls Tryd.prog 63 #[spanV k n t] w fun e w' => e = .returned (.int .i64 (mayS k n t)) ∧ Ext w w' := by
  have HX : Hid (∀ o, Ext w (w.alloc o)) := Lib.hid fun o => (Ext.refl w).alloc o
  have hR := fun (w' : World) [Tab w'] => ruleOf_c k w'
  rcases (by omega : k = 1 ∨ k = 2 ∨ k = 3 ∨ (k ≠ 1 ∧ k ≠ 2 ∧ k ≠ 3)) with hk | hk | hk | ⟨h1, h2, h3⟩
  · subst hk
    have hr : ruleC 1 = #[.bool true, .int .i64 1048576, .bool true, .bool true, .bool false] := by unfold ruleC; simp
    rw [hr] at hR
    have HR := Lib.hid hR
    clear hr hR
    have hs : mayS 1 n t = if n < 0 ∨ 1048576 < n then 2 else if (bs t).isEmpty then 0 else 3 := by unfold mayS; rw [if_pos (by omega)]
    rw [hs]
    clear hs
    have HM := Lib.hid (fun (w' : World) => textMay_c true true true false 1048576 t w' ht)
    rw [if_neg (by decide)] at HM
    generalize (bs t).isEmpty = v at *
    rcases (by omega : n < 0 ∨ (0 ≤ n ∧ 1048576 < n) ∨ (0 ≤ n ∧ n ≤ 1048576)) with hn | ⟨hn, hn'⟩ | ⟨hn, hn'⟩
    · rw [if_pos (by omega)]
      unfold spanV
      go_enter Tryd.func63, Tryd.ntmps63
      go_wp2_with fail
      refine (HR.out _).mono ?_; rintro e w1 ⟨rfl, hx1⟩
      have q0 := fun o => box_at _ _ _ _ (hx1.alloc o) 0 _ rfl
      have q1 := fun o => box_at _ _ _ _ (hx1.alloc o) 1 _ rfl
      have q2 := fun o => box_at _ _ _ _ (hx1.alloc o) 2 _ rfl
      go_wp2_with fail
      go_ret
      exact ⟨rfl, ((HX.out _).trans hx1).alloc _⟩
    · rw [if_pos (by omega)]
      unfold spanV
      go_enter Tryd.func63, Tryd.ntmps63
      go_wp2_with fail
      refine (HR.out _).mono ?_; rintro e w1 ⟨rfl, hx1⟩
      have q0 := fun o => box_at _ _ _ _ (hx1.alloc o) 0 _ rfl
      have q1 := fun o => box_at _ _ _ _ (hx1.alloc o) 1 _ rfl
      have q2 := fun o => box_at _ _ _ _ (hx1.alloc o) 2 _ rfl
      go_wp2_with fail
      go_ret
      exact ⟨rfl, ((HX.out _).trans hx1).alloc _⟩
    · rw [if_neg (by omega)]
      unfold spanV
      cases v
      all_goals
        go_enter Tryd.func63, Tryd.ntmps63
        go_wp2_with fail
        refine (HR.out _).mono ?_; rintro e w1 ⟨rfl, hx1⟩
        have q0 := fun o => box_at _ _ _ _ (hx1.alloc o) 0 _ rfl
        have q1 := fun o => box_at _ _ _ _ (hx1.alloc o) 1 _ rfl
        have q2 := fun o => box_at _ _ _ _ (hx1.alloc o) 2 _ rfl
        go_wp2_with fail
        refine (HM.out _).mono ?_; rintro e w2 ⟨rfl, hx2⟩
        go_wp2_with fail
        go_ret
        exact ⟨rfl, (((HX.out _).trans hx1).alloc _).trans hx2⟩
  · subst hk
    have hr : ruleC 2 = #[.bool true, .int .i64 0, .bool false, .bool false, .bool true] := by unfold ruleC; simp
    rw [hr] at hR
    have HR := Lib.hid hR
    clear hr hR
    have HM := Lib.hid (fun (w' : World) => textMay_c true false false true 0 t w' ht)
    rw [if_pos rfl] at HM
    rcases (by omega : n < 0 ∨ (0 ≤ n ∧ 0 < n) ∨ n = 0) with hn | ⟨hn, hn'⟩ | hn
    · have hs : mayS 2 n t = 2 := by unfold mayS; rw [if_neg (by omega), if_pos rfl, if_neg (by omega)]
      rw [hs]
      clear hs
      unfold spanV
      go_enter Tryd.func63, Tryd.ntmps63
      go_wp2_with fail
      refine (HR.out _).mono ?_; rintro e w1 ⟨rfl, hx1⟩
      have q0 := fun o => box_at _ _ _ _ (hx1.alloc o) 0 _ rfl
      have q1 := fun o => box_at _ _ _ _ (hx1.alloc o) 1 _ rfl
      have q2 := fun o => box_at _ _ _ _ (hx1.alloc o) 2 _ rfl
      go_wp2_with fail
      go_ret
      exact ⟨rfl, ((HX.out _).trans hx1).alloc _⟩
    · have hs : mayS 2 n t = 2 := by unfold mayS; rw [if_neg (by omega), if_pos rfl, if_neg (by omega)]
      rw [hs]
      clear hs
      unfold spanV
      go_enter Tryd.func63, Tryd.ntmps63
      go_wp2_with fail
      refine (HR.out _).mono ?_; rintro e w1 ⟨rfl, hx1⟩
      have q0 := fun o => box_at _ _ _ _ (hx1.alloc o) 0 _ rfl
      have q1 := fun o => box_at _ _ _ _ (hx1.alloc o) 1 _ rfl
      have q2 := fun o => box_at _ _ _ _ (hx1.alloc o) 2 _ rfl
      go_wp2_with fail
      go_ret
      exact ⟨rfl, ((HX.out _).trans hx1).alloc _⟩
    · subst hn
      have hs : mayS 2 0 t = if (dec (bs t)).isSome then 0 else 3 := by unfold mayS; rw [if_neg (by omega), if_pos rfl, if_pos rfl]
      rw [hs]
      clear hs
      generalize (dec (bs t)).isSome = v at *
      unfold spanV
      cases v
      all_goals
        go_enter Tryd.func63, Tryd.ntmps63
        go_wp2_with fail
        refine (HR.out _).mono ?_; rintro e w1 ⟨rfl, hx1⟩
        have q0 := fun o => box_at _ _ _ _ (hx1.alloc o) 0 _ rfl
        have q1 := fun o => box_at _ _ _ _ (hx1.alloc o) 1 _ rfl
        have q2 := fun o => box_at _ _ _ _ (hx1.alloc o) 2 _ rfl
        go_wp2_with fail
        refine (HM.out _).mono ?_; rintro e w2 ⟨rfl, hx2⟩
        go_wp2_with fail
        go_ret
        exact ⟨rfl, (((HX.out _).trans hx1).alloc _).trans hx2⟩
  · subst hk
    have hr : ruleC 3 = #[.bool true, .int .i64 1048576, .bool true, .bool false, .bool false] := by unfold ruleC; simp
    rw [hr] at hR
    have HR := Lib.hid hR
    clear hr hR
    have hs : mayS 3 n t = if n < 0 ∨ 1048576 < n then 2 else if (bs t).isEmpty then 0 else 3 := by unfold mayS; rw [if_pos (by omega)]
    rw [hs]
    clear hs
    have HM := Lib.hid (fun (w' : World) => textMay_c true true false false 1048576 t w' ht)
    rw [if_neg (by decide)] at HM
    generalize (bs t).isEmpty = v at *
    rcases (by omega : n < 0 ∨ (0 ≤ n ∧ 1048576 < n) ∨ (0 ≤ n ∧ n ≤ 1048576)) with hn | ⟨hn, hn'⟩ | ⟨hn, hn'⟩
    · rw [if_pos (by omega)]
      unfold spanV
      go_enter Tryd.func63, Tryd.ntmps63
      go_wp2_with fail
      refine (HR.out _).mono ?_; rintro e w1 ⟨rfl, hx1⟩
      have q0 := fun o => box_at _ _ _ _ (hx1.alloc o) 0 _ rfl
      have q1 := fun o => box_at _ _ _ _ (hx1.alloc o) 1 _ rfl
      have q2 := fun o => box_at _ _ _ _ (hx1.alloc o) 2 _ rfl
      go_wp2_with fail
      go_ret
      exact ⟨rfl, ((HX.out _).trans hx1).alloc _⟩
    · rw [if_pos (by omega)]
      unfold spanV
      go_enter Tryd.func63, Tryd.ntmps63
      go_wp2_with fail
      refine (HR.out _).mono ?_; rintro e w1 ⟨rfl, hx1⟩
      have q0 := fun o => box_at _ _ _ _ (hx1.alloc o) 0 _ rfl
      have q1 := fun o => box_at _ _ _ _ (hx1.alloc o) 1 _ rfl
      have q2 := fun o => box_at _ _ _ _ (hx1.alloc o) 2 _ rfl
      go_wp2_with fail
      go_ret
      exact ⟨rfl, ((HX.out _).trans hx1).alloc _⟩
    · rw [if_neg (by omega)]
      unfold spanV
      cases v
      all_goals
        go_enter Tryd.func63, Tryd.ntmps63
        go_wp2_with fail
        refine (HR.out _).mono ?_; rintro e w1 ⟨rfl, hx1⟩
        have q0 := fun o => box_at _ _ _ _ (hx1.alloc o) 0 _ rfl
        have q1 := fun o => box_at _ _ _ _ (hx1.alloc o) 1 _ rfl
        have q2 := fun o => box_at _ _ _ _ (hx1.alloc o) 2 _ rfl
        go_wp2_with fail
        refine (HM.out _).mono ?_; rintro e w2 ⟨rfl, hx2⟩
        go_wp2_with fail
        go_ret
        exact ⟨rfl, (((HX.out _).trans hx1).alloc _).trans hx2⟩
  · have hs : mayS k n t = 1 := by unfold mayS; rw [if_neg (by omega), if_neg (by omega)]
    have hr : ruleC k = #[.bool false, .int .i64 0, .bool false, .bool false, .bool false] := by unfold ruleC; rw [if_neg (by omega), if_neg (by omega), if_neg (by omega)]
    rw [hr] at hR
    have HR := Lib.hid hR
    clear hr hR
    rw [hs]
    clear hs
    unfold spanV
    go_enter Tryd.func63, Tryd.ntmps63
    go_wp2_with fail
    refine (HR.out _).mono ?_; rintro e w1 ⟨rfl, hx1⟩
    have q0 := fun o => box_at _ _ _ _ (hx1.alloc o) 0 _ rfl
    have q1 := fun o => box_at _ _ _ _ (hx1.alloc o) 1 _ rfl
    have q2 := fun o => box_at _ _ _ _ (hx1.alloc o) 2 _ rfl
    go_wp2_with fail
    go_ret
    exact ⟨rfl, ((HX.out _).trans hx1).alloc _⟩
theorem in_c (k n : Int) (t : ByteArray) (w : World) [Tab w] :
    Calls Tryd.prog 73 #[spanV k n t] w fun e w' => e = .returned (.int .i64 (inS k n)) ∧ Ext w w' := by
  have HX : Hid (∀ o, Ext w (w.alloc o)) := Lib.hid fun o => (Ext.refl w).alloc o
  have hR := fun (w' : World) [Tab w'] => ruleOf_c k w'
  rcases (by omega : k = 1 ∨ k = 2 ∨ k = 3 ∨ (k ≠ 1 ∧ k ≠ 2 ∧ k ≠ 3)) with hk | hk | hk | ⟨h1, h2, h3⟩
  · subst hk
    have hr : ruleC 1 = #[.bool true, .int .i64 1048576, .bool true, .bool true, .bool false] := by unfold ruleC; simp
    rw [hr] at hR
    have HR := Lib.hid hR
    clear hr hR
    have hs : inS 1 n = n := by unfold inS; rw [if_pos (by omega)]
    rw [hs]
    clear hs
    unfold spanV
    have hfd : ∀ W : World, (Instr.field 102 (.agg #[.bool true, .int .i64 1048576, .bool true, .bool true, .bool false]) 2).run Tryd.prog W = .ok (.bool true) W := fun _ => by kernel_rfl
    go_enter Tryd.func73, Tryd.ntmps73
    go_wp2_with fail
    refine (HR.out _).mono ?_; rintro e w1 ⟨rfl, hx1⟩
    have q0 := box_at _ _ _ _ hx1 0 _ rfl
    have q1 := box_at _ _ _ _ hx1 1 _ rfl
    have q2 := box_at _ _ _ _ hx1 2 _ rfl
    go_wp2_with fail
    go_ret
    exact ⟨rfl, (HX.out _).trans hx1⟩
  · subst hk
    have hr : ruleC 2 = #[.bool true, .int .i64 0, .bool false, .bool false, .bool true] := by unfold ruleC; simp
    rw [hr] at hR
    have HR := Lib.hid hR
    clear hr hR
    have hs : inS 2 n = 0 := by unfold inS; rw [if_neg (by omega)]
    rw [hs]
    clear hs
    unfold spanV
    have hfd : ∀ W : World, (Instr.field 102 (.agg #[.bool true, .int .i64 0, .bool false, .bool false, .bool true]) 2).run Tryd.prog W = .ok (.bool false) W := fun _ => by kernel_rfl
    go_enter Tryd.func73, Tryd.ntmps73
    go_wp2_with fail
    refine (HR.out _).mono ?_; rintro e w1 ⟨rfl, hx1⟩
    have q0 := box_at _ _ _ _ hx1 0 _ rfl
    have q1 := box_at _ _ _ _ hx1 1 _ rfl
    have q2 := box_at _ _ _ _ hx1 2 _ rfl
    go_wp2_with fail
    go_ret
    exact ⟨rfl, (HX.out _).trans hx1⟩
  · subst hk
    have hr : ruleC 3 = #[.bool true, .int .i64 1048576, .bool true, .bool false, .bool false] := by unfold ruleC; simp
    rw [hr] at hR
    have HR := Lib.hid hR
    clear hr hR
    have hs : inS 3 n = n := by unfold inS; rw [if_pos (by omega)]
    rw [hs]
    clear hs
    unfold spanV
    have hfd : ∀ W : World, (Instr.field 102 (.agg #[.bool true, .int .i64 1048576, .bool true, .bool false, .bool false]) 2).run Tryd.prog W = .ok (.bool true) W := fun _ => by kernel_rfl
    go_enter Tryd.func73, Tryd.ntmps73
    go_wp2_with fail
    refine (HR.out _).mono ?_; rintro e w1 ⟨rfl, hx1⟩
    have q0 := box_at _ _ _ _ hx1 0 _ rfl
    have q1 := box_at _ _ _ _ hx1 1 _ rfl
    have q2 := box_at _ _ _ _ hx1 2 _ rfl
    go_wp2_with fail
    go_ret
    exact ⟨rfl, (HX.out _).trans hx1⟩
  · skip
    have hr : ruleC k = #[.bool false, .int .i64 0, .bool false, .bool false, .bool false] := by unfold ruleC; rw [if_neg (by omega), if_neg (by omega), if_neg (by omega)]
    rw [hr] at hR
    have HR := Lib.hid hR
    clear hr hR
    have hs : inS k n = 0 := by unfold inS; rw [if_neg (by omega)]
    rw [hs]
    clear hs
    unfold spanV
    have hfd : ∀ W : World, (Instr.field 102 (.agg #[.bool false, .int .i64 0, .bool false, .bool false, .bool false]) 2).run Tryd.prog W = .ok (.bool false) W := fun _ => by kernel_rfl
    go_enter Tryd.func73, Tryd.ntmps73
    go_wp2_with fail
    refine (HR.out _).mono ?_; rintro e w1 ⟨rfl, hx1⟩
    have q0 := box_at _ _ _ _ hx1 0 _ rfl
    have q1 := box_at _ _ _ _ hx1 1 _ rfl
    have q2 := box_at _ _ _ _ hx1 2 _ rfl
    go_wp2_with fail
    go_ret
    exact ⟨rfl, (HX.out _).trans hx1⟩
theorem out_c (k n : Int) (t : ByteArray) (w : World) [Tab w] (ht : t.size ≤ 1000000000) :
    Calls Tryd.prog 75 #[spanV k n t] w fun e w' => e = .returned (.int .i64 (outS k n t)) ∧ Ext w w' := by
  have HX : Hid (∀ o, Ext w (w.alloc o)) := Lib.hid fun o => (Ext.refl w).alloc o
  have hR := fun (w' : World) [Tab w'] => ruleOf_c k w'
  have HV := Lib.hid (fun w' => count_c t w' ht)
  have hc0 : -1 ≤ cntF (bs t) := by unfold cntF; split <;> omega
  rcases (by omega : k = 1 ∨ k = 2 ∨ k = 3 ∨ (k ≠ 1 ∧ k ≠ 2 ∧ k ≠ 3)) with hk | hk | hk | ⟨h1, h2, h3⟩
  · subst hk
    have hr : ruleC 1 = #[.bool true, .int .i64 1048576, .bool true, .bool true, .bool false] := by unfold ruleC; simp
    rw [hr] at hR
    have HR := Lib.hid hR
    clear hr hR
    have hs : outS 1 n t = n := by unfold outS; rw [if_pos rfl]
    rw [hs]
    clear hs
    unfold spanV
    go_enter Tryd.func75, Tryd.ntmps75
    go_wp2_with fail
    refine (HR.out _).mono ?_; rintro e w1 ⟨rfl, hx1⟩
    have q0 := fun o => box_at _ _ _ _ (hx1.alloc o) 0 _ rfl
    have q1 := fun o => box_at _ _ _ _ (hx1.alloc o) 1 _ rfl
    have q2 := fun o => box_at _ _ _ _ (hx1.alloc o) 2 _ rfl
    go_wp2_with fail
    go_ret
    exact ⟨rfl, ((HX.out _).trans hx1).alloc _⟩
  · subst hk
    have hr : ruleC 2 = #[.bool true, .int .i64 0, .bool false, .bool false, .bool true] := by unfold ruleC; simp
    rw [hr] at hR
    have HR := Lib.hid hR
    clear hr hR
    have hs : outS 2 n t = max (cntF (bs t)) 0 := by unfold outS; rw [if_neg (by omega), if_pos rfl]
    rw [hs]
    clear hs
    generalize cntF (bs t) = v at *
    unfold spanV
    rcases (by omega : 0 < v ∨ v = 0 ∨ v < 0) with hv | hv | hv
    · have hv1 : max v 0 = v := by omega
      have hv2 : ¬ (v ≤ 0) := by omega
      rw [hv1]
      go_enter Tryd.func75, Tryd.ntmps75
      go_wp2_with fail
      refine (HR.out _).mono ?_; rintro e w1 ⟨rfl, hx1⟩
      have q0 := fun o => box_at _ _ _ _ (hx1.alloc o) 0 _ rfl
      have q1 := fun o => box_at _ _ _ _ (hx1.alloc o) 1 _ rfl
      have q2 := fun o => box_at _ _ _ _ (hx1.alloc o) 2 _ rfl
      go_wp2_with fail
      refine (HV.out _).mono ?_; rintro e w2 ⟨rfl, hx2⟩
      go_wp2_with fail
      go_ret
      exact ⟨rfl, (((HX.out _).trans hx1).alloc _).trans hx2⟩
    · subst hv
      have hv1 : max (0 : Int) 0 = 0 := by omega
      rw [hv1]
      go_enter Tryd.func75, Tryd.ntmps75
      go_wp2_with fail
      refine (HR.out _).mono ?_; rintro e w1 ⟨rfl, hx1⟩
      have q0 := fun o => box_at _ _ _ _ (hx1.alloc o) 0 _ rfl
      have q1 := fun o => box_at _ _ _ _ (hx1.alloc o) 1 _ rfl
      have q2 := fun o => box_at _ _ _ _ (hx1.alloc o) 2 _ rfl
      go_wp2_with fail
      refine (HV.out _).mono ?_; rintro e w2 ⟨rfl, hx2⟩
      go_wp2_with fail
      go_ret
      exact ⟨rfl, (((HX.out _).trans hx1).alloc _).trans hx2⟩
    · have hv1 : max v 0 = 0 := by omega
      have hv2 : v ≤ 0 := by omega
      rw [hv1]
      go_enter Tryd.func75, Tryd.ntmps75
      go_wp2_with fail
      refine (HR.out _).mono ?_; rintro e w1 ⟨rfl, hx1⟩
      have q0 := fun o => box_at _ _ _ _ (hx1.alloc o) 0 _ rfl
      have q1 := fun o => box_at _ _ _ _ (hx1.alloc o) 1 _ rfl
      have q2 := fun o => box_at _ _ _ _ (hx1.alloc o) 2 _ rfl
      go_wp2_with fail
      refine (HV.out _).mono ?_; rintro e w2 ⟨rfl, hx2⟩
      go_wp2_with fail
      go_ret
      exact ⟨rfl, (((HX.out _).trans hx1).alloc _).trans hx2⟩
  · subst hk
    have hr : ruleC 3 = #[.bool true, .int .i64 1048576, .bool true, .bool false, .bool false] := by unfold ruleC; simp
    rw [hr] at hR
    have HR := Lib.hid hR
    clear hr hR
    have hs : outS 3 n t = 0 := by unfold outS; rw [if_neg (by omega), if_neg (by omega)]
    rw [hs]
    clear hs
    unfold spanV
    go_enter Tryd.func75, Tryd.ntmps75
    go_wp2_with fail
    refine (HR.out _).mono ?_; rintro e w1 ⟨rfl, hx1⟩
    have q0 := fun o => box_at _ _ _ _ (hx1.alloc o) 0 _ rfl
    have q1 := fun o => box_at _ _ _ _ (hx1.alloc o) 1 _ rfl
    have q2 := fun o => box_at _ _ _ _ (hx1.alloc o) 2 _ rfl
    go_wp2_with fail
    go_ret
    exact ⟨rfl, ((HX.out _).trans hx1).alloc _⟩
  · skip
    have hr : ruleC k = #[.bool false, .int .i64 0, .bool false, .bool false, .bool false] := by unfold ruleC; rw [if_neg (by omega), if_neg (by omega), if_neg (by omega)]
    rw [hr] at hR
    have HR := Lib.hid hR
    clear hr hR
    have hs : outS k n t = 0 := by unfold outS; rw [if_neg (by omega), if_neg (by omega)]
    rw [hs]
    clear hs
    unfold spanV
    go_enter Tryd.func75, Tryd.ntmps75
    go_wp2_with fail
    refine (HR.out _).mono ?_; rintro e w1 ⟨rfl, hx1⟩
    have q0 := fun o => box_at _ _ _ _ (hx1.alloc o) 0 _ rfl
    have q1 := fun o => box_at _ _ _ _ (hx1.alloc o) 1 _ rfl
    have q2 := fun o => box_at _ _ _ _ (hx1.alloc o) 2 _ rfl
    go_wp2_with fail
    go_ret
    exact ⟨rfl, ((HX.out _).trans hx1).alloc _⟩
end Go.Proofs.YtejgkhmpmnjgaaaDoor
