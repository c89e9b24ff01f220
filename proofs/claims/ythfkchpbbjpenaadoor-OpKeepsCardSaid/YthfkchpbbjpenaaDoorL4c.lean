/- Layer 4, OpKeeps. -/
import Derived.Test.YthfkchpbbjpenaaDoorL4a
import Derived.Deep.QuietTactic
import Derived.BigQuiet
namespace Go.Proofs.YthfkchpbbjpenaaDoor
open Go.RowKit
set_option maxRecDepth 100000
set_option maxHeartbeats 1000000
theorem keepL_in (x : Int) : inL (keepL x) = x := by
  unfold keepL inL; split
  · rename_i h; rw [h]; rfl
  · simp [inS]
theorem keepL_out (x : Int) : outL (keepL x) = x := by
  unfold keepL outL; split
  · rename_i h; rw [h]; rfl
  · simp [outS]
theorem keepL_may (x : Int) (h0 : 0 ≤ x) (h1 : x ≤ 1048576) : mayL (keepL x) = 0 := by
  have hw : wrap64 x = x := by unfold wrap64; omega
  unfold mayL
  rw [keepL_in, hw, errL_all]
  · rw [if_pos rfl, if_neg (by omega)]
  · intro s hs
    unfold keepL at hs
    split at hs
    · simp at hs
    · rw [List.mem_singleton] at hs
      subst hs
      unfold mayS
      rw [if_pos (by simp), if_neg (by simp; omega)]
      rfl
theorem keepL_ts (x : Int) : ∀ s ∈ keepL x, s.2.2.size ≤ 1000000000 := by
  intro s hs
  unfold keepL at hs
  split at hs
  · simp at hs
  · rw [List.mem_singleton] at hs; subst hs; exact Nat.zero_le _
theorem opKeeps_walk (x odd odd' : Int) (w : World) [Tab w] (n : Int) (hn : 0 ≤ n) (hn' : n < 4294967296) (hx : n % 1048577 = x)
    (ho : (odd < 0 ∨ 1048576 < odd) ∧ odd' = odd ∨ (0 ≤ odd ∧ odd ≤ 1048576 ∧ odd' = -1 - odd)) :
    Calls Tryd.prog 5 #[.int .u32 n, .int .i64 odd] w fun e w' => e = .returned (.bool true) ∧ Below w.heap.size w w' := by
  have h0 : 0 ≤ x := by omega
  have h1 : x ≤ 1048576 := by omega
  have HK := Lib.hid (fun w' => keep_ok x h0 h1 w')
  have HN := Lib.hid (fun w' => keep_no odd' (by omega) w')
  have hwx : wrap64 x = x := by unfold wrap64; omega
  have HI : Hid (∀ A' k c' w' [Tab w'], (keepL x).length = k → Rd w' 3 (.slice A' k c') k (spCells (keepL x)) → Calls Tryd.prog 13 #[.slice A' k c'] w' fun e w'' => e = .returned (.int .i64 x) ∧ Ext w' w'') := Lib.hid fun A' k c' w' _ hk hr => by
    have hl : (keepL x).length ≤ 1 := by unfold keepL; split <;> simp
    have h := in4_c A' k c' _ w' hr hk (by omega); rw [keepL_in, hwx] at h; exact h
  have HO : Hid (∀ A' k c' w' [Tab w'], (keepL x).length = k → Rd w' 3 (.slice A' k c') k (spCells (keepL x)) → Calls Tryd.prog 15 #[.slice A' k c'] w' fun e w'' => e = .returned (.int .i64 x) ∧ Ext w' w'') := Lib.hid fun A' k c' w' _ hk hr => by
    have hl : (keepL x).length ≤ 1 := by unfold keepL; split <;> simp
    have h := out4_c A' k c' _ w' hr hk (by omega) (keepL_ts x); rw [keepL_out, hwx] at h; exact h
  have HM : Hid (∀ A' k c' w' [Tab w'], (keepL x).length = k → Rd w' 3 (.slice A' k c') k (spCells (keepL x)) → Calls Tryd.prog 11 #[.slice A' k c'] w' fun e w'' => e = .returned (.int .i64 0) ∧ Ext w' w'') := Lib.hid fun A' k c' w' _ hk hr => by
    have hl : (keepL x).length ≤ 1 := by unfold keepL; split <;> simp
    have h := may4_c A' k c' _ w' hr hk (by omega) (keepL_ts x); rw [keepL_may x h0 h1] at h; exact h
  have hcase : (x = 0 ∧ keepL x = []) ∨ (0 < x ∧ keepL x = [(1, x, ⟨#[]⟩)]) := by
    by_cases h : x = 0
    · exact .inl ⟨h, by unfold keepL; rw [if_pos h]⟩
    · exact .inr ⟨by omega, by unfold keepL; rw [if_neg h]⟩
  have ho2 : (decide (0 ≤ odd) = false ∧ odd' = odd) ∨ (decide (0 ≤ odd) = true ∧ decide (odd ≤ 1048576) = false ∧ odd' = odd) ∨ (decide (0 ≤ odd) = true ∧ decide (odd ≤ 1048576) = true ∧ wrap64 (-1 - odd) = odd') := by
    rcases ho with ⟨h | h, e⟩ | ⟨h, h', e⟩
    · exact .inl ⟨by rw [decide_eq_false_iff_not]; omega, e⟩
    · exact .inr (.inl ⟨by rw [decide_eq_true_eq]; omega, by rw [decide_eq_false_iff_not]; omega, e⟩)
    · refine .inr (.inr ⟨by rw [decide_eq_true_eq]; omega, by rw [decide_eq_true_eq]; omega, ?_⟩); rw [e]; unfold wrap64; omega
  clear hwx ho h0 h1
  rcases hcase with ⟨hx0, hk⟩ | ⟨hx0, hk⟩
  all_goals
    rw [hk] at HK HI HO HM
    simp only [List.length_cons, List.length_nil, Nat.zero_add] at HK
    clear hk
    rcases ho2 with ⟨g1, g2⟩ | ⟨g1, g3, g2⟩ | ⟨g1, g3, g2⟩
  · subst g2
    subst hx0
    have b2 : min (0 : Int) 1 = 0 := by decide
    go_enter Tryd.func5, Tryd.ntmps5
    go_wp2_with fail
    refine (shown4_c _).mono ?_; rintro e w1 ⟨rfl, hx1⟩; have ht1 := tab_ext hx1
    go_wp2_with fail
    refine (HK.out _).mono ?_; rintro e w2 ⟨A, c, rfl, hx2, hr2⟩; have ht2 := tab_ext hx2
    have HR2 := Lib.hid hr2
    clear hr2
    go_wp2_with fail
    refine (HN.out _).mono ?_; rintro e w3 ⟨rfl, hx3⟩; have ht3 := tab_ext hx3
    go_wp2_with fail
    clear hx hn hn'
    refine (HI.out _ _ _ _ rfl (HR2.out.ext hx3)).mono ?_; rintro e w4 ⟨rfl, hx4⟩; have ht4 := tab_ext hx4
    go_wp2_with fail
    refine (HO.out _ _ _ _ rfl (HR2.out.ext (hx3.trans hx4))).mono ?_; rintro e w5 ⟨rfl, hx5⟩; have ht5 := tab_ext hx5
    go_wp2_with fail
    refine (HM.out _ _ _ _ rfl (HR2.out.ext ((hx3.trans hx4).trans hx5))).mono ?_; rintro e w6 ⟨rfl, hx6⟩; have ht6 := tab_ext hx6
    have hx36 := ((hx3.trans hx4).trans hx5).trans hx6
    go_wp2_with fail
    go_ret
    exact ⟨rfl, ((hx1.trans hx2).trans hx36)⟩
  · subst g2
    subst hx0
    have b2 : min (0 : Int) 1 = 0 := by decide
    go_enter Tryd.func5, Tryd.ntmps5
    go_wp2_with fail
    refine (shown4_c _).mono ?_; rintro e w1 ⟨rfl, hx1⟩; have ht1 := tab_ext hx1
    go_wp2_with fail
    refine (HK.out _).mono ?_; rintro e w2 ⟨A, c, rfl, hx2, hr2⟩; have ht2 := tab_ext hx2
    have HR2 := Lib.hid hr2
    clear hr2
    go_wp2_with fail
    refine (HN.out _).mono ?_; rintro e w3 ⟨rfl, hx3⟩; have ht3 := tab_ext hx3
    go_wp2_with fail
    clear hx hn hn'
    refine (HI.out _ _ _ _ rfl (HR2.out.ext hx3)).mono ?_; rintro e w4 ⟨rfl, hx4⟩; have ht4 := tab_ext hx4
    go_wp2_with fail
    refine (HO.out _ _ _ _ rfl (HR2.out.ext (hx3.trans hx4))).mono ?_; rintro e w5 ⟨rfl, hx5⟩; have ht5 := tab_ext hx5
    go_wp2_with fail
    refine (HM.out _ _ _ _ rfl (HR2.out.ext ((hx3.trans hx4).trans hx5))).mono ?_; rintro e w6 ⟨rfl, hx6⟩; have ht6 := tab_ext hx6
    have hx36 := ((hx3.trans hx4).trans hx5).trans hx6
    go_wp2_with fail
    go_ret
    exact ⟨rfl, ((hx1.trans hx2).trans hx36)⟩
  · subst hx0
    have b2 : min (0 : Int) 1 = 0 := by decide
    go_enter Tryd.func5, Tryd.ntmps5
    go_wp2_with fail
    refine (shown4_c _).mono ?_; rintro e w1 ⟨rfl, hx1⟩; have ht1 := tab_ext hx1
    go_wp2_with fail
    refine (HK.out _).mono ?_; rintro e w2 ⟨A, c, rfl, hx2, hr2⟩; have ht2 := tab_ext hx2
    have HR2 := Lib.hid hr2
    clear hr2
    go_wp2_with fail
    refine (HN.out _).mono ?_; rintro e w3 ⟨rfl, hx3⟩; have ht3 := tab_ext hx3
    go_wp2_with fail
    clear hx hn hn'
    refine (HI.out _ _ _ _ rfl (HR2.out.ext hx3)).mono ?_; rintro e w4 ⟨rfl, hx4⟩; have ht4 := tab_ext hx4
    go_wp2_with fail
    refine (HO.out _ _ _ _ rfl (HR2.out.ext (hx3.trans hx4))).mono ?_; rintro e w5 ⟨rfl, hx5⟩; have ht5 := tab_ext hx5
    go_wp2_with fail
    refine (HM.out _ _ _ _ rfl (HR2.out.ext ((hx3.trans hx4).trans hx5))).mono ?_; rintro e w6 ⟨rfl, hx6⟩; have ht6 := tab_ext hx6
    have hx36 := ((hx3.trans hx4).trans hx5).trans hx6
    go_wp2_with fail
    go_ret
    exact ⟨rfl, ((hx1.trans hx2).trans hx36)⟩
  · subst g2
    have b0 : (x == 0) = false := by rw [beq_eq_false_iff_ne]; omega
    have b1 : 1 ≤ x := by omega
    have b2 : min x 1 = 1 := by omega
    go_enter Tryd.func5, Tryd.ntmps5
    go_wp2_with fail
    refine (shown4_c _).mono ?_; rintro e w1 ⟨rfl, hx1⟩; have ht1 := tab_ext hx1
    go_wp2_with fail
    refine (HK.out _).mono ?_; rintro e w2 ⟨A, c, rfl, hx2, hr2⟩; have ht2 := tab_ext hx2
    have HR2 := Lib.hid hr2
    clear hr2
    go_wp2_with fail
    refine (HN.out _).mono ?_; rintro e w3 ⟨rfl, hx3⟩; have ht3 := tab_ext hx3
    go_wp2_with fail
    clear hx hn hn'
    refine (HI.out _ _ _ _ rfl (HR2.out.ext hx3)).mono ?_; rintro e w4 ⟨rfl, hx4⟩; have ht4 := tab_ext hx4
    go_wp2_with fail
    refine (HO.out _ _ _ _ rfl (HR2.out.ext (hx3.trans hx4))).mono ?_; rintro e w5 ⟨rfl, hx5⟩; have ht5 := tab_ext hx5
    go_wp2_with fail
    refine (HM.out _ _ _ _ rfl (HR2.out.ext ((hx3.trans hx4).trans hx5))).mono ?_; rintro e w6 ⟨rfl, hx6⟩; have ht6 := tab_ext hx6
    have hx36 := ((hx3.trans hx4).trans hx5).trans hx6
    obtain ⟨b, off, rfl, hb, q0, q1, q2⟩ := sp_at (HR2.out.ext hx36) rfl (show 0 < 1 by omega)
    simp only [Nat.zero_mul, Nat.add_zero, List.getElem_cons_zero] at q0 q1 q2
    go_wp2_with fail
    go_ret
    exact ⟨rfl, ((hx1.trans hx2).trans hx36)⟩
  · subst g2
    have b0 : (x == 0) = false := by rw [beq_eq_false_iff_ne]; omega
    have b1 : 1 ≤ x := by omega
    have b2 : min x 1 = 1 := by omega
    go_enter Tryd.func5, Tryd.ntmps5
    go_wp2_with fail
    refine (shown4_c _).mono ?_; rintro e w1 ⟨rfl, hx1⟩; have ht1 := tab_ext hx1
    go_wp2_with fail
    refine (HK.out _).mono ?_; rintro e w2 ⟨A, c, rfl, hx2, hr2⟩; have ht2 := tab_ext hx2
    have HR2 := Lib.hid hr2
    clear hr2
    go_wp2_with fail
    refine (HN.out _).mono ?_; rintro e w3 ⟨rfl, hx3⟩; have ht3 := tab_ext hx3
    go_wp2_with fail
    clear hx hn hn'
    refine (HI.out _ _ _ _ rfl (HR2.out.ext hx3)).mono ?_; rintro e w4 ⟨rfl, hx4⟩; have ht4 := tab_ext hx4
    go_wp2_with fail
    refine (HO.out _ _ _ _ rfl (HR2.out.ext (hx3.trans hx4))).mono ?_; rintro e w5 ⟨rfl, hx5⟩; have ht5 := tab_ext hx5
    go_wp2_with fail
    refine (HM.out _ _ _ _ rfl (HR2.out.ext ((hx3.trans hx4).trans hx5))).mono ?_; rintro e w6 ⟨rfl, hx6⟩; have ht6 := tab_ext hx6
    have hx36 := ((hx3.trans hx4).trans hx5).trans hx6
    obtain ⟨b, off, rfl, hb, q0, q1, q2⟩ := sp_at (HR2.out.ext hx36) rfl (show 0 < 1 by omega)
    simp only [Nat.zero_mul, Nat.add_zero, List.getElem_cons_zero] at q0 q1 q2
    go_wp2_with fail
    go_ret
    exact ⟨rfl, ((hx1.trans hx2).trans hx36)⟩
  · have b0 : (x == 0) = false := by rw [beq_eq_false_iff_ne]; omega
    have b1 : 1 ≤ x := by omega
    have b2 : min x 1 = 1 := by omega
    go_enter Tryd.func5, Tryd.ntmps5
    go_wp2_with fail
    refine (shown4_c _).mono ?_; rintro e w1 ⟨rfl, hx1⟩; have ht1 := tab_ext hx1
    go_wp2_with fail
    refine (HK.out _).mono ?_; rintro e w2 ⟨A, c, rfl, hx2, hr2⟩; have ht2 := tab_ext hx2
    have HR2 := Lib.hid hr2
    clear hr2
    go_wp2_with fail
    refine (HN.out _).mono ?_; rintro e w3 ⟨rfl, hx3⟩; have ht3 := tab_ext hx3
    go_wp2_with fail
    clear hx hn hn'
    refine (HI.out _ _ _ _ rfl (HR2.out.ext hx3)).mono ?_; rintro e w4 ⟨rfl, hx4⟩; have ht4 := tab_ext hx4
    go_wp2_with fail
    refine (HO.out _ _ _ _ rfl (HR2.out.ext (hx3.trans hx4))).mono ?_; rintro e w5 ⟨rfl, hx5⟩; have ht5 := tab_ext hx5
    go_wp2_with fail
    refine (HM.out _ _ _ _ rfl (HR2.out.ext ((hx3.trans hx4).trans hx5))).mono ?_; rintro e w6 ⟨rfl, hx6⟩; have ht6 := tab_ext hx6
    have hx36 := ((hx3.trans hx4).trans hx5).trans hx6
    obtain ⟨b, off, rfl, hb, q0, q1, q2⟩ := sp_at (HR2.out.ext hx36) rfl (show 0 < 1 by omega)
    simp only [Nat.zero_mul, Nat.add_zero, List.getElem_cons_zero] at q0 q1 q2
    go_wp2_with fail
    go_ret
    exact ⟨rfl, ((hx1.trans hx2).trans hx36)⟩
theorem opKeeps_c (n odd : Int) (w : World) [Tab w] (hn : (Lit.int .u32 n).wf = true) (_ho : (Lit.int .i64 odd).wf = true) :
    Calls Tryd.prog 5 #[.int .u32 n, .int .i64 odd] w fun e w' => e = .returned (.bool true) ∧ Below w.heap.size w w' := by
  obtain ⟨n0, n1⟩ := bounds_u32 hn
  by_cases h : 0 ≤ odd ∧ odd ≤ 1048576
  · exact opKeeps_walk _ odd (-1 - odd) w n (by omega) (by omega) rfl (.inr ⟨h.1, h.2, rfl⟩)
  · exact opKeeps_walk _ odd odd w n (by omega) (by omega) rfl (.inl ⟨by omega, rfl⟩)
end Go.Proofs.YthfkchpbbjpenaaDoor
