/- Layer 5, the program: Of, Is. -/
import Derived.Test.YtejgkhmpmnjgaaaDoorC5
import Derived.Test.YtejgkhmpmnjgaaaDoorBk
import Derived.Test.YtejgkhmpmnjgaaaDoorBa
import Derived.Test.YtejgkhmpmnjgaaaDoorMg
import Derived.Deep.RegionHeld3
import Derived.Deep.RegionWith
namespace Go.Proofs.YtejgkhmpmnjgaaaDoor
open Go.RowKit
set_option maxRecDepth 100000
set_option maxHeartbeats 1000000
theorem emp_ways (n : Int) (t : ByteArray) (k : Int) : (emp (k, n, t) ∧ n = 0 ∧ t = ⟨#[]⟩) ∨ (¬ emp (k, n, t) ∧ ((n == 0) = false ∨ ((n == 0) = true ∧ t.toList.isEmpty = false))) := by
  by_cases h : emp (k, n, t)
  · exact .inl ⟨h, h.1, ba_empty h.2⟩
  · refine .inr ⟨h, ?_⟩
    by_cases h2 : n = 0
    · right
      refine ⟨by rw [beq_iff_eq]; exact h2, ?_⟩
      rw [toList_bs]
      cases hb3 : bs t with
      | nil => exact absurd ⟨h2, by rw [← bs_length, hb3]; rfl⟩ h
      | cons x y => rfl
    · left; rw [beq_eq_false_iff_ne]; exact h2
theorem empty5_c (k n : Int) (t : ByteArray) (w : World) :
    Calls Tryd.prog 70 #[spanV k n t] w fun e w' => e = .returned (.bool (decide (emp (k, n, t)))) ∧ Ext w w' := by
  have HX : Hid (∀ o, Ext w (w.alloc o)) := Lib.hid fun o => (Ext.refl w).alloc o
  unfold spanV
  rcases emp_ways n t k with ⟨h, h2, h3⟩ | ⟨h, h2⟩
  · rw [decide_eq_true h]
    subst h2; subst h3
    clear h
    go_enter Tryd.func70, Tryd.ntmps70
    go_wp2_with fail
    go_ret
    exact ⟨rfl, HX.out _⟩
  · rw [decide_eq_false h]
    clear h
    rcases h2 with n1 | ⟨n1, n2⟩
    all_goals
      go_enter Tryd.func70, Tryd.ntmps70
      go_wp2_with fail
      go_ret
      exact ⟨rfl, HX.out _⟩
end Go.Proofs.YtejgkhmpmnjgaaaDoor
namespace Go.Proofs.YtejgkhmpmnjgaaaDoor
open Go.RowKit
set_option maxRecDepth 100000
set_option maxHeartbeats 1000000
end Go.Proofs.YtejgkhmpmnjgaaaDoor
namespace Go.Proofs.YtejgkhmpmnjgaaaDoor
open Go.RowKit
set_option maxRecDepth 100000
set_option maxHeartbeats 1000000
theorem strCells_bs (s : ByteArray) : Lib.strCells s = Lib.byteCells (bs s) := rfl
theorem bcells_append (a b : List UInt8) : Lib.byteCells (a ++ b) = Lib.byteCells a ++ Lib.byteCells b := by simp [Lib.byteCells]
end Go.Proofs.YtejgkhmpmnjgaaaDoor
namespace Go.Proofs.YtejgkhmpmnjgaaaDoor
open Go.RowKit
set_option maxRecDepth 100000
set_option maxHeartbeats 1000000
theorem sp_take (l : List Sp) (k : Nat) (h : k ≤ l.length) : (spCells l).take (k * 3) = spCells (l.take k) := by
  conv => lhs; rw [← List.take_append_drop k l, spCells_append]
  have : (spCells (l.take k)).length = k * 3 := by rw [spCells_length, List.length_take]; omega
  rw [List.take_append_of_le_length (by omega), List.take_of_length_le (by omega)]
theorem sp_drop (l : List Sp) (k : Nat) (h : k ≤ l.length) : (spCells l).drop (k * 3) = spCells (l.drop k) := by
  conv => lhs; rw [← List.take_append_drop k l, spCells_append]
  have : (spCells (l.take k)).length = k * 3 := by rw [spCells_length, List.length_take]; omega
  rw [List.drop_append_of_le_length (by omega), List.drop_of_length_le (by omega), List.nil_append]
theorem rd_behind {w : World} {b off n c : Nat} {l : List Sp} (h : Rd w 3 (.slice (some ⟨b, off, none⟩) n c) n (spCells l)) (hl : l.length = n) {k : Nat} (hk : k ≤ n) (hc : n ≤ c) :
    Rd w 3 (.slice (if c = k then some ⟨b, off, none⟩ else some ⟨b, off + k * 3, none⟩) (n - k) (c - k)) (n - k) (spCells (l.drop k)) := by
  split
  · rename_i e
    have e0 : n - k = 0 := by omega
    have e1 : l.drop k = [] := List.drop_of_length_le (by omega)
    rw [e0, e1]
    exact ⟨by simp [spCells], _, _, rfl, by omega, fun h => absurd h (Nat.lt_irrefl 0)⟩
  · have h := h.drop hk
    rw [sp_drop l k (by omega)] at h
    exact h
def slen : Value → Nat
  | .slice _ n _ => n
  | _ => 0
theorem is5_c (A : Option Addr) (q c : Nat) (l : List Sp) (w : World) (h : Rd w 3 (.slice A q c) q (spCells l)) (hl : l.length = q) (hq : q ≤ 100000) :
    Calls Tryd.prog 60 #[.slice A q c] w fun e w' => ∃ b, e = .returned (.bool b) ∧ Ext w w' ∧ (b = true ↔ isN l) := by
  have H := Lib.hid h; have HL := Lib.hid hl
  clear h hl
  go_enter Tryd.func60, Tryd.ntmps60
  go_wp2_with fail
  go_loopw [7] (fun z wr => ∃ j : Nat, j ≤ q ∧ z = .int .i64 j ∧ Ext w wr ∧ ∀ i, i < j → good l i) (fun z _ => q - (intOf z).toNat)
  case atStart => exact ⟨0, by omega, rfl, Ext.refl _, fun i hi => by omega⟩
  case round =>
    obtain ⟨j, hj, rfl, hxr, hgood⟩ := hrel
    have HG := Lib.hid hgood
    clear hgood
    by_cases hlt : j < q
    · have hjl : j < l.length := by have := HL.out; omega
      have HR := Lib.hid (H.out.ext hxr)
      obtain ⟨b, off, rfl, hb, q0, q1, q2⟩ := sp_at HR.out HL.out hlt
      have dn : decide (j < q) = true := by rw [decide_eq_true_eq]; exact hlt
      have i0 : (0 : Int) ≤ (j : Int) := by omega
      have i1 : (j : Int) < (q : Int) := by omega
      obtain ⟨a1, ha1⟩ : ∃ a1, l[j].1 = a1 := ⟨_, rfl⟩
      obtain ⟨a2, ha2⟩ : ∃ a2, l[j].2.1 = a2 := ⟨_, rfl⟩
      obtain ⟨a3, ha3⟩ : ∃ a3, l[j].2.2 = a3 := ⟨_, rfl⟩
      have hlj : l[j] = (a1, a2, a3) := by rw [← ha1, ← ha2, ← ha3]
      rw [hlj] at q0 q1 q2
      simp only at q0 q1 q2
      have HLJ := Lib.hid hlj
      clear hlj ha1 ha2 ha3
      have HIN := Lib.hid (fun (w' : World) => empty5_c a1 a2 a3 w')
      unfold spanV at HIN
      by_cases hemp : emp (a1, a2, a3)
      · have HBAD : Hid (¬ isN l) := Lib.hid (fun h => ((is_good l).1 h j hjl).1 hjl (by rw [HLJ.out]; exact hemp))
        rw [decide_eq_true hemp] at HIN
        clear hemp
        go_wp2_with fail
        obtain ⟨W0, hW0⟩ : ∃ W0, W0 = wr.alloc (.cells #[.int .i64 a1, .int .i64 a2, .string a3] 43) := ⟨_, rfl⟩
        obtain ⟨G, hG⟩ : ∃ G, G = wr.heap.size := ⟨_, rfl⟩
        have z0 : W0.cell? ⟨G, 0, none⟩ = some (.int .i64 a1) := by rw [hW0, hG]; exact box_at _ _ _ _ (Ext.refl _) 0 _ rfl
        have z1 : W0.cell? ⟨G, 1, none⟩ = some (.int .i64 a2) := by rw [hW0, hG]; exact box_at _ _ _ _ (Ext.refl _) 1 _ rfl
        have z2 : W0.cell? ⟨G, 2, none⟩ = some (.string a3) := by rw [hW0, hG]; exact box_at _ _ _ _ (Ext.refl _) 2 _ rfl
        have HX0 : Hid (Ext w W0) := Lib.hid (by rw [hW0]; exact hxr.alloc _)
        rw [← hW0, ← hG]
        clear hW0 hG q0 q1 q2
        have hxx := Ext.refl W0
        refine wp_region_held_drew (S := (fun w' => Ext W0 w' ∧ w'.cell? ⟨G, 0, none⟩ = some (.int .i64 a1) ∧ w'.cell? ⟨G, 1, none⟩ = some (.int .i64 a2) ∧ w'.cell? ⟨G, 2, none⟩ = some (.string a3))) (by kernel_rfl) ?_ (fun hHeld => ?_)
        · refine ⟨?_, ?_, ?_, ?_⟩ <;> first | (exact Ext.drew ‹_›) | go_keep
        refine wpAnyH_take (i := 0) (v := (.agg #[.int .i64 a1, .int .i64 a2, .string a3])) rfl (by kernel_rfl) (by kernel_rfl) (by kernel_rfl) (fun _ _ _ h => h) (Or.inl ⟨by rfl, ?_⟩) (by assumption) ?_
        · intro w hSw; (try dsimp only at hSw); go_simp
        simp only [List.getElem_toArray, List.getElem_cons_zero, Act.put, List.setIfInBounds_toArray, List.set_cons_zero, List.set_cons_succ]
        refine wpAnyH_ready (rs := [1]) (by kernel_rfl) (by simp) ?_
        refine AllReadyH.cons rfl (fun K hK => ?_) AllReadyH.nil
        go_simp
        (go_at_call 70; refine (HIN.out _).mono ?_; rintro e w' ⟨rfl, hxk⟩)
        go_wp2_with fail
        refine hK.out _ _ ?_ (fun hHeld2 => ?_)
        · go_split_ands; refine ⟨?_, ?_, ?_, ?_⟩ <;> first | (exact Ext.trans ‹_› hxk) | (exact ext_cell hxk ‹_›)
        clear hK K hHeld
        refine wpAnyH_take (i := 2) (v := (.bool true)) rfl (by kernel_rfl) (by kernel_rfl) (by kernel_rfl) (fun _ _ _ h => h) (Or.inl ⟨by rfl, ?_⟩) (by assumption) ?_
        · intro w hSw; (try dsimp only at hSw); go_simp
        simp only [List.getElem_toArray, List.getElem_cons_zero, List.getElem_cons_succ, Act.put, List.setIfInBounds_toArray, List.set_cons_zero, List.set_cons_succ]
        refine wpAnyH_take (i := 3) (v := undef) rfl (by kernel_rfl) (by kernel_rfl) (by kernel_rfl) (fun _ _ _ h => h) (Or.inr ⟨by rfl, rfl⟩) (by assumption) ?_
        simp only [List.getElem_toArray, List.getElem_cons_zero, List.getElem_cons_succ, Act.put, List.setIfInBounds_toArray, List.set_cons_zero, List.set_cons_succ]
        refine wpAnyH_take (i := 4) (v := undef) rfl (by kernel_rfl) (by kernel_rfl) (by kernel_rfl) (fun _ _ _ h => h) (Or.inr ⟨by rfl, rfl⟩) (by assumption) ?_
        simp only [List.getElem_toArray, List.getElem_cons_zero, List.getElem_cons_succ, Act.put, List.setIfInBounds_toArray, List.set_cons_zero, List.set_cons_succ]
        refine wpAnyH_take (i := 5) (v := undef) rfl (by kernel_rfl) (by kernel_rfl) (by kernel_rfl) (fun _ _ _ h => h) (Or.inr ⟨by rfl, rfl⟩) (by assumption) ?_
        simp only [List.getElem_toArray, List.getElem_cons_zero, List.getElem_cons_succ, Act.put, List.setIfInBounds_toArray, List.set_cons_zero, List.set_cons_succ]
        refine wpAnyH_take (i := 6) (v := undef) rfl (by kernel_rfl) (by kernel_rfl) (by kernel_rfl) (fun _ _ _ h => h) (Or.inr ⟨by rfl, rfl⟩) (by assumption) ?_
        simp only [List.getElem_toArray, List.getElem_cons_zero, List.getElem_cons_succ, Act.put, List.setIfInBounds_toArray, List.set_cons_zero, List.set_cons_succ]
        refine wpAnyH_take (i := 7) (v := undef) rfl (by kernel_rfl) (by kernel_rfl) (by kernel_rfl) (fun _ _ _ h => h) (Or.inr ⟨by rfl, rfl⟩) (by assumption) ?_
        simp only [List.getElem_toArray, List.getElem_cons_zero, List.getElem_cons_succ, Act.put, List.setIfInBounds_toArray, List.set_cons_zero, List.set_cons_succ]
        refine wpAnyH_take (i := 8) (v := undef) rfl (by kernel_rfl) (by kernel_rfl) (by kernel_rfl) (fun _ _ _ h => h) (Or.inr ⟨by rfl, rfl⟩) (by assumption) ?_
        simp only [List.getElem_toArray, List.getElem_cons_zero, List.getElem_cons_succ, Act.put, List.setIfInBounds_toArray, List.set_cons_zero, List.set_cons_succ]
        refine wpAnyH_take (i := 9) (v := undef) rfl (by kernel_rfl) (by kernel_rfl) (by kernel_rfl) (fun _ _ _ h => h) (Or.inr ⟨by rfl, rfl⟩) (by assumption) ?_
        simp only [List.getElem_toArray, List.getElem_cons_zero, List.getElem_cons_succ, Act.put, List.setIfInBounds_toArray, List.set_cons_zero, List.set_cons_succ]
        refine wpAnyH_take (i := 10) (v := undef) rfl (by kernel_rfl) (by kernel_rfl) (by kernel_rfl) (fun _ _ _ h => h) (Or.inr ⟨by rfl, rfl⟩) (by assumption) ?_
        simp only [List.getElem_toArray, List.getElem_cons_zero, List.getElem_cons_succ, Act.put, List.setIfInBounds_toArray, List.set_cons_zero, List.set_cons_succ]
        refine wpAnyH_take (i := 11) (v := undef) rfl (by kernel_rfl) (by kernel_rfl) (by kernel_rfl) (fun _ _ _ h => h) (Or.inr ⟨by rfl, rfl⟩) (by assumption) ?_
        simp only [List.getElem_toArray, List.getElem_cons_zero, List.getElem_cons_succ, Act.put, List.setIfInBounds_toArray, List.set_cons_zero, List.set_cons_succ]
        refine wpAnyH_take (i := 12) (v := undef) rfl (by kernel_rfl) (by kernel_rfl) (by kernel_rfl) (fun _ _ _ h => h) (Or.inr ⟨by rfl, rfl⟩) (by assumption) ?_
        simp only [List.getElem_toArray, List.getElem_cons_zero, List.getElem_cons_succ, Act.put, List.setIfInBounds_toArray, List.set_cons_zero, List.set_cons_succ]
        refine wpAnyH_take (i := 13) (v := undef) rfl (by kernel_rfl) (by kernel_rfl) (by kernel_rfl) (fun _ _ _ h => h) (Or.inr ⟨by rfl, rfl⟩) (by assumption) ?_
        simp only [List.getElem_toArray, List.getElem_cons_zero, List.getElem_cons_succ, Act.put, List.setIfInBounds_toArray, List.set_cons_zero, List.set_cons_succ]
        refine wpAnyH_take (i := 14) (v := undef) rfl (by kernel_rfl) (by kernel_rfl) (by kernel_rfl) (fun _ _ _ h => h) (Or.inr ⟨by rfl, rfl⟩) (by assumption) ?_
        simp only [List.getElem_toArray, List.getElem_cons_zero, List.getElem_cons_succ, Act.put, List.setIfInBounds_toArray, List.set_cons_zero, List.set_cons_succ]
        refine wpAnyH_take (i := 15) (v := undef) rfl (by kernel_rfl) (by kernel_rfl) (by kernel_rfl) (fun _ _ _ h => h) (Or.inr ⟨by rfl, rfl⟩) (by assumption) ?_
        simp only [List.getElem_toArray, List.getElem_cons_zero, List.getElem_cons_succ, Act.put, List.setIfInBounds_toArray, List.set_cons_zero, List.set_cons_succ]
        refine wpAnyH_take (i := 16) (v := (.bool true)) rfl (by kernel_rfl) (by kernel_rfl) (by kernel_rfl) (fun _ _ _ h => h) (Or.inl ⟨by rfl, ?_⟩) (by assumption) ?_
        · intro w hSw; (try dsimp only at hSw); go_simp
        simp only [List.getElem_toArray, List.getElem_cons_zero, List.getElem_cons_succ, Act.put, List.setIfInBounds_toArray, List.set_cons_zero, List.set_cons_succ]
        refine wpAnyH_done (by kernel_rfl) ?_ _
        go_split_ands
        go_wp2_with fail
        go_ret
        exact ⟨false, rfl, HX0.out.trans ‹Ext W0 _›, ⟨fun h => absurd h Bool.false_ne_true, fun h => absurd h HBAD.out⟩⟩
      · rw [decide_eq_false hemp] at HIN
        rcases Nat.eq_zero_or_pos j with hj0 | hj0
        · subst hj0
          simp only [Nat.zero_mul, Nat.add_zero] at q0 q1 q2
          have HOK : Hid (∀ i, i < 0 + 1 → good l i) := Lib.hid (fun i hi => by
            obtain rfl : i = 0 := by omega
            exact ⟨fun h => by rw [HLJ.out]; exact hemp, fun k hk => by omega⟩)
          clear hemp
          go_wp2_with fail
          obtain ⟨W0, hW0⟩ : ∃ W0, W0 = wr.alloc (.cells #[.int .i64 a1, .int .i64 a2, .string a3] 43) := ⟨_, rfl⟩
          obtain ⟨G, hG⟩ : ∃ G, G = wr.heap.size := ⟨_, rfl⟩
          have z0 : W0.cell? ⟨G, 0, none⟩ = some (.int .i64 a1) := by rw [hW0, hG]; exact box_at _ _ _ _ (Ext.refl _) 0 _ rfl
          have z1 : W0.cell? ⟨G, 1, none⟩ = some (.int .i64 a2) := by rw [hW0, hG]; exact box_at _ _ _ _ (Ext.refl _) 1 _ rfl
          have z2 : W0.cell? ⟨G, 2, none⟩ = some (.string a3) := by rw [hW0, hG]; exact box_at _ _ _ _ (Ext.refl _) 2 _ rfl
          have HX0 : Hid (Ext w W0) := Lib.hid (by rw [hW0]; exact hxr.alloc _)
          rw [← hW0, ← hG]
          clear hW0 hG q0 q1 q2
          have hxx := Ext.refl W0
          refine wp_region_held_drew (S := (fun w' => Ext W0 w' ∧ w'.cell? ⟨G, 0, none⟩ = some (.int .i64 a1) ∧ w'.cell? ⟨G, 1, none⟩ = some (.int .i64 a2) ∧ w'.cell? ⟨G, 2, none⟩ = some (.string a3))) (by kernel_rfl) ?_ (fun hHeld => ?_)
          · refine ⟨?_, ?_, ?_, ?_⟩ <;> first | (exact Ext.drew ‹_›) | go_keep
          refine wpAnyH_take (i := 0) (v := (.agg #[.int .i64 a1, .int .i64 a2, .string a3])) rfl (by kernel_rfl) (by kernel_rfl) (by kernel_rfl) (fun _ _ _ h => h) (Or.inl ⟨by rfl, ?_⟩) (by assumption) ?_
          · intro w hSw; (try dsimp only at hSw); go_simp
          simp only [List.getElem_toArray, List.getElem_cons_zero, Act.put, List.setIfInBounds_toArray, List.set_cons_zero, List.set_cons_succ]
          refine wpAnyH_ready (rs := [1]) (by kernel_rfl) (by simp) ?_
          refine AllReadyH.cons rfl (fun K hK => ?_) AllReadyH.nil
          go_simp
          (go_at_call 70; refine (HIN.out _).mono ?_; rintro e w' ⟨rfl, hxk⟩)
          go_wp2_with fail
          refine hK.out _ _ ?_ (fun hHeld2 => ?_)
          · go_split_ands; refine ⟨?_, ?_, ?_, ?_⟩ <;> first | (exact Ext.trans ‹_› hxk) | (exact ext_cell hxk ‹_›)
          clear hK K hHeld
          refine wpAnyH_take (i := 2) (v := (.bool false)) rfl (by kernel_rfl) (by kernel_rfl) (by kernel_rfl) (fun _ _ _ h => h) (Or.inl ⟨by rfl, ?_⟩) (by assumption) ?_
          · intro w hSw; (try dsimp only at hSw); go_simp
          simp only [List.getElem_toArray, List.getElem_cons_zero, List.getElem_cons_succ, Act.put, List.setIfInBounds_toArray, List.set_cons_zero, List.set_cons_succ]
          refine wpAnyH_take (i := 3) (v := (.int .i64 ((0 : Nat) : Int))) rfl (by kernel_rfl) (by kernel_rfl) (by kernel_rfl) (fun _ _ _ h => h) (Or.inl ⟨by rfl, ?_⟩) (by assumption) ?_
          · intro w hSw; (try dsimp only at hSw); go_simp
          simp only [List.getElem_toArray, List.getElem_cons_zero, List.getElem_cons_succ, Act.put, List.setIfInBounds_toArray, List.set_cons_zero, List.set_cons_succ]
          refine wpAnyH_take (i := 4) (v := (.bool false)) rfl (by kernel_rfl) (by kernel_rfl) (by kernel_rfl) (fun _ _ _ h => h) (Or.inl ⟨by rfl, ?_⟩) (by assumption) ?_
          · intro w hSw; (try dsimp only at hSw); go_simp
          simp only [List.getElem_toArray, List.getElem_cons_zero, List.getElem_cons_succ, Act.put, List.setIfInBounds_toArray, List.set_cons_zero, List.set_cons_succ]
          refine wpAnyH_take (i := 5) (v := (.bool false)) rfl (by kernel_rfl) (by kernel_rfl) (by kernel_rfl) (fun _ _ _ h => h) (Or.inl ⟨by rfl, ?_⟩) (by assumption) ?_
          · intro w hSw; (try dsimp only at hSw); go_simp
          simp only [List.getElem_toArray, List.getElem_cons_zero, List.getElem_cons_succ, Act.put, List.setIfInBounds_toArray, List.set_cons_zero, List.set_cons_succ]
          refine wpAnyH_take (i := 6) (v := undef) rfl (by kernel_rfl) (by kernel_rfl) (by kernel_rfl) (fun _ _ _ h => h) (Or.inr ⟨by rfl, rfl⟩) (by assumption) ?_
          simp only [List.getElem_toArray, List.getElem_cons_zero, List.getElem_cons_succ, Act.put, List.setIfInBounds_toArray, List.set_cons_zero, List.set_cons_succ]
          refine wpAnyH_take (i := 7) (v := undef) rfl (by kernel_rfl) (by kernel_rfl) (by kernel_rfl) (fun _ _ _ h => h) (Or.inr ⟨by rfl, rfl⟩) (by assumption) ?_
          simp only [List.getElem_toArray, List.getElem_cons_zero, List.getElem_cons_succ, Act.put, List.setIfInBounds_toArray, List.set_cons_zero, List.set_cons_succ]
          refine wpAnyH_take (i := 8) (v := undef) rfl (by kernel_rfl) (by kernel_rfl) (by kernel_rfl) (fun _ _ _ h => h) (Or.inr ⟨by rfl, rfl⟩) (by assumption) ?_
          simp only [List.getElem_toArray, List.getElem_cons_zero, List.getElem_cons_succ, Act.put, List.setIfInBounds_toArray, List.set_cons_zero, List.set_cons_succ]
          refine wpAnyH_take (i := 9) (v := undef) rfl (by kernel_rfl) (by kernel_rfl) (by kernel_rfl) (fun _ _ _ h => h) (Or.inr ⟨by rfl, rfl⟩) (by assumption) ?_
          simp only [List.getElem_toArray, List.getElem_cons_zero, List.getElem_cons_succ, Act.put, List.setIfInBounds_toArray, List.set_cons_zero, List.set_cons_succ]
          refine wpAnyH_take (i := 10) (v := undef) rfl (by kernel_rfl) (by kernel_rfl) (by kernel_rfl) (fun _ _ _ h => h) (Or.inr ⟨by rfl, rfl⟩) (by assumption) ?_
          simp only [List.getElem_toArray, List.getElem_cons_zero, List.getElem_cons_succ, Act.put, List.setIfInBounds_toArray, List.set_cons_zero, List.set_cons_succ]
          refine wpAnyH_take (i := 11) (v := undef) rfl (by kernel_rfl) (by kernel_rfl) (by kernel_rfl) (fun _ _ _ h => h) (Or.inr ⟨by rfl, rfl⟩) (by assumption) ?_
          simp only [List.getElem_toArray, List.getElem_cons_zero, List.getElem_cons_succ, Act.put, List.setIfInBounds_toArray, List.set_cons_zero, List.set_cons_succ]
          refine wpAnyH_take (i := 12) (v := undef) rfl (by kernel_rfl) (by kernel_rfl) (by kernel_rfl) (fun _ _ _ h => h) (Or.inr ⟨by rfl, rfl⟩) (by assumption) ?_
          simp only [List.getElem_toArray, List.getElem_cons_zero, List.getElem_cons_succ, Act.put, List.setIfInBounds_toArray, List.set_cons_zero, List.set_cons_succ]
          refine wpAnyH_take (i := 13) (v := undef) rfl (by kernel_rfl) (by kernel_rfl) (by kernel_rfl) (fun _ _ _ h => h) (Or.inr ⟨by rfl, rfl⟩) (by assumption) ?_
          simp only [List.getElem_toArray, List.getElem_cons_zero, List.getElem_cons_succ, Act.put, List.setIfInBounds_toArray, List.set_cons_zero, List.set_cons_succ]
          refine wpAnyH_take (i := 14) (v := undef) rfl (by kernel_rfl) (by kernel_rfl) (by kernel_rfl) (fun _ _ _ h => h) (Or.inr ⟨by rfl, rfl⟩) (by assumption) ?_
          simp only [List.getElem_toArray, List.getElem_cons_zero, List.getElem_cons_succ, Act.put, List.setIfInBounds_toArray, List.set_cons_zero, List.set_cons_succ]
          refine wpAnyH_take (i := 15) (v := (.bool false)) rfl (by kernel_rfl) (by kernel_rfl) (by kernel_rfl) (fun _ _ _ h => h) (Or.inl ⟨by rfl, ?_⟩) (by assumption) ?_
          · intro w hSw; (try dsimp only at hSw); go_simp
          simp only [List.getElem_toArray, List.getElem_cons_zero, List.getElem_cons_succ, Act.put, List.setIfInBounds_toArray, List.set_cons_zero, List.set_cons_succ]
          refine wpAnyH_take (i := 16) (v := (.bool false)) rfl (by kernel_rfl) (by kernel_rfl) (by kernel_rfl) (fun _ _ _ h => h) (Or.inl ⟨by rfl, ?_⟩) (by assumption) ?_
          · intro w hSw; (try dsimp only at hSw); go_simp
          simp only [List.getElem_toArray, List.getElem_cons_zero, List.getElem_cons_succ, Act.put, List.setIfInBounds_toArray, List.set_cons_zero, List.set_cons_succ]
          refine wpAnyH_done (by kernel_rfl) ?_ _
          go_split_ands
          go_wp2_with fail
          go_roundw
          case rel => exact ⟨0 + 1, by omega, by go_num, HX0.out.trans ‹Ext W0 _›, HOK.out⟩
          case measure => simp [intOf]; omega
        · obtain ⟨p, rfl⟩ : ∃ p, j = p + 1 := ⟨j - 1, by omega⟩
          have hpl : p < l.length := by omega
          obtain ⟨b', off', hA, _, r0, _, _⟩ := sp_at HR.out HL.out (show p < q by omega)
          injection hA with hA
          injection hA with e1 e2
          subst e1; subst e2
          obtain ⟨k1, hk1⟩ : ∃ k1, l[p].1 = k1 := ⟨_, rfl⟩
          rw [hk1] at r0
          have HK1 := Lib.hid hk1
          have p0 : (0 : Int) < ((p + 1 : Nat) : Int) := by omega
          have p1 : ((p + 1 : Nat) : Int) - 1 = (p : Int) := by omega
          have p2 : (0 : Int) ≤ (p : Int) := by omega
          have p3 : (p : Int) < (q : Int) := by omega
          have p4 : IntKind.i64.wrap (p : Int) = (p : Int) := by rw [IntKind.wrap_i64]; omega
          have p5 : (0 : Int) < (p : Int) + 1 := by omega
          by_cases hk : k1 = a1
          · have HBAD : Hid (¬ isN l) := Lib.hid (fun h => ((is_good l).1 h (p + 1) hjl).2 p rfl hjl (by rw [HK1.out, HLJ.out]; exact hk))
            subst hk
            clear hemp hk1 HK1
            go_wp2_with fail
            have r0' := ext_cell ((Ext.refl wr).alloc (.cells #[.int .i64 k1, .int .i64 a2, .string a3] 43)) r0
            obtain ⟨W0, hW0⟩ : ∃ W0, W0 = wr.alloc (.cells #[.int .i64 k1, .int .i64 a2, .string a3] 43) := ⟨_, rfl⟩
            obtain ⟨G, hG⟩ : ∃ G, G = wr.heap.size := ⟨_, rfl⟩
            have z0 : W0.cell? ⟨G, 0, none⟩ = some (.int .i64 k1) := by rw [hW0, hG]; exact box_at _ _ _ _ (Ext.refl _) 0 _ rfl
            have z1 : W0.cell? ⟨G, 1, none⟩ = some (.int .i64 a2) := by rw [hW0, hG]; exact box_at _ _ _ _ (Ext.refl _) 1 _ rfl
            have z2 : W0.cell? ⟨G, 2, none⟩ = some (.string a3) := by rw [hW0, hG]; exact box_at _ _ _ _ (Ext.refl _) 2 _ rfl
            have HX0 : Hid (Ext w W0) := Lib.hid (by rw [hW0]; exact hxr.alloc _)
            rw [← hW0] at r0'
            rw [← hW0, ← hG]
            clear hW0 hG q0 q1 q2 r0
            have hxx := Ext.refl W0
            go_region_held3 (fun w' => Ext W0 w' ∧ w'.cell? ⟨G, 0, none⟩ = some (.int .i64 k1) ∧ w'.cell? ⟨G, 1, none⟩ = some (.int .i64 a2) ∧ w'.cell? ⟨G, 2, none⟩ = some (.string a3) ∧ w'.cell? ⟨b, off + p * 3, none⟩ = some (.int .i64 k1))
                  ((go_split_ands; refine ⟨?_, ?_, ?_, ?_, ?_⟩ <;> first | (exact Ext.drew ‹_›) | (exact Ext.trans ‹_› hxk) | (exact ext_cell hxk ‹_›) | go_keep))
                  (first | (go_at_call 70; (try go_split_ands); refine (HIN.out _).mono ?_; rintro e w' ⟨rfl, hxk⟩) | fail)
            go_split_ands
            go_wp2_with fail
            go_ret
            exact ⟨false, rfl, HX0.out.trans ‹Ext W0 _›, ⟨fun h => absurd h Bool.false_ne_true, fun h => absurd h HBAD.out⟩⟩
          · have hkb : (a1 == k1) = false := by rw [beq_eq_false_iff_ne]; exact fun e => hk e.symm
            have HOK : Hid (∀ i, i < p + 1 + 1 → good l i) := Lib.hid (fun i hi => by
              rcases (by omega : i < p + 1 ∨ i = p + 1) with h | rfl
              · exact HG.out i h
              · exact ⟨fun h => by rw [HLJ.out]; exact hemp, fun k hk' _ => by
                  obtain rfl : k = p := by omega
                  rw [HK1.out, HLJ.out]; exact hk⟩)
            clear hemp hk1 hk
            go_wp2_with fail
            have r0' := ext_cell ((Ext.refl wr).alloc (.cells #[.int .i64 a1, .int .i64 a2, .string a3] 43)) r0
            obtain ⟨W0, hW0⟩ : ∃ W0, W0 = wr.alloc (.cells #[.int .i64 a1, .int .i64 a2, .string a3] 43) := ⟨_, rfl⟩
            obtain ⟨G, hG⟩ : ∃ G, G = wr.heap.size := ⟨_, rfl⟩
            have z0 : W0.cell? ⟨G, 0, none⟩ = some (.int .i64 a1) := by rw [hW0, hG]; exact box_at _ _ _ _ (Ext.refl _) 0 _ rfl
            have z1 : W0.cell? ⟨G, 1, none⟩ = some (.int .i64 a2) := by rw [hW0, hG]; exact box_at _ _ _ _ (Ext.refl _) 1 _ rfl
            have z2 : W0.cell? ⟨G, 2, none⟩ = some (.string a3) := by rw [hW0, hG]; exact box_at _ _ _ _ (Ext.refl _) 2 _ rfl
            have HX0 : Hid (Ext w W0) := Lib.hid (by rw [hW0]; exact hxr.alloc _)
            rw [← hW0] at r0'
            rw [← hW0, ← hG]
            clear hW0 hG q0 q1 q2 r0
            have hxx := Ext.refl W0
            go_region_held3 (fun w' => Ext W0 w' ∧ w'.cell? ⟨G, 0, none⟩ = some (.int .i64 a1) ∧ w'.cell? ⟨G, 1, none⟩ = some (.int .i64 a2) ∧ w'.cell? ⟨G, 2, none⟩ = some (.string a3) ∧ w'.cell? ⟨b, off + p * 3, none⟩ = some (.int .i64 k1))
                  ((go_split_ands; refine ⟨?_, ?_, ?_, ?_, ?_⟩ <;> first | (exact Ext.drew ‹_›) | (exact Ext.trans ‹_› hxk) | (exact ext_cell hxk ‹_›) | go_keep))
                  (first | (go_at_call 70; (try go_split_ands); refine (HIN.out _).mono ?_; rintro e w' ⟨rfl, hxk⟩) | fail)
            go_split_ands
            go_wp2_with fail
            go_roundw
            case rel => exact ⟨p + 1 + 1, by omega, by go_num, HX0.out.trans ‹Ext W0 _›, HOK.out⟩
            case measure => simp [intOf]; omega
    · obtain rfl : j = q := by omega
      have dn : decide (j < j) = false := by rw [decide_eq_false_iff_not]; exact hlt
      have HIS : Hid (isN l) := Lib.hid ((is_good l).2 (fun i hi => HG.out i (by have := HL.out; omega)))
      clear hlt hj
      go_wp2_with fail
      go_ret
      exact ⟨true, rfl, hxr, fun _ => HIS.out, fun _ => rfl⟩
end Go.Proofs.YtejgkhmpmnjgaaaDoor
