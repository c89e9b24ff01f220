/- Layer 4, the reference: Same. -/
import Derived.Test.YthlhjjgmncbplaaC4
import Derived.Deep.QuietTactic
import Derived.BigQuiet
namespace Go.Proofs.Ythlhjjgmncbplaa
open Go.RowKit
set_option maxRecDepth 100000
set_option maxHeartbeats 1000000
theorem take_more (l m : List Sp) (j : Nat) (hl : j < l.length) (hm : j < m.length) (h : l.take j = m.take j) : l.take (j + 1) = m.take (j + 1) ↔ l[j] = m[j] := by
  have e1 : l.take (j + 1) = l.take j ++ [l[j]] := by rw [List.take_add_one, List.getElem?_eq_getElem hl]; rfl
  have e2 : m.take (j + 1) = m.take j ++ [m[j]] := by rw [List.take_add_one, List.getElem?_eq_getElem hm]; rfl
  rw [e1, e2, h]
  exact ⟨fun e => by have e3 := List.append_cancel_left e; injection e3, fun e => by rw [e]⟩
theorem toList_ne {a b : ByteArray} (h : a ≠ b) : (a.toList == b.toList) = false := by
  rw [beq_eq_false_iff_ne]
  intro e
  rw [toList_bs, toList_bs] at e
  exact h (bs_inj e)
theorem sameG_c (A B : Option Addr) (n c k d : Nat) (l m : List Sp) (w : World) (h : Rd w 3 (.slice A n c) n (spCells l)) (h' : Rd w 3 (.slice B k d) k (spCells m)) (hl : l.length = n) (hm : m.length = k) (hn : n ≤ 100000) :
    Calls Try.prog 10 #[.slice A n c, .slice B k d] w fun e w' => e = .returned (.bool (decide (l = m))) ∧ Ext w w' := by
  by_cases hnk : n = k
  · subst hnk
    have H := Lib.hid h; have H' := Lib.hid h'; have HL := Lib.hid hl; have HM := Lib.hid hm
    clear h h' hl hm
    go_enter Try.func10, Try.ntmps10
    go_wp2_with fail
    go_loopw [5] (fun q wr => ∃ j : Nat, j ≤ n ∧ q = .int .i64 j ∧ Ext w wr ∧ l.take j = m.take j) (fun q _ => n - (intOf q).toNat)
    case atStart => exact ⟨0, by omega, rfl, Ext.refl _, rfl⟩
    case round =>
      obtain ⟨j, hj, rfl, hxr, heq⟩ := hrel
      by_cases hlt : j < n
      · have hjl : j < l.length := by have := HL.out; omega
        have hjm : j < m.length := by have := HM.out; omega
        obtain ⟨b, off, rfl, hb, q0, q1, q2⟩ := sp_at (H.out.ext hxr) HL.out hlt
        obtain ⟨b', off', rfl, hb', r0, r1, r2⟩ := sp_at (H'.out.ext hxr) HM.out hlt
        have dn : decide (j < n) = true := by rw [decide_eq_true_eq]; exact hlt
        have i0 : (0 : Int) ≤ (j : Int) := by omega
        have i1 : (j : Int) < (n : Int) := by omega
        have HT := Lib.hid (take_more l m j hjl hjm heq)
        have HNO : Hid (l[j] ≠ m[j] → ¬ l = m) := Lib.hid (fun hne e => hne (by subst e; rfl))
        obtain ⟨a1, ha1⟩ : ∃ a1, l[j].1 = a1 := ⟨_, rfl⟩
        obtain ⟨a2, ha2⟩ : ∃ a2, l[j].2.1 = a2 := ⟨_, rfl⟩
        obtain ⟨a3, ha3⟩ : ∃ a3, l[j].2.2 = a3 := ⟨_, rfl⟩
        obtain ⟨b1, hb1⟩ : ∃ b1, m[j].1 = b1 := ⟨_, rfl⟩
        obtain ⟨b2, hb2⟩ : ∃ b2, m[j].2.1 = b2 := ⟨_, rfl⟩
        obtain ⟨b3, hb3⟩ : ∃ b3, m[j].2.2 = b3 := ⟨_, rfl⟩
        have hlj : l[j] = (a1, a2, a3) := by rw [← ha1, ← ha2, ← ha3]
        have hmj : m[j] = (b1, b2, b3) := by rw [← hb1, ← hb2, ← hb3]
        rw [hlj] at q0 q1 q2
        rw [hmj] at r0 r1 r2
        rw [hlj, hmj] at HT HNO
        simp only at q0 q1 q2 r0 r1 r2
        clear hlj hmj ha1 ha2 ha3 hb1 hb2 hb3 heq
        by_cases c1 : a1 = b1
        · by_cases c2 : a2 = b2
          · by_cases c3 : a3 = b3
            · subst c1; subst c2; subst c3
              have HOK := Lib.hid (HT.out.2 rfl)
              clear HT HNO
              go_wp2_with fail
              go_quiet (fail)
              go_wp2_with fail
              go_roundw
              case rel => exact ⟨j + 1, by omega, by go_num, hxr.drewN _, HOK.out⟩
              case measure => simp [intOf]; omega
            · have HD := Lib.hid (decide_eq_false (HNO.out (fun e => c3 (by injection e with _ e; injection e))))
              have hc := toList_ne c3
              subst c1; subst c2
              clear HT HNO c3
              go_wp2_with fail
              go_quiet (fail)
              go_wp2_with fail
              go_ret
              rw [HD.out]
              exact ⟨rfl, hxr.drewN _⟩
          · have HD := Lib.hid (decide_eq_false (HNO.out (fun e => c2 (by injection e with _ e; injection e))))
            have hc : (a2 == b2) = false := by rw [beq_eq_false_iff_ne]; exact c2
            subst c1
            clear HT HNO c2
            go_wp2_with fail
            go_quiet (fail)
            go_wp2_with fail
            go_ret
            rw [HD.out]
            exact ⟨rfl, hxr.drewN _⟩
        · have HD := Lib.hid (decide_eq_false (HNO.out (fun e => c1 (by injection e))))
          have hc : (a1 == b1) = false := by rw [beq_eq_false_iff_ne]; exact c1
          clear HT HNO c1
          go_wp2_with fail
          go_quiet (fail)
          go_wp2_with fail
          go_ret
          rw [HD.out]
          exact ⟨rfl, hxr.drewN _⟩
      · obtain rfl : j = n := by omega
        have HD := Lib.hid (decide_eq_true (show l = m by
          rw [List.take_of_length_le (by have := HL.out; omega), List.take_of_length_le (by have := HM.out; omega)] at heq; exact heq))
        clear hlt hj heq
        go_wp2_with fail
        go_ret
        rw [HD.out]
        exact ⟨rfl, hxr⟩
  · have HD := Lib.hid (decide_eq_false (show ¬ l = m from fun e => hnk (by rw [← hl, ← hm, e])))
    have hne : ((n : Int) != (k : Int)) = true := by rw [bne_iff_ne]; omega
    clear h h' hl hm hnk
    go_enter Try.func10, Try.ntmps10
    go_wp2_with fail
    go_ret
    rw [HD.out]
    exact ⟨rfl, Ext.refl _⟩
theorem sameR4_c (A B : Option Addr) (n c d : Nat) (l : List Sp) (w : World) (h : Rd w 3 (.slice A n c) n (spCells l)) (h' : Rd w 3 (.slice B n d) n (spCells l)) (hl : l.length = n) (hn : n ≤ 1000) :
    Calls Try.prog 10 #[.slice A n c, .slice B n d] w fun e w' => e = .returned (.bool true) ∧ Ext w w' := by
  have g := sameG_c A B n c n d l l w h h' hl hl (by omega)
  rw [decide_eq_true rfl] at g
  exact g
end Go.Proofs.Ythlhjjgmncbplaa
