/- Layer 4, the reference: Same. -/
import Derived.Test.YtmfeggeinoaheaaDoorC3
import Derived.Test.YtmfeggeinoaheaaDoorBa
import Derived.Deep.QuietTactic
import Derived.BigQuiet
namespace Go.Proofs.YtmfeggeinoaheaaDoor
open Go.RowKit
set_option maxRecDepth 100000
set_option maxHeartbeats 1000000

/-- A span as plain data. -/
abbrev Sp := Int × Int × ByteArray
def spCells (l : List Sp) : List Value := l.flatMap fun s => [.int .i64 s.1, .int .i64 s.2.1, .string s.2.2]
theorem spCells_length (l : List Sp) : (spCells l).length = l.length * 3 := by
  induction l with
  | nil => rfl
  | cons a t ih =>
    have e : spCells (a :: t) = [.int .i64 a.1, .int .i64 a.2.1, .string a.2.2] ++ spCells t := rfl
    rw [e, List.length_append, ih, List.length_cons, List.length_cons, List.length_cons, List.length_cons, List.length_nil]; omega
theorem spCells_append (a b : List Sp) : spCells (a ++ b) = spCells a ++ spCells b := by simp [spCells]
theorem spCells_at (l : List Sp) (i : Nat) (h : i < l.length) : (spCells l)[i * 3]? = some (.int .i64 l[i].1) ∧ (spCells l)[i * 3 + 1]? = some (.int .i64 l[i].2.1) ∧ (spCells l)[i * 3 + 2]? = some (.string l[i].2.2) := by
  induction l generalizing i with
  | nil => simp at h
  | cons a t ih =>
    have e : spCells (a :: t) = .int .i64 a.1 :: .int .i64 a.2.1 :: .string a.2.2 :: spCells t := rfl
    cases i with
    | zero => rw [e]; exact ⟨rfl, rfl, rfl⟩
    | succ i =>
      have h' := ih i (by simpa using h)
      rw [e, show (i + 1) * 3 = i * 3 + 3 from by omega]
      exact h'
/-- The cells of the i-th span of a slice that reads. -/
theorem sp_at {w : World} {A : Option Addr} {n c : Nat} {l : List Sp} (h : Rd w 3 (.slice A n c) n (spCells l)) (hl : l.length = n) {i : Nat} (hi : i < n) :
    ∃ b off, A = some ⟨b, off, none⟩ ∧ b < w.heap.size ∧ w.cell? ⟨b, off + i * 3, none⟩ = some (.int .i64 (l[i]'(by omega)).1) ∧ w.cell? ⟨b, off + i * 3 + 1, none⟩ = some (.int .i64 (l[i]'(by omega)).2.1) ∧ w.cell? ⟨b, off + i * 3 + 2, none⟩ = some (.string (l[i]'(by omega)).2.2) := by
  obtain ⟨h1, A', c', hv, hc, h2⟩ := h
  injection hv with e1 e2 e3
  subst e1; subst e3
  obtain ⟨b, off, hA, hb, hcell⟩ := h2 (by omega)
  obtain ⟨a0, a1, a2⟩ := spCells_at l i (by omega)
  exact ⟨b, off, hA, hb, hcell _ _ a0, by rw [Nat.add_assoc]; exact hcell _ _ a1, by rw [Nat.add_assoc]; exact hcell _ _ a2⟩
/-- The sums go round at 2^63. -/
def inL (l : List Sp) : Int := (l.map fun s => inS s.1 s.2.1).sum
theorem wrap_step (a b : Int) : wrap64 (wrap64 a + b) = wrap64 (a + b) := by unfold wrap64; omega
theorem wrap_zero : wrap64 0 = 0 := by unfold wrap64; omega
theorem inL_nil (l : List Sp) : wrap64 (inL (l.take 0)) = 0 := by rw [List.take_zero]; exact wrap_zero
theorem inL_take (l : List Sp) (i : Nat) (h : i < l.length) : inL (l.take (i + 1)) = inL (l.take i) + inS l[i].1 l[i].2.1 := by
  unfold inL
  rw [List.take_add_one, List.getElem?_eq_getElem h, List.map_append, List.sum_append]
  simp
def outL (l : List Sp) : Int := (l.map fun s => outS s.1 s.2.1 s.2.2).sum
theorem outL_nil (l : List Sp) : wrap64 (outL (l.take 0)) = 0 := by rw [List.take_zero]; exact wrap_zero
theorem outL_take (l : List Sp) (i : Nat) (h : i < l.length) : outL (l.take (i + 1)) = outL (l.take i) + outS l[i].1 l[i].2.1 l[i].2.2 := by
  unfold outL
  rw [List.take_add_one, List.getElem?_eq_getElem h, List.map_append, List.sum_append]
  simp
def errL : List Sp → Int
  | [] => 0
  | s :: t => if mayS s.1 s.2.1 s.2.2 = 0 then errL t else mayS s.1 s.2.1 s.2.2
def mayL (l : List Sp) : Int := if errL l = 0 then (if 1048576 < wrap64 (inL l) then 4 else 0) else errL l
theorem errL_all (l : List Sp) (h : ∀ s ∈ l, mayS s.1 s.2.1 s.2.2 = 0) : errL l = 0 := by
  induction l with
  | nil => rfl
  | cons a t ih => rw [errL, if_pos (h a (by simp))]; exact ih (fun s hs => h s (by simp [hs]))
theorem errL_first (l : List Sp) (j : Nat) (hj : j < l.length) (h : ∀ s ∈ l.take j, mayS s.1 s.2.1 s.2.2 = 0) (hn : mayS l[j].1 l[j].2.1 l[j].2.2 ≠ 0) : errL l = mayS l[j].1 l[j].2.1 l[j].2.2 := by
  induction l generalizing j with
  | nil => simp at hj
  | cons a t ih =>
    cases j with
    | zero => rw [errL]; exact if_neg hn
    | succ j =>
      rw [errL, if_pos (h a (by simp))]
      exact ih j (by simpa using hj) (fun s hs => h s (by simp [hs])) hn
end Go.Proofs.YtmfeggeinoaheaaDoor
namespace Go.Proofs.YtmfeggeinoaheaaDoor
open Go.RowKit
set_option maxRecDepth 100000
set_option maxHeartbeats 1000000
/-- What Keep answers. -/
def keepL (n : Int) : List Sp := if n = 0 then [] else [(1, n, ⟨#[]⟩)]
def KeepR (w : World) (n : Int) (e : Ending) (w' : World) : Prop :=
  Ext w w' ∧ (((n < 0 ∨ 1048576 < n) ∧ e = .returned (.tuple #[.slice none 0 0, .int .i64 2])) ∨
    (0 ≤ n ∧ n ≤ 1048576 ∧ ∃ v, e = .returned (.tuple #[v, .int .i64 0]) ∧ Rd w' 3 v (keepL n).length (spCells (keepL n))))
end Go.Proofs.YtmfeggeinoaheaaDoor
namespace Go.Proofs.YtmfeggeinoaheaaDoor
open Go.RowKit
set_option maxRecDepth 100000
set_option maxHeartbeats 1000000
theorem take_more (l m : List Sp) (j : Nat) (hl : j < l.length) (hm : j < m.length) (h : l.take j = m.take j) : l.take (j + 1) = m.take (j + 1) ↔ l[j] = m[j] := by
  have e1 : l.take (j + 1) = l.take j ++ [l[j]] := by rw [List.take_add_one, List.getElem?_eq_getElem hl]; rfl
  have e2 : m.take (j + 1) = m.take j ++ [m[j]] := by rw [List.take_add_one, List.getElem?_eq_getElem hm]; rfl
  rw [e1, e2, h]
  exact ⟨fun e => by have e3 := List.append_cancel_left e; injection e3, fun e => by rw [e]⟩
theorem toList_ne {a b : ByteArray} (h : a ≠ b) : (a.toList == b.toList) = false := by
  rw [beq_eq_false_iff_ne]
  intro e
  rw [toList_bs, toList_bs] at e
  exact h (bs_inj e)
theorem sameG_c (A B : Option Addr) (n c k d : Nat) (l m : List Sp) (w : World) (h : Rd w 3 (.slice A n c) n (spCells l)) (h' : Rd w 3 (.slice B k d) k (spCells m)) (hl : l.length = n) (hm : m.length = k) (hn : n ≤ 100000) :
    Calls Tryd.prog 14 #[.slice A n c, .slice B k d] w fun e w' => e = .returned (.bool (decide (l = m))) ∧ Ext w w' := by
  by_cases hnk : n = k
  · subst hnk
    have H := Lib.hid h; have H' := Lib.hid h'; have HL := Lib.hid hl; have HM := Lib.hid hm
    clear h h' hl hm
    go_enter Tryd.func14, Tryd.ntmps14
    go_wp2_with fail
    go_loopw [5] (fun q wr => ∃ j : Nat, j ≤ n ∧ q = .int .i64 j ∧ Ext w wr ∧ l.take j = m.take j) (fun q _ => n - (intOf q).toNat)
    case atStart => exact ⟨0, by omega, rfl, Ext.refl _, rfl⟩
    case round =>
      obtain ⟨j, hj, rfl, hxr, heq⟩ := hrel
      by_cases hlt : j < n
      · have hjl : j < l.length := by have := HL.out; omega
        have hjm : j < m.length := by have := HM.out; omega
        obtain ⟨b, off, rfl, hb, q0, q1, q2⟩ := sp_at (H.out.ext hxr) HL.out hlt
        obtain ⟨b', off', rfl, hb', r0, r1, r2⟩ := sp_at (H'.out.ext hxr) HM.out hlt
        have dn : decide (j < n) = true := by rw [decide_eq_true_eq]; exact hlt
        have i0 : (0 : Int) ≤ (j : Int) := by omega
        have i1 : (j : Int) < (n : Int) := by omega
        have HT := Lib.hid (take_more l m j hjl hjm heq)
        have HNO : Hid (l[j] ≠ m[j] → ¬ l = m) := Lib.hid (fun hne e => hne (by subst e; rfl))
        obtain ⟨a1, ha1⟩ : ∃ a1, l[j].1 = a1 := ⟨_, rfl⟩
        obtain ⟨a2, ha2⟩ : ∃ a2, l[j].2.1 = a2 := ⟨_, rfl⟩
        obtain ⟨a3, ha3⟩ : ∃ a3, l[j].2.2 = a3 := ⟨_, rfl⟩
        obtain ⟨b1, hb1⟩ : ∃ b1, m[j].1 = b1 := ⟨_, rfl⟩
        obtain ⟨b2, hb2⟩ : ∃ b2, m[j].2.1 = b2 := ⟨_, rfl⟩
        obtain ⟨b3, hb3⟩ : ∃ b3, m[j].2.2 = b3 := ⟨_, rfl⟩
        have hlj : l[j] = (a1, a2, a3) := by rw [← ha1, ← ha2, ← ha3]
        have hmj : m[j] = (b1, b2, b3) := by rw [← hb1, ← hb2, ← hb3]
        rw [hlj] at q0 q1 q2
        rw [hmj] at r0 r1 r2
        rw [hlj, hmj] at HT HNO
        simp only at q0 q1 q2 r0 r1 r2
        clear hlj hmj ha1 ha2 ha3 hb1 hb2 hb3 heq
        by_cases c1 : a1 = b1
        · by_cases c2 : a2 = b2
          · by_cases c3 : a3 = b3
            · subst c1; subst c2; subst c3
              have HOK := Lib.hid (HT.out.2 rfl)
              clear HT HNO
              go_wp2_with fail
              go_quiet (fail)
              go_wp2_with fail
              go_roundw
              case rel => exact ⟨j + 1, by omega, by go_num, hxr.drewN _, HOK.out⟩
              case measure => simp [intOf]; omega
            · have HD := Lib.hid (decide_eq_false (HNO.out (fun e => c3 (by injection e with _ e; injection e))))
              have hc := toList_ne c3
              subst c1; subst c2
              clear HT HNO c3
              go_wp2_with fail
              go_quiet (fail)
              go_wp2_with fail
              go_ret
              rw [HD.out]
              exact ⟨rfl, hxr.drewN _⟩
          · have HD := Lib.hid (decide_eq_false (HNO.out (fun e => c2 (by injection e with _ e; injection e))))
            have hc : (a2 == b2) = false := by rw [beq_eq_false_iff_ne]; exact c2
            subst c1
            clear HT HNO c2
            go_wp2_with fail
            go_quiet (fail)
            go_wp2_with fail
            go_ret
            rw [HD.out]
            exact ⟨rfl, hxr.drewN _⟩
        · have HD := Lib.hid (decide_eq_false (HNO.out (fun e => c1 (by injection e))))
          have hc : (a1 == b1) = false := by rw [beq_eq_false_iff_ne]; exact c1
          clear HT HNO c1
          go_wp2_with fail
          go_quiet (fail)
          go_wp2_with fail
          go_ret
          rw [HD.out]
          exact ⟨rfl, hxr.drewN _⟩
      · obtain rfl : j = n := by omega
        have HD := Lib.hid (decide_eq_true (show l = m by
          rw [List.take_of_length_le (by have := HL.out; omega), List.take_of_length_le (by have := HM.out; omega)] at heq; exact heq))
        clear hlt hj heq
        go_wp2_with fail
        go_ret
        rw [HD.out]
        exact ⟨rfl, hxr⟩
  · have HD := Lib.hid (decide_eq_false (show ¬ l = m from fun e => hnk (by rw [← hl, ← hm, e])))
    have hne : ((n : Int) != (k : Int)) = true := by rw [bne_iff_ne]; omega
    clear h h' hl hm hnk
    go_enter Tryd.func14, Tryd.ntmps14
    go_wp2_with fail
    go_ret
    rw [HD.out]
    exact ⟨rfl, Ext.refl _⟩
theorem sameR4_c (A B : Option Addr) (n c d : Nat) (l : List Sp) (w : World) (h : Rd w 3 (.slice A n c) n (spCells l)) (h' : Rd w 3 (.slice B n d) n (spCells l)) (hl : l.length = n) (hn : n ≤ 1000) :
    Calls Tryd.prog 14 #[.slice A n c, .slice B n d] w fun e w' => e = .returned (.bool true) ∧ Ext w w' := by
  have g := sameG_c A B n c n d l l w h h' hl hl (by omega)
  rw [decide_eq_true rfl] at g
  exact g
end Go.Proofs.YtmfeggeinoaheaaDoor
