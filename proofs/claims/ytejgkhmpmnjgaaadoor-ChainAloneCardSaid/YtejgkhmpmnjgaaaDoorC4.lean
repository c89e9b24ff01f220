/- The shortest form of an operation, as plain lists. -/
import Derived.Test.YtejgkhmpmnjgaaaDoorC3
import Derived.Test.YtejgkhmpmnjgaaaDoorBa
import Derived.Deep.QuietTactic
import Derived.BigQuiet
namespace Go.Proofs.YtejgkhmpmnjgaaaDoor
open Go.RowKit
set_option maxRecDepth 100000
set_option maxHeartbeats 1000000

/-- A span as plain data. -/
abbrev Sp := Int × Int × ByteArray
def spCells (l : List Sp) : List Value := l.flatMap fun s => [.int .i64 s.1, .int .i64 s.2.1, .string s.2.2]
theorem spCells_length (l : List Sp) : (spCells l).length = l.length * 3 := by
  induction l with
  | nil => rfl
  | cons a t ih =>
    have e : spCells (a :: t) = [.int .i64 a.1, .int .i64 a.2.1, .string a.2.2] ++ spCells t := rfl
    rw [e, List.length_append, ih, List.length_cons, List.length_cons, List.length_cons, List.length_cons, List.length_nil]; omega
theorem spCells_append (a b : List Sp) : spCells (a ++ b) = spCells a ++ spCells b := by simp [spCells]
theorem spCells_at (l : List Sp) (i : Nat) (h : i < l.length) : (spCells l)[i * 3]? = some (.int .i64 l[i].1) ∧ (spCells l)[i * 3 + 1]? = some (.int .i64 l[i].2.1) ∧ (spCells l)[i * 3 + 2]? = some (.string l[i].2.2) := by
  induction l generalizing i with
  | nil => simp at h
  | cons a t ih =>
    have e : spCells (a :: t) = .int .i64 a.1 :: .int .i64 a.2.1 :: .string a.2.2 :: spCells t := rfl
    cases i with
    | zero => rw [e]; exact ⟨rfl, rfl, rfl⟩
    | succ i =>
      have h' := ih i (by simpa using h)
      rw [e, show (i + 1) * 3 = i * 3 + 3 from by omega]
      exact h'
/-- The cells of the i-th span of a slice that reads. -/
theorem sp_at {w : World} {A : Option Addr} {n c : Nat} {l : List Sp} (h : Rd w 3 (.slice A n c) n (spCells l)) (hl : l.length = n) {i : Nat} (hi : i < n) :
    ∃ b off, A = some ⟨b, off, none⟩ ∧ b < w.heap.size ∧ w.cell? ⟨b, off + i * 3, none⟩ = some (.int .i64 (l[i]'(by omega)).1) ∧ w.cell? ⟨b, off + i * 3 + 1, none⟩ = some (.int .i64 (l[i]'(by omega)).2.1) ∧ w.cell? ⟨b, off + i * 3 + 2, none⟩ = some (.string (l[i]'(by omega)).2.2) := by
  obtain ⟨h1, A', c', hv, hc, h2⟩ := h
  injection hv with e1 e2 e3
  subst e1; subst e3
  obtain ⟨b, off, hA, hb, hcell⟩ := h2 (by omega)
  obtain ⟨a0, a1, a2⟩ := spCells_at l i (by omega)
  exact ⟨b, off, hA, hb, hcell _ _ a0, by rw [Nat.add_assoc]; exact hcell _ _ a1, by rw [Nat.add_assoc]; exact hcell _ _ a2⟩
/-- The sums go round at 2^63. -/
def inL (l : List Sp) : Int := (l.map fun s => inS s.1 s.2.1).sum
theorem wrap_step (a b : Int) : wrap64 (wrap64 a + b) = wrap64 (a + b) := by unfold wrap64; omega
theorem wrap_zero : wrap64 0 = 0 := by unfold wrap64; omega
theorem inL_nil (l : List Sp) : wrap64 (inL (l.take 0)) = 0 := by rw [List.take_zero]; exact wrap_zero
theorem inL_take (l : List Sp) (i : Nat) (h : i < l.length) : inL (l.take (i + 1)) = inL (l.take i) + inS l[i].1 l[i].2.1 := by
  unfold inL
  rw [List.take_add_one, List.getElem?_eq_getElem h, List.map_append, List.sum_append]
  simp
def outL (l : List Sp) : Int := (l.map fun s => outS s.1 s.2.1 s.2.2).sum
theorem outL_nil (l : List Sp) : wrap64 (outL (l.take 0)) = 0 := by rw [List.take_zero]; exact wrap_zero
theorem outL_take (l : List Sp) (i : Nat) (h : i < l.length) : outL (l.take (i + 1)) = outL (l.take i) + outS l[i].1 l[i].2.1 l[i].2.2 := by
  unfold outL
  rw [List.take_add_one, List.getElem?_eq_getElem h, List.map_append, List.sum_append]
  simp
theorem inR4_c (A : Option Addr) (n c : Nat) (l : List Sp) (w : World) (h : Rd w 3 (.slice A n c) n (spCells l)) (hl : l.length = n) (hn : n ≤ 1000) :
    Calls Tryd.prog 31 #[.slice A n c] w fun e w' => e = .returned (.int .i64 (wrap64 (inL l))) ∧ Ext w w' := by
  have H := Lib.hid h; have HL := Lib.hid hl
  clear h hl
  go_enter Tryd.func31, Tryd.ntmps31
  go_wp2_with fail
  go_loopw [3, 4] (fun z q wr => ∃ j : Nat, j ≤ n ∧ q = .int .i64 j ∧ z = .int .i64 (wrap64 (inL (l.take j))) ∧ Ext w wr) (fun _ q _ => n - (intOf q).toNat)
  case atStart => exact ⟨0, by omega, rfl, by rw [inL_nil], Ext.refl _⟩
  case round =>
    obtain ⟨j, hj, rfl, rfl, hxr⟩ := hrel
    by_cases hlt : j < n
    · have hjl : j < l.length := by have := HL.out; omega
      obtain ⟨b, off, rfl, hb, q0, q1, q2⟩ := sp_at (H.out.ext hxr) HL.out hlt
      have dn : decide (j < n) = true := by rw [decide_eq_true_eq]; exact hlt
      have hst : wrap64 (wrap64 (inL (l.take j)) + inS l[j].1 l[j].2.1) = wrap64 (inL (l.take (j + 1))) := by rw [wrap_step, inL_take l j hjl]
      have HIN := Lib.hid (fun w' => inR_c l[j].1 l[j].2.1 l[j].2.2 w')
      unfold spanV at HIN
      have HST := Lib.hid hst
      clear hst
      generalize inS l[j].1 l[j].2.1 = y at *
      generalize wrap64 (inL (l.take j)) = x at *
      generalize l[j].1 = a1 at *
      generalize l[j].2.1 = a2 at *
      generalize l[j].2.2 = a3 at *
      go_wp2_with fail
      refine (HIN.out _).mono ?_; rintro e w1 ⟨rfl, hx1⟩
      go_wp2_with fail
      go_roundw
      case rel => exact ⟨j + 1, by omega, by go_num, by rw [← HST.out], hxr.trans hx1⟩
      case measure => simp [intOf]; omega
    · obtain rfl : j = n := by omega
      clear hlt hj
      have hall : l.take j = l := by rw [← HL.out]; exact List.take_length
      rw [hall]
      go_wp2_with fail
      go_ret
      exact ⟨rfl, hxr⟩
theorem outR4_c (A : Option Addr) (n c : Nat) (l : List Sp) (w : World) (h : Rd w 3 (.slice A n c) n (spCells l)) (hl : l.length = n) (hn : n ≤ 1000) (hs : ∀ s ∈ l, s.2.2.size ≤ 1000000000) :
    Calls Tryd.prog 27 #[.slice A n c] w fun e w' => e = .returned (.int .i64 (wrap64 (outL l))) ∧ Ext w w' := by
  have H := Lib.hid h; have HL := Lib.hid hl
  have HS := Lib.hid hs
  clear h hl hs
  go_enter Tryd.func27, Tryd.ntmps27
  go_wp2_with fail
  go_loopw [3, 4] (fun z q wr => ∃ j : Nat, j ≤ n ∧ q = .int .i64 j ∧ z = .int .i64 (wrap64 (outL (l.take j))) ∧ Ext w wr) (fun _ q _ => n - (intOf q).toNat)
  case atStart => exact ⟨0, by omega, rfl, by rw [outL_nil], Ext.refl _⟩
  case round =>
    obtain ⟨j, hj, rfl, rfl, hxr⟩ := hrel
    by_cases hlt : j < n
    · have hjl : j < l.length := by have := HL.out; omega
      obtain ⟨b, off, rfl, hb, q0, q1, q2⟩ := sp_at (H.out.ext hxr) HL.out hlt
      have dn : decide (j < n) = true := by rw [decide_eq_true_eq]; exact hlt
      have hst : wrap64 (wrap64 (outL (l.take j)) + outS l[j].1 l[j].2.1 l[j].2.2) = wrap64 (outL (l.take (j + 1))) := by rw [wrap_step, outL_take l j hjl]
      have HIN := Lib.hid (fun w' => outR_c l[j].1 l[j].2.1 l[j].2.2 w' (HS.out _ (List.getElem_mem hjl)))
      unfold spanV at HIN
      have HST := Lib.hid hst
      clear hst
      generalize outS l[j].1 l[j].2.1 l[j].2.2 = y at *
      generalize wrap64 (outL (l.take j)) = x at *
      generalize l[j].1 = a1 at *
      generalize l[j].2.1 = a2 at *
      generalize l[j].2.2 = a3 at *
      go_wp2_with fail
      refine (HIN.out _).mono ?_; rintro e w1 ⟨rfl, hx1⟩
      go_wp2_with fail
      go_roundw
      case rel => exact ⟨j + 1, by omega, by go_num, by rw [← HST.out], hxr.trans hx1⟩
      case measure => simp [intOf]; omega
    · obtain rfl : j = n := by omega
      clear hlt hj
      have hall : l.take j = l := by rw [← HL.out]; exact List.take_length
      rw [hall]
      go_wp2_with fail
      go_ret
      exact ⟨rfl, hxr⟩
def errL : List Sp → Int
  | [] => 0
  | s :: t => if mayS s.1 s.2.1 s.2.2 = 0 then errL t else mayS s.1 s.2.1 s.2.2
def mayL (l : List Sp) : Int := if errL l = 0 then (if 1048576 < wrap64 (inL l) then 4 else 0) else errL l
theorem errL_all (l : List Sp) (h : ∀ s ∈ l, mayS s.1 s.2.1 s.2.2 = 0) : errL l = 0 := by
  induction l with
  | nil => rfl
  | cons a t ih => rw [errL, if_pos (h a (by simp))]; exact ih (fun s hs => h s (by simp [hs]))
theorem errL_first (l : List Sp) (j : Nat) (hj : j < l.length) (h : ∀ s ∈ l.take j, mayS s.1 s.2.1 s.2.2 = 0) (hn : mayS l[j].1 l[j].2.1 l[j].2.2 ≠ 0) : errL l = mayS l[j].1 l[j].2.1 l[j].2.2 := by
  induction l generalizing j with
  | nil => simp at hj
  | cons a t ih =>
    cases j with
    | zero => rw [errL]; exact if_neg hn
    | succ j =>
      rw [errL, if_pos (h a (by simp))]
      exact ih j (by simpa using hj) (fun s hs => h s (by simp [hs])) hn
theorem mayR4_c (A : Option Addr) (n c : Nat) (l : List Sp) (w : World) (h : Rd w 3 (.slice A n c) n (spCells l)) (hl : l.length = n) (hn : n ≤ 1000) (hs : ∀ s ∈ l, s.2.2.size ≤ 1000000000) :
    Calls Tryd.prog 30 #[.slice A n c] w fun e w' => e = .returned (.int .i64 (mayL l)) ∧ Ext w w' := by
  have HI4 : Hid (∀ w', Ext w w' → Calls Tryd.prog 31 #[.slice A n c] w' fun e w'' => e = .returned (.int .i64 (wrap64 (inL l))) ∧ Ext w' w'') := Lib.hid fun w' hx => inR4_c A n c l w' (h.ext hx) hl hn
  have H := Lib.hid h; have HL := Lib.hid hl; have HS := Lib.hid hs
  clear h hl hs
  go_enter Tryd.func30, Tryd.ntmps30
  go_wp2_with fail
  go_loopw [3] (fun q wr => ∃ j : Nat, j ≤ n ∧ q = .int .i64 j ∧ (∀ s ∈ l.take j, mayS s.1 s.2.1 s.2.2 = 0) ∧ Ext w wr) (fun q _ => n - (intOf q).toNat)
  case atStart => exact ⟨0, by omega, rfl, by simp, Ext.refl _⟩
  case round =>
    obtain ⟨j, hj, rfl, hz, hxr⟩ := hrel
    have HZ := Lib.hid hz
    clear hz
    by_cases hlt : j < n
    · have hjl : j < l.length := by have := HL.out; omega
      obtain ⟨b, off, rfl, hb, q0, q1, q2⟩ := sp_at (H.out.ext hxr) HL.out hlt
      have dn : decide (j < n) = true := by rw [decide_eq_true_eq]; exact hlt
      have HM := Lib.hid (fun w' => mayR_c l[j].1 l[j].2.1 l[j].2.2 w' (HS.out _ (List.getElem_mem hjl)))
      unfold spanV at HM
      by_cases hy : mayS l[j].1 l[j].2.1 l[j].2.2 = 0
      · have HZ1 : Hid (∀ s ∈ l.take (j + 1), mayS s.1 s.2.1 s.2.2 = 0) := Lib.hid (by
          intro s hs
          rw [List.take_add_one, List.getElem?_eq_getElem hjl] at hs
          rcases List.mem_append.1 hs with hs | hs
          · exact HZ.out s hs
          · simp at hs; subst hs; exact hy)
        rw [hy] at HM
        clear hy
        generalize l[j].1 = a1 at *
        generalize l[j].2.1 = a2 at *
        generalize l[j].2.2 = a3 at *
        go_wp2_with fail
        refine (HM.out _).mono ?_; rintro e w1 ⟨rfl, hx1⟩
        go_wp2_with fail
        go_roundw
        case rel => exact ⟨j + 1, by omega, by go_num, HZ1.out, hxr.trans hx1⟩
        case measure => simp [intOf]; omega
      · have HE := Lib.hid (show mayL l = mayS l[j].1 l[j].2.1 l[j].2.2 by unfold mayL; rw [errL_first l j hjl HZ.out hy, if_neg hy])
        have hb1 : (mayS l[j].1 l[j].2.1 l[j].2.2 != 0) = true := by rw [bne_iff_ne]; exact hy
        clear hy
        generalize mayS l[j].1 l[j].2.1 l[j].2.2 = y at *
        generalize l[j].1 = a1 at *
        generalize l[j].2.1 = a2 at *
        generalize l[j].2.2 = a3 at *
        go_wp2_with fail
        refine (HM.out _).mono ?_; rintro e w1 ⟨rfl, hx1⟩
        go_wp2_with fail
        go_ret
        rw [HE.out]
        exact ⟨rfl, hxr.trans hx1⟩
    · obtain rfl : j = n := by omega
      clear hlt hj
      have h0 : errL l = 0 := errL_all l (by have h := HZ.out; rw [← HL.out, List.take_length] at h; exact h)
      have HE := Lib.hid (show mayL l = if 1048576 < wrap64 (inL l) then 4 else 0 by unfold mayL; rw [if_pos h0])
      clear h0
      generalize wrap64 (inL l) = x at *
      by_cases hx : 1048576 < x
      · rw [if_pos hx] at HE
        go_wp2_with fail
        refine (HI4.out _ hxr).mono ?_; rintro e w1 ⟨rfl, hx1⟩
        go_wp2_with fail
        go_ret
        rw [HE.out]
        exact ⟨rfl, hxr.trans hx1⟩
      · rw [if_neg hx] at HE
        have hx' : x ≤ 1048576 := by omega
        go_wp2_with fail
        refine (HI4.out _ hxr).mono ?_; rintro e w1 ⟨rfl, hx1⟩
        go_wp2_with fail
        go_ret
        rw [HE.out]
        exact ⟨rfl, hxr.trans hx1⟩
end Go.Proofs.YtejgkhmpmnjgaaaDoor
namespace Go.Proofs.YtejgkhmpmnjgaaaDoor
open Go.RowKit
set_option maxRecDepth 100000
set_option maxHeartbeats 1000000
/-- What Keep answers. -/
def keepL (n : Int) : List Sp := if n = 0 then [] else [(1, n, ⟨#[]⟩)]
def KeepR (w : World) (n : Int) (e : Ending) (w' : World) : Prop :=
  Ext w w' ∧ (((n < 0 ∨ 1048576 < n) ∧ e = .returned (.tuple #[.slice none 0 0, .int .i64 2])) ∨
    (0 ≤ n ∧ n ≤ 1048576 ∧ ∃ v, e = .returned (.tuple #[v, .int .i64 0]) ∧ Rd w' 3 v (keepL n).length (spCells (keepL n))))
end Go.Proofs.YtejgkhmpmnjgaaaDoor
namespace Go.Proofs.YtejgkhmpmnjgaaaDoor
open Go.RowKit
set_option maxRecDepth 100000
set_option maxHeartbeats 1000000
theorem take_more (l m : List Sp) (j : Nat) (hl : j < l.length) (hm : j < m.length) (h : l.take j = m.take j) : l.take (j + 1) = m.take (j + 1) ↔ l[j] = m[j] := by
  have e1 : l.take (j + 1) = l.take j ++ [l[j]] := by rw [List.take_add_one, List.getElem?_eq_getElem hl]; rfl
  have e2 : m.take (j + 1) = m.take j ++ [m[j]] := by rw [List.take_add_one, List.getElem?_eq_getElem hm]; rfl
  rw [e1, e2, h]
  exact ⟨fun e => by have e3 := List.append_cancel_left e; injection e3, fun e => by rw [e]⟩
theorem toList_ne {a b : ByteArray} (h : a ≠ b) : (a.toList == b.toList) = false := by
  rw [beq_eq_false_iff_ne]
  intro e
  rw [toList_bs, toList_bs] at e
  exact h (bs_inj e)
end Go.Proofs.YtejgkhmpmnjgaaaDoor
namespace Go.Proofs.YtejgkhmpmnjgaaaDoor
open Go.RowKit
set_option maxRecDepth 100000

theorem ba_assoc (a b c : ByteArray) : a ++ b ++ c = a ++ (b ++ c) := by apply bs_inj; simp [bs]
theorem ba_nil (a : ByteArray) : a ++ ⟨#[]⟩ = a := by apply bs_inj; simp [bs]
theorem nil_ba (a : ByteArray) : (⟨#[]⟩ : ByteArray) ++ a = a := by apply bs_inj; simp [bs]
theorem bs_append (a b : ByteArray) : bs (a ++ b) = bs a ++ bs b := by simp [bs]
theorem ba_empty {a : ByteArray} (h : a.size = 0) : a = ⟨#[]⟩ := by
  apply bs_inj
  have e : (bs a).length = 0 := by rw [bs_length, h]
  rw [List.eq_nil_of_length_eq_zero e]; rfl
theorem ba_size (a b : ByteArray) : (a ++ b).size = a.size + b.size := by rw [← bs_length, bs_append, List.length_append, bs_length, bs_length]
/-- An empty span. -/
def emp (s : Sp) : Prop := s.2.1 = 0 ∧ s.2.2.size = 0
instance (s : Sp) : Decidable (emp s) := by unfold emp; infer_instance
def mrg (s t : Sp) : Sp := (s.1, s.2.1 + t.2.1, s.2.2 ++ t.2.2)
theorem mrg_assoc (a b c : Sp) : mrg (mrg a b) c = mrg a (mrg b c) := by
  unfold mrg; simp only; rw [ba_assoc, Int.add_assoc]
/-- Of a span and what is in its shortest form: put ahead of it. -/
def normC (s : Sp) (r : List Sp) : List Sp :=
  if emp s then r else match r with
    | [] => [s]
    | t :: r' => if s.1 = t.1 then mrg s t :: r' else s :: t :: r'
def normL (l : List Sp) : List Sp := l.foldr normC []
/-- .. put behind it. -/
def snocN (out : List Sp) (s : Sp) : List Sp :=
  if emp s then out else match out with
    | [] => [s]
    | [t] => if t.1 = s.1 then [mrg t s] else [t, s]
    | t :: u :: r => t :: snocN (u :: r) s
theorem snocN_emp (out : List Sp) (s : Sp) (h : emp s) : snocN out s = out := by
  unfold snocN; split
  all_goals first | rfl | (rename_i h2; exact absurd h h2)
theorem snocN_nil (s : Sp) (h : ¬ emp s) : snocN [] s = [s] := by rw [snocN, if_neg h]
theorem snocN_one (t s : Sp) (h : ¬ emp s) : snocN [t] s = if t.1 = s.1 then [mrg t s] else [t, s] := by rw [snocN, if_neg h]
theorem snocN_two (t u : Sp) (r : List Sp) (s : Sp) (h : ¬ emp s) : snocN (t :: u :: r) s = t :: snocN (u :: r) s := by rw [snocN, if_neg h]
theorem snocN_last (ys : List Sp) (t s : Sp) (h : ¬ emp s) : snocN (ys ++ [t]) s = ys ++ if t.1 = s.1 then [mrg t s] else [t, s] := by
  induction ys with
  | nil => rw [List.nil_append, List.nil_append, snocN_one _ _ h]
  | cons y ys ih =>
    cases ys with
    | nil => rw [List.cons_append, List.nil_append, snocN_two _ _ _ _ h, snocN_one _ _ h]; rfl
    | cons z zs =>
      rw [List.cons_append, List.cons_append, snocN_two _ _ _ _ h]
      rw [List.cons_append] at ih
      rw [ih]; rfl
theorem normC_emp (s : Sp) (r : List Sp) (h : emp s) : normC s r = r := by unfold normC; rw [if_pos h]
theorem normC_nil (s : Sp) (h : ¬ emp s) : normC s [] = [s] := by unfold normC; rw [if_neg h]
theorem normC_cons (s t : Sp) (r : List Sp) (h : ¬ emp s) : normC s (t :: r) = if s.1 = t.1 then mrg s t :: r else s :: t :: r := by
  unfold normC; rw [if_neg h]
theorem normC_snoc (a s : Sp) (r : List Sp) (ha : ¬ emp a) (hs : ¬ emp s) : normC a (snocN r s) = snocN (normC a r) s := by
  match r with
  | [] =>
    rw [snocN_nil s hs, normC_nil a ha, normC_cons _ _ _ ha, snocN_one _ _ hs]
  | [t] =>
    rw [snocN_one _ _ hs, normC_cons _ _ _ ha]
    by_cases h1 : t.1 = s.1
    · rw [if_pos h1]
      have h2 : (mrg t s).1 = t.1 := rfl
      rw [normC_cons _ _ _ ha, h2]
      by_cases h3 : a.1 = t.1
      · rw [if_pos h3, if_pos h3, snocN_one _ _ hs, if_pos (show (mrg a t).1 = s.1 from h3.trans h1), mrg_assoc]
      · rw [if_neg h3, if_neg h3, snocN_two _ _ _ _ hs, snocN_one _ _ hs, if_pos h1]
    · rw [if_neg h1, normC_cons _ _ _ ha]
      by_cases h3 : a.1 = t.1
      · rw [if_pos h3, if_pos h3, snocN_one _ _ hs, if_neg (show ¬ (mrg a t).1 = s.1 from fun e => h1 (h3.symm.trans e))]
      · rw [if_neg h3, if_neg h3, snocN_two _ _ _ _ hs, snocN_one _ _ hs, if_neg h1]
  | t :: u :: r =>
    rw [snocN_two _ _ _ _ hs, normC_cons _ _ _ ha, normC_cons _ _ _ ha]
    by_cases h3 : a.1 = t.1
    · rw [if_pos h3, if_pos h3, snocN_two _ _ _ _ hs]
    · rw [if_neg h3, if_neg h3, snocN_two _ _ _ _ hs, snocN_two _ _ _ _ hs]
theorem norm_snoc (l : List Sp) (s : Sp) : normL (l ++ [s]) = snocN (normL l) s := by
  unfold normL
  rw [List.foldr_append]
  by_cases hs : emp s
  · rw [snocN_emp _ _ hs, List.foldr_cons, normC_emp _ _ hs]; rfl
  · rw [List.foldr_cons, List.foldr_nil, normC_nil s hs]
    induction l with
    | nil => rw [List.foldr_nil, List.foldr_nil, snocN_nil s hs]
    | cons a t ih =>
      rw [List.foldr_cons, List.foldr_cons, ih]
      by_cases ha : emp a
      · rw [normC_emp _ _ ha, normC_emp _ _ ha]
      · exact normC_snoc a s _ ha hs
/-- Whether it is in its shortest form. -/
def isN : List Sp → Prop
  | [] => True
  | [s] => ¬ emp s
  | s :: t :: r => ¬ emp s ∧ s.1 ≠ t.1 ∧ isN (t :: r)
theorem mrg_emp (s t : Sp) (hs : ¬ emp s) (h0 : 0 ≤ s.2.1) (h1 : 0 ≤ t.2.1) : ¬ emp (mrg s t) := by
  intro ⟨h2, h3⟩
  simp only [mrg] at h2 h3
  rw [ba_size] at h3
  exact hs ⟨by omega, by omega⟩
/-- No number is below 0. -/
def pos (l : List Sp) : Prop := ∀ s ∈ l, 0 ≤ s.2.1
theorem normC_pos (s : Sp) (r : List Sp) (h0 : 0 ≤ s.2.1) (hr : pos r) : pos (normC s r) := by
  by_cases hs : emp s
  · rw [normC_emp _ _ hs]; exact hr
  · cases r with
    | nil => rw [normC_nil _ hs]; intro x hx; rw [List.mem_singleton] at hx; subst hx; exact h0
    | cons t r =>
      rw [normC_cons _ _ _ hs]
      split
      · intro x hx
        rcases List.mem_cons.1 hx with rfl | hx
        · have := hr t (by simp); simp only [mrg]; omega
        · exact hr x (by simp [hx])
      · intro x hx
        rcases List.mem_cons.1 hx with rfl | hx
        · exact h0
        · exact hr x hx
theorem normC_is (s : Sp) (r : List Sp) (h0 : 0 ≤ s.2.1) (hr : pos r) (h : isN r) : isN (normC s r) := by
  by_cases hs : emp s
  · rw [normC_emp _ _ hs]; exact h
  · match r, h with
    | [], _ => rw [normC_nil _ hs]; exact hs
    | [t], h =>
      rw [normC_cons _ _ _ hs]
      split
      · exact mrg_emp s t hs h0 (hr t (by simp))
      · rename_i hk; exact ⟨hs, hk, h⟩
    | t :: u :: r, h =>
      rw [normC_cons _ _ _ hs]
      split
      · rename_i hk; exact ⟨mrg_emp s t hs h0 (hr t (by simp)), by show s.1 ≠ u.1; rw [hk]; exact h.2.1, h.2.2⟩
      · rename_i hk; exact ⟨hs, hk, h⟩
theorem norm_pos (l : List Sp) (h : pos l) : pos (normL l) := by
  induction l with
  | nil => exact h
  | cons a t ih => exact normC_pos a _ (h a (by simp)) (ih (fun s hs => h s (by simp [hs])))
theorem norm_is (l : List Sp) (h : pos l) : isN (normL l) := by
  induction l with
  | nil => exact trivial
  | cons a t ih => exact normC_is a _ (h a (by simp)) (norm_pos t (fun s hs => h s (by simp [hs]))) (ih (fun s hs => h s (by simp [hs])))
theorem is_norm (l : List Sp) (h : isN l) : normL l = l := by
  induction l with
  | nil => rfl
  | cons a t ih =>
    cases t with
    | nil => show normC a [] = _; exact normC_nil a h
    | cons b t =>
      show normC a (normL (b :: t)) = _
      rw [ih h.2.2, normC_cons _ _ _ h.1, if_neg h.2.1]
theorem is_iff (l : List Sp) (h : pos l) : isN l ↔ normL l = l := ⟨is_norm l, fun e => by rw [← e]; exact norm_is l h⟩
/-- Two put ahead, one behind the other, or the one they are. -/
theorem normC_two (s t : Sp) (r : List Sp) (hs : ¬ emp s) (ht : ¬ emp t) (hk : s.1 = t.1) (h0 : 0 ≤ s.2.1) (h1 : 0 ≤ t.2.1) : normC (mrg s t) r = normC s (normC t r) := by
  have hm := mrg_emp s t hs h0 h1
  cases r with
  | nil => rw [normC_nil _ hm, normC_nil _ ht, normC_cons _ _ _ hs, if_pos hk]
  | cons u r =>
    rw [normC_cons _ _ _ hm, normC_cons _ _ _ ht]
    by_cases h2 : t.1 = u.1
    · rw [if_pos h2, if_pos (show (mrg s t).1 = u.1 from hk.trans h2), normC_cons _ _ _ hs, if_pos (show s.1 = (mrg t u).1 from hk), mrg_assoc]
    · rw [if_neg h2, if_neg (show ¬ (mrg s t).1 = u.1 from fun e => h2 (hk.symm.trans e)), normC_cons _ _ _ hs, if_pos hk]
theorem foldr_normC (s : Sp) (r b : List Sp) (h0 : 0 ≤ s.2.1) (hr : pos r) (hi : isN r) : (normC s r).foldr normC b = normC s (r.foldr normC b) := by
  by_cases hs : emp s
  · rw [normC_emp _ _ hs, normC_emp _ _ hs]
  · cases r with
    | nil => rw [normC_nil _ hs]; rfl
    | cons t r =>
      have ht : ¬ emp t := by
        cases r with
        | nil => exact hi
        | cons u r => exact hi.1
      rw [normC_cons _ _ _ hs]
      split
      · rename_i hk
        rw [List.foldr_cons, List.foldr_cons, normC_two s t _ hs ht hk h0 (hr t (by simp))]
      · rfl
theorem foldr_norm (l b : List Sp) (h : pos l) : (normL l).foldr normC b = l.foldr normC b := by
  induction l with
  | nil => rfl
  | cons a t ih =>
    have ht : pos t := fun s hs => h s (by simp [hs])
    show (normC a (normL t)).foldr normC b = normC a (t.foldr normC b)
    rw [foldr_normC a _ b (h a (by simp)) (norm_pos t ht) (norm_is t ht), ih ht]
theorem norm_append (a b : List Sp) : normL (a ++ b) = a.foldr normC (normL b) := by unfold normL; rw [List.foldr_append]
/-- The shortest form of two operations, one behind the other. -/
theorem norm_parts (a b : List Sp) (ha : pos a) (hb : pos b) : normL (normL a ++ normL b) = normL (a ++ b) := by
  rw [norm_append, norm_append, is_norm _ (norm_is b hb), foldr_norm a _ ha]
theorem norm_len (l : List Sp) : (normL l).length ≤ l.length := by
  induction l with
  | nil => exact Nat.le_refl _
  | cons a t ih =>
    show (normC a (normL t)).length ≤ _
    by_cases ha : emp a
    · rw [normC_emp _ _ ha, List.length_cons]; omega
    · generalize normL t = r at *
      cases r with
      | nil => rw [normC_nil _ ha]; simp
      | cons u r =>
        rw [normC_cons _ _ _ ha]
        split
        · simp at ih ⊢; omega
        · simp at ih ⊢; omega
end Go.Proofs.YtejgkhmpmnjgaaaDoor
