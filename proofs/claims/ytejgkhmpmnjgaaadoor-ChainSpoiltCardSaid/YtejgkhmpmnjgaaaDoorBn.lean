/- Rows of numbers; the reference that compares two. -/
import Derived.Test.YtejgkhmpmnjgaaaDoorBa
import Derived.Deep.QuietTactic
import Derived.BigQuiet
namespace Go.Proofs.YtejgkhmpmnjgaaaDoor
open Go.RowKit
set_option maxRecDepth 100000
set_option maxHeartbeats 4000000
set_option linter.unusedSimpArgs false
/-- Rows of numbers. -/
def nV (l : List Int) : List Value := l.map (Value.int .i64)
theorem nV_append (a b : List Int) : nV (a ++ b) = nV a ++ nV b := by simp [nV]
theorem nV_one (l : List Int) : ∀ u ∈ nV l, u.oneCell' = true := by
  intro u hu
  unfold nV at hu
  obtain ⟨z, _, rfl⟩ := List.mem_map.1 hu
  rfl
theorem nV_len {w : World} {v : Value} {n : Nat} {l : List Int} (h : Rd w 1 v n (nV l)) : l.length = n := by have := h.1; simpa [nV] using this
theorem int_at {w : World} {A : Option Addr} {n c : Nat} {l : List Int} (h : Rd w 1 (.slice A n c) n (nV l)) {j : Nat} (hj : j < n) (hl : j < l.length) :
    ∃ b off, A = some ⟨b, off, none⟩ ∧ w.cell? ⟨b, off + j, none⟩ = some (.int .i64 l[j]) ∧ b < w.heap.size := by
  obtain ⟨b, off, u, hA, hb, hu, hc⟩ := h.cell hj
  refine ⟨b, off, hA, ?_, hb⟩
  rw [hc, ← hu]
  simp [nV, hl]
/-- Numbers, each so many steps above the one ahead. -/
def atS (zs : List Int) : Nat → Int
  | 0 => -1
  | j + 1 => atS zs j + 1 + zs.getD j 0
def rowS (zs : List Int) (n : Nat) : List Int := (List.range n).map fun i => atS zs (i + 1)
theorem rowS_len (zs : List Int) (n : Nat) : (rowS zs n).length = n := by simp [rowS]
theorem rowS_succ (zs : List Int) (n : Nat) : rowS zs (n + 1) = rowS zs n ++ [atS zs (n + 1)] := by unfold rowS; rw [List.range_succ, List.map_append]; rfl
theorem atS_le (zs : List Int) (h : ∀ z ∈ zs, 0 ≤ z ∧ z ≤ 65535) (j : Nat) : -1 ≤ atS zs j ∧ atS zs j ≤ 65536 * j ∧ atS zs j < atS zs (j + 1) := by
  have hg : ∀ i, 0 ≤ zs.getD i 0 ∧ zs.getD i 0 ≤ 65535 := fun i => by
    rw [List.getD_eq_getElem?_getD]
    cases hi : zs[i]? with
    | none => simp
    | some z => exact h z (List.mem_of_getElem? hi)
  have h2 : -1 ≤ atS zs j ∧ atS zs j ≤ 65536 * j := by
    induction j with
    | zero => exact ⟨Int.le_refl _, by show (-1 : Int) ≤ _; omega⟩
    | succ j ih =>
      have := hg j
      show -1 ≤ atS zs j + 1 + zs.getD j 0 ∧ atS zs j + 1 + zs.getD j 0 ≤ _
      omega
  refine ⟨h2.1, h2.2, ?_⟩
  have := hg j
  show atS zs j < atS zs j + 1 + zs.getD j 0
  omega
theorem box3_made (w : World) (x y z : Value) (T : TypeId) : Rd (w.alloc (.cells #[x, y, z] T)) 1 (.slice (some ⟨w.heap.size, 0, none⟩) 3 3) 3 [x, y, z] := (Own.made w w.heap.size T 1 3 #[x, y, z] (Nat.le_refl _) (by omega) rfl).rd
theorem box3 {w : World} {b : Nat} {x y z : Value} (h : Rd w 1 (.slice (some ⟨b, 0, none⟩) 3 3) 3 [x, y, z]) : w.cell? ⟨b, 0, none⟩ = some x ∧ w.cell? ⟨b, 1, none⟩ = some y ∧ w.cell? ⟨b, 2, none⟩ = some z := by
  refine ⟨?_, ?_, ?_⟩
  · obtain ⟨b', o, u, hA, _, hu, hc⟩ := h.cell (k := 0) (by omega)
    injection hA with hA; injection hA with e1 e2; subst e1; subst e2
    injection hu with hu; subst hu; exact hc
  · obtain ⟨b', o, u, hA, _, hu, hc⟩ := h.cell (k := 1) (by omega)
    injection hA with hA; injection hA with e1 e2; subst e1; subst e2
    injection hu with hu; subst hu; exact hc
  · obtain ⟨b', o, u, hA, _, hu, hc⟩ := h.cell (k := 2) (by omega)
    injection hA with hA; injection hA with e1 e2; subst e1; subst e2
    injection hu with hu; subst hu; exact hc
theorem rdN_made (w : World) (l : List Int) (cur : Array Value) (T : TypeId) {n : Nat} (hc : cur.toList = nV l) (hn : l.length = n) (hb : n ≤ 1000) : Rd (w.alloc (.cells cur T)) 1 (.slice (some ⟨w.heap.size, 0, none⟩) n n) n (nV l) := by
  have hs : cur.size = n * 1 := by rw [← Array.length_toList, hc]; simp [nV, hn]
  have h := (Own.made w w.heap.size T 1 n cur (Nat.le_refl _) (by omega) hs).rd
  rw [hc] at h; exact h
theorem sameRow_c (A : Option Addr) (n c : Nat) (a : List Int) (B : Option Addr) (m d : Nat) (b : List Int) (w : World) (h : Rd w 1 (.slice A n c) n (nV a)) (h' : Rd w 1 (.slice B m d) m (nV b)) (hn : n ≤ 1000000) (hm : m ≤ 1000000) :
    Calls Tryd.prog 17 #[.slice A n c, .slice B m d] w fun e w' => e = .returned (.bool (decide (a = b))) ∧ Ext w w' := by
  have ha := nV_len h
  have hb := nV_len h'
  by_cases hl : n = m
  · subst hl
    have H := Lib.hid h; have H' := Lib.hid h'; have HA := Lib.hid ha; have HB := Lib.hid hb
    clear h h' ha hb
    go_enter Tryd.func17, Tryd.ntmps17
    go_wp2_with fail
    go_loopw [5] (fun z wr => ∃ j : Nat, j ≤ n ∧ z = .int .i64 j ∧ Hid (a.take j = b.take j) ∧ Hid (Ext w wr)) (fun z _ => n - (intOf z).toNat)
    case atStart => exact ⟨0, by omega, rfl, Lib.hid rfl, Lib.hid (Ext.refl _)⟩
    case round =>
      obtain ⟨j, hj, rfl, HE, HX⟩ := hrel
      by_cases hlt : j < n
      · have dn : decide (j < n) = true := by rw [decide_eq_true_eq]; exact hlt
        have hja : j < a.length := by have := HA.out; omega
        have hjb : j < b.length := by have := HB.out; omega
        obtain ⟨b1, o1, rfl, q1, _⟩ := int_at (H.out.ext HX.out) hlt hja
        obtain ⟨b2, o2, rfl, q2, _⟩ := int_at (H'.out.ext HX.out) hlt hjb
        have i0 : (0 : Int) ≤ (j : Int) := by omega
        have i1 : (j : Int) < (n : Int) := by omega
        have HSA : Hid (a[j] = b[j] → a.take (j + 1) = b.take (j + 1)) := Lib.hid fun h => by
          rw [List.take_add_one, List.take_add_one, List.getElem?_eq_getElem hja, List.getElem?_eq_getElem hjb, HE.out, h]
        have HNE : Hid (a[j] ≠ b[j] → decide (a = b) = false) := Lib.hid fun h => by
          rw [decide_eq_false_iff_not]; rintro rfl; exact h rfl
        obtain ⟨x, hx⟩ : ∃ x, a[j] = x := ⟨_, rfl⟩
        obtain ⟨y, hy⟩ : ∃ y, b[j] = y := ⟨_, rfl⟩
        rw [hx] at q1; rw [hy] at q2; rw [hx, hy] at HSA HNE
        clear hx hy
        by_cases hxy : x = y
        · subst hxy
          have HE2 := Lib.hid (HSA.out rfl)
          clear HSA HNE HE
          go_wp2_with fail
          go_quiet (fail)
          go_wp2_with fail
          go_roundw
          case rel => exact ⟨j + 1, by omega, by go_num, HE2, Lib.hid (HX.out.drewN nq)⟩
          case measure => simp [intOf]; omega
        · have HE2 := Lib.hid (HNE.out hxy)
          have t1 : (x != y) = true := by rw [bne_iff_ne]; exact hxy
          have t2 : (x == y) = false := by rw [beq_eq_false_iff_ne]; exact hxy
          clear HSA HNE HE hxy
          go_wp2_with fail
          go_quiet (fail)
          go_wp2_with fail
          go_ret
          rw [HE2.out]
          exact ⟨rfl, HX.out.drewN nq⟩
      · obtain rfl : j = n := by omega
        have dn : decide (j < j) = false := by rw [decide_eq_false_iff_not]; omega
        have HE2 : Hid (decide (a = b) = true) := Lib.hid (by
          rw [decide_eq_true_eq]
          have h := HE.out
          rw [show a.take j = a by rw [← HA.out]; exact List.take_length, show b.take j = b by rw [← HB.out]; exact List.take_length] at h
          exact h)
        clear HE
        go_wp2_with fail
        go_ret
        rw [HE2.out]
        exact ⟨rfl, HX.out⟩
  · have HE2 : Hid (decide (a = b) = false) := Lib.hid (by rw [decide_eq_false_iff_not]; rintro rfl; exact hl (by omega))
    have t1 : ((n : Int) != (m : Int)) = true := by rw [bne_iff_ne]; omega
    have t2 : ((n : Int) == (m : Int)) = false := by rw [beq_eq_false_iff_ne]; omega
    have t3 : (n != m) = true := by rw [bne_iff_ne]; exact hl
    clear h h' ha hb hl
    go_enter Tryd.func17, Tryd.ntmps17
    go_wp2_with fail
    go_ret
    rw [HE2.out]
    exact ⟨rfl, Ext.refl _⟩
theorem sameTrue15 {X Y : List Int} (he : X = Y) (hl : X.length ≤ 1000) {w' : World} {A B : Option Addr} {n c k d : Nat} (hX : Rd w' 1 (.slice A n c) n (nV X)) (hY : Rd w' 1 (.slice B k d) k (nV Y)) :
    Calls Tryd.prog 17 #[.slice A n c, .slice B k d] w' fun e w'' => e = .returned (.bool true) ∧ Ext w' w'' := by
  have h1 := nV_len hX
  have h2 := nV_len hY
  subst he
  have h := sameRow_c A n c X B k d X w' hX hY (by omega) (by omega)
  rw [decide_eq_true rfl] at h
  exact h
end Go.Proofs.YtejgkhmpmnjgaaaDoor
