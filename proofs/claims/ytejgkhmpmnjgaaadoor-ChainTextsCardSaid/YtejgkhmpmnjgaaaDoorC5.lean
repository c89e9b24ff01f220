/- Layer 5, the program's way: without the empty spans; the first run of one kind. Plain lists. -/
import Derived.Test.YtejgkhmpmnjgaaaDoorC4
import Derived.Test.YtejgkhmpmnjgaaaDoorBa
import Derived.Deep.QuietTactic
import Derived.BigQuiet
namespace Go.Proofs.YtejgkhmpmnjgaaaDoor
open Go.RowKit
set_option maxRecDepth 100000
set_option maxHeartbeats 1000000
def sumN (l : List Sp) : Int := (l.map fun s => s.2.1).sum
def sumT (l : List Sp) : Nat := (l.map fun s => s.2.2.size).sum
theorem sumN_normC (s : Sp) (r : List Sp) : sumN (normC s r) = s.2.1 + sumN r := by
  by_cases hs : emp s
  · rw [normC_emp _ _ hs, hs.1]; omega
  · cases r with
    | nil => rw [normC_nil _ hs]; rfl
    | cons t r =>
      rw [normC_cons _ _ _ hs]
      split
      · simp [sumN, mrg]; omega
      · simp [sumN]
theorem sumT_normC (s : Sp) (r : List Sp) : sumT (normC s r) = s.2.2.size + sumT r := by
  by_cases hs : emp s
  · rw [normC_emp _ _ hs, hs.2]; omega
  · cases r with
    | nil => rw [normC_nil _ hs]; rfl
    | cons t r =>
      rw [normC_cons _ _ _ hs]
      split
      · simp only [sumT, mrg, List.map_cons, List.sum_cons, ba_size]; omega
      · simp [sumT]
theorem sumN_norm (l : List Sp) : sumN (normL l) = sumN l := by
  induction l with
  | nil => rfl
  | cons a t ih => show sumN (normC a (normL t)) = _; rw [sumN_normC, ih]; rfl
theorem sumT_norm (l : List Sp) : sumT (normL l) = sumT l := by
  induction l with
  | nil => rfl
  | cons a t ih => show sumT (normC a (normL t)) = _; rw [sumT_normC, ih]; rfl
theorem sumN_append (a b : List Sp) : sumN (a ++ b) = sumN a + sumN b := by simp [sumN]
theorem sumT_append (a b : List Sp) : sumT (a ++ b) = sumT a + sumT b := by simp [sumT]
theorem sumN_pos (l : List Sp) (h : pos l) : 0 ≤ sumN l := by
  induction l with
  | nil => exact Int.le_refl _
  | cons a t ih => have := h a (by simp); have := ih (fun s hs => h s (by simp [hs])); simp [sumN] at *; omega
/-- How far an operation goes that the shortest form is asked of. -/
structure Ok (l : List Sp) : Prop where
  pos : pos l
  n : sumN l ≤ 1000000000
  t : sumT l ≤ 1000000000
theorem Ok.take {l : List Sp} (h : Ok l) (j : Nat) : Ok (l.take j) := by
  have e := List.take_append_drop j l
  have h1 : Go.Proofs.YtejgkhmpmnjgaaaDoor.pos (l.drop j) := fun s hs => h.pos s (List.mem_of_mem_drop hs)
  have h2 : sumN (l.take j) + sumN (l.drop j) = sumN l := by rw [← sumN_append, e]
  have h3 : sumT (l.take j) + sumT (l.drop j) = sumT l := by rw [← sumT_append, e]
  have := sumN_pos _ h1; have := h.n; have := h.t
  exact ⟨fun s hs => h.pos s (List.mem_of_mem_take hs), by omega, by omega⟩
theorem Ok.norm {l : List Sp} (h : Ok l) : Ok (normL l) := ⟨norm_pos l h.pos, by rw [sumN_norm]; exact h.n, by rw [sumT_norm]; exact h.t⟩
theorem norm_snoc_take (l : List Sp) (j : Nat) (h : j < l.length) : normL (l.take (j + 1)) = snocN (normL (l.take j)) l[j] := by
  rw [List.take_add_one, List.getElem?_eq_getElem h]
  exact norm_snoc _ _
theorem norm_take_len (l : List Sp) (j : Nat) : (normL (l.take j)).length ≤ j := by
  have := norm_len (l.take j); rw [List.length_take] at this; omega
theorem norm_ends (xs : List Sp) : xs = [] ∨ ∃ ys t, xs = ys ++ [t] := by
  rcases List.eq_nil_or_concat xs with h | ⟨ys, t, h⟩
  · exact .inl h
  · exact .inr ⟨ys, t, by simpa using h⟩
/-- What the last one, and the next one, come to. -/
theorem ok_step (l : List Sp) (j : Nat) (h : j < l.length) (ho : Ok l) : ∀ ys t, normL (l.take j) = ys ++ [t] → 0 ≤ t.2.1 ∧ 0 ≤ l[j].2.1 ∧ t.2.1 + l[j].2.1 ≤ 1000000000 ∧ t.2.2.size + l[j].2.2.size ≤ 1000000000 := by
  intro ys t e
  have h1 := (ho.take (j + 1))
  have e1 : l.take (j + 1) = l.take j ++ [l[j]] := by rw [List.take_add_one, List.getElem?_eq_getElem h]; rfl
  have n1 : sumN (l.take (j + 1)) = sumN ys + t.2.1 + l[j].2.1 := by
    rw [e1, sumN_append, ← sumN_norm (l.take j), e, sumN_append]; simp [sumN]
  have n2 : sumT (l.take (j + 1)) = sumT ys + t.2.2.size + l[j].2.2.size := by
    rw [e1, sumT_append, ← sumT_norm (l.take j), e, sumT_append]; simp [sumT]
  have hp := (ho.take j).norm.pos
  rw [e] at hp
  have p1 := sumN_pos ys (fun s hs => hp s (by simp [hs]))
  have p2 := hp t (by simp)
  have p3 := ho.pos l[j] (List.getElem_mem h)
  have := h1.n; have := h1.t
  omega
/-- The i-th span is not empty, and of another kind than the one ahead. -/
def good (l : List Sp) (i : Nat) : Prop := (∀ h : i < l.length, ¬ emp l[i]) ∧ ∀ k, i = k + 1 → ∀ (h : k + 1 < l.length), l[k].1 ≠ l[k + 1].1
theorem is_good (l : List Sp) : isN l ↔ ∀ i, i < l.length → good l i := by
  induction l with
  | nil => exact ⟨fun _ i h => by simp at h, fun _ => trivial⟩
  | cons a t ih =>
    cases t with
    | nil =>
      refine ⟨fun h i hi => ?_, fun h => (h 0 (by simp)).1 (by simp)⟩
      obtain rfl : i = 0 := by simpa using hi
      exact ⟨fun _ => h, fun k hk => by omega⟩
    | cons b t =>
      refine ⟨fun ⟨h1, h2, h3⟩ i hi => ?_, fun h => ⟨(h 0 (by simp)).1 (by simp), (h 1 (by simp)).2 0 rfl (by simp), ih.2 (fun i hi => ?_)⟩⟩
      · cases i with
        | zero => exact ⟨fun _ => h1, fun k hk => by omega⟩
        | succ i =>
          have g := ih.1 h3 i (by simpa using hi)
          refine ⟨fun h' => g.1 (by simpa using h'), fun k hk h' => ?_⟩
          cases k with
          | zero => exact h2
          | succ k => exact g.2 k (by omega) (by simpa using h')
      · have g := h (i + 1) (by simpa using hi)
        exact ⟨fun h' => g.1 (by simpa using h'), fun k hk h' => g.2 (k + 1) (by omega) (by simpa using h')⟩
theorem info_sp5 : (Tryd.prog.info? 43).map (fun i => (i.zero, i.size, i.bytes)) = some (some (.agg #[.int .i64 0, .int .i64 0, .string ⟨#[]⟩]), 3, 32) := by kernel_rfl
theorem spCells_set2 (ys : List Sp) (t1 t2 n : Int) (t3 x : ByteArray) (p : Nat) (hp : ys.length = p) :
    ((spCells (ys ++ [(t1, t2, t3)])).set (p * 3 + 1) (.int .i64 n)).set (p * 3 + 2) (.string x) = spCells (ys ++ [(t1, n, x)]) := by
  have hl : (spCells ys).length = p * 3 := by rw [spCells_length, hp]
  rw [spCells_append, spCells_append, List.set_append_right _ _ (by omega), List.set_append_right _ _ (by omega), hl, Nat.add_sub_cancel_left, Nat.add_sub_cancel_left]
  rfl
theorem Own.free {w : World} {B : Nat} {e : TypeId} {size n c g : Nat} {xs : List Value} (h : Own w B e size (.slice (some ⟨g, 0, none⟩) n c) n xs) (j : Nat) : w.frozen? ⟨g, j, none⟩ = false := by
  obtain ⟨⟨h1, h2⟩, h3⟩ := h
  rcases h2 with ⟨h2, _⟩ | ⟨g', cap, cur, hv, hb, hg, hc, hm, hs, ht⟩
  · cases h2
  · injection hv with e1 e2 e3
    injection e1 with e1
    injection e1 with e1
    subst e1
    unfold World.frozen?
    simp only [hg]
    simp
/-- A cell of a slice of one's own is turned. -/
theorem Own.set {w : World} {B : Nat} {e : TypeId} {size n c g : Nat} {xs : List Value} (h : Own w B e size (.slice (some ⟨g, 0, none⟩) n c) n xs) {j : Nat} (_hj : j < n * size) (u : Value) :
    Own (w.setCell ⟨g, j, none⟩ u) B e size (.slice (some ⟨g, 0, none⟩) n c) n (xs.set j u) := by
  obtain ⟨⟨h1, h2⟩, h3⟩ := h
  rcases h2 with ⟨h2, _⟩ | ⟨g', cap, cur, hv, hb, hg, hc, hm, hs, ht⟩
  · cases h2
  · injection hv with e1 e2 e3
    injection e1 with e1
    injection e1 with e1
    subst e1; subst e3
    refine ⟨⟨by rw [List.length_set]; exact h1, .inr ⟨g, c, cur.setIfInBounds j u, rfl, hb, ?_, hc, hm, by rw [Array.size_setIfInBounds]; exact hs, ?_⟩⟩, by simpa using h3⟩
    · exact heap_setCell_same w g j cur e u hg
    · rw [Array.toList_setIfInBounds, List.take_set, ht]
theorem ofR5_c (A : Option Addr) (q c : Nat) (l : List Sp) (w : World) (h : Rd w 3 (.slice A q c) q (spCells l)) (hl : l.length = q) (hq : q ≤ 100000) (ho : Ok l) :
    Calls Tryd.prog 35 #[.slice A q c] w fun e w' => ∃ v, e = .returned v ∧ Ext w w' ∧ Own w' w.heap.size 43 3 v (normL l).length (spCells (normL l)) := by
  obtain ⟨i, hi, hz0, hz1, hz2⟩ := info_parts info_sp5
  have H := Lib.hid h; have HL := Lib.hid hl; have HO := Lib.hid ho
  have hrel0 : Own (w.alloc (.cells #[] 43)) w.heap.size 43 3 (.slice (some ⟨w.heap.size, 0, none⟩) 0 0) 0 (spCells []) ∧ Below w.heap.size w (w.alloc (.cells #[] 43)) :=
    ⟨Own.made w w.heap.size 43 3 0 #[] (Nat.le_refl _) (by omega) rfl, (Below.refl _ _).alloc (Nat.le_refl _) _⟩
  have HR0 := Lib.hid hrel0
  clear h hl ho hrel0
  go_enter Tryd.func35, Tryd.ntmps35
  go_wp2_with fail
  go_loopw [3, 4] (fun o z wr => ∃ j : Nat, j ≤ q ∧ z = .int .i64 j ∧ Own wr w.heap.size 43 3 o (normL (l.take j)).length (spCells (normL (l.take j))) ∧ Below w.heap.size w wr) (fun _ z _ => q - (intOf z).toNat)
  case atStart => exact ⟨0, by omega, rfl, HR0.out.1, HR0.out.2⟩
  case round =>
    obtain ⟨j, hj, rfl, hown, hbel⟩ := hrel
    by_cases hlt : j < q
    · have hjl : j < l.length := by have := HL.out; omega
      obtain ⟨b, off, rfl, hb, q0, q1, q2⟩ := sp_at (H.out.ext hbel) HL.out hlt
      have dn : decide (j < q) = true := by rw [decide_eq_true_eq]; exact hlt
      have i0 : (0 : Int) ≤ (j : Int) := by omega
      have i1 : (j : Int) < (q : Int) := by omega
      have hst := norm_snoc_take l j hjl
      have hlen := norm_take_len l j
      have hok := HO.out.take (j + 1)
      have hokn := (HO.out.take j).norm
      have hsp := ok_step l j hjl HO.out
      obtain ⟨R1, hR1⟩ : ∃ R1, normL (l.take (j + 1)) = R1 := ⟨_, rfl⟩
      rw [hR1] at hst
      have HR1 := Lib.hid hR1
      clear hR1 hok
      obtain ⟨a1, ha1⟩ : ∃ a1, l[j].1 = a1 := ⟨_, rfl⟩
      obtain ⟨a2, ha2⟩ : ∃ a2, l[j].2.1 = a2 := ⟨_, rfl⟩
      obtain ⟨a3, ha3⟩ : ∃ a3, l[j].2.2 = a3 := ⟨_, rfl⟩
      have hlj : l[j] = (a1, a2, a3) := by rw [← ha1, ← ha2, ← ha3]
      rw [hlj] at hst hsp q0 q1 q2
      simp only at q0 q1 q2
      clear hlj ha1 ha2 ha3
      have hbx := hbel.alloc hown.2 (.cells #[.int .i64 a1, .int .i64 a2, .string a3] 43)
      by_cases hemp : emp (a1, a2, a3)
      · rw [snocN_emp _ _ hemp] at hst
        obtain ⟨e1, e2⟩ := hemp
        have e1' : a2 = 0 := e1
        have e2' := ba_empty e2
        simp only at e2'
        subst e1'; subst e2'
        have HST := Lib.hid hst
        have hox := hown.alloc (.cells #[.int .i64 a1, .int .i64 0, .string ⟨#[]⟩] 43)
        clear hst e1 e2
        go_wp2_with fail
        go_roundw
        case rel => exact ⟨j + 1, by omega, by go_num, by rw [HR1.out, HST.out]; exact hox, hbx⟩
        case measure => simp [intOf]; omega
      · have hne : (a2 == 0) = false ∨ ((a2 == 0) = true ∧ a3.toList.isEmpty = false) := by
          by_cases h2 : a2 = 0
          · right
            refine ⟨by rw [beq_iff_eq]; exact h2, ?_⟩
            rw [toList_bs]
            cases hb3 : bs a3 with
            | nil => exact absurd ⟨h2, by rw [← bs_length, hb3]; rfl⟩ hemp
            | cons x y => rfl
          · left; rw [beq_eq_false_iff_ne]; exact h2
        rcases hne with n1 | ⟨n1, n2⟩
        all_goals
          rcases norm_ends (normL (l.take j)) with hxs | hxs
          · generalize normL (l.take j) = xs at *
            obtain rfl : xs = [] := hxs
            have hst2 : R1 = [] ++ [(a1, a2, a3)] := by rw [hst, snocN_nil _ hemp]; rfl
            have HST := Lib.hid hst2
            simp only [List.length_nil] at hown
            have hox := hown.alloc (.cells #[.int .i64 a1, .int .i64 a2, .string a3] 43)
            obtain ⟨ag, cg, rfl, _⟩ := hown.len
            clear hst hst2 hemp hown
            go_wp2_with fail
            go_quiet (fail)
            obtain ⟨v', w', happ, hown', hbel'⟩ := app_new (P := Tryd.prog) 39 39 43 i _ 3 32 Tryd.underlying39 hi hz0 hz1 hz2 rfl (by omega) (by omega)
              (below_drewN hbx nq) (own_drewN hox nq) (by omega) 1 #[.int .i64 a1, .int .i64 a2, .string a3] rfl (by omega) (by simp [Value.oneCell']) 43
            rw [size_drewN, size_alloc] at happ
            have HAP := Lib.hid happ
            have hown2 : Own w' w.heap.size 43 3 v' R1.length (spCells R1) := by rw [HST.out, spCells_append, List.length_append]; exact hown'
            clear happ hown'
            go_wp2_with (at_builtin; refine wpList_append_run rfl rfl HAP.out rfl rfl ?_)
            go_roundw
            case rel => exact ⟨j + 1, by omega, by go_num, by rw [HR1.out]; exact hown2, hbel'⟩
            case measure => simp [intOf]; omega
          · generalize normL (l.take j) = xs at *
            obtain ⟨ys, t, rfl⟩ := hxs
            obtain ⟨t1, t2, t3⟩ := t
            have hst2 := hst
            rw [snocN_last _ _ _ hemp] at hst2
            obtain ⟨g, cg, rfl, hcg, hBg, hgs, hcell⟩ := hown.cells (by simp)
            have hn1 : (ys ++ [(t1, t2, t3)]).length = ys.length + 1 := by simp
            rw [hn1] at hown ⊢
            obtain ⟨p, hp⟩ : ∃ p, ys.length = p := ⟨_, rfl⟩
            rw [hp] at hown ⊢
            have hc0 : (spCells (ys ++ [(t1, t2, t3)]))[p * 3]? = some (.int .i64 t1) ∧ (spCells (ys ++ [(t1, t2, t3)]))[p * 3 + 1]? = some (.int .i64 t2) ∧ (spCells (ys ++ [(t1, t2, t3)]))[p * 3 + 2]? = some (.string t3) := by
              have h := spCells_at (ys ++ [(t1, t2, t3)]) p (by simp; omega)
              have e : (ys ++ [(t1, t2, t3)])[p]'(by simp; omega) = (t1, t2, t3) := by rw [List.getElem_append_right (by omega)]; simp [hp]
              rw [e] at h; exact h
            have x0 := ext_cell ((Ext.refl wr).alloc (.cells #[.int .i64 a1, .int .i64 a2, .string a3] 43)) (hcell _ _ hc0.1)
            have x1 := ext_cell ((Ext.refl wr).alloc (.cells #[.int .i64 a1, .int .i64 a2, .string a3] 43)) (hcell _ _ hc0.2.1)
            have x2 := ext_cell ((Ext.refl wr).alloc (.cells #[.int .i64 a1, .int .i64 a2, .string a3] 43)) (hcell _ _ hc0.2.2)
            have hox := hown.alloc (.cells #[.int .i64 a1, .int .i64 a2, .string a3] 43)
            have p0 : (0 : Int) < ((p + 1 : Nat) : Int) := by omega
            have p1 : ((p + 1 : Nat) : Int) - 1 = (p : Int) := by omega
            have p2 : (0 : Int) ≤ (p : Int) := by omega
            have p3 : (p : Int) < ((p + 1 : Nat) : Int) := by omega
            have hpj : p + 1 ≤ j := by rw [hn1] at hlen; omega
            have p4 : IntKind.i64.wrap (p : Int) = (p : Int) := by rw [IntKind.wrap_i64]; omega
            have p5 : (0 : Int) < (p : Int) + 1 := by omega
            have p6 : (p : Int) < (p : Int) + 1 := by omega
            have HP := Lib.hid hp
            clear hst hp hc0 hn1 hown hcell
            by_cases hk : t1 = a1
            · rw [if_pos hk] at hst2
              subst hk
              have HST := Lib.hid hst2
              clear hst2 hemp
              obtain ⟨s0, s1, s2, s3⟩ := hsp ys (t1, t2, t3) rfl
              simp only at s0 s1 s2 s3
              clear hsp
              go_wp2_with fail
              go_quiet (fail)
              have hx0 : Ext (wr.alloc (.cells #[.int .i64 t1, .int .i64 a2, .string a3] 43)) ((wr.alloc (.cells #[.int .i64 t1, .int .i64 a2, .string a3] 43)).drewN nq) := (Ext.refl _).drewN nq
              have z1 := box_at _ _ _ _ hx0 1 _ rfl
              have z2 := box_at _ _ _ _ hx0 2 _ rfl
              have y1 := ext_cell hx0 x1
              have y2 := ext_cell hx0 x2
              have hbx1 := below_drewN hbx nq
              have hox1 := own_drewN hox nq
              obtain ⟨G, hG⟩ : ∃ G, wr.heap.size = G := ⟨_, rfl⟩
              rw [hG] at z1 z2 hgs ⊢
              generalize (wr.alloc (.cells #[.int .i64 t1, .int .i64 a2, .string a3] 43)).drewN nq = W0 at *
              clear hx0 x0 x1 x2 hbx hox q0 q1 q2 hG hcg
              go_wp2_with fail
              refine region_tail 14 (by kernel_rfl) (by kernel_rfl) ?_
              intro W1 hW1
              simp only [List.take_succ_cons, List.take_zero, List.drop_succ_cons, List.drop_zero]
              have hx01 : Ext W0 W1 := by rw [hW1]; exact (Ext.refl _).drew
              have z1' := ext_cell hx01 z1
              have z2' := ext_cell hx01 z2
              have y1' := ext_cell hx01 y1
              have y2' := ext_cell hx01 y2
              have hox2 := hox1.ext hx01
              have hbx2 : Below w.heap.size w W1 := by rw [hW1]; exact hbx1.drew
              have fz := hox2.free (p * 3 + 1)
              have hws : IntKind.i64.wrap (t2 + a2) = t2 + a2 := by rw [IntKind.wrap_i64]; omega
              clear z1 z2 y1 y2 hbx1 hox1 hW1 hx01
              repeat still_step
              refine wpStill_nil ?_
              go_wp2_with fail
              have hox3 := hox2.set (j := p * 3 + 1) (by omega) (.int .i64 (t2 + a2))
              have hbx3 : Below w.heap.size w (W1.setCell ⟨g, p * 3 + 1, none⟩ (.int .i64 (t2 + a2))) := hbx2.setCell hBg _
              have z3 : (W1.setCell ⟨g, p * 3 + 1, none⟩ (.int .i64 (t2 + a2))).cell? ⟨G, 2, none⟩ = some (.string a3) := by
                exact (World.cell?_setCell_other _ _ _ _ (by intro e; injection e; omega)).trans z2'
              have y3 : (W1.setCell ⟨g, p * 3 + 1, none⟩ (.int .i64 (t2 + a2))).cell? ⟨g, p * 3 + 2, none⟩ = some (.string t3) := by
                exact (World.cell?_setCell_other _ _ _ _ (by intro e; injection e; omega)).trans y2'
              generalize W1.setCell ⟨g, p * 3 + 1, none⟩ (.int .i64 (t2 + a2)) = W2 at *
              clear hox2 hbx2 z1' z2' y1' y2' fz hws
              refine region_tail 14 (by kernel_rfl) (by kernel_rfl) ?_
              intro W3 hW3
              simp only [List.take_succ_cons, List.take_zero, List.drop_succ_cons, List.drop_zero]
              have hx23 : Ext W2 W3 := by rw [hW3]; exact (Ext.refl _).drew
              have z3' := ext_cell hx23 z3
              have y3' := ext_cell hx23 y3
              have hox4 := hox3.ext hx23
              have hbx4 : Below w.heap.size w W3 := by rw [hW3]; exact hbx3.drew
              have fz := hox4.free (p * 3 + 2)
              clear z3 y3 hbx3 hox3 hW3 hx23
              have hcc : ¬ 9223372036854775807 < t3.size + a3.size := by omega
              repeat still_step
              refine wpStill_nil ?_
              go_wp2_with fail
              have hox5 := hox4.set (j := p * 3 + 2) (by omega) (.string (t3 ++ a3))
              have hbx5 : Below w.heap.size w (W3.setCell ⟨g, p * 3 + 2, none⟩ (.string (t3 ++ a3))) := hbx4.setCell hBg _
              rw [spCells_set2 ys t1 t2 (t2 + a2) t3 (t3 ++ a3) p HP.out] at hox5
              have hown2 : Own (W3.setCell ⟨g, p * 3 + 2, none⟩ (.string (t3 ++ a3))) w.heap.size 43 3 (.slice (some ⟨g, 0, none⟩) (p + 1) cg) R1.length (spCells R1) := by
                rw [HST.out, List.length_append, HP.out]; exact hox5
              clear hox5 hox4 hbx4
              go_roundw
              case rel => exact ⟨j + 1, by omega, by go_num, by rw [HR1.out]; exact hown2, hbx5⟩
              case measure => simp [intOf]; omega
            · have hkb : (t1 == a1) = false := by rw [beq_eq_false_iff_ne]; exact hk
              rw [if_neg hk] at hst2
              have hst3 : R1 = (ys ++ [(t1, t2, t3)]) ++ [(a1, a2, a3)] := by rw [hst2, List.append_assoc]; rfl
              have HST := Lib.hid hst3
              have HP1 : Hid ((ys ++ [(t1, t2, t3)]).length = p + 1) := Lib.hid (by simp [HP.out])
              clear hst2 hst3 hemp hk
              go_wp2_with fail
              go_quiet (fail)
              obtain ⟨v', w', happ, hown', hbel'⟩ := app_new (P := Tryd.prog) 39 39 43 i _ 3 32 Tryd.underlying39 hi hz0 hz1 hz2 rfl (by omega) (by omega)
                (below_drewN hbx nq) (own_drewN hox nq) (by omega) 1 #[.int .i64 a1, .int .i64 a2, .string a3] rfl (by omega) (by simp [Value.oneCell']) 43
              rw [size_drewN, size_alloc] at happ
              have HAP := Lib.hid happ
              have hown2 : Own w' w.heap.size 43 3 v' R1.length (spCells R1) := by rw [HST.out, spCells_append, List.length_append, HP1.out]; exact hown'
              clear happ hown'
              go_wp2_with (at_builtin; refine wpList_append_run rfl rfl HAP.out rfl rfl ?_)
              go_roundw
              case rel => exact ⟨j + 1, by omega, by go_num, by rw [HR1.out]; exact hown2, hbel'⟩
              case measure => simp [intOf]; omega
    · obtain rfl : j = q := by omega
      have hall : l.take j = l := by rw [← HL.out]; exact List.take_length
      have dn : decide (j < j) = false := by rw [decide_eq_false_iff_not]; exact hlt
      rw [hall] at hown
      clear hlt hj hall
      go_wp2_with fail
      go_ret
      exact ⟨_, rfl, hbel, hown⟩
theorem isR5_c (A : Option Addr) (q c : Nat) (l : List Sp) (w : World) (h : Rd w 3 (.slice A q c) q (spCells l)) (hl : l.length = q) (hq : q ≤ 100000) :
    Calls Tryd.prog 32 #[.slice A q c] w fun e w' => ∃ b, e = .returned (.bool b) ∧ Ext w w' ∧ (b = true ↔ isN l) := by
  have H := Lib.hid h; have HL := Lib.hid hl
  clear h hl
  go_enter Tryd.func32, Tryd.ntmps32
  go_wp2_with fail
  go_loopw [3] (fun z wr => ∃ j : Nat, j ≤ q ∧ z = .int .i64 j ∧ Ext w wr ∧ ∀ i, i < j → good l i) (fun z _ => q - (intOf z).toNat)
  case atStart => exact ⟨0, by omega, rfl, Ext.refl _, fun i hi => by omega⟩
  case round =>
    obtain ⟨j, hj, rfl, hxr, hgood⟩ := hrel
    have HG := Lib.hid hgood
    clear hgood
    by_cases hlt : j < q
    · have hjl : j < l.length := by have := HL.out; omega
      have HR := Lib.hid (H.out.ext hxr)
      obtain ⟨b, off, rfl, hb, q0, q1, q2⟩ := sp_at HR.out HL.out hlt
      have dn : decide (j < q) = true := by rw [decide_eq_true_eq]; exact hlt
      have i0 : (0 : Int) ≤ (j : Int) := by omega
      have i1 : (j : Int) < (q : Int) := by omega
      obtain ⟨a1, ha1⟩ : ∃ a1, l[j].1 = a1 := ⟨_, rfl⟩
      obtain ⟨a2, ha2⟩ : ∃ a2, l[j].2.1 = a2 := ⟨_, rfl⟩
      obtain ⟨a3, ha3⟩ : ∃ a3, l[j].2.2 = a3 := ⟨_, rfl⟩
      have hlj : l[j] = (a1, a2, a3) := by rw [← ha1, ← ha2, ← ha3]
      rw [hlj] at q0 q1 q2
      simp only at q0 q1 q2
      have HLJ := Lib.hid hlj
      clear hlj ha1 ha2 ha3
      by_cases hemp : emp (a1, a2, a3)
      · have HBAD : Hid (¬ isN l) := Lib.hid (fun h => ((is_good l).1 h j hjl).1 hjl (by rw [HLJ.out]; exact hemp))
        obtain ⟨e1, e2⟩ := hemp
        have e1' : a2 = 0 := e1
        have e2' := ba_empty e2
        simp only at e2'
        subst e1'; subst e2'
        clear e1 e2
        go_wp2_with fail
        go_quiet (fail)
        go_wp2_with fail
        go_ret
        refine ⟨false, rfl, hxr.drewN _, ?_⟩
        exact ⟨fun h => absurd h Bool.false_ne_true, fun h => absurd h HBAD.out⟩
      · have hne : (a2 == 0) = false ∨ ((a2 == 0) = true ∧ a3.toList.isEmpty = false) := by
          by_cases h2 : a2 = 0
          · right
            refine ⟨by rw [beq_iff_eq]; exact h2, ?_⟩
            rw [toList_bs]
            cases hb3 : bs a3 with
            | nil => exact absurd ⟨h2, by rw [← bs_length, hb3]; rfl⟩ hemp
            | cons x y => rfl
          · left; rw [beq_eq_false_iff_ne]; exact h2
        rcases hne with n1 | ⟨n1, n2⟩
        all_goals
          rcases Nat.eq_zero_or_pos j with hj0 | hj0
          · subst hj0
            have HOK : Hid (∀ i, i < 0 + 1 → good l i) := Lib.hid (fun i hi => by
              obtain rfl : i = 0 := by omega
              exact ⟨fun h => by rw [HLJ.out]; exact hemp, fun k hk => by omega⟩)
            clear hemp
            go_wp2_with fail
            go_quiet (fail)
            go_wp2_with fail
            go_roundw
            case rel => exact ⟨0 + 1, by omega, by go_num, hxr.drewN _, HOK.out⟩
            case measure => simp [intOf]; omega
          · obtain ⟨p, rfl⟩ : ∃ p, j = p + 1 := ⟨j - 1, by omega⟩
            have hpl : p < l.length := by omega
            obtain ⟨b', off', hA, _, r0, _, _⟩ := sp_at HR.out HL.out (show p < q by omega)
            injection hA with hA
            injection hA with e1 e2
            subst e1; subst e2
            obtain ⟨k1, hk1⟩ : ∃ k1, l[p].1 = k1 := ⟨_, rfl⟩
            rw [hk1] at r0
            have HK1 := Lib.hid hk1
            have p0 : (0 : Int) < ((p + 1 : Nat) : Int) := by omega
            have p1 : ((p + 1 : Nat) : Int) - 1 = (p : Int) := by omega
            have p2 : (0 : Int) ≤ (p : Int) := by omega
            have p3 : (p : Int) < (q : Int) := by omega
            have p4 : IntKind.i64.wrap (p : Int) = (p : Int) := by rw [IntKind.wrap_i64]; omega
            have p5 : (0 : Int) < (p : Int) + 1 := by omega
            by_cases hk : k1 = a1
            · have HBAD : Hid (¬ isN l) := Lib.hid (fun h => ((is_good l).1 h (p + 1) hjl).2 p rfl hjl (by rw [HK1.out, HLJ.out]; exact hk))
              subst hk
              clear hemp hk1 HK1
              go_wp2_with fail
              go_quiet (fail)
              go_wp2_with fail
              go_ret
              refine ⟨false, rfl, hxr.drewN _, ?_⟩
              exact ⟨fun h => absurd h Bool.false_ne_true, fun h => absurd h HBAD.out⟩
            · have hkb : (k1 == a1) = false := by rw [beq_eq_false_iff_ne]; exact hk
              have HOK : Hid (∀ i, i < p + 1 + 1 → good l i) := Lib.hid (fun i hi => by
                rcases (by omega : i < p + 1 ∨ i = p + 1) with h | rfl
                · exact HG.out i h
                · exact ⟨fun h => by rw [HLJ.out]; exact hemp, fun k hk' _ => by
                    obtain rfl : k = p := by omega
                    rw [HK1.out, HLJ.out]; exact hk⟩)
              clear hemp hk1 hk
              go_wp2_with fail
              go_quiet (fail)
              go_wp2_with fail
              go_roundw
              case rel => exact ⟨p + 1 + 1, by omega, by go_num, hxr.drewN _, HOK.out⟩
              case measure => simp [intOf]; omega
    · obtain rfl : j = q := by omega
      have dn : decide (j < j) = false := by rw [decide_eq_false_iff_not]; exact hlt
      have HIS : Hid (isN l) := Lib.hid ((is_good l).2 (fun i hi => HG.out i (by have := HL.out; omega)))
      clear hlt hj
      go_wp2_with fail
      go_ret
      exact ⟨true, rfl, hxr, fun _ => HIS.out, fun _ => rfl⟩
end Go.Proofs.YtejgkhmpmnjgaaaDoor
namespace Go.Proofs.YtejgkhmpmnjgaaaDoor
open Go.RowKit
set_option maxRecDepth 100000

/-- Without its empty spans. -/
def full (l : List Sp) : List Sp := l.filter fun s => ! decide (emp s)
theorem full_nil : full [] = [] := rfl
theorem full_append (a b : List Sp) : full (a ++ b) = full a ++ full b := by simp [full]
theorem full_one_emp (s : Sp) (h : emp s) : full [s] = [] := by simp [full, h]
theorem full_one (s : Sp) (h : ¬ emp s) : full [s] = [s] := by simp [full, h]
theorem full_len (l : List Sp) : (full l).length ≤ l.length := List.length_filter_le _ _
theorem full_mem {l : List Sp} {s : Sp} (h : s ∈ full l) : s ∈ l ∧ ¬ emp s := by
  have := List.mem_filter.1 h
  exact ⟨this.1, by simpa using this.2⟩
theorem full_self (l : List Sp) (h : ∀ s ∈ l, ¬ emp s) : full l = l := by
  unfold full
  rw [List.filter_eq_self]
  intro s hs
  simp [h s hs]
theorem full_take_emp (l : List Sp) (j : Nat) (h : j < l.length) (he : emp l[j]) : full (l.take (j + 1)) = full (l.take j) := by
  rw [List.take_add_one, List.getElem?_eq_getElem h, Option.toList_some, full_append, full_one_emp _ he, List.append_nil]
theorem full_take (l : List Sp) (j : Nat) (h : j < l.length) (he : ¬ emp l[j]) : full (l.take (j + 1)) = full (l.take j) ++ [l[j]] := by
  rw [List.take_add_one, List.getElem?_eq_getElem h, Option.toList_some, full_append, full_one _ he]
theorem norm_full (l : List Sp) : normL (full l) = normL l := by
  induction l with
  | nil => rfl
  | cons a t ih =>
    have e : full (a :: t) = full [a] ++ full t := full_append [a] t
    by_cases h : emp a
    · rw [e, full_one_emp _ h, List.nil_append, ih]
      show _ = normC a (normL t)
      rw [normC_emp _ _ h]
    · rw [e, full_one _ h]
      show normC a (normL (full t)) = normC a (normL t)
      rw [ih]
theorem Ok.full {l : List Sp} (h : Ok l) : Ok (full l) :=
  ⟨fun s hs => h.pos s (full_mem hs).1, by rw [← sumN_norm, norm_full, sumN_norm]; exact h.n, by rw [← sumT_norm, norm_full, sumT_norm]; exact h.t⟩
theorem Ok.drop {l : List Sp} (h : Ok l) (j : Nat) : Ok (l.drop j) := by
  have e := List.take_append_drop j l
  have h1 : Go.Proofs.YtejgkhmpmnjgaaaDoor.pos (l.take j) := fun s hs => h.pos s (List.mem_of_mem_take hs)
  have h2 : sumN (l.take j) + sumN (l.drop j) = sumN l := by rw [← sumN_append, e]
  have h3 : sumT (l.take j) + sumT (l.drop j) = sumT l := by rw [← sumT_append, e]
  have := sumN_pos _ h1; have := h.n; have := h.t
  exact ⟨fun s hs => h.pos s (List.mem_of_mem_drop hs), by omega, by omega⟩
/-- All texts, one behind the other. -/
def catT (l : List Sp) : ByteArray := l.foldr (fun s r => s.2.2 ++ r) ⟨#[]⟩
theorem catT_append (a b : List Sp) : catT (a ++ b) = catT a ++ catT b := by
  induction a with
  | nil => show catT b = ⟨#[]⟩ ++ catT b; rw [nil_ba]
  | cons s t ih =>
    show s.2.2 ++ catT (t ++ b) = (s.2.2 ++ catT t) ++ catT b
    rw [ih, ba_assoc]
theorem catT_one (s : Sp) : catT [s] = s.2.2 := ba_nil _
theorem catT_size (l : List Sp) : (catT l).size = sumT l := by
  induction l with
  | nil => rfl
  | cons s t ih =>
    show (s.2.2 ++ catT t).size = _
    rw [ba_size, ih]; simp [sumT]
theorem sumN_take (l : List Sp) (j : Nat) (h : j < l.length) : sumN (l.take (j + 1)) = sumN (l.take j) + l[j].2.1 := by
  rw [List.take_add_one, List.getElem?_eq_getElem h, Option.toList_some, sumN_append]; simp [sumN]
theorem catT_take (l : List Sp) (j : Nat) (h : j < l.length) : catT (l.take (j + 1)) = catT (l.take j) ++ l[j].2.2 := by
  rw [List.take_add_one, List.getElem?_eq_getElem h, Option.toList_some, catT_append, catT_one]
theorem norm_head (l : List Sp) (h : ∀ s ∈ l, ¬ emp s) : (l = [] ∧ normL l = []) ∨ ∃ s r t r', l = s :: r ∧ normL l = t :: r' ∧ t.1 = s.1 := by
  cases l with
  | nil => exact .inl ⟨rfl, rfl⟩
  | cons s r =>
    right
    have hs := h s (by simp)
    refine ⟨s, r, ?_⟩
    cases hr : normL r with
    | nil => exact ⟨s, [], rfl, by show normC s (normL r) = _; rw [hr, normC_nil _ hs], rfl⟩
    | cons t r' =>
      by_cases e : s.1 = t.1
      · exact ⟨mrg s t, r', rfl, by show normC s (normL r) = _; rw [hr, normC_cons _ _ _ hs, if_pos e], rfl⟩
      · exact ⟨s, t :: r', rfl, by show normC s (normL r) = _; rw [hr, normC_cons _ _ _ hs, if_neg e], rfl⟩
/-- A run of one kind, and behind it another kind, or nothing. -/
theorem norm_run (k : Int) (r : List Sp) (hr : ∀ s ∈ r, ¬ emp s) (hd : ∀ s t, r = s :: t → s.1 ≠ k) :
    ∀ l : List Sp, l ≠ [] → (∀ s ∈ l, ¬ emp s) → (∀ s ∈ l, s.1 = k) → normL (l ++ r) = (k, sumN l, catT l) :: normL r := by
  intro l
  induction l with
  | nil => intro h; exact absurd rfl h
  | cons s t ih =>
    intro _ h1 h2
    have hs := h1 s (by simp)
    have hk : s.1 = k := h2 s (by simp)
    obtain ⟨s1, s2, s3⟩ := s
    simp only at hk
    subst hk
    show normC _ (normL (t ++ r)) = _
    cases t with
    | nil =>
      have e1 : sumN [(s1, s2, s3)] = s2 := by simp [sumN]
      rw [List.nil_append, e1, catT_one]
      rcases norm_head r hr with ⟨_, h⟩ | ⟨a, b, c, d, ha, hc, hac⟩
      · rw [h, normC_nil _ hs]
      · rw [hc, normC_cons _ _ _ hs, if_neg (fun e => hd a b ha (by rw [← hac]; exact e.symm))]
    | cons u t =>
      rw [ih (by simp) (fun x hx => h1 x (by simp [List.mem_cons.1 hx])) (fun x hx => h2 x (by simp [List.mem_cons.1 hx]))]
      rw [normC_cons _ _ _ hs, if_pos rfl]
      have e1 : sumN ((s1, s2, s3) :: u :: t) = s2 + sumN (u :: t) := by simp [sumN]
      rw [e1]
      rfl
/-- How many spans the first run has. -/
def runOf (l : List Sp) (n : Nat) : Prop := 1 ≤ n ∧ n ≤ l.length ∧ (∀ i (h : i < l.length), i < n → l[i].1 = (l[0]'(by omega)).1) ∧ ∀ h : n < l.length, l[n].1 ≠ (l[0]'(by omega)).1
theorem runOf_norm (l : List Sp) (n : Nat) (h : runOf l n) (hf : ∀ s ∈ l, ¬ emp s) : ∃ k, (∀ s ∈ l.take n, s.1 = k) ∧ normL l = (k, sumN (l.take n), catT (l.take n)) :: normL (l.drop n) := by
  obtain ⟨h1, h2, h3, h4⟩ := h
  have hk : ∀ s ∈ l.take n, s.1 = (l[0]'(by omega)).1 := by
    intro s hs
    obtain ⟨i, hi, rfl⟩ := List.mem_iff_getElem.1 hs
    rw [List.length_take] at hi
    rw [List.getElem_take]
    exact h3 i (by omega) (by omega)
  refine ⟨(l[0]'(by omega)).1, hk, ?_⟩
  have e := norm_run (l[0]'(by omega)).1 (l.drop n) (fun s hs => hf s (List.mem_of_mem_drop hs)) (fun s t hst => ?_) (l.take n) (fun e => ?_) (fun s hs => hf s (List.mem_of_mem_take hs)) hk
  · rw [List.take_append_drop] at e; exact e
  · have hn : n < l.length := by
      rcases Nat.lt_or_ge n l.length with h | h
      · exact h
      · rw [List.drop_eq_nil_of_le h] at hst; cases hst
    rw [List.drop_eq_getElem_cons hn] at hst
    injection hst with e1 e2
    rw [← e1]; exact h4 hn
  · have : (l.take n).length = 0 := by rw [e]; rfl
    rw [List.length_take] at this; omega
end Go.Proofs.YtejgkhmpmnjgaaaDoor
