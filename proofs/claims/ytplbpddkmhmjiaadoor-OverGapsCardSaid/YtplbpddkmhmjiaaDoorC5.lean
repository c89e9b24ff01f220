/- Layer 5, the reference: Of, Is. -/
import Derived.Test.YtplbpddkmhmjiaaDoorMn
import Derived.Test.YtplbpddkmhmjiaaDoorBa
import Derived.Deep.QuietTactic
import Derived.BigQuiet
namespace Go.Proofs.YtplbpddkmhmjiaaDoor
open Go.RowKit
set_option maxRecDepth 100000
set_option maxHeartbeats 1000000
def sumN (l : List Sp) : Int := (l.map fun s => s.2.1).sum
def sumT (l : List Sp) : Nat := (l.map fun s => s.2.2.size).sum
theorem sumN_normC (s : Sp) (r : List Sp) : sumN (normC s r) = s.2.1 + sumN r := by
  by_cases hs : emp s
  · rw [normC_emp _ _ hs, hs.1]; omega
  · cases r with
    | nil => rw [normC_nil _ hs]; rfl
    | cons t r =>
      rw [normC_cons _ _ _ hs]
      split
      · simp [sumN, mrg]; omega
      · simp [sumN]
theorem sumT_normC (s : Sp) (r : List Sp) : sumT (normC s r) = s.2.2.size + sumT r := by
  by_cases hs : emp s
  · rw [normC_emp _ _ hs, hs.2]; omega
  · cases r with
    | nil => rw [normC_nil _ hs]; rfl
    | cons t r =>
      rw [normC_cons _ _ _ hs]
      split
      · simp only [sumT, mrg, List.map_cons, List.sum_cons, ba_size]; omega
      · simp [sumT]
theorem sumN_norm (l : List Sp) : sumN (normL l) = sumN l := by
  induction l with
  | nil => rfl
  | cons a t ih => show sumN (normC a (normL t)) = _; rw [sumN_normC, ih]; rfl
theorem sumT_norm (l : List Sp) : sumT (normL l) = sumT l := by
  induction l with
  | nil => rfl
  | cons a t ih => show sumT (normC a (normL t)) = _; rw [sumT_normC, ih]; rfl
theorem sumN_append (a b : List Sp) : sumN (a ++ b) = sumN a + sumN b := by simp [sumN]
theorem sumT_append (a b : List Sp) : sumT (a ++ b) = sumT a + sumT b := by simp [sumT]
theorem sumN_pos (l : List Sp) (h : pos l) : 0 ≤ sumN l := by
  induction l with
  | nil => exact Int.le_refl _
  | cons a t ih => have := h a (by simp); have := ih (fun s hs => h s (by simp [hs])); simp [sumN] at *; omega
/-- How far an operation goes that the shortest form is asked of. -/
structure Ok (l : List Sp) : Prop where
  pos : pos l
  n : sumN l ≤ 1000000000
  t : sumT l ≤ 1000000000
theorem Ok.take {l : List Sp} (h : Ok l) (j : Nat) : Ok (l.take j) := by
  have e := List.take_append_drop j l
  have h1 : Go.Proofs.YtplbpddkmhmjiaaDoor.pos (l.drop j) := fun s hs => h.pos s (List.mem_of_mem_drop hs)
  have h2 : sumN (l.take j) + sumN (l.drop j) = sumN l := by rw [← sumN_append, e]
  have h3 : sumT (l.take j) + sumT (l.drop j) = sumT l := by rw [← sumT_append, e]
  have := sumN_pos _ h1; have := h.n; have := h.t
  exact ⟨fun s hs => h.pos s (List.mem_of_mem_take hs), by omega, by omega⟩
theorem Ok.norm {l : List Sp} (h : Ok l) : Ok (normL l) := ⟨norm_pos l h.pos, by rw [sumN_norm]; exact h.n, by rw [sumT_norm]; exact h.t⟩
theorem norm_snoc_take (l : List Sp) (j : Nat) (h : j < l.length) : normL (l.take (j + 1)) = snocN (normL (l.take j)) l[j] := by
  rw [List.take_add_one, List.getElem?_eq_getElem h]
  exact norm_snoc _ _
theorem norm_take_len (l : List Sp) (j : Nat) : (normL (l.take j)).length ≤ j := by
  have := norm_len (l.take j); rw [List.length_take] at this; omega
theorem norm_ends (xs : List Sp) : xs = [] ∨ ∃ ys t, xs = ys ++ [t] := by
  rcases List.eq_nil_or_concat xs with h | ⟨ys, t, h⟩
  · exact .inl h
  · exact .inr ⟨ys, t, by simpa using h⟩
/-- What the last one, and the next one, come to. -/
theorem ok_step (l : List Sp) (j : Nat) (h : j < l.length) (ho : Ok l) : ∀ ys t, normL (l.take j) = ys ++ [t] → 0 ≤ t.2.1 ∧ 0 ≤ l[j].2.1 ∧ t.2.1 + l[j].2.1 ≤ 1000000000 ∧ t.2.2.size + l[j].2.2.size ≤ 1000000000 := by
  intro ys t e
  have h1 := (ho.take (j + 1))
  have e1 : l.take (j + 1) = l.take j ++ [l[j]] := by rw [List.take_add_one, List.getElem?_eq_getElem h]; rfl
  have n1 : sumN (l.take (j + 1)) = sumN ys + t.2.1 + l[j].2.1 := by
    rw [e1, sumN_append, ← sumN_norm (l.take j), e, sumN_append]; simp [sumN]
  have n2 : sumT (l.take (j + 1)) = sumT ys + t.2.2.size + l[j].2.2.size := by
    rw [e1, sumT_append, ← sumT_norm (l.take j), e, sumT_append]; simp [sumT]
  have hp := (ho.take j).norm.pos
  rw [e] at hp
  have p1 := sumN_pos ys (fun s hs => hp s (by simp [hs]))
  have p2 := hp t (by simp)
  have p3 := ho.pos l[j] (List.getElem_mem h)
  have := h1.n; have := h1.t
  omega
/-- The i-th span is not empty, and of another kind than the one ahead. -/
def good (l : List Sp) (i : Nat) : Prop := (∀ h : i < l.length, ¬ emp l[i]) ∧ ∀ k, i = k + 1 → ∀ (h : k + 1 < l.length), l[k].1 ≠ l[k + 1].1
theorem is_good (l : List Sp) : isN l ↔ ∀ i, i < l.length → good l i := by
  induction l with
  | nil => exact ⟨fun _ i h => by simp at h, fun _ => trivial⟩
  | cons a t ih =>
    cases t with
    | nil =>
      refine ⟨fun h i hi => ?_, fun h => (h 0 (by simp)).1 (by simp)⟩
      obtain rfl : i = 0 := by simpa using hi
      exact ⟨fun _ => h, fun k hk => by omega⟩
    | cons b t =>
      refine ⟨fun ⟨h1, h2, h3⟩ i hi => ?_, fun h => ⟨(h 0 (by simp)).1 (by simp), (h 1 (by simp)).2 0 rfl (by simp), ih.2 (fun i hi => ?_)⟩⟩
      · cases i with
        | zero => exact ⟨fun _ => h1, fun k hk => by omega⟩
        | succ i =>
          have g := ih.1 h3 i (by simpa using hi)
          refine ⟨fun h' => g.1 (by simpa using h'), fun k hk h' => ?_⟩
          cases k with
          | zero => exact h2
          | succ k => exact g.2 k (by omega) (by simpa using h')
      · have g := h (i + 1) (by simpa using hi)
        exact ⟨fun h' => g.1 (by simpa using h'), fun k hk h' => g.2 (k + 1) (by omega) (by simpa using h')⟩
theorem info_sp5 : (Tryd.prog.info? 49).map (fun i => (i.zero, i.size, i.bytes)) = some (some (.agg #[.int .i64 0, .int .i64 0, .string ⟨#[]⟩]), 3, 32) := by kernel_rfl
theorem spCells_set2 (ys : List Sp) (t1 t2 n : Int) (t3 x : ByteArray) (p : Nat) (hp : ys.length = p) :
    ((spCells (ys ++ [(t1, t2, t3)])).set (p * 3 + 1) (.int .i64 n)).set (p * 3 + 2) (.string x) = spCells (ys ++ [(t1, n, x)]) := by
  have hl : (spCells ys).length = p * 3 := by rw [spCells_length, hp]
  rw [spCells_append, spCells_append, List.set_append_right _ _ (by omega), List.set_append_right _ _ (by omega), hl, Nat.add_sub_cancel_left, Nat.add_sub_cancel_left]
  rfl
theorem Own.free {w : World} {B : Nat} {e : TypeId} {size n c g : Nat} {xs : List Value} (h : Own w B e size (.slice (some ⟨g, 0, none⟩) n c) n xs) (j : Nat) : w.frozen? ⟨g, j, none⟩ = false := by
  obtain ⟨⟨h1, h2⟩, h3⟩ := h
  rcases h2 with ⟨h2, _⟩ | ⟨g', cap, cur, hv, hb, hg, hc, hm, hs, ht⟩
  · cases h2
  · injection hv with e1 e2 e3
    injection e1 with e1
    injection e1 with e1
    subst e1
    unfold World.frozen?
    simp only [hg]
    simp
/-- A cell of a slice of one's own is turned. -/
theorem Own.set {w : World} {B : Nat} {e : TypeId} {size n c g : Nat} {xs : List Value} (h : Own w B e size (.slice (some ⟨g, 0, none⟩) n c) n xs) {j : Nat} (_hj : j < n * size) (u : Value) :
    Own (w.setCell ⟨g, j, none⟩ u) B e size (.slice (some ⟨g, 0, none⟩) n c) n (xs.set j u) := by
  obtain ⟨⟨h1, h2⟩, h3⟩ := h
  rcases h2 with ⟨h2, _⟩ | ⟨g', cap, cur, hv, hb, hg, hc, hm, hs, ht⟩
  · cases h2
  · injection hv with e1 e2 e3
    injection e1 with e1
    injection e1 with e1
    subst e1; subst e3
    refine ⟨⟨by rw [List.length_set]; exact h1, .inr ⟨g, c, cur.setIfInBounds j u, rfl, hb, ?_, hc, hm, by rw [Array.size_setIfInBounds]; exact hs, ?_⟩⟩, by simpa using h3⟩
    · exact heap_setCell_same w g j cur e u hg
    · rw [Array.toList_setIfInBounds, List.take_set, ht]
theorem ofR5_c (A : Option Addr) (q c : Nat) (l : List Sp) (w : World) (h : Rd w 3 (.slice A q c) q (spCells l)) (hl : l.length = q) (hq : q ≤ 100000) (ho : Ok l) :
    Calls Tryd.prog 35 #[.slice A q c] w fun e w' => ∃ v, e = .returned v ∧ Ext w w' ∧ Own w' w.heap.size 49 3 v (normL l).length (spCells (normL l)) := by
  obtain ⟨i, hi, hz0, hz1, hz2⟩ := info_parts info_sp5
  have H := Lib.hid h; have HL := Lib.hid hl; have HO := Lib.hid ho
  have hrel0 : Own (w.alloc (.cells #[] 49)) w.heap.size 49 3 (.slice (some ⟨w.heap.size, 0, none⟩) 0 0) 0 (spCells []) ∧ Below w.heap.size w (w.alloc (.cells #[] 49)) :=
    ⟨Own.made w w.heap.size 49 3 0 #[] (Nat.le_refl _) (by omega) rfl, (Below.refl _ _).alloc (Nat.le_refl _) _⟩
  have HR0 := Lib.hid hrel0
  clear h hl ho hrel0
  go_enter Tryd.func35, Tryd.ntmps35
  go_wp2_with fail
  go_loopw [3, 4] (fun o z wr => ∃ j : Nat, j ≤ q ∧ z = .int .i64 j ∧ Own wr w.heap.size 49 3 o (normL (l.take j)).length (spCells (normL (l.take j))) ∧ Below w.heap.size w wr) (fun _ z _ => q - (intOf z).toNat)
  case atStart => exact ⟨0, by omega, rfl, HR0.out.1, HR0.out.2⟩
  case round =>
    obtain ⟨j, hj, rfl, hown, hbel⟩ := hrel
    by_cases hlt : j < q
    · have hjl : j < l.length := by have := HL.out; omega
      obtain ⟨b, off, rfl, hb, q0, q1, q2⟩ := sp_at (H.out.ext hbel) HL.out hlt
      have dn : decide (j < q) = true := by rw [decide_eq_true_eq]; exact hlt
      have i0 : (0 : Int) ≤ (j : Int) := by omega
      have i1 : (j : Int) < (q : Int) := by omega
      have hst := norm_snoc_take l j hjl
      have hlen := norm_take_len l j
      have hok := HO.out.take (j + 1)
      have hokn := (HO.out.take j).norm
      have hsp := ok_step l j hjl HO.out
      obtain ⟨R1, hR1⟩ : ∃ R1, normL (l.take (j + 1)) = R1 := ⟨_, rfl⟩
      rw [hR1] at hst
      have HR1 := Lib.hid hR1
      clear hR1 hok
      obtain ⟨a1, ha1⟩ : ∃ a1, l[j].1 = a1 := ⟨_, rfl⟩
      obtain ⟨a2, ha2⟩ : ∃ a2, l[j].2.1 = a2 := ⟨_, rfl⟩
      obtain ⟨a3, ha3⟩ : ∃ a3, l[j].2.2 = a3 := ⟨_, rfl⟩
      have hlj : l[j] = (a1, a2, a3) := by rw [← ha1, ← ha2, ← ha3]
      rw [hlj] at hst hsp q0 q1 q2
      simp only at q0 q1 q2
      clear hlj ha1 ha2 ha3
      have hbx := hbel.alloc hown.2 (.cells #[.int .i64 a1, .int .i64 a2, .string a3] 49)
      by_cases hemp : emp (a1, a2, a3)
      · rw [snocN_emp _ _ hemp] at hst
        obtain ⟨e1, e2⟩ := hemp
        have e1' : a2 = 0 := e1
        have e2' := ba_empty e2
        simp only at e2'
        subst e1'; subst e2'
        have HST := Lib.hid hst
        have hox := hown.alloc (.cells #[.int .i64 a1, .int .i64 0, .string ⟨#[]⟩] 49)
        clear hst e1 e2
        go_wp2_with fail
        go_roundw
        case rel => exact ⟨j + 1, by omega, by go_num, by rw [HR1.out, HST.out]; exact hox, hbx⟩
        case measure => simp [intOf]; omega
      · have hne : (a2 == 0) = false ∨ ((a2 == 0) = true ∧ a3.toList.isEmpty = false) := by
          by_cases h2 : a2 = 0
          · right
            refine ⟨by rw [beq_iff_eq]; exact h2, ?_⟩
            rw [toList_bs]
            cases hb3 : bs a3 with
            | nil => exact absurd ⟨h2, by rw [← bs_length, hb3]; rfl⟩ hemp
            | cons x y => rfl
          · left; rw [beq_eq_false_iff_ne]; exact h2
        rcases hne with n1 | ⟨n1, n2⟩
        all_goals
          rcases norm_ends (normL (l.take j)) with hxs | hxs
          · generalize normL (l.take j) = xs at *
            obtain rfl : xs = [] := hxs
            have hst2 : R1 = [] ++ [(a1, a2, a3)] := by rw [hst, snocN_nil _ hemp]; rfl
            have HST := Lib.hid hst2
            simp only [List.length_nil] at hown
            have hox := hown.alloc (.cells #[.int .i64 a1, .int .i64 a2, .string a3] 49)
            obtain ⟨ag, cg, rfl, _⟩ := hown.len
            clear hst hst2 hemp hown
            go_wp2_with fail
            go_quiet (fail)
            obtain ⟨v', w', happ, hown', hbel'⟩ := app_new (P := Tryd.prog) 22 22 49 i _ 3 32 Tryd.underlying22 hi hz0 hz1 hz2 rfl (by omega) (by omega)
              (below_drewN hbx nq) (own_drewN hox nq) (by omega) 1 #[.int .i64 a1, .int .i64 a2, .string a3] rfl (by omega) (by simp [Value.oneCell']) 49
            rw [size_drewN, size_alloc] at happ
            have HAP := Lib.hid happ
            have hown2 : Own w' w.heap.size 49 3 v' R1.length (spCells R1) := by rw [HST.out, spCells_append, List.length_append]; exact hown'
            clear happ hown'
            go_wp2_with (at_builtin; refine wpList_append_run rfl rfl HAP.out rfl rfl ?_)
            go_roundw
            case rel => exact ⟨j + 1, by omega, by go_num, by rw [HR1.out]; exact hown2, hbel'⟩
            case measure => simp [intOf]; omega
          · generalize normL (l.take j) = xs at *
            obtain ⟨ys, t, rfl⟩ := hxs
            obtain ⟨t1, t2, t3⟩ := t
            have hst2 := hst
            rw [snocN_last _ _ _ hemp] at hst2
            obtain ⟨g, cg, rfl, hcg, hBg, hgs, hcell⟩ := hown.cells (by simp)
            have hn1 : (ys ++ [(t1, t2, t3)]).length = ys.length + 1 := by simp
            rw [hn1] at hown ⊢
            obtain ⟨p, hp⟩ : ∃ p, ys.length = p := ⟨_, rfl⟩
            rw [hp] at hown ⊢
            have hc0 : (spCells (ys ++ [(t1, t2, t3)]))[p * 3]? = some (.int .i64 t1) ∧ (spCells (ys ++ [(t1, t2, t3)]))[p * 3 + 1]? = some (.int .i64 t2) ∧ (spCells (ys ++ [(t1, t2, t3)]))[p * 3 + 2]? = some (.string t3) := by
              have h := spCells_at (ys ++ [(t1, t2, t3)]) p (by simp; omega)
              have e : (ys ++ [(t1, t2, t3)])[p]'(by simp; omega) = (t1, t2, t3) := by rw [List.getElem_append_right (by omega)]; simp [hp]
              rw [e] at h; exact h
            have x0 := ext_cell ((Ext.refl wr).alloc (.cells #[.int .i64 a1, .int .i64 a2, .string a3] 49)) (hcell _ _ hc0.1)
            have x1 := ext_cell ((Ext.refl wr).alloc (.cells #[.int .i64 a1, .int .i64 a2, .string a3] 49)) (hcell _ _ hc0.2.1)
            have x2 := ext_cell ((Ext.refl wr).alloc (.cells #[.int .i64 a1, .int .i64 a2, .string a3] 49)) (hcell _ _ hc0.2.2)
            have hox := hown.alloc (.cells #[.int .i64 a1, .int .i64 a2, .string a3] 49)
            have p0 : (0 : Int) < ((p + 1 : Nat) : Int) := by omega
            have p1 : ((p + 1 : Nat) : Int) - 1 = (p : Int) := by omega
            have p2 : (0 : Int) ≤ (p : Int) := by omega
            have p3 : (p : Int) < ((p + 1 : Nat) : Int) := by omega
            have hpj : p + 1 ≤ j := by rw [hn1] at hlen; omega
            have p4 : IntKind.i64.wrap (p : Int) = (p : Int) := by rw [IntKind.wrap_i64]; omega
            have p5 : (0 : Int) < (p : Int) + 1 := by omega
            have p6 : (p : Int) < (p : Int) + 1 := by omega
            have HP := Lib.hid hp
            clear hst hp hc0 hn1 hown hcell
            by_cases hk : t1 = a1
            · rw [if_pos hk] at hst2
              subst hk
              have HST := Lib.hid hst2
              clear hst2 hemp
              obtain ⟨s0, s1, s2, s3⟩ := hsp ys (t1, t2, t3) rfl
              simp only at s0 s1 s2 s3
              clear hsp
              go_wp2_with fail
              go_quiet (fail)
              have hx0 : Ext (wr.alloc (.cells #[.int .i64 t1, .int .i64 a2, .string a3] 49)) ((wr.alloc (.cells #[.int .i64 t1, .int .i64 a2, .string a3] 49)).drewN nq) := (Ext.refl _).drewN nq
              have z1 := box_at _ _ _ _ hx0 1 _ rfl
              have z2 := box_at _ _ _ _ hx0 2 _ rfl
              have y1 := ext_cell hx0 x1
              have y2 := ext_cell hx0 x2
              have hbx1 := below_drewN hbx nq
              have hox1 := own_drewN hox nq
              obtain ⟨G, hG⟩ : ∃ G, wr.heap.size = G := ⟨_, rfl⟩
              rw [hG] at z1 z2 hgs ⊢
              generalize (wr.alloc (.cells #[.int .i64 t1, .int .i64 a2, .string a3] 49)).drewN nq = W0 at *
              clear hx0 x0 x1 x2 hbx hox q0 q1 q2 hG hcg
              go_wp2_with fail
              refine region_tail 14 (by kernel_rfl) (by kernel_rfl) ?_
              intro W1 hW1
              simp only [List.take_succ_cons, List.take_zero, List.drop_succ_cons, List.drop_zero]
              have hx01 : Ext W0 W1 := by rw [hW1]; exact (Ext.refl _).drew
              have z1' := ext_cell hx01 z1
              have z2' := ext_cell hx01 z2
              have y1' := ext_cell hx01 y1
              have y2' := ext_cell hx01 y2
              have hox2 := hox1.ext hx01
              have hbx2 : Below w.heap.size w W1 := by rw [hW1]; exact hbx1.drew
              have fz := hox2.free (p * 3 + 1)
              have hws : IntKind.i64.wrap (t2 + a2) = t2 + a2 := by rw [IntKind.wrap_i64]; omega
              clear z1 z2 y1 y2 hbx1 hox1 hW1 hx01
              repeat still_step
              refine wpStill_nil ?_
              go_wp2_with fail
              have hox3 := hox2.set (j := p * 3 + 1) (by omega) (.int .i64 (t2 + a2))
              have hbx3 : Below w.heap.size w (W1.setCell ⟨g, p * 3 + 1, none⟩ (.int .i64 (t2 + a2))) := hbx2.setCell hBg _
              have z3 : (W1.setCell ⟨g, p * 3 + 1, none⟩ (.int .i64 (t2 + a2))).cell? ⟨G, 2, none⟩ = some (.string a3) := by
                exact (World.cell?_setCell_other _ _ _ _ (by intro e; injection e; omega)).trans z2'
              have y3 : (W1.setCell ⟨g, p * 3 + 1, none⟩ (.int .i64 (t2 + a2))).cell? ⟨g, p * 3 + 2, none⟩ = some (.string t3) := by
                exact (World.cell?_setCell_other _ _ _ _ (by intro e; injection e; omega)).trans y2'
              generalize W1.setCell ⟨g, p * 3 + 1, none⟩ (.int .i64 (t2 + a2)) = W2 at *
              clear hox2 hbx2 z1' z2' y1' y2' fz hws
              refine region_tail 14 (by kernel_rfl) (by kernel_rfl) ?_
              intro W3 hW3
              simp only [List.take_succ_cons, List.take_zero, List.drop_succ_cons, List.drop_zero]
              have hx23 : Ext W2 W3 := by rw [hW3]; exact (Ext.refl _).drew
              have z3' := ext_cell hx23 z3
              have y3' := ext_cell hx23 y3
              have hox4 := hox3.ext hx23
              have hbx4 : Below w.heap.size w W3 := by rw [hW3]; exact hbx3.drew
              have fz := hox4.free (p * 3 + 2)
              clear z3 y3 hbx3 hox3 hW3 hx23
              have hcc : ¬ 9223372036854775807 < t3.size + a3.size := by omega
              repeat still_step
              refine wpStill_nil ?_
              go_wp2_with fail
              have hox5 := hox4.set (j := p * 3 + 2) (by omega) (.string (t3 ++ a3))
              have hbx5 : Below w.heap.size w (W3.setCell ⟨g, p * 3 + 2, none⟩ (.string (t3 ++ a3))) := hbx4.setCell hBg _
              rw [spCells_set2 ys t1 t2 (t2 + a2) t3 (t3 ++ a3) p HP.out] at hox5
              have hown2 : Own (W3.setCell ⟨g, p * 3 + 2, none⟩ (.string (t3 ++ a3))) w.heap.size 49 3 (.slice (some ⟨g, 0, none⟩) (p + 1) cg) R1.length (spCells R1) := by
                rw [HST.out, List.length_append, HP.out]; exact hox5
              clear hox5 hox4 hbx4
              go_roundw
              case rel => exact ⟨j + 1, by omega, by go_num, by rw [HR1.out]; exact hown2, hbx5⟩
              case measure => simp [intOf]; omega
            · have hkb : (t1 == a1) = false := by rw [beq_eq_false_iff_ne]; exact hk
              rw [if_neg hk] at hst2
              have hst3 : R1 = (ys ++ [(t1, t2, t3)]) ++ [(a1, a2, a3)] := by rw [hst2, List.append_assoc]; rfl
              have HST := Lib.hid hst3
              have HP1 : Hid ((ys ++ [(t1, t2, t3)]).length = p + 1) := Lib.hid (by simp [HP.out])
              clear hst2 hst3 hemp hk
              go_wp2_with fail
              go_quiet (fail)
              obtain ⟨v', w', happ, hown', hbel'⟩ := app_new (P := Tryd.prog) 22 22 49 i _ 3 32 Tryd.underlying22 hi hz0 hz1 hz2 rfl (by omega) (by omega)
                (below_drewN hbx nq) (own_drewN hox nq) (by omega) 1 #[.int .i64 a1, .int .i64 a2, .string a3] rfl (by omega) (by simp [Value.oneCell']) 49
              rw [size_drewN, size_alloc] at happ
              have HAP := Lib.hid happ
              have hown2 : Own w' w.heap.size 49 3 v' R1.length (spCells R1) := by rw [HST.out, spCells_append, List.length_append, HP1.out]; exact hown'
              clear happ hown'
              go_wp2_with (at_builtin; refine wpList_append_run rfl rfl HAP.out rfl rfl ?_)
              go_roundw
              case rel => exact ⟨j + 1, by omega, by go_num, by rw [HR1.out]; exact hown2, hbel'⟩
              case measure => simp [intOf]; omega
    · obtain rfl : j = q := by omega
      have hall : l.take j = l := by rw [← HL.out]; exact List.take_length
      have dn : decide (j < j) = false := by rw [decide_eq_false_iff_not]; exact hlt
      rw [hall] at hown
      clear hlt hj hall
      go_wp2_with fail
      go_ret
      exact ⟨_, rfl, hbel, hown⟩
end Go.Proofs.YtplbpddkmhmjiaaDoor
