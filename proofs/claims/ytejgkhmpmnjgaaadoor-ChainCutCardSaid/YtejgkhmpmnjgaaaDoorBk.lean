/- A strings.Builder anywhere in a block of cells: String. -/
import Derived.Test.YtejgkhmpmnjgaaaDoorC5
import Derived.Laws.IdiomCopy
import Derived.Laws.MakeOwn
import Derived.Deep.MidRow
import Derived.Lib.Builder
import Derived.Test.YtejgkhmpmnjgaaaDoorShelf
import Derived.Lib.AppendStr
import Derived.Lib.UnsafeStr
namespace Go.Proofs.YtejgkhmpmnjgaaaDoor
open Go.RowKit
set_option maxRecDepth 100000

theorem below_setCells5 {B : Nat} {a : World} (g : Nat) (hB : B ≤ g) : ∀ (vs : List Value) (o : Nat) (w : World), Below B a w → Below B a (w.setCells g o vs)
  | [], _, _, h => h
  | v :: r, o, _, h => below_setCells5 g hB r (o + 1) _ (h.setCell (p := ⟨g, o, none⟩) hB v)
/-- Some cells of a slice of one's own are turned. -/
theorem Own.setCells {B : Nat} {e : TypeId} {size n c g : Nat} : ∀ (vs : List Value) (o : Nat) (w : World) (xs : List Value), Own w B e size (.slice (some ⟨g, 0, none⟩) n c) n xs → o + vs.length ≤ n * size →
    Own (w.setCells g o vs) B e size (.slice (some ⟨g, 0, none⟩) n c) n (xs.take o ++ vs ++ xs.drop (o + vs.length))
  | [], _, _, _, h, _ => by simpa [World.setCells] using h
  | v :: r, o, w, xs, h, hl => by
    have hx := h.1.1
    rw [List.length_cons] at hl
    have ih := Own.setCells r (o + 1) _ _ (h.set (j := o) (by omega) v) (by omega)
    have e1 := list_seg_step xs o v r (by omega)
    rw [World.setCells, List.length_cons]
    rw [e1] at ih
    exact ih
theorem Own.there {w : World} {B : Nat} {e : TypeId} {size n c g : Nat} {xs : List Value} (h : Own w B e size (.slice (some ⟨g, 0, none⟩) n c) n xs) (o m : Nat) (hm : o + m ≤ n * size) : w.there g o m := by
  intro j hj
  refine ⟨?_, h.free (o + j)⟩
  have hl := h.1.1
  by_cases hn : 0 < n
  · obtain ⟨g', c', hv, _, _, _, hcell⟩ := h.cells hn
    injection hv with e1 e2 e3
    injection e1 with e1
    injection e1 with e1
    subst e1
    have hlt : o + j < xs.length := by omega
    rw [hcell (o + j) _ (List.getElem?_eq_getElem hlt)]; rfl
  · have h0 : n = 0 := by omega
    subst h0
    omega
/-- A beginning of a slice of one's own. -/
theorem Own.front {w : World} {B : Nat} {e : TypeId} {size n c g m : Nat} {xs : List Value} (h : Own w B e size (.slice (some ⟨g, 0, none⟩) n c) n xs) (hm : m ≤ n) : Own w B e size (.slice (some ⟨g, 0, none⟩) m c) m (xs.take (m * size)) := by
  obtain ⟨⟨h1, h2⟩, h3⟩ := h
  have hms : m * size ≤ n * size := Nat.mul_le_mul_right _ hm
  rcases h2 with ⟨h2, _⟩ | ⟨g', cap, cur, hv, hb, hg, hc, hm', hs, ht⟩
  · cases h2
  · injection hv with e1 e2 e3
    injection e1 with e1
    injection e1 with e1
    subst e1; subst e3
    refine ⟨⟨by rw [List.length_take]; omega, .inr ⟨g, c, cur, rfl, hb, hg, by omega, hm', hs, ?_⟩⟩, h3⟩
    rw [← ht, List.take_take, Nat.min_eq_left hms]
/-- copy, of elements of several cells. -/
theorem run_copy_k {P : Program} (w : World) (dT sT ty elem : TypeId) (k b dLen dCap : Nat) (A : Option Addr) (sLen sCap : Nat) (cs : List Value)
    (hu : P.underlying dT = some (.slice elem)) (hs : (P.info? elem).map (·.size) = some k) (hd : dLen = sLen) (hr : Rd w k (.slice A sLen sCap) sLen cs)
    (ht : w.there b 0 cs.length) (h1 : ∀ v ∈ cs, v.oneCell' = true) :
    (Builtin.copy_ #[dT, sT] ty #[.slice (some ⟨b, 0, none⟩) dLen dCap, .slice A sLen sCap]).run P w = .ok (goInt (sLen : Int)) (w.setCells b 0 cs) := by
  subst hd
  obtain ⟨hl, A', c', hv, hc, hcell⟩ := hr
  injection hv with e1 e2 e3
  subst e1; subst e3
  have hst := run_storeCells_cells (P := P) b 0 cs 0 w (fun j hj => by have := (ht j (by simpa using hj)).1; simpa using this) (fun j hj => by have := (ht j (by simpa using hj)).2; simpa using this) h1
  cases hq : P.info? elem with
  | none => simp [hq] at hs
  | some i =>
    have hi : i.size = k := by simpa [hq] using hs
    have hm : Nat.min dLen dLen = dLen := Nat.min_self _
    by_cases h0 : 0 < dLen
    · obtain ⟨b', off, hA, hb, hx⟩ := hcell h0
      subst hA
      have hlo := run_loadCells_list (P := P) w ⟨b', off, none⟩ cs (fun j v hv => by
        have : (⟨b', off, none⟩ : Addr).add j = ⟨b', off + j, none⟩ := by unfold Addr.add; split <;> simp_all
        rw [this]; exact hx j v hv)
      rw [hl] at hlo
      simp [Builtin.copy_, run_underlying hu, Builtin.lenOf, Builtin.firstCells, sizeOf, typeInfo, hq, hi, hm, hlo, hst]
    · have h0' : dLen = 0 := by omega
      subst h0'
      have hcs : cs = [] := List.eq_nil_of_length_eq_zero (by simpa using hl)
      subst hcs
      have hl0 : ∀ (x : Addr), (loadCells x 0).run P w = .ok #[] w := fun x => by simpa using run_loadCells_list (P := P) w x [] (by simp)
      cases A <;> simp [Builtin.copy_, run_underlying hu, Builtin.lenOf, Builtin.firstCells, sizeOf, typeInfo, hq, storeCells, hl0, World.setCells]
/-- clear, of elements of several cells. -/
theorem run_clear_k {P : Program} (w : World) (t e ty : TypeId) (z : Value) (k : Nat) (ht : P.underlying t = some (.slice e)) (hv : ∀ w, (zeroValue e).run P w = .ok z w) (hz : z.cells.size = k) (h1 : ∀ u ∈ z.cells.toList, u.oneCell' = true) (hk : 0 < k)
    (b o n c : Nat) (hth : w.there b o (n * k)) :
    ∃ vs, vs.length = n * k ∧ (Builtin.clear_ #[t] ty #[.slice (some ⟨b, o, none⟩) n c]).run P w = .ok (.tuple #[]) (w.setCells b o vs) := by
  refine ⟨(Builtin.zeroCells z.cells n).toList, by simp [Builtin.zeroCells, hz], ?_⟩
  have hlen : (Builtin.zeroCells z.cells n).toList.length = n * k := by simp [Builtin.zeroCells, hz]
  have hone : ∀ v ∈ (Builtin.zeroCells z.cells n).toList, v.oneCell' = true := by
    intro v hv'
    simp only [Builtin.zeroCells, Array.toList_map, List.mem_map] at hv'
    obtain ⟨i, _, rfl⟩ := hv'
    have hlt : i % z.cells.size < z.cells.size := Nat.mod_lt _ (by omega)
    rw [getElem!_pos z.cells (i % z.cells.size) hlt]
    exact h1 _ (by simp)
  have hst := run_storeCells_cells (P := P) b o (Builtin.zeroCells z.cells n).toList 0 w (fun j hj => by have := (hth j (by omega)).1; simpa using this) (fun j hj => by have := (hth j (by omega)).2; simpa using this) hone
  simp only [Nat.add_zero] at hst
  cases n with
  | zero => 
    have e0 : (Builtin.zeroCells z.cells 0).toList = [] := List.eq_nil_of_length_eq_zero (by rw [hlen]; omega)
    rw [e0]
    simp [Builtin.clear_, run_underlying ht, World.setCells]
  | succ n => simp [Builtin.clear_, run_underlying ht, hv, hst]
/-- A row of the call's own in another world that has its blocks as they were. -/
theorem ownsRow_kept {w w' : World} {B : Nat} {e : TypeId} {size : Nat} {v : Value} {n : Nat} {xs : List Value} (h : w.ownsRow B e size v n xs) (hk : ∀ k, B ≤ k → k < w.heap.size → w'.heap[k]? = w.heap[k]?) : w'.ownsRow B e size v n xs := by
  refine ⟨h.1, ?_⟩
  rcases h.2 with h2 | ⟨g, cap, cur, hv, hg, hh, r⟩
  · exact .inl h2
  · exact .inr ⟨g, cap, cur, hv, hg, by rw [hk g hg (Array.getElem?_eq_some_iff.1 hh).1]; exact hh, r⟩
theorem bld_kept {T e : TypeId} {B b : Nat} {xs : List Value} {w w' : World} (h : Lib.IsBuilder T e B b xs w) (hk : ∀ k, B ≤ k → k < w.heap.size → w'.heap[k]? = w.heap[k]?) : Lib.IsBuilder T e B b xs w' := by
  have go : ∀ p, Lib.BuilderAt T e B b p xs w → Lib.BuilderAt T e B b p xs w' := by
    rintro p ⟨hB, v, hb, ho, hne⟩
    exact ⟨hB, v, by rw [hk b hB (Array.getElem?_eq_some_iff.1 hb).1]; exact hb, ownsRow_kept ho hk, hne⟩
  rcases h with h | h
  · exact .inl (go _ h)
  · exact .inr (go _ h)
end Go.Proofs.YtejgkhmpmnjgaaaDoor
namespace Go.Proofs.YtejgkhmpmnjgaaaDoor
open Go.RowKit
set_option maxRecDepth 100000
set_option maxHeartbeats 1000000

theorem size_builderK : (Tryd.prog.info? 79).map (fun i => decide (i.size ≠ 0)) = some true := by kernel_rfl
theorem info_u8K : (Tryd.prog.info? 5).map (fun i => (i.zero, i.size, i.bytes)) = some (some (.int .u8 0), 1, 1) := by kernel_rfl

theorem bcheck_used (b : Nat) (w : World) (h0 : w.cell? ⟨b, 0, none⟩ = some (.pointer (some ⟨b, 0, none⟩))) :
    Calls Tryd.prog 66 #[.pointer (some ⟨b, 0, none⟩)] w fun e w' => e = .returned (.tuple #[]) ∧ w' = w := by
  obtain ⟨j, hj, _⟩ := Option.map_eq_some_iff.1 size_builderK
  have HJ := Lib.hid hj; clear hj
  go_enter Tryd.func66, Tryd.ntmps66
  go_wp2_with fail
  rw [Lib.run_neq_ptr_same w _ Tryd.underlying77 HJ.out]
  go_wp2_with fail
  go_end0
  exact ⟨rfl, rfl⟩

theorem bcheck_fresh (b : Nat) (w : World) (h0 : w.cell? ⟨b, 0, none⟩ = some (.pointer none)) (hsh : w.shape? b = some (79, 2)) (hfz : w.frozen? ⟨b, 0, none⟩ = false) :
    Calls Tryd.prog 66 #[.pointer (some ⟨b, 0, none⟩)] w fun e w' => e = .returned (.tuple #[]) ∧ w' = w.setCell ⟨b, 0, none⟩ (.pointer (some ⟨b, 0, none⟩)) := by
  obtain ⟨j, hj, hjs⟩ := Option.map_eq_some_iff.1 size_builderK
  have hjs' : j.size ≠ 0 := by simpa using hjs
  have HJ := Lib.hid hj; have HJS := Lib.hid hjs'; clear hj hjs hjs'
  go_enter Tryd.func66, Tryd.ntmps66
  go_wp2_with fail
  rw [Lib.run_to_unsafe w ⟨b, 0, none⟩ Tryd.underlying77 Tryd.underlying104 HJ.out HJS.out hsh (Nat.zero_lt_succ 1)]
  simp only [Result.andThen]
  rw [Oper.upon_value]
  go_wp2_with fail
  rw [run_callFunc_extern Tryd.func74 (by kernel_rfl) (by kernel_rfl) (by kernel_rfl) (e := Extern.AbiNoEscape.same) (by kernel_rfl)]
  rw [Lib.run_noEscape]
  simp only [Result.andThen]
  rw [Oper.upon_value]
  go_wp2_with fail
  rw [Lib.run_from_unsafe w ⟨b, 0, none⟩ Tryd.underlying104 Tryd.underlying77 HJ.out hsh (by kernel_rfl)]
  simp only [Result.andThen]
  rw [Oper.upon_value]
  go_wp2_with fail
  go_end0
  exact ⟨rfl, rfl⟩

theorem bcheck_c (B b : Nat) (l : List Value) (w : World) (h : Lib.IsBuilder 79 5 B b l w) :
    Calls Tryd.prog 66 #[.pointer (some ⟨b, 0, none⟩)] w fun e w' => e = .returned (.tuple #[]) ∧ Lib.BuilderAt 79 5 B b (.pointer (some ⟨b, 0, none⟩)) l w' ∧ Below B w w' := by
  rcases h with h | h
  · refine (bcheck_fresh b w h.cell0 h.shape h.frozen0).mono ?_
    rintro e w' ⟨rfl, rfl⟩
    exact ⟨rfl, h.used _, (Below.refl B w).setCell (p := ⟨b, 0, none⟩) h.1 _⟩
  · refine (bcheck_used b w h.cell0).mono ?_
    rintro e w' ⟨rfl, rfl⟩
    exact ⟨rfl, h, Below.refl B _⟩

theorem wstr_c (B b : Nat) (l : List Value) (s : ByteArray) (w : World) (h : Lib.IsBuilder 79 5 B b l w) (hlen : l.length + s.size ≤ 10000000000) (hBw : B ≤ w.heap.size) :
    Calls Tryd.prog 52 #[.pointer (some ⟨b, 0, none⟩), .string s] w fun e w' => (∃ v, e = .returned v) ∧ Lib.IsBuilder 79 5 B b (l ++ Lib.strCells s) w' ∧ Below B w w' := by
  obtain ⟨i0, hi, hz0, hz1, hz2⟩ := info_parts info_u8K
  have HC := Lib.hid (bcheck_c B b l w h)
  have HI := Lib.hid hi; have HZ0 := Lib.hid hz0; have HZ1 := Lib.hid hz1; have HZ2 := Lib.hid hz2
  clear h hi hz0 hz1 hz2
  go_enter Tryd.func52, Tryd.ntmps52
  go_wp2_with fail
  refine HC.out.mono ?_
  rintro e w1 ⟨rfl, ⟨hB, v, hbk, hown, hne⟩, hb1⟩
  have c0 : w1.cell? ⟨b, 0, none⟩ = some (.pointer (some ⟨b, 0, none⟩)) := by rw [Lib.cell_of_heap hbk]; rfl
  have c1 : w1.cell? ⟨b, 1, none⟩ = some v := by rw [Lib.cell_of_heap hbk]; rfl
  go_wp2_with (at_builtin; refine Lib.wpList_append_own_string _ rfl _ _ 48 9 rfl B 5 i0 Tryd.underlying48 Tryd.underlying9 HI.out HZ0.out HZ1.out HZ2.out _ _ _ rfl hown s rfl ?c3 ?c4 ?c5 ?_)
  case c3 => unfold maxLen; omega
  case c4 => omega
  case c5 => have := hb1.size; omega
  intro v' w2 hown' hgrow _
  have hlt : b < w1.heap.size := (Array.getElem?_eq_some_iff.1 hbk).1
  have hb2 : w2.heap[b]? = some (.cells #[.pointer (some ⟨b, 0, none⟩), v] 79 (0, 0)) := by
    rw [hgrow.block b hlt (fun e => hne e.symm)]
    exact hbk
  have d0 : w2.cell? ⟨b, 0, none⟩ = some (.pointer (some ⟨b, 0, none⟩)) := by rw [Lib.cell_of_heap hb2]; rfl
  have d1 : w2.cell? ⟨b, 1, none⟩ = some v := by rw [Lib.cell_of_heap hb2]; rfl
  have f1 : w2.frozen? ⟨b, 1, none⟩ = false := Lib.frozen_of_heap hb2 1
  obtain ⟨ao, n', cap, rfl⟩ : ∃ ao n' cap, v' = .slice ao n' cap := by
    rcases hown'.2 with ⟨hv, _⟩ | ⟨g, cap, cur, hv, _⟩
    · exact ⟨_, _, _, hv⟩
    · exact ⟨_, _, _, hv⟩
  have HX : Hid (Lib.IsBuilder 79 5 B b (l ++ Lib.strCells s) (w2.setCell ⟨b, 1, none⟩ (.slice ao n' cap)) ∧ Below B w (w2.setCell ⟨b, 1, none⟩ (.slice ao n' cap))) :=
    Lib.hid ⟨.inr (Lib.BuilderAt.put (T := 79) (e := 5) hB hb2 (bs' := l ++ Lib.strCells s) (by simpa [Lib.strCells_length] using hown') (by decide)),
      (hb1.grown hgrow (by have := hb1.size; omega) (fun k hk => (hown.lt k hk).1)).setCell (p := ⟨b, 1, none⟩) hB _⟩
  clear hown' hown hbk hb2 hgrow
  go_wp2_with fail
  go_ret2
  exact ⟨⟨_, rfl⟩, HX.out⟩
end Go.Proofs.YtejgkhmpmnjgaaaDoor
namespace Go.Proofs.YtejgkhmpmnjgaaaDoor
open Go.RowKit
set_option maxRecDepth 100000
set_option maxHeartbeats 1000000

theorem ownsRow_base {w : World} {B C : Nat} {e : TypeId} {k : Nat} {v : Value} {n : Nat} {xs : List Value} (h : w.ownsRow B e k v n xs) (hC : C ≤ B) : w.ownsRow C e k v n xs := by
  refine ⟨h.1, ?_⟩
  rcases h.2 with h | ⟨g, cap, cur, hv, hg, r⟩
  · exact .inl h
  · exact .inr ⟨g, cap, cur, hv, by omega, r⟩

/-- Appending a string's bytes to an own row: and where the new row lies. -/
theorem app_str_own {P : Program} (w : World) (base : Nat) (t u ty e : TypeId) (i : TypeInfo) (ht : P.underlying t = some (.slice e)) (hu : P.underlying u = some .string) (hi : P.info? e = some i) (hz : i.zero = some (.int .u8 0))
    (hsize : i.size = 1) (hby : i.bytes = 1) (v : Value) (n : Nat) (xs : List Value) (hown : w.ownsRow base e 1 v n xs) (s : ByteArray)
    (h63 : n + s.size ≤ maxLen) (hbytes : n + s.size ≤ 140737488355328) (hbase : base ≤ w.heap.size) :
    ∃ v' w', (Builtin.append_ #[t, u] ty #[v, .string s]).run P w = .ok v' w' ∧ w'.ownsRow base e 1 v' (n + s.size) (xs ++ Lib.strCells s) ∧ w.grownBy w' v.ownBlock ∧
      (v'.ownBlock = v.ownBlock ∨ ∀ k, v'.ownBlock = some k → w.heap.size ≤ k) := by
  obtain ⟨v', w', hr, hown', hg, _⟩ := Lib.run_append_own_string w base t u ty e i ht hu hi hz hsize hby v n xs hown s h63 hbytes hbase
  refine ⟨v', w', hr, hown', hg, ?_⟩
  rcases hown.2 with ⟨rfl, rfl⟩ | ⟨g, cap, cur, rfl, hbg, hgc, hnc, hcm, hcs, htake⟩
  · obtain ⟨v2, w2, hr2, hown2, _⟩ := Lib.run_append_own_string w w.heap.size t u ty e i ht hu hi hz hsize hby _ 0 [] (World.ownsRow_nil _ _ _ _) s h63 hbytes (Nat.le_refl _)
    rw [hr] at hr2
    injection hr2 with e1 e2
    subst e1; subst e2
    right
    intro k hk
    rcases hown2.2 with ⟨rfl, _⟩ | ⟨g, cap, cur, rfl, hg2, _⟩
    · simp [Value.ownBlock] at hk
    · simp [Value.ownBlock] at hk; omega
  · by_cases hroom : n + s.size ≤ cap
    · left
      have hr2 := Lib.run_append_room_string (P := P) w t u ty e i ht hu hi hsize g n cap cur hgc s hroom (by omega)
      rw [hr] at hr2
      injection hr2 with e1 e2
      subst e1
      rfl
    · right
      have hxl : xs.length = n := by simpa using hown.1
      have hr2 := Lib.run_append_grow_string (P := P) w t u ty e i (.int .u8 0) ht hu hi hz ⟨g, 0, none⟩ n cap xs (by rw [hsize]; omega) (hown.cells (g := g) rfl) s (by omega) (by unfold maxLen at h63; omega) (by rw [hby]; exact growslice_fits (by omega) (by omega))
      rw [hr] at hr2
      injection hr2 with e1 e2
      subst e1
      intro k hk
      simp [Value.ownBlock] at hk
      omega

theorem wpList_append_run2 {P : Program} {w w' : World} {ops : Array Oper} {rest : List Oper} {o : Oper} {a : Act} {Q : Exit → Act → World → Prop} (hgd : o.guard = none) {s x : Operand} {t u : TypeId}
    (ho : o.op = .call { callee := .builtin .append, args := #[s, x], argTypes := #[t, u] }) {v y v' : Value} (hr : (Builtin.append_ #[t, u] o.type #[v, y]).run P w = .ok v' w') (hs : a.eval s = v) (hx : a.eval x = y)
    (h : wpList P ops Q rest (a.put o.dst v') w') : wpList P ops Q (o :: rest) a w :=
  wpList_plain hgd fun _ hK => by
    unfold Oper.wp execOp
    simp only [ho, resolve, invoke, builtin, Sem.run_bind, Sem.run_pure, Result.andThen_ok, List.map_toArray, List.map_cons, List.map_nil, hs, hx, hr]
    exact hK _ _ h

theorem checkA_used (b o : Nat) (w : World) (h0 : w.cell? ⟨b, o, none⟩ = some (.pointer (some ⟨b, o, none⟩))) :
    Calls Tryd.prog 66 #[.pointer (some ⟨b, o, none⟩)] w fun e w' => e = .returned (.tuple #[]) ∧ w' = w := by
  obtain ⟨j, hj, _⟩ := Option.map_eq_some_iff.1 size_builderK
  have HJ := Lib.hid hj; clear hj
  go_enter Tryd.func66, Tryd.ntmps66
  go_wp2_with fail
  rw [Lib.run_neq_ptr_same w _ Tryd.underlying77 HJ.out]
  go_wp2_with fail
  go_end0
  exact ⟨rfl, rfl⟩

theorem checkA_fresh (T : TypeId) (cells b o : Nat) (w : World) (h0 : w.cell? ⟨b, o, none⟩ = some (.pointer none)) (hsh : w.shape? b = some (T, cells)) (ho : o < cells)
    (hl : liesAt Tryd.prog Tryd.prog.depth T (cells / Tryd.prog.cellsOf T) o 79 1 = true) (hfz : w.frozen? ⟨b, o, none⟩ = false) :
    Calls Tryd.prog 66 #[.pointer (some ⟨b, o, none⟩)] w fun e w' => e = .returned (.tuple #[]) ∧ w' = w.setCell ⟨b, o, none⟩ (.pointer (some ⟨b, o, none⟩)) := by
  obtain ⟨j, hj, hjs⟩ := Option.map_eq_some_iff.1 size_builderK
  have hjs' : j.size ≠ 0 := by simpa using hjs
  have HJ := Lib.hid hj; have HJS := Lib.hid hjs'; have HL := Lib.hid hl; clear hj hjs hjs' hl
  have HSH := Lib.hid hsh; clear hsh
  go_enter Tryd.func66, Tryd.ntmps66
  go_wp2_with fail
  rw [Lib.run_to_unsafe w ⟨b, o, none⟩ Tryd.underlying77 Tryd.underlying104 HJ.out HJS.out HSH.out ho]
  simp only [Result.andThen]
  rw [Oper.upon_value]
  go_wp2_with fail
  rw [run_callFunc_extern Tryd.func74 (by kernel_rfl) (by kernel_rfl) (by kernel_rfl) (e := Extern.AbiNoEscape.same) (by kernel_rfl)]
  rw [Lib.run_noEscape]
  simp only [Result.andThen]
  rw [Oper.upon_value]
  go_wp2_with fail
  rw [Lib.run_from_unsafe w ⟨b, o, none⟩ Tryd.underlying104 Tryd.underlying77 HJ.out HSH.out HL.out]
  simp only [Result.andThen]
  rw [Oper.upon_value]
  go_wp2_with fail
  go_end0
  exact ⟨rfl, rfl⟩

theorem array_set_self {α : Type} (cs : Array α) (o : Nat) (p : α) (h : cs[o]? = some p) : cs.setIfInBounds o p = cs := by
  apply Array.ext_getElem?
  intro i
  rw [Array.getElem?_setIfInBounds]
  split
  · rename_i e
    subst e
    have := (Array.getElem?_eq_some_iff.1 h).1
    rw [if_pos this, h]
  · rfl

theorem checkA_c (T : TypeId) (B b o : Nat) (cs : Array Value) (w : World) (hB : B ≤ b) (hb : w.heap[b]? = some (.cells cs T (0, 0))) (ho : o < cs.size)
    (hl : liesAt Tryd.prog Tryd.prog.depth T (cs.size / Tryd.prog.cellsOf T) o 79 1 = true)
    (hp : cs[o]? = some (.pointer none) ∨ cs[o]? = some (.pointer (some ⟨b, o, none⟩))) :
    Calls Tryd.prog 66 #[.pointer (some ⟨b, o, none⟩)] w fun e w' => e = .returned (.tuple #[]) ∧ w'.heap[b]? = some (.cells (cs.setIfInBounds o (.pointer (some ⟨b, o, none⟩))) T (0, 0)) ∧
      Below B w w' ∧ w'.heap.size = w.heap.size ∧ ∀ k, k ≠ b → w'.heap[k]? = w.heap[k]? := by
  rcases hp with hp | hp
  · refine (checkA_fresh T cs.size b o w (by rw [Lib.cell_of_heap hb]; exact hp) (by simp [World.shape?, hb]) ho hl (Lib.frozen_of_heap hb o)).mono ?_
    rintro e w' ⟨rfl, rfl⟩
    exact ⟨rfl, heap_setCell_same w b o cs T _ hb, (Below.refl B w).setCell (p := ⟨b, o, none⟩) hB _, by simp, fun k hk => heap_setCell_other _ _ _ _ hk⟩
  · refine (checkA_used b o w (by rw [Lib.cell_of_heap hb]; exact hp)).mono ?_
    rintro e w' ⟨rfl, rfl⟩
    exact ⟨rfl, by rw [array_set_self cs o _ hp]; exact hb, Below.refl B _, rfl, fun k hk => rfl⟩

theorem wstrA_c (T : TypeId) (B b o : Nat) (cs : Array Value) (v : Value) (l : List Value) (s : ByteArray) (w : World) (hB : B ≤ b) (hT : T ≠ 5) (hb : w.heap[b]? = some (.cells cs T (0, 0))) (ho : o + 1 < cs.size)
    (hl : liesAt Tryd.prog Tryd.prog.depth T (cs.size / Tryd.prog.cellsOf T) o 79 1 = true)
    (hp : cs[o]? = some (.pointer none) ∨ cs[o]? = some (.pointer (some ⟨b, o, none⟩))) (hv : cs[o + 1]? = some v) (hown : w.ownsRow B 5 1 v l.length l)
    (hlen : l.length + s.size ≤ 10000000000) (hBw : B ≤ w.heap.size) :
    Calls Tryd.prog 52 #[.pointer (some ⟨b, o, none⟩), .string s] w fun e w' => ∃ x v', e = .returned x ∧
      w'.heap[b]? = some (.cells ((cs.setIfInBounds o (.pointer (some ⟨b, o, none⟩))).setIfInBounds (o + 1) v') T (0, 0)) ∧ w'.ownsRow B 5 1 v' (l ++ Lib.strCells s).length (l ++ Lib.strCells s) ∧
      Below B w w' ∧ (v'.ownBlock = v.ownBlock ∨ ∀ k, v'.ownBlock = some k → w.heap.size ≤ k) ∧ ∀ k, k < w.heap.size → k ≠ b → some k ≠ v.ownBlock → w'.heap[k]? = w.heap[k]? := by
  obtain ⟨i0, hi, hz0, hz1, hz2⟩ := info_parts info_u8K
  have HC := Lib.hid (checkA_c T B b o cs w hB hb (by omega) hl hp)
  have hne : v.ownBlock ≠ some b := Lib.ownBlock_ne hown hb hT
  have hblt : b < w.heap.size := (Array.getElem?_eq_some_iff.1 hb).1
  have HI := Lib.hid hi; have HZ0 := Lib.hid hz0; have HZ1 := Lib.hid hz1; have HZ2 := Lib.hid hz2; have HOWN := Lib.hid hown; have HV := Lib.hid hv; have HNE := Lib.hid hne
  clear hi hz0 hz1 hz2 hl hp hown hb hv hne
  go_enter Tryd.func52, Tryd.ntmps52
  go_wp2_with fail
  refine HC.out.mono ?_
  rintro e w1 ⟨rfl, hb1, hbel1, hsz1, hk1⟩
  have hown1 : w1.ownsRow B 5 1 v l.length l := HOWN.out.kept (row := some b) ⟨hbel1.os, hbel1.tape, hbel1.output, by omega, fun k _ hk => hk1 k (fun e => hk (by rw [e]))⟩ (Or.inr HNE.out)
  obtain ⟨cs1, hcs1⟩ : ∃ cs1, cs.setIfInBounds o (.pointer (some ⟨b, o, none⟩)) = cs1 := ⟨_, rfl⟩
  have hc1 : cs1[o + 1]? = some v := by rw [← hcs1, Array.getElem?_setIfInBounds, if_neg (by omega)]; exact HV.out
  rw [hcs1] at hb1
  have HCS := Lib.hid hcs1
  have c1 : w1.cell? ⟨b, o + 1, none⟩ = some v := by rw [Lib.cell_of_heap hb1]; exact hc1
  obtain ⟨v', w2, happ, hown', hgrow, hwhere⟩ := app_str_own (P := Tryd.prog) w1 B 48 9 48 5 i0 Tryd.underlying48 Tryd.underlying9 HI.out HZ0.out HZ1.out HZ2.out v l.length l hown1 s (by unfold maxLen; omega) (by omega) (by omega)
  obtain ⟨ao, n', cap, rfl⟩ : ∃ ao n' cap, v' = .slice ao n' cap := by
    rcases hown'.2 with ⟨hv, _⟩ | ⟨g, cap, cur, hv, _⟩
    · exact ⟨_, _, _, hv⟩
    · exact ⟨_, _, _, hv⟩
  have HAP := Lib.hid happ
  have hb2 : w2.heap[b]? = some (.cells cs1 T (0, 0)) := by
    rw [hgrow.block b (by omega) (fun e => HNE.out e.symm)]
    exact hb1
  have f1 : w2.frozen? ⟨b, o + 1, none⟩ = false := Lib.frozen_of_heap hb2 (o + 1)
  have d1 : w2.cell? ⟨b, o + 1, none⟩ = some v := by rw [Lib.cell_of_heap hb2]; exact hc1
  have hbel2 : Below B w w2 := hbel1.grown hgrow (by omega) (fun k hk => (hown1.lt k hk).1)
  have hne' : (Value.slice ao n' cap).ownBlock ≠ some b := Lib.ownBlock_ne hown' hb2 hT
  have hw3 : (w2.setCell ⟨b, o + 1, none⟩ (.slice ao n' cap)).ownsRow B 5 1 (.slice ao n' cap) (l.length + s.size) (l ++ Lib.strCells s) :=
    hown'.kept (row := some b) ⟨rfl, rfl, rfl, by simp, fun k _ hk => heap_setCell_other _ _ _ _ (fun e => hk (by rw [e]))⟩ (Or.inr hne')
  have HX : Hid ((w2.setCell ⟨b, o + 1, none⟩ (.slice ao n' cap)).heap[b]? = some (.cells (cs1.setIfInBounds (o + 1) (.slice ao n' cap)) T (0, 0)) ∧ (w2.setCell ⟨b, o + 1, none⟩ (.slice ao n' cap)).ownsRow B 5 1 (.slice ao n' cap) (l ++ Lib.strCells s).length (l ++ Lib.strCells s) ∧
      Below B w (w2.setCell ⟨b, o + 1, none⟩ (.slice ao n' cap)) ∧ ((Value.slice ao n' cap).ownBlock = v.ownBlock ∨ ∀ k, (Value.slice ao n' cap).ownBlock = some k → w.heap.size ≤ k) ∧
      ∀ k, k < w.heap.size → k ≠ b → some k ≠ v.ownBlock → (w2.setCell ⟨b, o + 1, none⟩ (.slice ao n' cap)).heap[k]? = w.heap[k]?) :=
    Lib.hid ⟨heap_setCell_same w2 b (o + 1) cs1 T _ hb2, by rw [List.length_append, Lib.strCells_length]; exact hw3, hbel2.setCell (p := ⟨b, o + 1, none⟩) hB _, by rw [← hsz1]; exact hwhere,
      fun k hk hkb hkv => (heap_setCell_other _ _ _ _ hkb).trans ((hgrow.block k (by omega) hkv).trans (hk1 k hkb))⟩
  clear hown' hgrow hwhere hb2 hbel2 hne' hw3 happ hc1 hown1 hb1 hbel1 hsz1 hk1 hcs1
  go_wp2_with (at_builtin; refine wpList_append_run2 rfl rfl HAP.out rfl rfl ?_)
  go_ret2
  rw [HCS.out]
  exact ⟨_, _, rfl, HX.out⟩
end Go.Proofs.YtejgkhmpmnjgaaaDoor
namespace Go.Proofs.YtejgkhmpmnjgaaaDoor
open Go.RowKit
set_option maxRecDepth 100000
set_option maxHeartbeats 2000000

theorem mixedK : Tryd.prog.follows Departure.mixedOrders = true := by kernel_rfl
/-- What String leaves: nothing turned but, perhaps, what is frozen in the builder's own row. -/
def StrAns (B : Nat) (v : Value) (w : World) (l : List UInt8) (e : Ending) (w' : World) : Prop :=
  e = .returned (.string ⟨l.toArray⟩) ∧ Below B w w' ∧ ∀ k, k < w.heap.size → some k ≠ v.ownBlock → w'.heap[k]? = w.heap[k]?

theorem freeze_other (w : World) (a : Addr) (n k : Nat) (h : k ≠ a.block) : (w.freeze a n).heap[k]? = w.heap[k]? := by
  unfold World.freeze
  split
  · rfl
  · simp only [Array.getElem?_modify]
    rw [if_neg (by omega)]

theorem cells_u8K : Tryd.prog.cellsOf 5 = 1 := by kernel_rfl
theorem unsafeString0 (W : World) (q : Option Addr) : (Builtin.unsafeString_ #[97, 3] 9 #[.pointer q, .int .i64 0]).run Tryd.prog W = .ok (.string .empty) W := Lib.run_unsafeString_none W _ _ _ q

theorem strA_nil (T : TypeId) (B b o : Nat) (cs : Array Value) (w : World) (hb : w.heap[b]? = some (.cells cs T (0, 0))) (hv : cs[o + 1]? = some (.slice none 0 0)) :
    Calls Tryd.prog 54 #[.pointer (some ⟨b, o, none⟩)] w fun e w' => StrAns B (.slice none 0 0) w [] e w' := by
  have mixed := mixedK
  have hUS := unsafeString0
  have c1 : w.drew.cell? ⟨b, o + 1, none⟩ = some (.slice none 0 0) := by
    have : w.drew.heap[b]? = some (.cells cs T (0, 0)) := hb
    rw [Lib.cell_of_heap this]; exact hv
  have hSD : (Builtin.unsafeSliceData_ #[48] 97 #[.slice none 0 0]).run Tryd.prog w.drew = .ok (.pointer none) w.drew := rfl
  clear hb hv
  go_enter Tryd.func54, Tryd.ntmps54
  go_wp2
  go_region_o
  all_goals (go_wp2; go_ret; exact ⟨rfl, Below.drew (Below.refl B w), fun k _ _ => rfl⟩)

theorem strA_noroom (T : TypeId) (B b o g : Nat) (cs cur : Array Value) (w : World) (hBw : B ≤ w.heap.size) (hb : w.heap[b]? = some (.cells cs T (0, 0))) (hv : cs[o + 1]? = some (.slice (some ⟨g, 0, none⟩) 0 0)) (hg : w.heap[g]? = some (.cells cur 5 (0, 0))) :
    Calls Tryd.prog 54 #[.pointer (some ⟨b, o, none⟩)] w fun e w' => StrAns B (.slice (some ⟨g, 0, none⟩) 0 0) w [] e w' := by
  have mixed := mixedK
  have hUS := unsafeString0
  have hlt : b < w.heap.size := (Array.getElem?_eq_some_iff.1 hb).1
  have c1 : w.drew.cell? ⟨b, o + 1, none⟩ = some (.slice (some ⟨g, 0, none⟩) 0 0) := by
    have : w.drew.heap[b]? = some (.cells cs T (0, 0)) := hb
    rw [Lib.cell_of_heap this]; exact hv
  have hSD : (Builtin.unsafeSliceData_ #[48] 97 #[.slice (some ⟨g, 0, none⟩) 0 0]).run Tryd.prog w.drew = .ok (.pointer (some ⟨w.drew.heap.size, 0, none⟩)) (w.drew.alloc (.view ⟨g, 0, none⟩ 5)) :=
    Lib.run_unsafeSliceData_zero w.drew _ _ 5 Tryd.underlying97 ⟨g, 0, none⟩ 0 (5, cur.size) (by have hg' : w.drew.heap[g]? = some (.cells cur 5 (0, 0)) := hg; simp [World.shape?, hg'])
  have c2 : (w.drew.alloc (.view ⟨g, 0, none⟩ 5)).cell? ⟨b, o + 1, none⟩ = some (.slice (some ⟨g, 0, none⟩) 0 0) := by
    have : (w.drew.alloc (.view ⟨g, 0, none⟩ 5)).heap[b]? = _ := (Lib.alloc_old w.drew _ b hlt).trans hb
    rw [Lib.cell_of_heap this]; exact hv
  have c3 : (w.alloc (.view ⟨g, 0, none⟩ 5)).drew.cell? ⟨b, o + 1, none⟩ = some (.slice (some ⟨g, 0, none⟩) 0 0) := c2
  have c0 : w.cell? ⟨b, o + 1, none⟩ = some (.slice (some ⟨g, 0, none⟩) 0 0) := c1
  clear hb hv hg
  go_enter Tryd.func54, Tryd.ntmps54
  go_wp2
  go_region_o
  all_goals (go_wp2; go_ret; exact ⟨rfl, (Below.drew (Below.refl B w)).alloc hBw _, fun k hk _ => Lib.alloc_old w.drew _ k hk⟩)

theorem strA_room (T : TypeId) (B b o g cap : Nat) (cs : Array Value) (w : World) (hc0 : cap ≠ 0) (hb : w.heap[b]? = some (.cells cs T (0, 0))) (hv : cs[o + 1]? = some (.slice (some ⟨g, 0, none⟩) 0 cap)) :
    Calls Tryd.prog 54 #[.pointer (some ⟨b, o, none⟩)] w fun e w' => StrAns B (.slice (some ⟨g, 0, none⟩) 0 cap) w [] e w' := by
  have mixed := mixedK
  have hUS := unsafeString0
  have c1 : w.drew.cell? ⟨b, o + 1, none⟩ = some (.slice (some ⟨g, 0, none⟩) 0 cap) := by
    have : w.drew.heap[b]? = some (.cells cs T (0, 0)) := hb
    rw [Lib.cell_of_heap this]; exact hv
  have hSD : (Builtin.unsafeSliceData_ #[48] 97 #[.slice (some ⟨g, 0, none⟩) 0 cap]).run Tryd.prog w.drew = .ok (.pointer (some ⟨g, 0, none⟩)) w.drew :=
    Lib.run_unsafeSliceData_row _ _ _ _ _ _ hc0
  clear hc0 hb hv
  go_enter Tryd.func54, Tryd.ntmps54
  go_wp2
  go_region_o
  all_goals (go_wp2; go_ret; exact ⟨rfl, Below.drew (Below.refl B w), fun k _ _ => rfl⟩)

theorem strA_full (T : TypeId) (B b o g cap : Nat) (cs cur : Array Value) (l : List UInt8) (w : World) (h0 : l ≠ []) (hbg : B ≤ g) (hb : w.heap[b]? = some (.cells cs T (0, 0))) (hv : cs[o + 1]? = some (.slice (some ⟨g, 0, none⟩) l.length cap))
    (hg : w.heap[g]? = some (.cells cur 5 (0, 0))) (hnc : l.length ≤ cap) (hcm : cap ≤ maxLen) (hcs : cur.size = cap) (hown : w.ownsRow B 5 1 (.slice (some ⟨g, 0, none⟩) l.length cap) l.length (Lib.byteCells l)) :
    Calls Tryd.prog 54 #[.pointer (some ⟨b, o, none⟩)] w fun e w' => StrAns B (.slice (some ⟨g, 0, none⟩) l.length cap) w l e w' := by
  have mixed := mixedK
  have hl0 : l.length ≠ 0 := by simpa using h0
  have c1 : w.drew.cell? ⟨b, o + 1, none⟩ = some (.slice (some ⟨g, 0, none⟩) l.length cap) := by
    have : w.drew.heap[b]? = some (.cells cs T (0, 0)) := hb
    rw [Lib.cell_of_heap this]; exact hv
  have hSD : (Builtin.unsafeSliceData_ #[48] 97 #[.slice (some ⟨g, 0, none⟩) l.length cap]).run Tryd.prog w.drew = .ok (.pointer (some ⟨g, 0, none⟩)) w.drew :=
    Lib.run_unsafeSliceData_row _ _ _ _ _ _ (by omega)
  have hUS : (Builtin.unsafeString_ #[97, 3] 9 #[.pointer (some ⟨g, 0, none⟩), .int .i64 l.length]).run Tryd.prog w.drew = .ok (.string ⟨l.toArray⟩) (w.drew.freeze ⟨g, 0, none⟩ l.length) := by
    refine Lib.run_unsafeString_row w.drew 97 3 9 5 Tryd.underlying97 cells_u8K g cur.size (by have hg' : w.drew.heap[g]? = some (.cells cur 5 (0, 0)) := hg; simp [World.shape?, hg']) l h0 (by omega) (by unfold maxLen at hcm; omega) ?_
    intro j x hx
    have := hown.cells (g := g) rfl j (.int .u8 x.toNat) (by simp [Lib.byteCells, hx])
    exact this
  clear hb hv hown hg hcs hl0 h0 hnc hcm
  go_enter Tryd.func54, Tryd.ntmps54
  go_wp2
  go_region_o
  all_goals (go_wp2; go_ret; exact ⟨rfl, Lib.below_freeze (Below.drew (Below.refl B w)) (p := ⟨g, 0, none⟩) hbg _, fun k _ hk => freeze_other _ _ _ _ (fun e => hk (by simp [Value.ownBlock, e]))⟩)

theorem strA_c (T : TypeId) (B b o : Nat) (cs : Array Value) (v : Value) (l : List UInt8) (w : World) (hb : w.heap[b]? = some (.cells cs T (0, 0))) (hv : cs[o + 1]? = some v)
    (hown : w.ownsRow B 5 1 v l.length (Lib.byteCells l)) (hBw : B ≤ w.heap.size) :
    Calls Tryd.prog 54 #[.pointer (some ⟨b, o, none⟩)] w fun e w' => StrAns B v w l e w' := by
  rcases hown.2 with ⟨rfl, hz⟩ | ⟨g, cap, cur, rfl, hbg, hg, hnc, hcm, hcs, _⟩
  · obtain rfl : l = [] := by simpa using hz
    exact strA_nil T B b o cs w hb hv
  · by_cases h0 : l = []
    · subst h0
      by_cases hc0 : cap = 0
      · subst hc0
        exact strA_noroom T B b o g cs cur w hBw hb hv hg
      · exact strA_room T B b o g cap cs w hc0 hb hv
    · exact strA_full T B b o g cap cs cur l w h0 hbg hb hv hg hnc hcm (by simpa using hcs) hown
end Go.Proofs.YtejgkhmpmnjgaaaDoor
