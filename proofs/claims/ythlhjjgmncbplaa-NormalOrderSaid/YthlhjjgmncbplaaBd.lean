/- Slices: their beginnings and ends; append from any slice; bytes that came in. -/
import Derived.Test.YthlhjjgmncbplaaBc
import Derived.Laws.AppendOwnNone
namespace Go.Proofs.Ythlhjjgmncbplaa
open Go.RowKit

theorem Rd.len {w : World} {size : Nat} {v : Value} {n : Nat} {xs : List Value} (h : Rd w size v n xs) : ∃ A c, v = .slice A n c ∧ n ≤ c := by
  obtain ⟨_, A, c, hv, hc, _⟩ := h; exact ⟨A, c, hv, hc⟩
theorem Rd.take {w : World} {size : Nat} {A : Option Addr} {n c : Nat} {xs : List Value} (h : Rd w size (.slice A n c) n xs) {m : Nat} (hm : m ≤ n) : Rd w size (.slice A m c) m (xs.take (m * size)) := by
  obtain ⟨h1, A', c', hv, hc, h2⟩ := h
  injection hv with e1 e2 e3
  subst e1; subst e3
  refine ⟨by rw [List.length_take, h1]; exact Nat.min_eq_left (Nat.mul_le_mul_right _ hm), A, c, rfl, by omega, fun h0 => ?_⟩
  obtain ⟨b, off, hA, hb, hcell⟩ := h2 (by omega)
  refine ⟨b, off, hA, hb, fun j u hu => hcell j u ?_⟩
  rw [List.getElem?_take] at hu
  split at hu
  · exact hu
  · cases hu
theorem Rd.drop {w : World} {size : Nat} {b off : Nat} {n c : Nat} {xs : List Value} (h : Rd w size (.slice (some ⟨b, off, none⟩) n c) n xs) {m : Nat} (hm : m ≤ n) :
    Rd w size (.slice (some ⟨b, off + m * size, none⟩) (n - m) (c - m)) (n - m) (xs.drop (m * size)) := by
  obtain ⟨h1, A', c', hv, hc, h2⟩ := h
  injection hv with e1 e2 e3
  subst e1; subst e3
  refine ⟨by rw [List.length_drop, h1, Nat.sub_mul], _, _, rfl, by omega, fun h0 => ?_⟩
  obtain ⟨b', off', hA, hb, hcell⟩ := h2 (by omega)
  injection hA with hA
  injection hA with e1 e2
  subst e1; subst e2
  refine ⟨_, _, rfl, hb, fun j u hu => ?_⟩
  rw [List.getElem?_drop] at hu
  rw [Nat.add_assoc]
  exact hcell _ u hu

/-- append from any slice, nil or not, onto one of the call's own. -/
theorem app_rd {P : Program} (t ty e : TypeId) (i : TypeInfo) (z : Value) (size bytes : Nat) (ht : P.underlying t = some (.slice e)) (hi : P.info? e = some i) (hz : i.zero = some z)
    (hsize : i.size = size) (hby : i.bytes = bytes) (hzs : z.cells.size = size) (hsz : 0 < size) (hbl : bytes ≤ 64)
    {a w : World} {B : Nat} {v : Value} {n : Nat} {xs : List Value} (hb : Below B a w) (ho : Own w B e size v n xs) (hn : n ≤ 1000000000)
    {y : Value} {m : Nat} {ys : List Value} (hr : Rd w size y m ys) (hm' : m ≤ 1000000000) (h1 : ∀ u ∈ ys, u.oneCell' = true) :
    ∃ v' w', (Builtin.append_ #[t, t] ty #[v, y]).run P w = .ok v' w' ∧ Own w' B e size v' (n + m) (xs ++ ys) ∧ Below B a w' := by
  obtain ⟨hl, A, c, rfl, hc, hcell⟩ := hr
  have hbytes : (n + m) * bytes ≤ 140737488355328 := by
    have : (n + m) * bytes ≤ 2000000000 * 64 := Nat.mul_le_mul (by omega) hbl
    omega
  have go : ∀ x : Addr, A = some x → (∀ (j : Nat) (u : Value), ys[j]? = some u → w.cell? (x.add j) = some u) →
      ∃ v' w', (Builtin.append_ #[t, t] ty #[v, .slice A m c]).run P w = .ok v' w' ∧ Own w' B e size v' (n + m) (xs ++ ys) ∧ Below B a w' := by
    rintro x rfl hx
    obtain ⟨v', w', hrun, h2, h3, _⟩ := run_append_own (P := P) w B t ty e i z size bytes ht hi hz hsize hby hzs hsz v n xs ho.1 x m c ys hl hx h1
      (by unfold maxLen; omega) hbytes ho.2
    exact ⟨v', w', hrun, ⟨h2, Nat.le_trans ho.2 h3.size⟩, below_grown hb ho h3⟩
  by_cases h0 : 0 < m
  · obtain ⟨b, off, hA, hbb, hx⟩ := hcell h0
    exact go _ hA (fun j u hu => by
      have : (⟨b, off, none⟩ : Addr).add j = ⟨b, off + j, none⟩ := by
        unfold Addr.add; split
        · rename_i h; subst h; rfl
        · rfl
      rw [this]; exact hx j u hu)
  · have hm0 : m = 0 := by omega
    subst hm0
    have hys : ys = [] := List.eq_nil_of_length_eq_zero (by simpa using hl)
    subst hys
    cases A with
    | some x => exact go x rfl (by simp)
    | none =>
      refine ⟨v, w, ?_, by simpa using ho, hb⟩
      rcases ho.1.2 with ⟨rfl, rfl⟩ | ⟨g, cap, cur, rfl, _, _, hnc, _⟩
      · simp [Builtin.append_, run_underlying ht, sizeOf, typeInfo, hi, Builtin.lenOf, Builtin.firstCells]
      · simp [Builtin.append_, run_underlying ht, sizeOf, typeInfo, hi, Builtin.lenOf, Builtin.firstCells, hnc, storeCells]
theorem byteCells_one (l : List UInt8) : ∀ u ∈ Lib.byteCells l, u.oneCell' = true := by
  intro u hu
  obtain ⟨b, _, rfl⟩ := List.mem_map.1 hu
  rfl
/-- Numbers that are bytes, as bytes. -/
theorem ints_bytes (zs : List Int) (h : ∀ z ∈ zs, 0 ≤ z ∧ z ≤ 255) : ∃ l : List UInt8, zs.map (Value.int .u8) = Lib.byteCells l ∧ l.length = zs.length := by
  refine ⟨zs.map fun z => u8 z.toNat, ?_, by simp⟩
  unfold Lib.byteCells
  rw [List.map_map]
  apply List.map_congr_left
  intro z hz
  have := h z hz
  simp only [Function.comp]
  rw [u8_toNat (by omega), Int.toNat_of_nonneg this.1]
theorem byteCells_append2 (a b : List UInt8) : Lib.byteCells (a ++ b) = Lib.byteCells a ++ Lib.byteCells b := by simp [Lib.byteCells]
theorem byteCells_take (l : List UInt8) (n : Nat) : (Lib.byteCells l).take n = Lib.byteCells (l.take n) := by simp [Lib.byteCells]
theorem byteCells_drop (l : List UInt8) (n : Nat) : (Lib.byteCells l).drop n = Lib.byteCells (l.drop n) := by simp [Lib.byteCells]
theorem byteCells_len (l : List UInt8) : (Lib.byteCells l).length = l.length := by simp [Lib.byteCells]

/-- An operation that is wanted, whatever its guard, whose run is known. -/
theorem wpList_wanted {P : Program} {w w' : World} {ops : Array Oper} {rest : List Oper} {o : Oper} {a : Act} {Q : Exit → Act → World → Prop} (hw : Region.wanted o (yielded ops a.tmps) = true) {v : Value}
    (hr : (execOp a.eval o).run P w = .ok (.value v) w') (h : wpList P ops Q rest (a.put o.dst v) w') : wpList P ops Q (o :: rest) a w :=
  wpList_step fun _ hK => by
    rw [if_pos hw]
    unfold Oper.wp
    rw [hr]
    exact hK _ _ h
theorem wpList_convert_g {P : Program} {w : World} {ops : Array Oper} {rest : List Oper} {o : Oper} {a : Act} {Q : Exit → Act → World → Prop} (hw : Region.wanted o (yielded ops a.tmps) = true) {x : Operand} {src dst : TypeId}
    (ho : o.op = .convert src dst x) {v v' : Value} (hr : (convert src dst v).run P w = .ok v' w) (hx : a.eval x = v)
    (h : wpList P ops Q rest (a.put o.dst v') w) : wpList P ops Q (o :: rest) a w :=
  wpList_wanted hw (by unfold execOp; simp only [ho, Sem.run_bind, Result.andThen_ok, hx, hr]; rfl) h
theorem wpList_append_g {P : Program} {w w' : World} {ops : Array Oper} {rest : List Oper} {o : Oper} {a : Act} {Q : Exit → Act → World → Prop} (hw : Region.wanted o (yielded ops a.tmps) = true) {s x : Operand} {t : TypeId}
    (ho : o.op = .call { callee := .builtin .append, args := #[s, x], argTypes := #[t, t] }) {v y v' : Value} (hr : (Builtin.append_ #[t, t] o.type #[v, y]).run P w = .ok v' w') (hs : a.eval s = v) (hx : a.eval x = y)
    (h : wpList P ops Q rest (a.put o.dst v') w') : wpList P ops Q (o :: rest) a w :=
  wpList_wanted hw (by
    unfold execOp
    simp only [ho, resolve, invoke, builtin, Sem.run_bind, Sem.run_pure, Result.andThen_ok, List.map_toArray, List.map_cons, List.map_nil, hs, hx, hr]) h
end Go.Proofs.Ythlhjjgmncbplaa
