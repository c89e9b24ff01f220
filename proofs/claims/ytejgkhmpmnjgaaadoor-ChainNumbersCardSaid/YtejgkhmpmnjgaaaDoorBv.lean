/- append of a string, and parts of bytes. -/
import Derived.Lib.AppendStr
import Derived.Test.YtejgkhmpmnjgaaaDoorBa
import Derived.Test.YtejgkhmpmnjgaaaDoorMb
namespace Go.Proofs.YtejgkhmpmnjgaaaDoor
open Go.RowKit
set_option maxRecDepth 100000
set_option maxHeartbeats 4000000
set_option linter.unusedSimpArgs false
/-- append of a string onto bytes of the call's own. -/
theorem app_str {P : Program} (t u ty e : TypeId) (i : TypeInfo) (ht : P.underlying t = some (.slice e)) (hu : P.underlying u = some .string) (hi : P.info? e = some i) (hz : i.zero = some (.int .u8 0)) (hsize : i.size = 1) (hby : i.bytes = 1)
    {a w : World} {B : Nat} {v : Value} {n : Nat} {xs : List Value} (hb : Below B a w) (ho : Own w B e 1 v n xs) (hn : n ≤ 1000000000) (s : ByteArray) (hs : s.size ≤ 1000000000) :
    ∃ v' w', (Builtin.append_ #[t, u] ty #[v, .string s]).run P w = .ok v' w' ∧ Own w' B e 1 v' (n + s.size) (xs ++ Lib.byteCells (bs s)) ∧ Below B a w' := by
  obtain ⟨v', w', h1, h2, h3, _⟩ := Lib.run_append_own_string (P := P) w B t u ty e i ht hu hi hz hsize hby v n xs ho.1 s (by unfold maxLen; omega) (by omega) ho.2
  exact ⟨v', w', h1, ⟨h2, Nat.le_trans ho.2 h3.size⟩, below_grown hb ho h3⟩
theorem step_append_ex2 {P : Program} {ops : Array Oper} {o : Oper} {a : Act} {w : World} {K : Act → World → Prop} {Q : Exit → Act → World → Prop} {E : Prop} (hgd : o.guard = none) (s x : Operand) (t u : TypeId)
    (ho : o.op = .call { callee := .builtin .append, args := #[s, x], argTypes := #[t, u] }) {v y : Value} (hs : a.eval s = v) (hx : a.eval x = y) {Post : Value → World → Prop}
    (hr : ∃ v' w', (Builtin.append_ #[t, u] o.type #[v, y]).run P w = .ok v' w' ∧ Post v' w') (h : ∀ v' w', Post v' w' → K (a.put o.dst v') w') :
    if Region.wanted o (yielded ops a.tmps) = true then Oper.wp P o a w K Q else E := by
  have hw : Region.wanted o (yielded ops a.tmps) = true := by simp [Region.wanted, hgd]
  rw [if_pos hw]
  obtain ⟨v', w', hrun, hp⟩ := hr
  unfold Oper.wp execOp
  simp only [ho, resolve, invoke, builtin, Sem.run_bind, Sem.run_pure, Result.andThen_ok, List.map_toArray, List.map_cons, List.map_nil, hs, hx, hrun]
  exact h _ _ hp
theorem wpList_append_run2 {P : Program} {w w' : World} {ops : Array Oper} {rest : List Oper} {o : Oper} {a : Act} {Q : Exit → Act → World → Prop} (hgd : o.guard = none) {s x : Operand} {t u : TypeId}
    (ho : o.op = .call { callee := .builtin .append, args := #[s, x], argTypes := #[t, u] }) {v y v' : Value} (hr : (Builtin.append_ #[t, u] o.type #[v, y]).run P w = .ok v' w') (hs : a.eval s = v) (hx : a.eval x = y)
    (h : wpList P ops Q rest (a.put o.dst v') w') : wpList P ops Q (o :: rest) a w :=
  wpList_plain hgd fun _ hK => by
    unfold Oper.wp execOp
    simp only [ho, resolve, invoke, builtin, Sem.run_bind, Sem.run_pure, Result.andThen_ok, List.map_toArray, List.map_cons, List.map_nil, hs, hx, hr]
    exact hK _ _ h
theorem bytes_behind {w : World} {b off n c m : Nat} {l : List UInt8} (h : Rd w 1 (.slice (some ⟨b, off, none⟩) n c) n (Lib.byteCells l)) (hm : m ≤ n) : Rd w 1 (.slice (if c = m then some ⟨b, off, none⟩ else some ⟨b, off + m, none⟩) (n - m) (c - m)) (n - m) (Lib.byteCells (l.drop m)) := by
  have hc : n ≤ c := by obtain ⟨_, _, hv, hc⟩ := h.len; injection hv with _ _ e; omega
  by_cases he : c = m
  · have hn : n = m := by omega
    subst hn
    have hl : l.length = n := by have := h.1; simpa [Lib.byteCells] using this
    rw [if_pos he, Nat.sub_self, List.drop_of_length_le (by omega)]
    exact ⟨by simp [Lib.byteCells], _, _, rfl, Nat.zero_le _, fun h => absurd h (Nat.lt_irrefl 0)⟩
  · rw [if_neg he]
    have := h.drop hm
    rw [Nat.mul_one, byteCells_drop] at this
    exact this
theorem bytes_front {w : World} {A : Option Addr} {n c m : Nat} {l : List UInt8} (h : Rd w 1 (.slice A n c) n (Lib.byteCells l)) (hm : m ≤ n) : Rd w 1 (.slice A m c) m (Lib.byteCells (l.take m)) := by
  have := h.take hm
  rw [Nat.mul_one, byteCells_take] at this
  exact this
end Go.Proofs.YtejgkhmpmnjgaaaDoor
