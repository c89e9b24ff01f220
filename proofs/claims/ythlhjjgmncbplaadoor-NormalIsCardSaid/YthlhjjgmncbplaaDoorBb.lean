/- Slices that the call itself makes: append of one element, as an equation of the run. -/
import Derived.Test.YthlhjjgmncbplaaDoorBa
namespace Go.Proofs.YthlhjjgmncbplaaDoor
open Go.RowKit

theorem Ext.drewN {a b : World} (h : Ext a b) (n : Nat) : Ext a (b.drewN n) := ⟨h.os, h.tape, h.output, h.size, h.block⟩
/-- v is a slice of the call's own, whose cells are xs: it lies in a block from B on. -/
def Own (w : World) (B : Nat) (e : TypeId) (size : Nat) (v : Value) (n : Nat) (xs : List Value) : Prop := w.ownsRow B e size v n xs ∧ B ≤ w.heap.size
theorem Own.nil (w : World) (B : Nat) (e : TypeId) (size : Nat) (h : B ≤ w.heap.size) : Own w B e size (.slice none 0 0) 0 [] := ⟨World.ownsRow_nil w B e size, h⟩
theorem Own.made (w : World) (B : Nat) (e : TypeId) (size n : Nat) (cur : Array Value) (h : B ≤ w.heap.size) (hn : n ≤ 1000000000) (hs : cur.size = n * size) :
    Own (w.alloc (.cells cur e)) B e size (.slice (some ⟨w.heap.size, 0, none⟩) n n) n cur.toList :=
  ⟨⟨by simp [hs], .inr ⟨w.heap.size, n, cur, rfl, h, heap_alloc_new w _, Nat.le_refl _, by unfold maxLen; omega, hs, by rw [← hs, ← Array.length_toList, List.take_length]⟩⟩, by simp; omega⟩
theorem Own.drew {w : World} {B : Nat} {e : TypeId} {size : Nat} {v : Value} {n : Nat} {xs : List Value} (h : Own w B e size v n xs) : Own w.drew B e size v n xs := h
theorem Own.alloc {w : World} {B : Nat} {e : TypeId} {size : Nat} {v : Value} {n : Nat} {xs : List Value} (h : Own w B e size v n xs) (o : Obj) : Own (w.alloc o) B e size v n xs :=
  ⟨h.1.alloc o, by have := h.2; simp; omega⟩
theorem Own.ext {w w' : World} {B : Nat} {e : TypeId} {size : Nat} {v : Value} {n : Nat} {xs : List Value} (h : Own w B e size v n xs) (x : Ext w w') : Own w' B e size v n xs := by
  refine ⟨⟨h.1.1, ?_⟩, Nat.le_trans h.2 x.size⟩
  rcases h.1.2 with h2 | ⟨g, cap, cur, hv, hg, hh, r⟩
  · exact .inl h2
  · exact .inr ⟨g, cap, cur, hv, hg, by rw [x.block g (Array.getElem?_eq_some_iff.1 hh).1]; exact hh, r⟩
theorem Own.more {w : World} {B B' : Nat} {e : TypeId} {size : Nat} {v : Value} {n : Nat} {xs : List Value} (h : Own w B e size v n xs) (hB : B' ≤ B) : Own w B' e size v n xs := by
  refine ⟨⟨h.1.1, ?_⟩, Nat.le_trans hB h.2⟩
  rcases h.1.2 with h2 | ⟨g, cap, cur, hv, hg, r⟩
  · exact .inl h2
  · exact .inr ⟨g, cap, cur, hv, by omega, r⟩
theorem Own.len {w : World} {B : Nat} {e : TypeId} {size : Nat} {v : Value} {n : Nat} {xs : List Value} (h : Own w B e size v n xs) : ∃ a c, v = .slice a n c ∧ n ≤ c := by
  rcases h.1.2 with ⟨rfl, rfl⟩ | ⟨g, cap, cur, rfl, _, _, hc, _⟩
  · exact ⟨none, 0, rfl, Nat.le_refl _⟩
  · exact ⟨_, cap, rfl, hc⟩

theorem Own.cells {w : World} {B : Nat} {e : TypeId} {size : Nat} {v : Value} {n : Nat} {xs : List Value} (h : Own w B e size v n xs) (hn : 0 < n) :
    ∃ g c, v = .slice (some ⟨g, 0, none⟩) n c ∧ n ≤ c ∧ B ≤ g ∧ g < w.heap.size ∧ ∀ (j : Nat) (u : Value), xs[j]? = some u → w.cell? ⟨g, j, none⟩ = some u := by
  rcases h.1.2 with ⟨rfl, h0⟩ | ⟨g, cap, cur, rfl, hb, hg, hc, _, _, ht⟩
  · omega
  · refine ⟨g, cap, rfl, hc, hb, (Array.getElem?_eq_some_iff.1 hg).1, fun j u hu => ?_⟩
    have := h.1.cells (g := g) rfl j u hu
    have hadd : (⟨g, 0, none⟩ : Addr).add j = ⟨g, j, none⟩ := by unfold Addr.add; split <;> simp_all
    rw [hadd] at this
    exact this
theorem below_grown {B : Nat} {a w w' : World} {v : Value} {e : TypeId} {size n : Nat} {xs : List Value} (h : Below B a w) (ho : Own w B e size v n xs) (hg : w.grownBy w' v.ownBlock) : Below B a w' :=
  h.grown hg ho.2 fun k hk => (ho.1.lt k hk).1

/-- append of m elements that lie in a block of their own, just made. -/
theorem app_new {P : Program} (t ty e : TypeId) (i : TypeInfo) (z : Value) (size bytes : Nat) (ht : P.underlying t = some (.slice e)) (hi : P.info? e = some i) (hz : i.zero = some z)
    (hsize : i.size = size) (hby : i.bytes = bytes) (hzs : z.cells.size = size) (hsz : 0 < size) (hbl : bytes ≤ 64)
    {a w : World} {B : Nat} {v : Value} {n : Nat} {xs : List Value} (hb : Below B a w) (ho : Own w B e size v n xs) (hn : n ≤ 1000000000)
    (m : Nat) (cur : Array Value) (hm : cur.size = m * size) (hm' : m ≤ 1000000000) (h1 : ∀ u ∈ cur.toList, u.oneCell' = true) (e' : TypeId) :
    ∃ v' w', (Builtin.append_ #[t, t] ty #[v, .slice (some ⟨w.heap.size, 0, none⟩) m m]).run P (w.alloc (.cells cur e')) = .ok v' w' ∧ Own w' B e size v' (n + m) (xs ++ cur.toList) ∧ Below B a w' := by
  have ho' := ho.alloc (.cells cur e')
  have hcells : ∀ j u, cur.toList[j]? = some u → (w.alloc (.cells cur e')).cell? ((⟨w.heap.size, 0, none⟩ : Addr).add j) = some u := by
    intro j u hu
    have hadd : (⟨w.heap.size, 0, none⟩ : Addr).add j = ⟨w.heap.size, j, none⟩ := by unfold Addr.add; split <;> simp_all
    rw [hadd, cell_of_row (w.alloc (.cells cur e')) w.heap.size j cur e' (0, 0) (heap_alloc_new w _)]
    simpa using hu
  obtain ⟨v', w', hr, h2, h3, _⟩ := run_append_own (P := P) (w.alloc (.cells cur e')) B t ty e i z size bytes ht hi hz hsize hby hzs hsz v n xs ho'.1 ⟨w.heap.size, 0, none⟩ m m cur.toList (by simpa using hm) hcells h1
    (by unfold maxLen; omega) (by
      have : (n + m) * bytes ≤ 2000000000 * 64 := Nat.mul_le_mul (by omega) hbl
      omega) ho'.2
  exact ⟨v', w', hr, ⟨h2, Nat.le_trans ho'.2 h3.size⟩, below_grown (hb.alloc ho.2 _) ho' h3⟩
theorem wpList_append_run {P : Program} {w w' : World} {ops : Array Oper} {rest : List Oper} {o : Oper} {a : Act} {Q : Exit → Act → World → Prop} (hgd : o.guard = none) {s x : Operand} {t : TypeId}
    (ho : o.op = .call { callee := .builtin .append, args := #[s, x], argTypes := #[t, t] }) {v y v' : Value} (hr : (Builtin.append_ #[t, t] o.type #[v, y]).run P w = .ok v' w') (hs : a.eval s = v) (hx : a.eval x = y)
    (h : wpList P ops Q rest (a.put o.dst v') w') : wpList P ops Q (o :: rest) a w :=
  wpList_plain hgd fun _ hK => by
    unfold Oper.wp execOp
    simp only [ho, resolve, invoke, builtin, Sem.run_bind, Sem.run_pure, Result.andThen_ok, List.map_toArray, List.map_cons, List.map_nil, hs, hx, hr]
    exact hK _ _ h
end Go.Proofs.YthlhjjgmncbplaaDoor
