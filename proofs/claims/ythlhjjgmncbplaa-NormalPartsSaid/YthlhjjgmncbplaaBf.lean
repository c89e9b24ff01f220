/- A row that was made empty, and grows: no block that was there turns. -/
import Derived.Test.YthlhjjgmncbplaaBe
import Derived.ArgAppend
namespace Go.Proofs.Ythlhjjgmncbplaa
open Go.RowKit

/-- Empty, with no room, wherever it lies; or the call's own. -/
def OwnE (w : World) (B : Nat) (e : TypeId) (size : Nat) (v : Value) (n : Nat) (xs : List Value) : Prop :=
  (n = 0 ∧ xs = [] ∧ ∃ g, v = .slice (some ⟨g, 0, none⟩) 0 0) ∨ Own w B e size v n xs
theorem OwnE.nil (w : World) (B : Nat) (e : TypeId) (size g : Nat) : OwnE w B e size (.slice (some ⟨g, 0, none⟩) 0 0) 0 [] := .inl ⟨rfl, rfl, g, rfl⟩
theorem OwnE.ext {w w' : World} {B : Nat} {e : TypeId} {size : Nat} {v : Value} {n : Nat} {xs : List Value} (h : OwnE w B e size v n xs) (x : Ext w w') : OwnE w' B e size v n xs := by
  rcases h with h | h
  · exact .inl h
  · exact .inr (h.ext x)
theorem OwnE.rd {w : World} {B : Nat} {e : TypeId} {size : Nat} {v : Value} {n : Nat} {xs : List Value} (h : OwnE w B e size v n xs) : Rd w size v n xs := by
  rcases h with ⟨rfl, rfl, g, rfl⟩ | h
  · exact ⟨by simp, _, _, rfl, Nat.le_refl _, fun h => absurd h (Nat.lt_irrefl 0)⟩
  · exact h.rd
/-- append of m elements that lie in a block of their own, just made. -/
theorem app_e {P : Program} (t ty e : TypeId) (i : TypeInfo) (z : Value) (size bytes : Nat) (ht : P.underlying t = some (.slice e)) (hi : P.info? e = some i) (hz : i.zero = some z)
    (hsize : i.size = size) (hby : i.bytes = bytes) (hzs : z.cells.size = size) (hsz : 0 < size) (hbl : bytes ≤ 64)
    {a w : World} {B : Nat} {v : Value} {n : Nat} {xs : List Value} (hb : Below B a w) (hB : B ≤ w.heap.size) (ho : OwnE w B e size v n xs) (hn : n ≤ 1000000000)
    (m : Nat) (cur : Array Value) (hm : cur.size = m * size) (hm0 : 0 < m) (hm' : m ≤ 1000000000) (h1 : ∀ u ∈ cur.toList, u.oneCell' = true) (e' : TypeId) :
    ∃ v' w', (Builtin.append_ #[t, t] ty #[v, .slice (some ⟨w.heap.size, 0, none⟩) m m]).run P (w.alloc (.cells cur e')) = .ok v' w' ∧ Own w' B e size v' (n + m) (xs ++ cur.toList) ∧ Below B a w' := by
  rcases ho with ⟨rfl, rfl, g, rfl⟩ | ho
  · have hcells : ∀ j u, cur.toList[j]? = some u → (w.alloc (.cells cur e')).cell? ((⟨w.heap.size, 0, none⟩ : Addr).add j) = some u := by
      intro j u hu
      have hadd : (⟨w.heap.size, 0, none⟩ : Addr).add j = ⟨w.heap.size, j, none⟩ := by unfold Addr.add; split <;> simp_all
      rw [hadd, cell_of_row (w.alloc (.cells cur e')) w.heap.size j cur e' (0, 0) (heap_alloc_new w _)]
      simpa using hu
    obtain ⟨v', w', hr, h2, h3⟩ := run_append_arg_grows (P := P) (w.alloc (.cells cur e')) t ty e i z size bytes ht hi hz hsize hby hzs hsz ⟨g, 0, none⟩ 0 0 [] (by simp) (by simp) ⟨w.heap.size, 0, none⟩ m m cur.toList (by simpa using hm) hcells
      (by omega) (by unfold maxLen; omega) (by
        have : (0 + m) * bytes ≤ 2000000000 * 64 := Nat.mul_le_mul (by omega) hbl
        omega)
    refine ⟨v', w', hr, Own.more ⟨h2, h3.size⟩ (by rw [size_alloc]; omega), ?_⟩
    exact (hb.alloc hB _).grown h3 (by rw [size_alloc]; omega) (fun k hk => by cases hk)
  · exact app_new t ty e i z size bytes ht hi hz hsize hby hzs hsz hbl hb ho hn m cur hm hm' h1 e'
end Go.Proofs.Ythlhjjgmncbplaa
