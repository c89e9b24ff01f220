/- Words for walks of calls in a row. -/
import Derived.Test.YtmfeggeinoaheaaDoorBf
import Derived.Test.YtmfeggeinoaheaaDoorC4
namespace Go.Proofs.YtmfeggeinoaheaaDoor
open Go.RowKit
set_option maxRecDepth 100000

/-- A slice of slices of spans that reads. -/
def RdSS (w : World) (A : Option Addr) (n c : Nat) (ls : List (List Sp)) : Prop :=
  ls.length = n ∧ ∃ vs : List Value, Rd w 1 (.slice A n c) n vs ∧ ∀ (i : Nat) (l : List Sp), ls[i]? = some l → ∃ a k, vs[i]? = some (.slice a l.length k) ∧ Rd w 3 (.slice a l.length k) l.length (spCells l)
theorem RdSS.ext {w w' : World} {A : Option Addr} {n c : Nat} {ls : List (List Sp)} (h : RdSS w A n c ls) (x : Ext w w') : RdSS w' A n c ls := by
  obtain ⟨h1, vs, h2, h3⟩ := h
  exact ⟨h1, vs, h2.ext x, fun i l hl => by
    obtain ⟨a, k, g1, g2⟩ := h3 i l hl
    exact ⟨a, k, g1, g2.ext x⟩⟩
theorem RdSS.nil (w : World) : RdSS w none 0 0 [] := ⟨rfl, [], Rd.nil w 1, fun i l h => (by simp at h)⟩
theorem RdSS.at_ {w : World} {A : Option Addr} {n c : Nat} {ls : List (List Sp)} (h : RdSS w A n c ls) {i : Nat} (hi : i < n) (hl : i < ls.length) :
    ∃ b off a k, A = some ⟨b, off, none⟩ ∧ b < w.heap.size ∧ w.cell? ⟨b, off + i, none⟩ = some (.slice a ls[i].length k) ∧ Rd w 3 (.slice a ls[i].length k) ls[i].length (spCells ls[i]) := by
  obtain ⟨h1, vs, h2, h3⟩ := h
  obtain ⟨a, k, g1, g2⟩ := h3 i _ (List.getElem?_eq_getElem hl)
  obtain ⟨b, off, u, hA, hb, hu, hc⟩ := h2.cell hi
  rw [g1] at hu
  injection hu with hu
  subst hu
  exact ⟨b, off, a, k, hA, hb, hc, g2⟩
/-- A slice of slices of spans that is the call's own, with all that it holds. -/
def OwnSS (w : World) (B : Nat) (tS tE : TypeId) (v : Value) (ls : List (List Sp)) : Prop :=
  ∃ vs : List Value, Own w B tS 1 v ls.length vs ∧ ∀ (i : Nat) (l : List Sp), ls[i]? = some l → ∃ u, vs[i]? = some u ∧ Own w B tE 3 u l.length (spCells l)
theorem OwnSS.ext {w w' : World} {B : Nat} {tS tE : TypeId} {v : Value} {ls : List (List Sp)} (h : OwnSS w B tS tE v ls) (x : Ext w w') : OwnSS w' B tS tE v ls := by
  obtain ⟨vs, h1, h2⟩ := h
  exact ⟨vs, h1.ext x, fun i l hl => by
    obtain ⟨u, g1, g2⟩ := h2 i l hl
    exact ⟨u, g1, g2.ext x⟩⟩
theorem OwnSS.rd {w : World} {B : Nat} {tS tE : TypeId} {v : Value} {ls : List (List Sp)} (h : OwnSS w B tS tE v ls) : ∃ A c, v = .slice A ls.length c ∧ ls.length ≤ c ∧ RdSS w A ls.length c ls := by
  obtain ⟨vs, h1, h2⟩ := h
  obtain ⟨A, c, rfl, hc⟩ := h1.len
  refine ⟨A, c, rfl, hc, rfl, vs, h1.rd, fun i l hl => ?_⟩
  obtain ⟨u, g1, g2⟩ := h2 i l hl
  obtain ⟨a, k, rfl, _⟩ := g2.len
  exact ⟨a, k, g1, g2.rd⟩
/-- append of m elements that lie in a block of their own, just made: no block of another kind turns. -/
theorem app_newo {P : Program} (t ty e : TypeId) (i : TypeInfo) (z : Value) (size bytes : Nat) (ht : P.underlying t = some (.slice e)) (hi : P.info? e = some i) (hz : i.zero = some z)
    (hsize : i.size = size) (hby : i.bytes = bytes) (hzs : z.cells.size = size) (hsz : 0 < size) (hbl : bytes ≤ 64)
    {a w : World} {B : Nat} {v : Value} {n : Nat} {xs : List Value} (hb : Below B a w) (ho : Own w B e size v n xs) (hn : n ≤ 1000000000)
    (m : Nat) (cur : Array Value) (hm : cur.size = m * size) (hm' : m ≤ 1000000000) (h1 : ∀ u ∈ cur.toList, u.oneCell' = true) (e' : TypeId) :
    ∃ v' w', (Builtin.append_ #[t, t] ty #[v, .slice (some ⟨w.heap.size, 0, none⟩) m m]).run P (w.alloc (.cells cur e')) = .ok v' w' ∧ Own w' B e size v' (n + m) (xs ++ cur.toList) ∧ Below B a w' ∧ Others w w' e := by
  have ho' := ho.alloc (.cells cur e')
  have hcells : ∀ j u, cur.toList[j]? = some u → (w.alloc (.cells cur e')).cell? ((⟨w.heap.size, 0, none⟩ : Addr).add j) = some u := by
    intro j u hu
    have hadd : (⟨w.heap.size, 0, none⟩ : Addr).add j = ⟨w.heap.size, j, none⟩ := by unfold Addr.add; split <;> simp_all
    rw [hadd, cell_of_row (w.alloc (.cells cur e')) w.heap.size j cur e' (0, 0) (heap_alloc_new w _)]
    simpa using hu
  obtain ⟨v', w', hr, h2, h3, _⟩ := run_append_own (P := P) (w.alloc (.cells cur e')) B t ty e i z size bytes ht hi hz hsize hby hzs hsz v n xs ho'.1 ⟨w.heap.size, 0, none⟩ m m cur.toList (by simpa using hm) hcells h1
    (by unfold maxLen; omega) (by
      have : (n + m) * bytes ≤ 2000000000 * 64 := Nat.mul_le_mul (by omega) hbl
      omega) ho'.2
  have hoo := others_own ho' h3
  refine ⟨v', w', hr, ⟨h2, Nat.le_trans ho'.2 h3.size⟩, below_grown (hb.alloc ho.2 _) ho' h3, ⟨Nat.le_trans (by rw [size_alloc]; omega) hoo.1, fun g c1 e1 f hne hg => hoo.2 g c1 e1 f hne ?_⟩⟩
  have hlt := (Array.getElem?_eq_some_iff.1 hg).1
  rw [((Ext.refl w).alloc (.cells cur e')).below.block g hlt]
  exact hg
end Go.Proofs.YtmfeggeinoaheaaDoor
namespace Go.Proofs.YtmfeggeinoaheaaDoor
open Go.RowKit
/-- The cells of a box. -/
def BoxG (w : World) (b : Nat) (vs : Array Value) : Prop := b < w.heap.size ∧ ∀ (q : Nat) (u : Value), vs[q]? = some u → w.cell? ⟨b, q, none⟩ = some u
theorem BoxG.ext {w w' : World} {b : Nat} {vs : Array Value} (h : BoxG w b vs) (x : Ext w w') : BoxG w' b vs :=
  ⟨Nat.lt_of_lt_of_le h.1 x.size, fun q u hu => ext_cell x (h.2 q u hu)⟩
theorem BoxG.made (w : World) (vs : Array Value) (e : TypeId) : BoxG (w.alloc (.cells vs e)) w.heap.size vs :=
  ⟨by rw [size_alloc]; omega, fun q u hu => box_at w _ vs e (Ext.refl _) q u hu⟩
/-- An operation that reads: its length a letter. -/
def RdO (w : World) (A : Option Addr) (n c : Nat) (l : List Sp) : Prop := l.length = n ∧ Rd w 3 (.slice A n c) n (spCells l)
theorem RdO.ext {w w' : World} {A : Option Addr} {n c : Nat} {l : List Sp} (h : RdO w A n c l) (x : Ext w w') : RdO w' A n c l := ⟨h.1, h.2.ext x⟩
theorem rdO_own {w : World} {B : Nat} {e : TypeId} {v : Value} {l : List Sp} (h : Own w B e 3 v l.length (spCells l)) : ∃ A n c, v = .slice A n c ∧ RdO w A n c l := by
  obtain ⟨A, c, rfl, _⟩ := h.len
  exact ⟨A, _, c, rfl, rfl, h.rd⟩
theorem rdO_rd {w : World} {v : Value} {l : List Sp} (h : Rd w 3 v l.length (spCells l)) : ∃ A n c, v = .slice A n c ∧ RdO w A n c l := by
  obtain ⟨A, c, rfl, _⟩ := h.len
  exact ⟨A, _, c, rfl, rfl, h⟩
end Go.Proofs.YtmfeggeinoaheaaDoor
