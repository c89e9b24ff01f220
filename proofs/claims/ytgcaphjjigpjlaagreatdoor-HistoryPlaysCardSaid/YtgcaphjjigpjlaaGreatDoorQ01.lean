/- Packed: Ba M15. -/
import Derived.Laws.AppendOwnNone
import Derived.Laws.BytesArg
import Derived.Lib.DecodeN
import Derived.Lib.Hide
import Derived.Lib.Strings
import Derived.Lib.UnsafeStr
import Derived.StillTailTactics
import Derived.Test.YtgcaphjjigpjlaaGreatDoorProg
import Derived.WalkKit
import Derived.WalkLawsBesides
import Derived.WalkSpells
import Derived.Test.YtgcaphjjigpjlaaGreatDoorQ00
namespace Go.Proofs.YtgcaphjjigpjlaaGreatDoor
open Go.RowKit
def Ext (w w' : World) : Prop := Below w.heap.size w w'
theorem Ext.refl (w : World) : Ext w w := Below.refl _ _
theorem Ext.trans {a b c : World} (h : Ext a b) (k : Ext b c) : Ext a c := Below.trans h (Below.mono k h.size)
theorem Ext.alloc {a b : World} (h : Ext a b) (o : Obj) : Ext a (b.alloc o) := Below.alloc h h.size o
theorem Ext.drew {a b : World} (h : Ext a b) : Ext a b.drew := Below.drew h
theorem Ext.below {a b : World} (h : Ext a b) : Below a.heap.size a b := h
theorem Ext.iter {a b : World} (h : Ext a b) (s : ByteArray) (p : Nat) : Ext a (b.iter s p) := h.alloc _
theorem ret_int {k : IntKind} {a b : Int} (h : a = b) : Ending.returned (.int k a) = .returned (.int k b) := by rw [h]
def bs (s : ByteArray) : List UInt8 := s.data.toList
theorem bs_length (s : ByteArray) : (bs s).length = s.size := by simp [bs]
theorem bs_inj {a b : ByteArray} (h : bs a = bs b) : a = b := by
  cases a; cases b; simp only [bs] at h; congr 1; exact Array.toList_inj.1 h
theorem bs_extract (s : ByteArray) (i j : Nat) : bs (s.extract i j) = ((bs s).drop i).take (j - i) := by
  simp [bs]
theorem nth_bs (s : ByteArray) (i : Nat) (h : i < s.size) : nth (bs s) i = (s[i]'h).toNat := by
  have h' : i < (bs s).length := by rw [bs_length]; exact h
  unfold nth
  rw [List.getD_eq_getElem?_getD, List.getElem?_eq_getElem h']
  rfl
def mkS (l : List UInt8) : ByteArray := ⟨l.toArray⟩
theorem bs_mkS (l : List UInt8) : bs (mkS l) = l := by simp [bs, mkS]
theorem mkS_bs (s : ByteArray) : mkS (bs s) = s := bs_inj (bs_mkS _)
theorem mkS_of {s : ByteArray} {l : List UInt8} (h : bs s = l) : s = mkS l := by rw [← h, mkS_bs]
theorem size_mkS (l : List UInt8) : (mkS l).size = l.length := by rw [← bs_length, bs_mkS]
end Go.Proofs.YtgcaphjjigpjlaaGreatDoor
namespace Go.Proofs.YtgcaphjjigpjlaaGreatDoor
open Go.RowKit
theorem Ext.drewN {a b : World} (h : Ext a b) (n : Nat) : Ext a (b.drewN n) := ⟨h.os, h.tape, h.output, h.size, h.block⟩
def Own (w : World) (B : Nat) (e : TypeId) (size : Nat) (v : Value) (n : Nat) (xs : List Value) : Prop := w.ownsRow B e size v n xs ∧ B ≤ w.heap.size
theorem Own.nil (w : World) (B : Nat) (e : TypeId) (size : Nat) (h : B ≤ w.heap.size) : Own w B e size (.slice none 0 0) 0 [] := ⟨World.ownsRow_nil w B e size, h⟩
theorem Own.made (w : World) (B : Nat) (e : TypeId) (size n : Nat) (cur : Array Value) (h : B ≤ w.heap.size) (hn : n ≤ 1000000000) (hs : cur.size = n * size) :
    Own (w.alloc (.cells cur e)) B e size (.slice (some ⟨w.heap.size, 0, none⟩) n n) n cur.toList :=
  ⟨⟨by simp [hs], .inr ⟨w.heap.size, n, cur, rfl, h, heap_alloc_new w _, Nat.le_refl _, by unfold maxLen; omega, hs, by rw [← hs, ← Array.length_toList, List.take_length]⟩⟩, by simp; omega⟩
theorem Own.drew {w : World} {B : Nat} {e : TypeId} {size : Nat} {v : Value} {n : Nat} {xs : List Value} (h : Own w B e size v n xs) : Own w.drew B e size v n xs := h
theorem Own.alloc {w : World} {B : Nat} {e : TypeId} {size : Nat} {v : Value} {n : Nat} {xs : List Value} (h : Own w B e size v n xs) (o : Obj) : Own (w.alloc o) B e size v n xs :=
  ⟨h.1.alloc o, by have := h.2; simp; omega⟩
theorem Own.ext {w w' : World} {B : Nat} {e : TypeId} {size : Nat} {v : Value} {n : Nat} {xs : List Value} (h : Own w B e size v n xs) (x : Ext w w') : Own w' B e size v n xs := by
  refine ⟨⟨h.1.1, ?_⟩, Nat.le_trans h.2 x.size⟩
  rcases h.1.2 with h2 | ⟨g, cap, cur, hv, hg, hh, r⟩
  · exact .inl h2
  · exact .inr ⟨g, cap, cur, hv, hg, by rw [x.block g (Array.getElem?_eq_some_iff.1 hh).1]; exact hh, r⟩
theorem Own.more {w : World} {B B' : Nat} {e : TypeId} {size : Nat} {v : Value} {n : Nat} {xs : List Value} (h : Own w B e size v n xs) (hB : B' ≤ B) : Own w B' e size v n xs := by
  refine ⟨⟨h.1.1, ?_⟩, Nat.le_trans hB h.2⟩
  rcases h.1.2 with h2 | ⟨g, cap, cur, hv, hg, r⟩
  · exact .inl h2
  · exact .inr ⟨g, cap, cur, hv, by omega, r⟩
theorem Own.len {w : World} {B : Nat} {e : TypeId} {size : Nat} {v : Value} {n : Nat} {xs : List Value} (h : Own w B e size v n xs) : ∃ a c, v = .slice a n c ∧ n ≤ c := by
  rcases h.1.2 with ⟨rfl, rfl⟩ | ⟨g, cap, cur, rfl, _, _, hc, _⟩
  · exact ⟨none, 0, rfl, Nat.le_refl _⟩
  · exact ⟨_, cap, rfl, hc⟩
theorem Own.cells {w : World} {B : Nat} {e : TypeId} {size : Nat} {v : Value} {n : Nat} {xs : List Value} (h : Own w B e size v n xs) (hn : 0 < n) :
    ∃ g c, v = .slice (some ⟨g, 0, none⟩) n c ∧ n ≤ c ∧ B ≤ g ∧ g < w.heap.size ∧ ∀ (j : Nat) (u : Value), xs[j]? = some u → w.cell? ⟨g, j, none⟩ = some u := by
  rcases h.1.2 with ⟨rfl, h0⟩ | ⟨g, cap, cur, rfl, hb, hg, hc, _, _, ht⟩
  · omega
  · refine ⟨g, cap, rfl, hc, hb, (Array.getElem?_eq_some_iff.1 hg).1, fun j u hu => ?_⟩
    have := h.1.cells (g := g) rfl j u hu
    have hadd : (⟨g, 0, none⟩ : Addr).add j = ⟨g, j, none⟩ := by unfold Addr.add; split <;> simp_all
    rw [hadd] at this
    exact this
theorem below_grown {B : Nat} {a w w' : World} {v : Value} {e : TypeId} {size n : Nat} {xs : List Value} (h : Below B a w) (ho : Own w B e size v n xs) (hg : w.grownBy w' v.ownBlock) : Below B a w' :=
  h.grown hg ho.2 fun k hk => (ho.1.lt k hk).1
theorem app_new {P : Program} (t ty e : TypeId) (i : TypeInfo) (z : Value) (size bytes : Nat) (ht : P.underlying t = some (.slice e)) (hi : P.info? e = some i) (hz : i.zero = some z)
    (hsize : i.size = size) (hby : i.bytes = bytes) (hzs : z.cells.size = size) (hsz : 0 < size) (hbl : bytes ≤ 64)
    {a w : World} {B : Nat} {v : Value} {n : Nat} {xs : List Value} (hb : Below B a w) (ho : Own w B e size v n xs) (hn : n ≤ 1000000000)
    (m : Nat) (cur : Array Value) (hm : cur.size = m * size) (hm' : m ≤ 1000000000) (h1 : ∀ u ∈ cur.toList, u.oneCell' = true) (e' : TypeId) :
    ∃ v' w', (Builtin.append_ #[t, t] ty #[v, .slice (some ⟨w.heap.size, 0, none⟩) m m]).run P (w.alloc (.cells cur e')) = .ok v' w' ∧ Own w' B e size v' (n + m) (xs ++ cur.toList) ∧ Below B a w' := by
  have ho' := ho.alloc (.cells cur e')
  have hcells : ∀ j u, cur.toList[j]? = some u → (w.alloc (.cells cur e')).cell? ((⟨w.heap.size, 0, none⟩ : Addr).add j) = some u := by
    intro j u hu
    have hadd : (⟨w.heap.size, 0, none⟩ : Addr).add j = ⟨w.heap.size, j, none⟩ := by unfold Addr.add; split <;> simp_all
    rw [hadd, cell_of_row (w.alloc (.cells cur e')) w.heap.size j cur e' (0, 0) (heap_alloc_new w _)]
    simpa using hu
  obtain ⟨v', w', hr, h2, h3, _⟩ := run_append_own (P := P) (w.alloc (.cells cur e')) B t ty e i z size bytes ht hi hz hsize hby hzs hsz v n xs ho'.1 ⟨w.heap.size, 0, none⟩ m m cur.toList (by simpa using hm) hcells h1
    (by unfold maxLen; omega) (by
      have : (n + m) * bytes ≤ 2000000000 * 64 := Nat.mul_le_mul (by omega) hbl
      omega) ho'.2
  exact ⟨v', w', hr, ⟨h2, Nat.le_trans ho'.2 h3.size⟩, below_grown (hb.alloc ho.2 _) ho' h3⟩
theorem wpList_append_run {P : Program} {w w' : World} {ops : Array Oper} {rest : List Oper} {o : Oper} {a : Act} {Q : Exit → Act → World → Prop} (hgd : o.guard = none) {s x : Operand} {t : TypeId}
    (ho : o.op = .call { callee := .builtin .append, args := #[s, x], argTypes := #[t, t] }) {v y v' : Value} (hr : (Builtin.append_ #[t, t] o.type #[v, y]).run P w = .ok v' w') (hs : a.eval s = v) (hx : a.eval x = y)
    (h : wpList P ops Q rest (a.put o.dst v') w') : wpList P ops Q (o :: rest) a w :=
  wpList_plain hgd fun _ hK => by
    unfold Oper.wp execOp
    simp only [ho, resolve, invoke, builtin, Sem.run_bind, Sem.run_pure, Result.andThen_ok, List.map_toArray, List.map_cons, List.map_nil, hs, hx, hr]
    exact hK _ _ h
end Go.Proofs.YtgcaphjjigpjlaaGreatDoor
namespace Go.Proofs.YtgcaphjjigpjlaaGreatDoor
open Go.RowKit
def Rd (w : World) (size : Nat) (v : Value) (n : Nat) (xs : List Value) : Prop :=
  xs.length = n * size ∧ ∃ A c, v = .slice A n c ∧ n ≤ c ∧ (0 < n → ∃ b off, A = some ⟨b, off, none⟩ ∧ b < w.heap.size ∧ ∀ (j : Nat) (u : Value), xs[j]? = some u → w.cell? ⟨b, off + j, none⟩ = some u)
theorem Rd.ext {w w' : World} {size : Nat} {v : Value} {n : Nat} {xs : List Value} (h : Rd w size v n xs) (x : Ext w w') : Rd w' size v n xs := by
  obtain ⟨h1, A, c, hv, hc, h2⟩ := h
  refine ⟨h1, A, c, hv, hc, fun hn => ?_⟩
  obtain ⟨b, off, hA, hb, hcell⟩ := h2 hn
  exact ⟨b, off, hA, Nat.lt_of_lt_of_le hb x.size, fun j u hu => (x.below.cell (p := ⟨b, off + j, none⟩) hb).trans (hcell j u hu)⟩
theorem Rd.nil (w : World) (size : Nat) : Rd w size (.slice none 0 0) 0 [] := ⟨by simp, none, 0, rfl, Nat.le_refl _, fun h => by omega⟩
theorem Rd.at_ {w : World} {v : Value} {n : Nat} {xs : List Value} (h : Rd w 1 v n xs) {k : Nat} (hk : k < n) :
    ∃ b off c u, v = .slice (some ⟨b, off, none⟩) n c ∧ n ≤ c ∧ b < w.heap.size ∧ xs[k]? = some u ∧ w.cell? ⟨b, off + k, none⟩ = some u := by
  obtain ⟨h1, A, c, hv, hc, h2⟩ := h
  obtain ⟨b, off, rfl, hb, hcell⟩ := h2 (by omega)
  have hl : k < xs.length := by omega
  exact ⟨b, off, c, xs[k], hv, hc, hb, List.getElem?_eq_getElem hl, hcell k _ (List.getElem?_eq_getElem hl)⟩
theorem Rd.cell {w : World} {A : Option Addr} {c n : Nat} {xs : List Value} (h : Rd w 1 (.slice A n c) n xs) {k : Nat} (hk : k < n) :
    ∃ b off u, A = some ⟨b, off, none⟩ ∧ b < w.heap.size ∧ xs[k]? = some u ∧ w.cell? ⟨b, off + k, none⟩ = some u := by
  obtain ⟨b, off, c', u, hv, _, hb, hu, hc⟩ := h.at_ hk
  injection hv with hA
  exact ⟨b, off, u, hA, hb, hu, hc⟩
theorem Own.rd {w : World} {B : Nat} {e : TypeId} {size : Nat} {v : Value} {n : Nat} {xs : List Value} (h : Own w B e size v n xs) : Rd w size v n xs := by
  refine ⟨h.1.1, ?_⟩
  by_cases hn : 0 < n
  · obtain ⟨g, c, hv, hc, _, hg, hcell⟩ := h.cells hn
    exact ⟨_, c, hv, hc, fun _ => ⟨g, 0, rfl, hg, fun j u hu => by rw [Nat.zero_add]; exact hcell j u hu⟩⟩
  · obtain ⟨a, c, hv, hc⟩ := h.len
    exact ⟨a, c, hv, hc, fun h => absurd h hn⟩
theorem strOfNums_bytes (l : List UInt8) : strOfNums (l.map fun b => (b.toNat : Int)) = mkS l := by
  apply bs_inj
  rw [bs_mkS]
  show (strOfNums _).data.toList = _
  rw [strOfNums_data, List.map_map]
  conv => rhs; rw [← List.map_id l]
  apply List.map_congr_left
  intro b _
  simp
theorem run_str {P : Program} (w : World) (src dst e : TypeId) (hs : P.underlying src = some (.slice e)) (he : P.underlying e = some (.int .u8)) (hd : P.underlying dst = some .string)
    {v : Value} {n : Nat} {l : List UInt8} (h : Rd w 1 v n (Lib.byteCells l)) : (convert src dst v).run P w = .ok (.string (mkS l)) w := by
  obtain ⟨h1, A, c, rfl, hc, h2⟩ := h
  have hl : l.length = n := by simpa [Lib.byteCells] using h1
  by_cases hn : 0 < n
  · obtain ⟨b, off, rfl, hb, hcell⟩ := h2 hn
    rw [run_convert_bytes_arg w src e hs he b off n c (l.map fun b => (b.toNat : Int)) (by simpa using hl) (fun i hi => by
      have hil : i < l.length := by omega
      apply hcell
      simp [Lib.byteCells, List.getElem?_eq_getElem hil, List.getD]) dst hd, strOfNums_bytes]
  · have hl0 : l = [] := List.eq_nil_of_length_eq_zero (by omega)
    subst hl0
    obtain rfl : n = 0 := by omega
    cases A with
    | none => rw [run_convert_bytes_nil w src e hs he 0 c dst hd]; rfl
    | some ad =>
      rw [run_convert_bytes_string w src dst e _ 0 c hs he hd, run_bytesToString w ad 0 c [] (by simp [loadCells, loadCellsFrom])]
      rfl
theorem wpList_convert_run {P : Program} {w : World} {ops : Array Oper} {rest : List Oper} {o : Oper} {a : Act} {Q : Exit → Act → World → Prop} (hgd : o.guard = none) {x : Operand} {src dst : TypeId}
    (ho : o.op = .convert src dst x) {v v' : Value} (hr : (convert src dst v).run P w = .ok v' w) (hx : a.eval x = v)
    (h : wpList P ops Q rest (a.put o.dst v') w) : wpList P ops Q (o :: rest) a w :=
  wpList_plain hgd fun _ hK => by
    unfold Oper.wp execOp
    simp only [ho, Sem.run_bind, Result.andThen_ok, hx, hr]
    exact hK _ _ h
end Go.Proofs.YtgcaphjjigpjlaaGreatDoor
namespace Go.Proofs.YtgcaphjjigpjlaaGreatDoor
open Go.RowKit
theorem Rd.len {w : World} {size : Nat} {v : Value} {n : Nat} {xs : List Value} (h : Rd w size v n xs) : ∃ A c, v = .slice A n c ∧ n ≤ c := by
  obtain ⟨_, A, c, hv, hc, _⟩ := h; exact ⟨A, c, hv, hc⟩
theorem Rd.take {w : World} {size : Nat} {A : Option Addr} {n c : Nat} {xs : List Value} (h : Rd w size (.slice A n c) n xs) {m : Nat} (hm : m ≤ n) : Rd w size (.slice A m c) m (xs.take (m * size)) := by
  obtain ⟨h1, A', c', hv, hc, h2⟩ := h
  injection hv with e1 e2 e3
  subst e1; subst e3
  refine ⟨by rw [List.length_take, h1]; exact Nat.min_eq_left (Nat.mul_le_mul_right _ hm), A, c, rfl, by omega, fun h0 => ?_⟩
  obtain ⟨b, off, hA, hb, hcell⟩ := h2 (by omega)
  refine ⟨b, off, hA, hb, fun j u hu => hcell j u ?_⟩
  rw [List.getElem?_take] at hu
  split at hu
  · exact hu
  · cases hu
theorem Rd.drop {w : World} {size : Nat} {b off : Nat} {n c : Nat} {xs : List Value} (h : Rd w size (.slice (some ⟨b, off, none⟩) n c) n xs) {m : Nat} (hm : m ≤ n) :
    Rd w size (.slice (some ⟨b, off + m * size, none⟩) (n - m) (c - m)) (n - m) (xs.drop (m * size)) := by
  obtain ⟨h1, A', c', hv, hc, h2⟩ := h
  injection hv with e1 e2 e3
  subst e1; subst e3
  refine ⟨by rw [List.length_drop, h1, Nat.sub_mul], _, _, rfl, by omega, fun h0 => ?_⟩
  obtain ⟨b', off', hA, hb, hcell⟩ := h2 (by omega)
  injection hA with hA
  injection hA with e1 e2
  subst e1; subst e2
  refine ⟨_, _, rfl, hb, fun j u hu => ?_⟩
  rw [List.getElem?_drop] at hu
  rw [Nat.add_assoc]
  exact hcell _ u hu
theorem app_rd {P : Program} (t ty e : TypeId) (i : TypeInfo) (z : Value) (size bytes : Nat) (ht : P.underlying t = some (.slice e)) (hi : P.info? e = some i) (hz : i.zero = some z)
    (hsize : i.size = size) (hby : i.bytes = bytes) (hzs : z.cells.size = size) (hsz : 0 < size) (hbl : bytes ≤ 64)
    {a w : World} {B : Nat} {v : Value} {n : Nat} {xs : List Value} (hb : Below B a w) (ho : Own w B e size v n xs) (hn : n ≤ 1000000000)
    {y : Value} {m : Nat} {ys : List Value} (hr : Rd w size y m ys) (hm' : m ≤ 1000000000) (h1 : ∀ u ∈ ys, u.oneCell' = true) :
    ∃ v' w', (Builtin.append_ #[t, t] ty #[v, y]).run P w = .ok v' w' ∧ Own w' B e size v' (n + m) (xs ++ ys) ∧ Below B a w' := by
  obtain ⟨hl, A, c, rfl, hc, hcell⟩ := hr
  have hbytes : (n + m) * bytes ≤ 140737488355328 := by
    have : (n + m) * bytes ≤ 2000000000 * 64 := Nat.mul_le_mul (by omega) hbl
    omega
  have go : ∀ x : Addr, A = some x → (∀ (j : Nat) (u : Value), ys[j]? = some u → w.cell? (x.add j) = some u) →
      ∃ v' w', (Builtin.append_ #[t, t] ty #[v, .slice A m c]).run P w = .ok v' w' ∧ Own w' B e size v' (n + m) (xs ++ ys) ∧ Below B a w' := by
    rintro x rfl hx
    obtain ⟨v', w', hrun, h2, h3, _⟩ := run_append_own (P := P) w B t ty e i z size bytes ht hi hz hsize hby hzs hsz v n xs ho.1 x m c ys hl hx h1
      (by unfold maxLen; omega) hbytes ho.2
    exact ⟨v', w', hrun, ⟨h2, Nat.le_trans ho.2 h3.size⟩, below_grown hb ho h3⟩
  by_cases h0 : 0 < m
  · obtain ⟨b, off, hA, hbb, hx⟩ := hcell h0
    exact go _ hA (fun j u hu => by
      have : (⟨b, off, none⟩ : Addr).add j = ⟨b, off + j, none⟩ := by
        unfold Addr.add; split
        · rename_i h; subst h; rfl
        · rfl
      rw [this]; exact hx j u hu)
  · have hm0 : m = 0 := by omega
    subst hm0
    have hys : ys = [] := List.eq_nil_of_length_eq_zero (by simpa using hl)
    subst hys
    cases A with
    | some x => exact go x rfl (by simp)
    | none =>
      refine ⟨v, w, ?_, by simpa using ho, hb⟩
      rcases ho.1.2 with ⟨rfl, rfl⟩ | ⟨g, cap, cur, rfl, _, _, hnc, _⟩
      · simp [Builtin.append_, run_underlying ht, sizeOf, typeInfo, hi, Builtin.lenOf, Builtin.firstCells]
      · simp [Builtin.append_, run_underlying ht, sizeOf, typeInfo, hi, Builtin.lenOf, Builtin.firstCells, hnc, storeCells]
end Go.Proofs.YtgcaphjjigpjlaaGreatDoor
namespace Go.Proofs.YtgcaphjjigpjlaaGreatDoor
open Go.RowKit
theorem size_alloc (w : World) (o : Obj) : (w.alloc o).heap.size = w.heap.size + 1 := by simp
theorem size_drewN (w : World) (n : Nat) : (w.drewN n).heap.size = w.heap.size := rfl
theorem ext_cell {w w' : World} (hx : Ext w w') {a : Addr} {v : Value} (h : w.cell? a = some v) : w'.cell? a = some v := (hx.below.cell (World.block_lt_of_cell? w a h)).trans h
theorem box_free (w w' : World) (o : Array Value) (e : TypeId) (hx : Ext (w.alloc (.cells o e)) w') (q : Nat) : w'.frozen? ⟨w.heap.size, q, none⟩ = false := by
  rw [hx.below.frozen (p := ⟨w.heap.size, q, none⟩) (by simp)]
  unfold World.frozen?
  rw [heap_alloc_new]; simp
theorem below_drewN {B : Nat} {a w : World} (h : Below B a w) (n : Nat) : Below B a (w.drewN n) := ⟨h.os, h.tape, h.output, h.size, h.block⟩
theorem own_drewN {w : World} {B : Nat} {e : TypeId} {size : Nat} {v : Value} {n : Nat} {xs : List Value} (h : Own w B e size v n xs) (k : Nat) : Own (w.drewN k) B e size v n xs := h
theorem region_tail {P : Program} {id : Nat} {Q : Exit → Act → World → Prop} {a : Act} {w : World} {l : List Oper} (n : Nat) (hm : P.follows .mixedOrders = true) (hB : Region.lexTailB .any l.toArray n = true)
    (h : ∀ W, W = w.drew → wpStill P l.toArray W (fun a' => wpList P l.toArray Q (l.drop n) a' W) (l.take n) a) : (Code.region id l.toArray true).wp P Q a w :=
  wp_region_still_tail n hm hB (h _ rfl)
theorem box_at (w w' : World) (o : Array Value) (e : TypeId) (hx : Ext (w.alloc (.cells o e)) w') (q : Nat) (u : Value) (hu : o[q]? = some u) : w'.cell? ⟨w.heap.size, q, none⟩ = some u := by
  rw [hx.below.cell (p := ⟨w.heap.size, q, none⟩) (by simp), cell_of_row _ w.heap.size q _ e (0, 0) (heap_alloc_new w _)]
  exact hu
theorem tmod_le (a k : Int) (hk : 0 < k) : -k < a.tmod k ∧ a.tmod k < k := by
  rcases Int.le_total 0 a with h | h
  · rw [Int.tmod_eq_emod_of_nonneg h]
    have := Int.emod_nonneg a (by omega : k ≠ 0); have := Int.emod_lt_of_pos a hk; omega
  · have e : a.tmod k = -((-a).tmod k) := by rw [Int.neg_tmod, Int.neg_neg]
    rw [e, Int.tmod_eq_emod_of_nonneg (by omega)]
    have := Int.emod_nonneg (-a) (by omega : k ≠ 0); have := Int.emod_lt_of_pos (-a) hk; omega
theorem tmod_mod (a k : Int) (hk : 0 < k) : (a.tmod k + k).tmod k = a % k := by
  have h := tmod_le a k hk
  rw [Int.tmod_eq_emod_of_nonneg (by omega), Int.add_emod_right]
  have e : a = k * a.tdiv k + a.tmod k := (Int.mul_tdiv_add_tmod a k).symm
  conv => rhs; rw [e]
  rw [Int.add_emod, Int.mul_emod_right, Int.zero_add, Int.emod_emod]
end Go.Proofs.YtgcaphjjigpjlaaGreatDoor
namespace Go.Proofs.YtgcaphjjigpjlaaGreatDoor
open Go.RowKit
set_option maxRecDepth 100000
def rulesL : List Value :=
  [.bool false, .int .i64 0, .bool false, .bool false, .bool false,
   .bool true, .int .i64 1048576, .bool true, .bool true, .bool false,
   .bool true, .int .i64 0, .bool false, .bool false, .bool true,
   .bool true, .int .i64 1048576, .bool true, .bool false, .bool false]
def TabP (w : World) : Prop := ∀ (i : Nat) (u : Value), rulesL[i]? = some u → w.cell? ⟨0, i, none⟩ = some u
class Tab (w : World) : Prop where
  out : TabP w
theorem tab_ext {w w' : World} [h : Tab w] (hx : Ext w w') : Tab w' := ⟨fun i u hu => ext_cell hx (h.out i u hu)⟩
instance tab_alloc {w : World} {o : Obj} [Tab w] : Tab (w.alloc o) := tab_ext ((Ext.refl w).alloc o)
instance tab_drew {w : World} [Tab w] : Tab w.drew := tab_ext (Ext.refl w).drew
instance tab_drewN {w : World} {n : Nat} [Tab w] : Tab (w.drewN n) := tab_ext ((Ext.refl w).drewN n)
instance tab_iter {w : World} {s : ByteArray} {p : Nat} [Tab w] : Tab (w.iter s p) := tab_ext ((Ext.refl w).iter s p)
theorem tab_rules {w : World} (h : Tab w) (i : Nat) (u : Value) (hu : rulesL[i]? = some u) : w.cell? ⟨0, i, none⟩ = some u := h.out i u hu
end Go.Proofs.YtgcaphjjigpjlaaGreatDoor
namespace Go.Proofs.YtgcaphjjigpjlaaGreatDoor
set_option maxRecDepth 100000
set_option linter.unusedSimpArgs false
def rises : Int → List Int → Prop
  | _, [] => True
  | was, x :: r => was < x ∧ x ≤ 268435455 ∧ rises x r
instance risesD : ∀ was l, Decidable (rises was l)
  | _, [] => .isTrue trivial
  | was, x :: r => by unfold rises; have := risesD x r; infer_instance
def rowOk (l : List Int) : Prop := l ≠ [] ∧ l.length ≤ 65536 ∧ rises (-1) l
instance rowOkD (l : List Int) : Decidable (rowOk l) := by unfold rowOk; infer_instance
end Go.Proofs.YtgcaphjjigpjlaaGreatDoor
