/- Packed: Bf. -/
import Derived.ArgAppend
import Derived.Deep.DrawnRows
import Derived.Deep.RegionHeld3
import Derived.Deep.Upon
import Derived.Laws.AppendOwnNone
import Derived.Laws.BytesArg
import Derived.Lib.DecodeN
import Derived.Lib.Hide
import Derived.Lib.Strings
import Derived.Lib.UnsafeStr
import Derived.StillTail
import Derived.StillTailTactics
import Derived.Test.YtgcaphjjigpjlaaGreatDoorProg
import Derived.WalkKit
import Derived.WalkLawsBesides
import Derived.WalkSpells
import Derived.Test.YtgcaphjjigpjlaaGreatDoorQ00
import Derived.Test.YtgcaphjjigpjlaaGreatDoorQ01
namespace Go.Proofs.YtgcaphjjigpjlaaGreatDoor
open Go.RowKit
end Go.Proofs.YtgcaphjjigpjlaaGreatDoor
namespace Go.Proofs.YtgcaphjjigpjlaaGreatDoor
open Go.RowKit
theorem step_append_ex {P : Program} {ops : Array Oper} {o : Oper} {a : Act} {w : World} {K : Act → World → Prop} {Q : Exit → Act → World → Prop} {E : Prop} (hgd : o.guard = none) (s x : Operand) (t : TypeId)
    (ho : o.op = .call { callee := .builtin .append, args := #[s, x], argTypes := #[t, t] }) {v y : Value} (hs : a.eval s = v) (hx : a.eval x = y) {Post : Value → World → Prop}
    (hr : ∃ v' w', (Builtin.append_ #[t, t] o.type #[v, y]).run P w = .ok v' w' ∧ Post v' w') (h : ∀ v' w', Post v' w' → K (a.put o.dst v') w') :
    if Region.wanted o (yielded ops a.tmps) = true then Oper.wp P o a w K Q else E := by
  have hw : Region.wanted o (yielded ops a.tmps) = true := by simp [Region.wanted, hgd]
  rw [if_pos hw]
  obtain ⟨v', w', hrun, hp⟩ := hr
  unfold Oper.wp execOp
  simp only [ho, resolve, invoke, builtin, Sem.run_bind, Sem.run_pure, Result.andThen_ok, List.map_toArray, List.map_cons, List.map_nil, hs, hx, hrun]
  exact h _ _ hp
theorem rd_made (w W : World) (H : Nat) (hH : w.heap.size = H) (cur : Array Value) (e : TypeId) {size n : Nat} (hx : Ext (w.alloc (.cells cur e)) W) (hs : cur.size = n * size) (hn : n ≤ 1000000000) : Rd W size (.slice (some ⟨H, 0, none⟩) n n) n cur.toList := by
  subst hH
  exact (Own.made w w.heap.size e size n cur (Nat.le_refl _) hn hs).rd.ext hx
theorem rd_made3 {w W : World} {H : Nat} (hH : w.heap.size = H) {k n : Int} {t : ByteArray} {e : TypeId} (hx : Ext (w.alloc (.cells #[.int .i64 k, .int .i64 n, .string t] e)) W) : Rd W 3 (.slice (some ⟨H, 0, none⟩) 1 1) 1 [.int .i64 k, .int .i64 n, .string t] :=
  rd_made w W H hH _ e hx rfl (by omega)
theorem rd_made6 {w W : World} {H : Nat} (hH : w.heap.size = H) {k n k' n' : Int} {t t' : ByteArray} {e : TypeId} (hx : Ext (w.alloc (.cells #[.int .i64 k, .int .i64 n, .string t, .int .i64 k', .int .i64 n', .string t'] e)) W) :
    Rd W 3 (.slice (some ⟨H, 0, none⟩) 2 2) 2 [.int .i64 k, .int .i64 n, .string t, .int .i64 k', .int .i64 n', .string t'] :=
  rd_made w W H hH _ e hx rfl (by omega)
end Go.Proofs.YtgcaphjjigpjlaaGreatDoor
namespace Go.Proofs.YtgcaphjjigpjlaaGreatDoor
open Go.RowKit
section
variable {P : Program} {ops : Array Oper} {Q : Exit → Act → World → Prop} {md : Region.Mode} {S : World → Prop} {m : Nat}
def wpAnyT (P : Program) (md : Region.Mode) (ops : Array Oper) (Q : Exit → Act → World → Prop) (S : World → Prop) (m : Nat) : Nat → Array Bool → Act → World → Prop
  | 0, listed, a, w => Region.ready md ops listed = [] ∧ Q .normal a w
  | fuel + 1, listed, a, w =>
    (Region.ready md ops listed = [] → Q .normal a w) ∧
    ∀ i ∈ Region.ready md ops listed, wpOp P ops Q i (fun a' w' => (i ≠ m → S w') ∧ wpAnyT P md ops Q S m fuel (listed.setIfInBounds i true) a' w') a w
theorem wpAny_of_T : ∀ (fuel : Nat) (listed : Array Bool) (a : Act) (w : World), wpAnyT P md ops Q S m fuel listed a w → wpAny P md ops Q fuel listed a w
  | 0, _, _, _, h => h
  | fuel + 1, _, _, _, h => ⟨h.1, fun i hi => wpOp_mono (fun a' w' h' => wpAny_of_T fuel _ a' w' h'.2) (h.2 i hi)⟩
def headB (md : Region.Mode) (ops : Array Oper) (m : Nat) (listed : Array Bool) : Bool :=
  decide (m + 1 = ops.size) && decide (listed.size = ops.size) && !(listed.getD m true) && Region.sinkB md ops m &&
  (List.range ops.size).all fun j => !(listed.getD j false) || match ops[j]? with
    | some oj => oj.after.all fun e => !(Region.binds md e) || listed.getD e.on false
    | none => true
theorem headB_spec {listed : Array Bool} (h : headB md ops m listed = true) : HeadInv md ops m listed ∧ Region.sinkB md ops m = true ∧ Region.chainB md ops m = true ∧ m + 1 = ops.size := by
  simp only [headB, Bool.and_eq_true, decide_eq_true_eq, Bool.not_eq_true'] at h
  obtain ⟨⟨⟨⟨h1, h2⟩, h3⟩, h4⟩, h5⟩ := h
  refine ⟨⟨h2, fun j oj hj hl e he hb => ?_, fun t ht ht' => ?_⟩, h4, ?_, h1⟩
  · have h6 := List.all_eq_true.1 h5 j (List.mem_range.2 (Array.getElem?_eq_some_iff.1 hj).1)
    simp only [hj, hl, Bool.not_true, Bool.false_or] at h6
    have h7 := Array.all_eq_true_iff_forall_mem.1 h6 e he
    simpa [hb] using h7
  · have : t = m := by omega
    subst this; exact h3
  · unfold Region.chainB
    rw [List.all_eq_true]
    intro t ht
    have := List.mem_range.1 ht
    simp only [Bool.or_eq_true, decide_eq_true_eq]
    exact .inl (by omega)
theorem wpAnyT_first {i : Nat} {oi : Oper} {v : Value} (hi : ops[i]? = some oi) (hsel : ∀ (j : Nat) (o : Oper) cs b, ops[j]? = some o → o.op ≠ .select cs b)
    (hQ : ∀ c a w, Q (.panic c) (a.put oi.dst v) w → Q (.panic c) a w) (hs : Region.sinkB md ops m = true) (hc : Region.chainB md ops m = true) (hm : m + 1 = ops.size) (him : i < m) :
    ∀ (fuel : Nat) (listed : Array Bool) (a : Act) (w : World), HeadInv md ops m listed →
      (∀ j oj, ops[j]? = some oj → j ≠ i → listed.getD j true = false → (∀ e ∈ oj.after, Region.binds md e = true → e.on ≠ i) → oi.apart ops oj = true) →
      i ∈ Region.ready md ops listed → YieldsIf P ops S oi v a → S w →
      wpAnyT P md ops Q S m fuel (listed.setIfInBounds i true) (a.put oi.dst v) w → wpAnyT P md ops Q S m (fuel + 1) listed a w := by
  intro fuel
  induction fuel with
  | zero =>
    intro listed a w _ _ hr hy hS H
    refine ⟨fun h => (by rw [h] at hr; cases hr), fun j hj => ?_⟩
    by_cases hji : j = i
    · subst hji; exact hy.wpOp hi hS ⟨fun _ => hS, H⟩
    · have := ready_mono hj hji
      rw [H.1] at this
      cases this
  | succ fuel ih =>
    intro listed a w inv hfree hr hy hS H
    have hun := (mem_ready.1 hr).1
    refine ⟨fun h => (by rw [h] at hr; cases hr), fun j hj => ?_⟩
    have hjm : j < m := by
      rcases Nat.lt_or_ge j m with h | h
      · exact h
      · exact absurd hj (tail_waits hs hc (by omega) inv _ i rfl him hun j h)
    by_cases hji : j = i
    · subst hji; exact hy.wpOp hi hS ⟨fun _ => hS, H⟩
    · have h1 := H.2 j (ready_mono hj hji)
      obtain ⟨hjun, oj, hoj, hall⟩ := mem_ready.1 hj
      have hnot : ∀ e ∈ oj.after, Region.binds md e = true → e.on ≠ i := fun e he hb heq => by
        have h1 := hall e he hb
        rw [heq, getD_both hun] at h1
        cases h1
      have h2 := wpOp_putIf hoj (hfree j oj hoj hji hjun hnot) (fun cs b => hsel i oi cs b hi) (fun cs b => hsel j oj cs b hoj) hQ hy h1
      have hfree' : ∀ k ok, ops[k]? = some ok → k ≠ i → (listed.setIfInBounds j true).getD k true = false →
          (∀ e ∈ ok.after, Region.binds md e = true → e.on ≠ i) → oi.apart ops ok = true := fun k ok hk hki hun hno => by
        refine hfree k ok hk hki ?_ hno
        by_cases hjk : j = k
        · subst hjk; exact hjun
        · rw [getD_set_ne true hjk] at hun; exact hun
      refine wpOp_mono (fun a' w' h3 => ⟨fun _ => h3.2.1 (by omega), ih (listed.setIfInBounds j true) a' w' (inv.set hj hjm) hfree' (ready_mono hr (Ne.symm hji)) h3.1 (h3.2.1 (by omega)) ?_⟩) h2
      rw [Array.setIfInBounds_comm _ _ hji]
      exact h3.2.2
theorem wpAnyT_take {i : Nat} {oi : Oper} {v : Value} {fuel : Nat} {listed : Array Bool} {a : Act} {w : World} (hi : ops[i]? = some oi)
    (hs : (Region.noSelect ops && Region.free md ops listed i && (Region.ready md ops listed).contains i && decide (i < m) && headB md ops m listed) = true)
    (hQ : ∀ c a w, Q (.panic c) (a.put oi.dst v) w → Q (.panic c) a w) (hy : YieldsIf P ops S oi v a) (hS : S w)
    (h : wpAnyT P md ops Q S m fuel (listed.setIfInBounds i true) (a.put oi.dst v) w) : wpAnyT P md ops Q S m (fuel + 1) listed a w := by
  simp only [Bool.and_eq_true, decide_eq_true_eq] at hs
  obtain ⟨⟨⟨⟨h1, h2⟩, h3⟩, h4⟩, h5⟩ := hs
  obtain ⟨g1, g2, g3, g4⟩ := headB_spec h5
  exact wpAnyT_first hi (Region.noSelect_spec h1) hQ g2 g3 g4 h4 fuel listed a w g1 (Region.free_spec hi h2) (by simpa using h3) hy hS h
theorem wpAnyT_one {i : Nat} {o : Oper} {fuel : Nat} {listed : Array Bool} {a : Act} {w : World} (ho : ops[i]? = some o) (hr : Region.ready md ops listed = [i])
    (h : ∀ K : Act → World → Prop, Shut (∀ a w, (i ≠ m → S w) → ((i ≠ m → S w) → wpAnyT P md ops Q S m fuel (listed.setIfInBounds i true) a w) → K a w) → if Region.wanted o (yielded ops a.tmps) = true then Oper.wp P o a w K Q else K (a.put o.dst undef) w) :
    wpAnyT P md ops Q S m (fuel + 1) listed a w :=
  ⟨fun h0 => (by rw [h0] at hr; cases hr), fun j hj => by
    rw [hr] at hj
    have : j = i := by simpa using hj
    subst this
    exact wpOp_step ho fun K' hK => h K' fun a w hS hW => hK a w ⟨hS, hW hS⟩⟩
theorem wpAnyT_done {listed : Array Bool} {a : Act} {w : World} (hr : Region.ready md ops listed = []) (h : Q .normal a w) : ∀ fuel, wpAnyT P md ops Q S m fuel listed a w
  | 0 => ⟨hr, h⟩
  | _ + 1 => ⟨fun _ => h, by rw [hr]; simp⟩
theorem region_T (S : World → Prop) (m : Nat) {id : Nat} {a : Act} {w : World} (hm : P.follows .mixedOrders = true) (hS : S w.drew)
    (h : S w.drew → wpAnyT P .any ops Q S m ops.size (Array.replicate ops.size false) a w.drew) : (Code.region id ops true).wp P Q a w :=
  wp_region_any hm (wpAny_of_T _ _ _ _ (h hS))
end
def Others (w w' : World) (e : TypeId) : Prop := w.heap.size ≤ w'.heap.size ∧ ∀ (g : Nat) (cur : Array Value) (e1 : TypeId) (f : Nat × Nat), e1 ≠ e → w.heap[g]? = some (.cells cur e1 f) → w'.heap[g]? = some (.cells cur e1 f)
theorem Others.own {w w' : World} {e e1 : TypeId} (h : Others w w' e) (hne : e1 ≠ e) {B size n : Nat} {v : Value} {xs : List Value} (ho : Own w B e1 size v n xs) : Own w' B e1 size v n xs := by
  refine ⟨⟨ho.1.1, ?_⟩, Nat.le_trans ho.2 h.1⟩
  rcases ho.1.2 with h2 | ⟨g, cap, cur, hv, hb, hg, r⟩
  · exact .inl h2
  · exact .inr ⟨g, cap, cur, hv, hb, h.2 g cur e1 _ hne hg, r⟩
theorem Others.refl (w : World) (e : TypeId) : Others w w e := ⟨Nat.le_refl _, fun _ _ _ _ _ h => h⟩
theorem others_own {w w' : World} {B : Nat} {e : TypeId} {size n : Nat} {v : Value} {xs : List Value} (ho : Own w B e size v n xs) (h : w.grownBy w' v.ownBlock) : Others w w' e := by
  refine ⟨h.size, fun g cur e1 f hne hg => (h.block g (Array.getElem?_eq_some_iff.1 hg).1 fun hk => ?_).trans hg⟩
  rcases ho.1.2 with ⟨rfl, _⟩ | ⟨g', cap, cur', rfl, _, hg', _⟩
  · cases hk
  · have : g = g' := Option.some.inj hk
    subst this
    rw [hg'] at hg
    injection hg with hg
    injection hg with _ he
    exact hne he.symm
theorem own_cell_other {w : World} {B : Nat} {e e1 : TypeId} {size n : Nat} {v : Value} {xs : List Value} (ho : Own w B e size v n xs) {a : Addr} {cur : Array Value} {f : Nat × Nat} (hg : w.heap[a.block]? = some (.cells cur e1 f)) (hne : e1 ≠ e) (u : Value) : Own (w.setCell a u) B e size v n xs := by
  obtain ⟨⟨h1, h2⟩, h3⟩ := ho
  refine ⟨⟨h1, ?_⟩, by simpa using h3⟩
  rcases h2 with h2 | ⟨g, cap, cur', hv, hb, hg', r⟩
  · exact .inl h2
  · refine .inr ⟨g, cap, cur', hv, hb, ?_, r⟩
    rw [heap_setCell_other _ _ _ _ (fun hk => ?_)]
    · exact hg'
    · subst hk
      rw [hg] at hg'
      injection hg' with hg'
      injection hg' with _ he
      exact hne he
structure KS (n x y : Nat) (A B : World) : Prop where
  os : B.os = A.os
  tape : B.tape = A.tape
  output : B.output = A.output
  size : A.heap.size ≤ B.heap.size
  block : ∀ k, k < n → k ≠ x → k ≠ y → B.heap[k]? = A.heap[k]?
theorem KS.refl (n x y : Nat) (A : World) : KS n x y A A := ⟨rfl, rfl, rfl, Nat.le_refl _, fun _ _ _ _ => rfl⟩
theorem KS.trans {n x y : Nat} {A B C : World} (h : KS n x y A B) (k : KS n x y B C) : KS n x y A C :=
  ⟨k.os.trans h.os, k.tape.trans h.tape, k.output.trans h.output, Nat.le_trans h.size k.size, fun i hi hx hy => (k.block i hi hx hy).trans (h.block i hi hx hy)⟩
theorem KS.mono {n n' x y : Nat} {A B : World} (h : KS n x y A B) (hn : n' ≤ n) : KS n' x y A B := ⟨h.os, h.tape, h.output, h.size, fun k hk hx hy => h.block k (by omega) hx hy⟩
theorem KS.of_ext {n : Nat} (x y : Nat) {A B : World} (hn : n ≤ A.heap.size) (h : Ext A B) : KS n x y A B := ⟨h.os, h.tape, h.output, h.size, fun k hk _ _ => h.block k (by omega)⟩
theorem KS.left {n x y : Nat} {A B : World} (h : KS n x x A B) : KS n x y A B := ⟨h.os, h.tape, h.output, h.size, fun k hk hx _ => h.block k hk hx hx⟩
theorem KS.right {n x y : Nat} {A B : World} (h : KS n y y A B) : KS n x y A B := ⟨h.os, h.tape, h.output, h.size, fun k hk _ hy => h.block k hk hy hy⟩
theorem KS.set {n x y : Nat} {A B : World} (h : KS n x y A B) (p : Addr) (v : Value) (hp : p.block = x ∨ p.block = y ∨ n ≤ p.block) : KS n x y A (B.setCell p v) :=
  h.trans ⟨rfl, rfl, rfl, by simp [World.setCell], fun k hk hx hy => Below.heap_setCell _ _ _ _ (by omega)⟩
theorem KS.ext {n x y : Nat} {A B C : World} (h : KS n x y A B) (k : Ext B C) (hn : n ≤ A.heap.size) : KS n x y A C := h.trans (KS.of_ext x y (Nat.le_trans hn h.size) k)
theorem KS.below {n m x y : Nat} {A B : World} (h : KS n x y A B) (h1 : m ≤ n) (h2 : m ≤ x) (h3 : m ≤ y) : Below m A B := ⟨h.os, h.tape, h.output, h.size, fun k hk => h.block k (by omega) (by omega) (by omega)⟩
def BxT (t : TypeId) (W : World) (B : Nat) (vs : Array Value) : Prop := W.heap[B]? = some (.cells vs t (0, 0))
theorem BxT.lt {t : TypeId} {W : World} {B : Nat} {v : Array Value} (h : BxT t W B v) : B < W.heap.size := (Array.getElem?_eq_some_iff.1 h).1
theorem BxT.cell {t : TypeId} {W : World} {B : Nat} {v : Array Value} (h : BxT t W B v) {i : Nat} {u : Value} (hu : v[i]? = some u) : W.cell? ⟨B, i, none⟩ = some u := by
  simp [World.cell?, show W.heap[B]? = _ from h, hu]
theorem BxT.frozen {t : TypeId} {W : World} {B : Nat} {v : Array Value} (h : BxT t W B v) (i : Nat) : W.frozen? ⟨B, i, none⟩ = false := by simp [World.frozen?, show W.heap[B]? = _ from h]
theorem BxT.set {t : TypeId} {W : World} {B : Nat} {vs : Array Value} (h : BxT t W B vs) (i : Nat) (v : Value) : BxT t (W.setCell ⟨B, i, none⟩ v) B (vs.setIfInBounds i v) := heap_setCell_same W B i vs _ v h
theorem BxT.other {t : TypeId} {W : World} {B : Nat} {vs : Array Value} (h : BxT t W B vs) (p : Addr) (hp : B ≠ p.block) (v : Value) : BxT t (W.setCell p v) B vs := (Below.heap_setCell W p v B hp).trans h
theorem BxT.ks {t : TypeId} {W W' : World} {n x y B : Nat} {v : Array Value} (h : BxT t W B v) (hk : KS n x y W W') (hn : B < n) (hx : B ≠ x) (hy : B ≠ y) : BxT t W' B v := (hk.block B hn hx hy).trans h
theorem BxT.ext {t : TypeId} {W W' : World} {B : Nat} {v : Array Value} (h : BxT t W B v) (hx : Ext W W') : BxT t W' B v := (hx.block B h.lt).trans h
theorem BxT.new (W : World) (t : TypeId) (v : Array Value) : BxT t (W.alloc (.cells v t)) W.heap.size v := by
  show (W.heap.push _)[W.heap.size]? = some _
  simp
theorem app_newo {P : Program} (t ty e : TypeId) (i : TypeInfo) (z : Value) (size bytes : Nat) (ht : P.underlying t = some (.slice e)) (hi : P.info? e = some i) (hz : i.zero = some z)
    (hsize : i.size = size) (hby : i.bytes = bytes) (hzs : z.cells.size = size) (hsz : 0 < size) (hbl : bytes ≤ 64)
    {a w : World} {B : Nat} {v : Value} {n : Nat} {xs : List Value} (hb : Below B a w) (ho : Own w B e size v n xs) (hn : n ≤ 1000000000)
    (m : Nat) (cur : Array Value) (hm : cur.size = m * size) (hm' : m ≤ 1000000000) (h1 : ∀ u ∈ cur.toList, u.oneCell' = true) (e' : TypeId) :
    ∃ v' w', (Builtin.append_ #[t, t] ty #[v, .slice (some ⟨w.heap.size, 0, none⟩) m m]).run P (w.alloc (.cells cur e')) = .ok v' w' ∧ Own w' B e size v' (n + m) (xs ++ cur.toList) ∧ Below B a w' ∧ Others w w' e := by
  have ho' := ho.alloc (.cells cur e')
  have hcells : ∀ j u, cur.toList[j]? = some u → (w.alloc (.cells cur e')).cell? ((⟨w.heap.size, 0, none⟩ : Addr).add j) = some u := by
    intro j u hu
    have hadd : (⟨w.heap.size, 0, none⟩ : Addr).add j = ⟨w.heap.size, j, none⟩ := by unfold Addr.add; split <;> simp_all
    rw [hadd, cell_of_row (w.alloc (.cells cur e')) w.heap.size j cur e' (0, 0) (heap_alloc_new w _)]
    simpa using hu
  obtain ⟨v', w', hr, h2, h3, _⟩ := run_append_own (P := P) (w.alloc (.cells cur e')) B t ty e i z size bytes ht hi hz hsize hby hzs hsz v n xs ho'.1 ⟨w.heap.size, 0, none⟩ m m cur.toList (by simpa using hm) hcells h1
    (by unfold maxLen; omega) (by
      have : (n + m) * bytes ≤ 2000000000 * 64 := Nat.mul_le_mul (by omega) hbl
      omega) ho'.2
  have hoo := others_own ho' h3
  refine ⟨v', w', hr, ⟨h2, Nat.le_trans ho'.2 h3.size⟩, below_grown (hb.alloc ho.2 _) ho' h3, ⟨Nat.le_trans (by rw [size_alloc]; omega) hoo.1, fun g c1 e1 f hne hg => hoo.2 g c1 e1 f hne ?_⟩⟩
  have hlt := (Array.getElem?_eq_some_iff.1 hg).1
  rw [((Ext.refl w).alloc (.cells cur e')).below.block g hlt]
  exact hg
end Go.Proofs.YtgcaphjjigpjlaaGreatDoor
