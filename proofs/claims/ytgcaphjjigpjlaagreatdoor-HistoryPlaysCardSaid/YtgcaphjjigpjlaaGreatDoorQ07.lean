/- Packed: Bs. -/
import Derived.ArgAppend
import Derived.BigQuiet
import Derived.Deep.DrawnRows
import Derived.Deep.MidRow
import Derived.Deep.QuietTactic
import Derived.Deep.RegionHeld3
import Derived.Deep.RegionWith
import Derived.Deep.Upon
import Derived.Laws.AppendOwnNone
import Derived.Laws.BytesArg
import Derived.Laws.IdiomCopy
import Derived.Laws.MakeOwn
import Derived.Lib.AppendStr
import Derived.Lib.Builder
import Derived.Lib.DecodeN
import Derived.Lib.Hide
import Derived.Lib.Strings
import Derived.Lib.UnsafeStr
import Derived.StillTail
import Derived.StillTailTactics
import Derived.Test.YtgcaphjjigpjlaaGreatDoorProg
import Derived.Test.YtgcaphjjigpjlaaGreatDoorShelf
import Derived.WalkKit
import Derived.WalkLawsBesides
import Derived.WalkSpells
import Derived.Test.YtgcaphjjigpjlaaGreatDoorQ00
import Derived.Test.YtgcaphjjigpjlaaGreatDoorQ01
import Derived.Test.YtgcaphjjigpjlaaGreatDoorQ02
import Derived.Test.YtgcaphjjigpjlaaGreatDoorQ03
import Derived.Test.YtgcaphjjigpjlaaGreatDoorQ05
import Derived.Test.YtgcaphjjigpjlaaGreatDoorQ06
namespace Go.Proofs.YtgcaphjjigpjlaaGreatDoor
open Go.RowKit
set_option maxRecDepth 100000
def RdSS (w : World) (A : Option Addr) (n c : Nat) (ls : List (List Sp)) : Prop :=
  ls.length = n ∧ ∃ vs : List Value, Rd w 1 (.slice A n c) n vs ∧ ∀ (i : Nat) (l : List Sp), ls[i]? = some l → ∃ a k, vs[i]? = some (.slice a l.length k) ∧ Rd w 3 (.slice a l.length k) l.length (spCells l)
theorem RdSS.ext {w w' : World} {A : Option Addr} {n c : Nat} {ls : List (List Sp)} (h : RdSS w A n c ls) (x : Ext w w') : RdSS w' A n c ls := by
  obtain ⟨h1, vs, h2, h3⟩ := h
  exact ⟨h1, vs, h2.ext x, fun i l hl => by
    obtain ⟨a, k, g1, g2⟩ := h3 i l hl
    exact ⟨a, k, g1, g2.ext x⟩⟩
theorem RdSS.nil (w : World) : RdSS w none 0 0 [] := ⟨rfl, [], Rd.nil w 1, fun i l h => (by simp at h)⟩
theorem RdSS.at_ {w : World} {A : Option Addr} {n c : Nat} {ls : List (List Sp)} (h : RdSS w A n c ls) {i : Nat} (hi : i < n) (hl : i < ls.length) :
    ∃ b off a k, A = some ⟨b, off, none⟩ ∧ b < w.heap.size ∧ w.cell? ⟨b, off + i, none⟩ = some (.slice a ls[i].length k) ∧ Rd w 3 (.slice a ls[i].length k) ls[i].length (spCells ls[i]) := by
  obtain ⟨h1, vs, h2, h3⟩ := h
  obtain ⟨a, k, g1, g2⟩ := h3 i _ (List.getElem?_eq_getElem hl)
  obtain ⟨b, off, u, hA, hb, hu, hc⟩ := h2.cell hi
  rw [g1] at hu
  injection hu with hu
  subst hu
  exact ⟨b, off, a, k, hA, hb, hc, g2⟩
theorem RdSS.take {w : World} {A : Option Addr} {n c : Nat} {ls : List (List Sp)} (h : RdSS w A n c ls) {k : Nat} (hk : k ≤ n) : RdSS w A k c (ls.take k) := by
  obtain ⟨h1, vs, h2, h3⟩ := h
  refine ⟨by rw [List.length_take, h1]; omega, vs.take (k * 1), h2.take hk, fun i l hl => ?_⟩
  rw [List.getElem?_take] at hl
  split at hl
  · rename_i hik
    obtain ⟨a, q, g1, g2⟩ := h3 i l hl
    exact ⟨a, q, by rw [List.getElem?_take, if_pos (by omega)]; exact g1, g2⟩
  · cases hl
theorem RdSS.drop {w : World} {b o n c : Nat} {ls : List (List Sp)} (h : RdSS w (some ⟨b, o, none⟩) n c ls) {k : Nat} (hk : k < n) : RdSS w (some ⟨b, o + k, none⟩) (n - k) (c - k) (ls.drop k) := by
  obtain ⟨h1, vs, h2, h3⟩ := h
  have h4 := h2.drop (m := k) (by omega)
  rw [Nat.mul_one] at h4
  refine ⟨by rw [List.length_drop, h1], _, h4, fun i l hl => ?_⟩
  rw [List.getElem?_drop] at hl
  obtain ⟨a, q, g1, g2⟩ := h3 _ l hl
  exact ⟨a, q, by rw [List.getElem?_drop]; exact g1, g2⟩
theorem RdSS.addr {w : World} {A : Option Addr} {n c : Nat} {ls : List (List Sp)} (h : RdSS w A n c ls) (hn : 0 < n) : ∃ b o, A = some ⟨b, o, none⟩ ∧ b < w.heap.size ∧ n ≤ c := by
  obtain ⟨h1, vs, ⟨_, A', c', hv, hc, h2⟩, h3⟩ := h
  injection hv with e1 e2 e3
  subst e1; subst e3
  obtain ⟨b, o, hA, hb, _⟩ := h2 hn
  exact ⟨b, o, hA, hb, hc⟩
def OwnSS (w : World) (B : Nat) (tS tE : TypeId) (v : Value) (ls : List (List Sp)) : Prop :=
  ∃ vs : List Value, Own w B tS 1 v ls.length vs ∧ ∀ (i : Nat) (l : List Sp), ls[i]? = some l → ∃ u, vs[i]? = some u ∧ Own w B tE 3 u l.length (spCells l)
theorem OwnSS.ext {w w' : World} {B : Nat} {tS tE : TypeId} {v : Value} {ls : List (List Sp)} (h : OwnSS w B tS tE v ls) (x : Ext w w') : OwnSS w' B tS tE v ls := by
  obtain ⟨vs, h1, h2⟩ := h
  exact ⟨vs, h1.ext x, fun i l hl => by
    obtain ⟨u, g1, g2⟩ := h2 i l hl
    exact ⟨u, g1, g2.ext x⟩⟩
theorem OwnSS.rd {w : World} {B : Nat} {tS tE : TypeId} {v : Value} {ls : List (List Sp)} (h : OwnSS w B tS tE v ls) : ∃ A c, v = .slice A ls.length c ∧ ls.length ≤ c ∧ RdSS w A ls.length c ls := by
  obtain ⟨vs, h1, h2⟩ := h
  obtain ⟨A, c, rfl, hc⟩ := h1.len
  refine ⟨A, c, rfl, hc, rfl, vs, h1.rd, fun i l hl => ?_⟩
  obtain ⟨u, g1, g2⟩ := h2 i l hl
  obtain ⟨a, k, rfl, _⟩ := g2.len
  exact ⟨a, k, g1, g2.rd⟩
end Go.Proofs.YtgcaphjjigpjlaaGreatDoor
namespace Go.Proofs.YtgcaphjjigpjlaaGreatDoor
open Go.RowKit
def BoxG (w : World) (b : Nat) (vs : Array Value) : Prop := b < w.heap.size ∧ ∀ (q : Nat) (u : Value), vs[q]? = some u → w.cell? ⟨b, q, none⟩ = some u
theorem BoxG.ext {w w' : World} {b : Nat} {vs : Array Value} (h : BoxG w b vs) (x : Ext w w') : BoxG w' b vs :=
  ⟨Nat.lt_of_lt_of_le h.1 x.size, fun q u hu => ext_cell x (h.2 q u hu)⟩
theorem BoxG.made (w : World) (vs : Array Value) (e : TypeId) : BoxG (w.alloc (.cells vs e)) w.heap.size vs :=
  ⟨by rw [size_alloc]; omega, fun q u hu => box_at w _ vs e (Ext.refl _) q u hu⟩
def RdO (w : World) (A : Option Addr) (n c : Nat) (l : List Sp) : Prop := l.length = n ∧ Rd w 3 (.slice A n c) n (spCells l)
theorem RdO.ext {w w' : World} {A : Option Addr} {n c : Nat} {l : List Sp} (h : RdO w A n c l) (x : Ext w w') : RdO w' A n c l := ⟨h.1, h.2.ext x⟩
theorem rdO_own {w : World} {B : Nat} {e : TypeId} {v : Value} {l : List Sp} (h : Own w B e 3 v l.length (spCells l)) : ∃ A n c, v = .slice A n c ∧ RdO w A n c l := by
  obtain ⟨A, c, rfl, _⟩ := h.len
  exact ⟨A, _, c, rfl, rfl, h.rd⟩
theorem rdO_rd {w : World} {v : Value} {l : List Sp} (h : Rd w 3 v l.length (spCells l)) : ∃ A n c, v = .slice A n c ∧ RdO w A n c l := by
  obtain ⟨A, c, rfl, _⟩ := h.len
  exact ⟨A, _, c, rfl, rfl, h⟩
end Go.Proofs.YtgcaphjjigpjlaaGreatDoor
namespace Go.Proofs.YtgcaphjjigpjlaaGreatDoor
open Go.RowKit
set_option maxRecDepth 100000
set_option maxHeartbeats 1000000
theorem app_where {P : Program} (t ty e : TypeId) (i : TypeInfo) (z : Value) (size bytes : Nat) (ht : P.underlying t = some (.slice e)) (hi : P.info? e = some i) (hz : i.zero = some z)
    (hsize : i.size = size) (hby : i.bytes = bytes) (hzs : z.cells.size = size) (hsz : 0 < size) (hbl : bytes ≤ 64)
    {w : World} {B : Nat} {v : Value} {n : Nat} {xs : List Value} (ho : Own w B e size v n xs) (hn : n ≤ 1000000000)
    (a : Addr) (m c : Nat) (news : List Value) (hl : news.length = m * size) (hnews : ∀ j u, news[j]? = some u → w.cell? (a.add j) = some u) (h1 : ∀ u ∈ news, u.oneCell' = true) (hm' : m ≤ 1000000000) :
    ∃ v' w', (Builtin.append_ #[t, t] ty #[v, .slice (some a) m c]).run P w = .ok v' w' ∧ Own w' B e size v' (n + m) (xs ++ news) ∧ w.grownBy w' v.ownBlock ∧ (∀ k, v'.ownBlock = some k → v.ownBlock = some k ∨ w.heap.size ≤ k) := by
  have hbytes : (n + m) * bytes ≤ 140737488355328 := by
    have : (n + m) * bytes ≤ 2000000000 * 64 := Nat.mul_le_mul (by omega) hbl
    omega
  have h63 : n + m ≤ maxLen := by unfold maxLen; omega
  obtain ⟨v', w', hr, h2, h3, _⟩ := run_append_own (P := P) w B t ty e i z size bytes ht hi hz hsize hby hzs hsz v n xs ho.1 a m c news hl hnews h1 h63 hbytes ho.2
  refine ⟨v', w', hr, ⟨h2, Nat.le_trans ho.2 h3.size⟩, h3, ?_⟩
  rcases ho.1.2 with ⟨rfl, rfl⟩ | ⟨g, cap, cur, rfl, hbg, hgc, hnc, hcm, hcs, htake⟩
  · have hx : xs = [] := List.eq_nil_of_length_eq_zero (by have := ho.1.1; simpa using this)
    subst hx
    obtain ⟨v2, w2, hr2, hown2, _⟩ := run_append_own (P := P) w w.heap.size t ty e i z size bytes ht hi hz hsize hby hzs hsz _ 0 [] (World.ownsRow_nil _ _ _ _) a m c news hl hnews h1 (by omega) (by omega) (Nat.le_refl _)
    rw [hr] at hr2
    injection hr2 with e1 e2
    subst e1; subst e2
    intro k hk
    right
    rcases hown2.2 with ⟨rfl, _⟩ | ⟨g, cap, cur, rfl, hg2, _⟩
    · simp [Value.ownBlock] at hk
    · simp [Value.ownBlock] at hk; omega
  · intro k hk
    by_cases hroom : n + m ≤ cap
    · left
      have hr2 := run_append_room (P := P) (ty := ty) w t e i ht hi g n cap cur hgc a m c news (by rw [hsize]; exact hl) hnews h1 hroom (by
        rw [hcs, hl, hsize, ← Nat.add_mul]
        exact Nat.mul_le_mul_right _ hroom)
      rw [hr] at hr2
      injection hr2 with e1 e2
      subst e1
      exact hk
    · right
      have hr2 := run_append_grow (P := P) (ty := ty) w t e i z ht hi hz ⟨g, 0, none⟩ n cap xs (by rw [hsize]; exact ho.1.1) (ho.1.cells (g := g) rfl) a m c news (by rw [hsize]; exact hl) hnews (by omega) (by unfold maxLen at h63; omega) (by rw [hby]; exact growslice_fits (by omega) (by omega))
      rw [hr] at hr2
      injection hr2 with e1 e2
      subst e1
      simp [Value.ownBlock] at hk
      omega
def Off (n : Nat) (A : Option Addr) (v : Value) : Prop := 0 < n → ∀ b off, A = some ⟨b, off, none⟩ → v.ownBlock ≠ some b
theorem Off.rd {w w' : World} {n c : Nat} {A : Option Addr} {v : Value} {l : List Sp} (h : Off n A v) (hr : RdO w A n c l) (hk : ∀ k, k < w.heap.size → v.ownBlock ≠ some k → w'.heap[k]? = w.heap[k]?) (hs : w.heap.size ≤ w'.heap.size) : RdO w' A n c l := by
  obtain ⟨hl, h1, A', c', hv, hc, h2⟩ := hr
  refine ⟨hl, h1, A', c', hv, hc, fun hn => ?_⟩
  obtain ⟨b, off, hA, hb, hcell⟩ := h2 hn
  injection hv with e1 e2 e3
  subst e1
  refine ⟨b, off, hA, Nat.lt_of_lt_of_le hb hs, fun j u hu => ?_⟩
  rw [World.cell?_of_block (a := ⟨b, off + j, none⟩) (hk b hb (h hn b off hA))]
  exact hcell j u hu
theorem Off.next {w : World} {n c : Nat} {A : Option Addr} {v v' : Value} {l : List Sp} (h : Off n A v) (hr : RdO w A n c l) (hv : ∀ k, v'.ownBlock = some k → v.ownBlock = some k ∨ w.heap.size ≤ k) : Off n A v' := by
  intro hn b off hA hb
  obtain ⟨hl, h1, A', c', hv', hc, h2⟩ := hr
  obtain ⟨b', off', hA', hb', _⟩ := h2 hn
  injection hv' with e1 e2 e3
  subst e1
  rw [hA] at hA'
  injection hA' with hA'
  injection hA' with e4 e5
  subst e4
  rcases hv b hb with h3 | h3
  · exact h hn b off hA h3
  · omega
theorem Off.behind {n c k b o : Nat} {v : Value} (h : Off n (some ⟨b, o, none⟩) v) (hn : 0 < n) : Off (n - k) (if c = k then some ⟨b, o, none⟩ else some ⟨b, o + k * 3, none⟩) v := by
  intro _ b' off' hA
  have hb : b' = b := by
    split at hA <;> (injection hA with hA; injection hA with e1 e2; exact e1.symm)
  subst hb
  exact h hn _ _ rfl
theorem Off.made {w : World} {B n : Nat} {v x : Value} {xs : List Value} {m c : Nat} {A : Option Addr} {ys : List Value} {w' : World} {e e' : TypeId} {s s' : Nat} (ho : Own w B e s v n xs) (hx : Own w' w.heap.size e' s' x m ys) (hA : x = .slice A m c) : Off m A v := by
  subst hA
  intro hm b off hA hb
  subst hA
  have h1 := (ho.1.lt b hb).2
  rcases hx.1.2 with ⟨h, _⟩ | ⟨g, cap, cur, hv, hg, _⟩
  · cases h
  · injection hv with e1 e2 e3
    injection e1 with e1
    injection e1 with e1 e2
    omega
theorem rdO_behind {w : World} {b o n c : Nat} {s : Sp} {l : List Sp} (h : RdO w (some ⟨b, o, none⟩) (n + 1) c (s :: l)) : RdO w (if c = 1 then some ⟨b, o, none⟩ else some ⟨b, o + 1 * 3, none⟩) n (c - 1) l := by
  have hl := h.1
  simp only [List.length_cons] at hl
  have hc : n + 1 ≤ c := by obtain ⟨_, _, hv, hc⟩ := h.2.len; injection hv with _ _ e; omega
  have g := rd_behind (k := 1) h.2 h.1 (by omega) hc
  rw [List.drop_succ_cons, List.drop_zero] at g
  exact ⟨by omega, g⟩
theorem BoxG.kept {w w' : World} {b : Nat} {vs : Array Value} {v : Value} (h : BoxG w b vs) (hne : v.ownBlock ≠ some b) (hk : ∀ k, k < w.heap.size → v.ownBlock ≠ some k → w'.heap[k]? = w.heap[k]?) (hs : w.heap.size ≤ w'.heap.size) : BoxG w' b vs :=
  ⟨Nat.lt_of_lt_of_le h.1 hs, fun q u hu => (World.cell?_of_block (a := ⟨b, q, none⟩) (hk b h.1 hne)).trans (h.2 q u hu)⟩
theorem app_newg {P : Program} (t ty e : TypeId) (i : TypeInfo) (z : Value) (size bytes : Nat) (ht : P.underlying t = some (.slice e)) (hi : P.info? e = some i) (hz : i.zero = some z)
    (hsize : i.size = size) (hby : i.bytes = bytes) (hzs : z.cells.size = size) (hsz : 0 < size) (hbl : bytes ≤ 64)
    {w : World} {B : Nat} {v : Value} {n : Nat} {xs : List Value} (ho : Own w B e size v n xs) (hn : n ≤ 1000000000)
    (m : Nat) (cur : Array Value) (hm : cur.size = m * size) (hm' : m ≤ 1000000000) (h1 : ∀ u ∈ cur.toList, u.oneCell' = true) (e' : TypeId) :
    ∃ v' w', (Builtin.append_ #[t, t] ty #[v, .slice (some ⟨w.heap.size, 0, none⟩) m m]).run P (w.alloc (.cells cur e')) = .ok v' w' ∧ Own w' B e size v' (n + m) (xs ++ cur.toList) ∧ (∀ {a : World}, Below B a w → Below B a w') ∧
      (∀ k, k < w.heap.size → v.ownBlock ≠ some k → w'.heap[k]? = w.heap[k]?) ∧ w.heap.size ≤ w'.heap.size ∧ (∀ k, v'.ownBlock = some k → v.ownBlock = some k ∨ w.heap.size ≤ k) := by
  have ho' := ho.alloc (.cells cur e')
  have hcells : ∀ j u, cur.toList[j]? = some u → (w.alloc (.cells cur e')).cell? ((⟨w.heap.size, 0, none⟩ : Addr).add j) = some u := by
    intro j u hu
    have hadd : (⟨w.heap.size, 0, none⟩ : Addr).add j = ⟨w.heap.size, j, none⟩ := by unfold Addr.add; split <;> simp_all
    rw [hadd, cell_of_row (w.alloc (.cells cur e')) w.heap.size j cur e' (0, 0) (heap_alloc_new w _)]
    simpa using hu
  obtain ⟨v', w', hr, h2, h3, h4⟩ := app_where t ty e i z size bytes ht hi hz hsize hby hzs hsz hbl ho' hn ⟨w.heap.size, 0, none⟩ m m cur.toList (by simpa using hm) hcells h1 hm'
  have hsz2 := h3.size
  rw [size_alloc] at hsz2
  refine ⟨v', w', hr, h2, fun hb => below_grown (hb.alloc ho.2 _) ho' h3, fun k hk hne => ?_, by omega, fun k hk => ?_⟩
  · rw [h3.block k (by rw [size_alloc]; omega) (fun e => hne e.symm)]
    exact Lib.alloc_old w _ k hk
  · rcases h4 k hk with h | h
    · exact .inl h
    · rw [size_alloc] at h; exact .inr (by omega)
theorem app_rest {P : Program} {t ty e : TypeId} {i : TypeInfo} {z : Value} (ht : P.underlying t = some (.slice e)) (hi : P.info? e = some i) (hz : i.zero = some z)
    (hsize : i.size = 3) (hby : i.bytes = 32) (hzs : z.cells.size = 3) {w : World} {A : Option Addr} {n c B : Nat} {a1 a2 : Int} {a3 : ByteArray} {l os : List Sp} {vo : Value} {no : Nat} (hr : RdO w A n c l) (hn : n ≤ 1000000000) (ho : Own w B e 3 vo no (spCells os)) {W : World} (hx : Ext w W) :
    ∃ v' w', (Builtin.append_ #[t, t] ty #[.slice (some ⟨W.heap.size, 0, none⟩) 1 1, .slice A n c]).run P (W.alloc (.cells #[.int .i64 a1, .int .i64 a2, .string a3] e)) = .ok v' w' ∧ ((∃ aR cR, v' = .slice aR (n + 1) cR ∧ RdO w' aR (n + 1) cR ((a1, a2, a3) :: l) ∧ Off (n + 1) aR vo) ∧ Ext W w') := by
  have h0 := Own.made W W.heap.size e 3 1 #[.int .i64 a1, .int .i64 a2, .string a3] (Nat.le_refl _) (by omega) rfl
  obtain ⟨v', w', h1, h2, h3⟩ := app_rd (P := P) t ty e i z 3 32 ht hi hz hsize hby hzs (by omega) (by omega) ((Below.refl W.heap.size W).alloc (Nat.le_refl _) _) h0 (by omega) (hr.2.ext (hx.alloc (.cells #[.int .i64 a1, .int .i64 a2, .string a3] e))) hn (spCells_one _)
  rw [Nat.add_comm 1 n] at h2
  obtain ⟨aR, cR, rfl, _⟩ := h2.len
  have hc : spCells ((a1, a2, a3) :: l) = (#[.int .i64 a1, .int .i64 a2, .string a3] : Array Value).toList ++ spCells l := by simp [spCells]
  refine ⟨_, w', h1, ⟨aR, cR, rfl, ⟨by rw [List.length_cons, hr.1], by rw [hc]; exact h2.rd⟩, Off.made (ho.ext hx) h2 rfl⟩, h3⟩
def Awy (y n : Nat) (A : Option Addr) : Prop := 0 < n → ∀ b off, A = some ⟨b, off, none⟩ → b ≠ y
theorem rdO_ks {A B : World} {x y q c : Nat} {a : Option Addr} {l : List Sp} (hr : RdO A a q c l) (hx : Awy x q a) (hy : Awy y q a) (h : KS A.heap.size x y A B) : RdO B a q c l := by
  obtain ⟨hl, h1, A', c', hv, hc, h2⟩ := hr
  refine ⟨hl, h1, A', c', hv, hc, fun hn => ?_⟩
  obtain ⟨b, off, hA, hb, hcell⟩ := h2 hn
  injection hv with e1 e2 e3
  subst e1
  refine ⟨b, off, hA, Nat.lt_of_lt_of_le hb h.size, fun j u hu => ?_⟩
  rw [World.cell?_of_block (a := ⟨b, off + j, none⟩) (h.block b hb (hx hn b off hA) (hy hn b off hA))]
  exact hcell j u hu
theorem Awy.behind {y n c k b o : Nat} (h : Awy y n (some ⟨b, o, none⟩)) (hn : 0 < n) : Awy y (n - k) (if c = k then some ⟨b, o, none⟩ else some ⟨b, o + k * 3, none⟩) := by
  intro _ b' off' hA
  have hb : b' = b := by
    split at hA <;> (injection hA with hA; injection hA with e1 e2; exact e1.symm)
  subst hb
  exact h hn _ _ rfl
end Go.Proofs.YtgcaphjjigpjlaaGreatDoor
