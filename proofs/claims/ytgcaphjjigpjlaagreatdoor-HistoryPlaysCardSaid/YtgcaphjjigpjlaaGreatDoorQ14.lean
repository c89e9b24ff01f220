/- Packed: L16b L16d M17 H17 L16e C16g. -/
import Derived.ArgAppend
import Derived.BigQuiet
import Derived.ChangeOld
import Derived.Deep.Cut
import Derived.Deep.CutRange
import Derived.Deep.DrawnRows
import Derived.Deep.MidRow
import Derived.Deep.QuietTactic
import Derived.Deep.RegionHeld3
import Derived.Deep.RegionWith
import Derived.Deep.Slices
import Derived.Deep.Upon
import Derived.Laws.AppendOwnNone
import Derived.Laws.BytesArg
import Derived.Laws.IdiomCopy
import Derived.Laws.MakeOwn
import Derived.Laws.ResultCell
import Derived.Lib.AppendStr
import Derived.Lib.Builder
import Derived.Lib.DecodeN
import Derived.Lib.Hide
import Derived.Lib.Strings
import Derived.Lib.UnsafeStr
import Derived.OpenShut
import Derived.ProofKit
import Derived.ScopeJumps
import Derived.ShutString
import Derived.StillTail
import Derived.StillTailTactics
import Derived.Test.YtgcaphjjigpjlaaGreatDoorProg
import Derived.Test.YtgcaphjjigpjlaaGreatDoorShelf
import Derived.WalkKit
import Derived.WalkLawsBesides
import Derived.WalkMore
import Derived.WalkSpells
import Derived.Test.YtgcaphjjigpjlaaGreatDoorQ00
import Derived.Test.YtgcaphjjigpjlaaGreatDoorQ01
import Derived.Test.YtgcaphjjigpjlaaGreatDoorQ02
import Derived.Test.YtgcaphjjigpjlaaGreatDoorQ03
import Derived.Test.YtgcaphjjigpjlaaGreatDoorQ04
import Derived.Test.YtgcaphjjigpjlaaGreatDoorQ05
import Derived.Test.YtgcaphjjigpjlaaGreatDoorQ06
import Derived.Test.YtgcaphjjigpjlaaGreatDoorQ07
import Derived.Test.YtgcaphjjigpjlaaGreatDoorQ08
import Derived.Test.YtgcaphjjigpjlaaGreatDoorQ09
import Derived.Test.YtgcaphjjigpjlaaGreatDoorQ10
import Derived.Test.YtgcaphjjigpjlaaGreatDoorQ11
import Derived.Test.YtgcaphjjigpjlaaGreatDoorQ12
import Derived.Test.YtgcaphjjigpjlaaGreatDoorQ13
namespace Go.Proofs.YtgcaphjjigpjlaaGreatDoor
open Go.RowKit
set_option maxRecDepth 100000
set_option maxHeartbeats 4000000
set_option linter.unusedSimpArgs false
structure LogB (W : World) (x : Nat) (A : Option Addr) (n c : Nat) (B : Option Addr) (m d : Nat) (s : ByteArray) (rv : List Int) (ls : List (List Sp)) : Prop where
  box : BxT 56 W x #[.string s, .slice A n c, .slice B m d]
  rev : Rd W 1 (.slice A n c) n (nV rv)
  seg : RdSS W B m d ls
theorem LogB.ext {W W' : World} {x : Nat} {A : Option Addr} {n c : Nat} {B : Option Addr} {m d : Nat} {s : ByteArray} {rv : List Int} {ls : List (List Sp)} (h : LogB W x A n c B m d s rv ls) (hx : Ext W W') : LogB W' x A n c B m d s rv ls := ⟨h.box.ext hx, h.rev.ext hx, h.seg.ext hx⟩
theorem LogB.new {W : World} {A : Option Addr} {n c : Nat} {B : Option Addr} {m d : Nat} {s : ByteArray} {rv : List Int} {ls : List (List Sp)} (h1 : Rd W 1 (.slice A n c) n (nV rv)) (h2 : RdSS W B m d ls) : LogB (W.alloc (.cells #[.string s, .slice A n c, .slice B m d] 56)) W.heap.size A n c B m d s rv ls :=
  ⟨BxT.new W 56 _, h1.ext ((Ext.refl W).alloc _), h2.ext ((Ext.refl W).alloc _)⟩
theorem LogB.cells {W : World} {x : Nat} {A : Option Addr} {n c : Nat} {B : Option Addr} {m d : Nat} {s : ByteArray} {rv : List Int} {ls : List (List Sp)} (h : LogB W x A n c B m d s rv ls) : W.cell? ⟨x, 0, none⟩ = some (.string s) ∧ W.cell? ⟨x, 1, none⟩ = some (.slice A n c) ∧ W.cell? ⟨x, 2, none⟩ = some (.slice B m d) := ⟨h.box.cell rfl, h.box.cell rfl, h.box.cell rfl⟩
end Go.Proofs.YtgcaphjjigpjlaaGreatDoor
namespace Go.Proofs.YtgcaphjjigpjlaaGreatDoor
open Go.RowKit
set_option maxRecDepth 100000
set_option maxHeartbeats 4000000
set_option linter.unusedSimpArgs false
theorem rises_weak {was w2 : Int} {l : List Int} (h : rises was l) (hw : w2 ≤ was) : rises w2 l := by
  cases l with
  | nil => exact trivial
  | cons x r => obtain ⟨a, b, c⟩ := h; exact ⟨by omega, b, c⟩
theorem rises_drop16 {l : List Int} : ∀ {was : Int} (k : Nat), rises was l → rises was (l.drop k) := by
  induction l with
  | nil => intro was k h; simpa using h
  | cons x r ih =>
    intro was k h
    cases k with
    | zero => exact h
    | succ k => obtain ⟨a, b, c⟩ := h; exact ih k (rises_weak c (by omega))
theorem rises_range16 (k b : Nat) (was : Int) (h : was < (b : Int)) (hb : b + k ≤ 268435456) : rises was ((List.range' b k).map fun (i : Nat) => (i : Int)) := by
  induction k generalizing b was with
  | zero => exact trivial
  | succ k ih =>
    rw [List.range'_succ, List.map_cons]
    exact ⟨h, by omega, ih (b + 1) _ (by omega) (by omega)⟩
theorem revL_ok (k : Nat) (hk : k ≤ 1000) : rowOk (revL k) := by
  refine ⟨fun h => by have := revL_len k; rw [h] at this; simp at this, by rw [revL_len]; omega, ?_⟩
  unfold revL
  rw [List.range_eq_range']
  exact rises_range16 (k + 1) 0 (-1) (by omega) (by omega)
theorem log_rest {s : ByteArray} {rv : List Int} {ls : List (List Sp)} (h : logE s rv ls = 0) (hl : ∀ l ∈ ls, l.length ≤ 1000) {k : Nat} (hk : k ≤ ls.length) : logE (allL s (ls.take k)).1 (rv.drop k) (ls.drop k) = 0 := by
  obtain ⟨cs, h1, h2, ⟨h3, h4, h5⟩, h6, h7⟩ := logE_ok h
  have h8 : segE (cs.length : Int) (ls.take k ++ ls.drop k) = 0 := by rw [List.take_append_drop]; exact h7
  obtain ⟨s1, s2⟩ := segE_append.1 h8
  obtain ⟨g1, ds, g2, g3⟩ := allL_ok h1 s1 fun l hx => hl l (List.mem_of_mem_take hx)
  rw [← g3] at s2
  have hb : ds.length ≤ 1048576 := by
    have hm : ∀ (N : Int) (r : List (List Sp)), segE N r = 0 → N ≤ 1048576 → (((N :: r.map outL).getLast (List.cons_ne_nil _ _)) : Int) ≤ 1048576 := by
      intro N r
      induction r generalizing N with
      | nil => intro _ hN; simpa using hN
      | cons a t ih =>
        intro hs hN
        obtain ⟨⟨_, _, q3, _⟩, q5⟩ := segE_cons.1 hs
        have := ih _ q5 q3
        simpa [List.getLast_cons] using this
    have := hm _ _ s1 (by omega)
    omega
  refine logE_of g2 hb ⟨fun e => ?_, by rw [List.length_drop]; omega, rises_drop16 _ h5⟩ (by rw [List.length_drop, List.length_drop]; omega) s2
  have := congrArg List.length e
  rw [List.length_drop, List.length_nil] at this
  omega
theorem allL_size {s : ByteArray} {ls : List (List Sp)} : (allL s ls).1.size ≤ s.size + sumTT ls := by
  induction ls generalizing s with
  | nil => exact Nat.le_add_right _ _
  | cons l r ih =>
    have e : sumTT (l :: r) = sumT l + sumTT r := by simp [sumTT]
    rw [allL]
    split
    · have h1 := ih (s := toS l s)
      have h2 := toS_size l s
      omega
    · show (0 : Nat) ≤ _; omega
end Go.Proofs.YtgcaphjjigpjlaaGreatDoor
namespace Go.Proofs.YtgcaphjjigpjlaaGreatDoor
open Go.RowKit
set_option maxRecDepth 100000
set_option maxHeartbeats 4000000
set_option linter.unusedSimpArgs false
def txt17 (s : ByteArray) (ls : List (List Sp)) (j : Nat) : ByteArray := (allL s (ls.take j)).1
def txts17 (s : ByteArray) (ls : List (List Sp)) : List ByteArray := (List.range (ls.length + 1)).map (txt17 s ls)
def strV (l : List ByteArray) : List Value := l.map Value.string
def Hok (s : ByteArray) (ls : List (List Sp)) : Prop := ∃ cs, dec (bs s) = some cs ∧ cs.length ≤ 1048576 ∧ segE (cs.length : Int) ls = 0
structure SmH (s : ByteArray) (ls : List (List Sp)) : Prop where
  base : s.size ≤ 1000000
  num : ls.length ≤ 900
  len : ∀ l ∈ ls, l.length ≤ 1000
  sum : sumTT ls ≤ 400000000
theorem txts17_len (s : ByteArray) (ls : List (List Sp)) : (txts17 s ls).length = ls.length + 1 := by simp [txts17]
theorem txts17_at (s : ByteArray) (ls : List (List Sp)) {j : Nat} (hj : j ≤ ls.length) : (strV (txts17 s ls))[j]? = some (.string (txt17 s ls j)) := by
  unfold strV txts17
  rw [List.map_map, List.getElem?_map, List.getElem?_range (by omega)]
  rfl
theorem hok_log {s : ByteArray} {ls : List (List Sp)} (h : Hok s ls) (hn : ls.length ≤ 900) : logE s (revL ls.length) ls = 0 := by
  obtain ⟨cs, h1, h2, h3⟩ := h
  exact logE_of h1 h2 (revL_ok _ (by omega)) (revL_len _) h3
theorem Hok.txt {s : ByteArray} {ls : List (List Sp)} (h : Hok s ls) (hl : ∀ l ∈ ls, l.length ≤ 1000) {j : Nat} (hj : j ≤ ls.length) (hn : ls.length ≤ 900) :
    ∃ ds, dec (bs (txt17 s ls j)) = some ds ∧ cntF (bs (txt17 s ls j)) = (ds.length : Int) ∧ (ds.length : Int) = (sizesL s ls).getD j 0 := by
  obtain ⟨_, ds, g1, g2⟩ := log_at (hok_log h hn) hl hj
  exact ⟨ds, g1, cntF_some g1, g2⟩
theorem txt17_size {s : ByteArray} {ls : List (List Sp)} (j : Nat) : (txt17 s ls j).size ≤ s.size + sumTT ls := by
  have h := allL_size (s := s) (ls := ls.take j)
  have e : sumTT ls = sumTT (ls.take j) + sumTT (ls.drop j) := by rw [← List.take_append_drop j ls]; unfold sumTT; rw [List.map_append, List.sum_append, List.take_append_drop]
  unfold txt17
  omega
theorem hok_last {s : ByteArray} {ls : List (List Sp)} (h : Hok s ls) (hl : ∀ l ∈ ls, l.length ≤ 1000) :
    ∃ ds, dec (bs (txt17 s ls ls.length)) = some ds ∧ ds.length ≤ 1048576 := by
  obtain ⟨cs, h1, h2, h3⟩ := h
  obtain ⟨g1, ds, g2, g3⟩ := allL_ok h1 h3 hl
  refine ⟨ds, by unfold txt17; rw [List.take_length]; exact g2, ?_⟩
  have hm : ∀ (N : Int) (r : List (List Sp)), segE N r = 0 → N ≤ 1048576 → (((N :: r.map outL).getLast (List.cons_ne_nil _ _)) : Int) ≤ 1048576 := by
    intro N r
    induction r generalizing N with
    | nil => intro _ hN; simpa using hN
    | cons a t ih =>
      intro hs hN
      obtain ⟨⟨_, _, q3, _⟩, q5⟩ := segE_cons.1 hs
      have := ih _ q5 q3
      simpa [List.getLast_cons] using this
  have := hm _ _ h3 (by omega)
  omega
def appE (s : ByteArray) (ls : List (List Sp)) (l : List Sp) : Int :=
  if mayL l ≠ 0 then mayL l else if inL l ≠ cntF (bs (txt17 s ls ls.length)) then 5 else if 1048576 < outL l then 4 else 0
def appLs (s : ByteArray) (ls : List (List Sp)) (l : List Sp) : List (List Sp) := if appE s ls l = 0 then ls ++ [normL l] else ls
theorem appE_ok {s : ByteArray} {ls : List (List Sp)} {l : List Sp} (h : appE s ls l = 0) : mayL l = 0 ∧ inL l = cntF (bs (txt17 s ls ls.length)) ∧ outL l ≤ 1048576 := by
  unfold appE at h
  split at h
  · rename_i h1; exact absurd h h1
  · split at h
    · omega
    · split at h
      · omega
      · exact ⟨by omega, by omega, by omega⟩
theorem norm_all17 {l : List Sp} (hm : mayL l = 0) (hl : l.length ≤ 1000) : mayL (normL l) = 0 ∧ inL (normL l) = inL l ∧ outL (normL l) = outL l ∧ normL (normL l) = normL l ∧ tok (normL l) = tok l ∧ (normL l).length ≤ l.length ∧ sumT (normL l) = sumT l := by
  obtain ⟨hall, i0, i1⟩ := mayL_all hm hl
  have ok : ∀ x ∈ l, OkW x := fun x hx => okW_of_may (hall x hx)
  have hN : sumN l ≤ 1048576 := by have := okW_N l ok; omega
  have hma := norm_may l hall hN
  have e := inL_norm l
  exact ⟨mayL_ok _ hma (by omega) (by omega), e, outL_norm l hall hN, (isN_iff16 (okW_pos _ fun x hx => okW_of_may (hma x hx))).1 (norm_is l (okW_pos l ok)), tok_norm l ok, norm_len l, sumT_norm l⟩
theorem to_norm17 {l : List Sp} {s : ByteArray} {cs : List Nat} (hm : mayL l = 0) (hl : l.length ≤ 1000) (hd : dec (bs s) = some cs) (hn : inL l = (cs.length : Int)) : toE (normL l) s = 0 ∧ toS (normL l) s = toS l s := by
  obtain ⟨n1, n2, _, _, n5, _, _⟩ := norm_all17 hm hl
  obtain ⟨a1, a2⟩ := to_ok hm hd hn.symm
  obtain ⟨b1, b2⟩ := to_ok n1 hd (by rw [n2]; exact hn.symm)
  exact ⟨b1, by rw [a2, b2, n5]⟩
theorem hok_app {s : ByteArray} {ls : List (List Sp)} {l : List Sp} (h : Hok s ls) (hls : ∀ x ∈ ls, x.length ≤ 1000) (hl : l.length ≤ 1000) (he : appE s ls l = 0) :
    Hok s (ls ++ [normL l]) ∧ txts17 s (ls ++ [normL l]) = txts17 s ls ++ [toS l (txt17 s ls ls.length)] ∧ toE l (txt17 s ls ls.length) = 0 := by
  obtain ⟨hm, hi, ho⟩ := appE_ok he
  obtain ⟨n1, n2, n3, n4, n5, _, _⟩ := norm_all17 hm hl
  obtain ⟨cs, h1, h2, h3⟩ := h
  obtain ⟨g1, ds, g2, g3⟩ := allL_ok h1 h3 hls
  have ht : txt17 s ls ls.length = (allL s ls).1 := by unfold txt17; rw [List.take_length]
  rw [ht] at hi ⊢
  rw [cntF_some g2] at hi
  obtain ⟨t1, t2⟩ := to_norm17 hm hl g2 hi
  refine ⟨⟨cs, h1, h2, ?_⟩, ?_, (to_ok hm g2 hi.symm).1⟩
  · rw [segE_append, segE_cons]
    exact ⟨h3, ⟨n1, by rw [n2, hi, g3], by omega, n4⟩, rfl⟩
  · unfold txts17
    rw [List.length_append, List.length_singleton, List.range_succ, List.map_append]
    congr 1
    · apply List.map_congr_left
      intro j hj
      have hj2 := List.mem_range.1 hj
      unfold txt17
      rw [List.take_append_of_le_length (by omega)]
    · simp only [List.map_cons, List.map_nil]
      congr 1
      unfold txt17
      have e : (ls ++ [normL l]).take (ls.length + 1) = ls ++ [normL l] := List.take_of_length_le (by simp)
      rw [e, allL_append g1, allL, if_pos t1, t2]
      rfl
end Go.Proofs.YtgcaphjjigpjlaaGreatDoor
namespace Go.Proofs.YtgcaphjjigpjlaaGreatDoor
open Go.RowKit
set_option maxRecDepth 100000
set_option maxHeartbeats 4000000
set_option linter.unusedSimpArgs false
structure Kp (S : Nat → Prop) (A B : World) : Prop where
  os : B.os = A.os
  tape : B.tape = A.tape
  output : B.output = A.output
  size : A.heap.size ≤ B.heap.size
  block : ∀ k, k < A.heap.size → ¬ S k → B.heap[k]? = A.heap[k]?
def Gr (F : Nat → Prop) (A B : World) : Nat → Prop := fun k => F k ∨ (A.heap.size ≤ k ∧ k < B.heap.size)
theorem Kp.refl (S : Nat → Prop) (A : World) : Kp S A A := ⟨rfl, rfl, rfl, Nat.le_refl _, fun _ _ _ => rfl⟩
theorem Kp.of_ext {A B : World} (S : Nat → Prop) (h : Ext A B) : Kp S A B := ⟨h.os, h.tape, h.output, h.size, fun k hk _ => h.block k hk⟩
theorem Kp.trans {S : Nat → Prop} {A B C : World} (h : Kp S A B) (k : Kp S B C) : Kp S A C :=
  ⟨k.os.trans h.os, k.tape.trans h.tape, k.output.trans h.output, Nat.le_trans h.size k.size, fun i hi hs => (k.block i (Nat.lt_of_lt_of_le hi h.size) hs).trans (h.block i hi hs)⟩
theorem Kp.wide {S S' : Nat → Prop} {A B C : World} (h : Kp S A B) (k : Kp S' B C) (hs : ∀ i, S' i → S i ∨ A.heap.size ≤ i) : Kp S A C :=
  ⟨k.os.trans h.os, k.tape.trans h.tape, k.output.trans h.output, Nat.le_trans h.size k.size, fun i hi hn => (k.block i (Nat.lt_of_lt_of_le hi h.size) (fun hq => by rcases hs i hq with g | g; exact hn g; omega)).trans (h.block i hi hn)⟩
theorem Kp.mono {S S' : Nat → Prop} {A B : World} (h : Kp S A B) (hs : ∀ i, S i → S' i) : Kp S' A B := ⟨h.os, h.tape, h.output, h.size, fun i hi hn => h.block i hi fun hq => hn (hs i hq)⟩
theorem Kp.ext {S : Nat → Prop} {A B : World} (h : Kp S A B) (hs : ∀ i, S i → A.heap.size ≤ i) : Ext A B := ⟨h.os, h.tape, h.output, h.size, fun i hi => h.block i hi fun hq => by have := hs i hq; omega⟩
theorem Kp.below {S : Nat → Prop} {A B : World} {n : Nat} (h : Kp S A B) (hn : n ≤ A.heap.size) (hs : ∀ i, S i → n ≤ i) : Below n A B := ⟨h.os, h.tape, h.output, h.size, fun i hi => h.block i (by omega) fun hq => by have := hs i hq; omega⟩
theorem Kp.set {S : Nat → Prop} {A B : World} (h : Kp S A B) (p : Addr) (v : Value) (hp : S p.block ∨ A.heap.size ≤ p.block) : Kp S A (B.setCell p v) :=
  ⟨h.os, h.tape, h.output, by simpa [World.setCell] using h.size, fun k hk hn => (Below.heap_setCell B p v k (fun e => by subst e; rcases hp with hp | hp; exact hn hp; omega)).trans (h.block k hk hn)⟩
theorem Own.keepb {W W' : World} {B : Nat} {e : TypeId} {size n : Nat} {v : Value} {xs : List Value} (ho : Own W B e size v n xs) (hs : W.heap.size ≤ W'.heap.size) (hk : ∀ k, v.ownBlock = some k → W'.heap[k]? = W.heap[k]?) : Own W' B e size v n xs := by
  refine ⟨⟨ho.1.1, ?_⟩, Nat.le_trans ho.2 hs⟩
  rcases ho.1.2 with h2 | ⟨g, cap, cur, hv, hb, hg, r⟩
  · exact .inl h2
  · refine .inr ⟨g, cap, cur, hv, hb, ?_, r⟩
    rw [hk g (by rw [hv]; rfl)]; exact hg
theorem Own.lt {W : World} {B : Nat} {e : TypeId} {size n : Nat} {v : Value} {xs : List Value} (ho : Own W B e size v n xs) {k : Nat} (hk : v.ownBlock = some k) : B ≤ k ∧ k < W.heap.size := ho.1.lt k hk
theorem Own.typ {W : World} {B : Nat} {e : TypeId} {size n : Nat} {v : Value} {xs : List Value} (ho : Own W B e size v n xs) {k : Nat} (hk : v.ownBlock = some k) : ∃ cur, W.heap[k]? = some (.cells cur e (0, 0)) := by
  rcases ho.1.2 with ⟨h2, _⟩ | ⟨g, cap, cur, hv, hb, hg, r⟩
  · rw [h2] at hk; cases hk
  · rw [hv] at hk
    injection hk with hk
    exact ⟨cur, by rw [← hk]; exact hg⟩
theorem typ_ne {W : World} {g k : Nat} {c1 c2 : Array Value} {e1 e2 : TypeId} {f1 f2 : Nat × Nat} (h1 : W.heap[g]? = some (.cells c1 e1 f1)) (h2 : W.heap[k]? = some (.cells c2 e2 f2)) (hne : e1 ≠ e2) : g ≠ k := by
  intro e; subst e
  rw [h1] at h2
  injection h2 with h2
  injection h2 with _ h2
  exact hne h2
structure HS (T : TypeId) (W : World) (x : Nat) (F : Nat → Prop) (tv lv : Value) (ts : List ByteArray) (rs : List (List Sp)) : Prop where
  box : BxT T W x #[tv, lv]
  tx : Own W 0 9 1 tv ts.length (strV ts)
  ro : ∃ vs : List Value, Own W 0 23 1 lv rs.length vs ∧ ∀ (i : Nat) (l : List Sp), rs[i]? = some l → ∃ u, vs[i]? = some u ∧ Own W 0 60 3 u l.length (spCells l) ∧ ∀ k, u.ownBlock = some k → F k
  fx : F x
  ft : ∀ k, tv.ownBlock = some k → F k
  fl : ∀ k, lv.ownBlock = some k → F k
  lt : ∀ k, F k → k < W.heap.size
theorem HS.keep {T : TypeId} {W W' : World} {x : Nat} {F S : Nat → Prop} {tv lv : Value} {ts : List ByteArray} {rs : List (List Sp)} (h : HS T W x F tv lv ts rs) (k : Kp S W W') (hd : ∀ i, F i → ¬ S i) : HS T W' x F tv lv ts rs := by
  have hb : ∀ i, F i → W'.heap[i]? = W.heap[i]? := fun i hi => k.block i (h.lt i hi) (hd i hi)
  obtain ⟨vs, r1, r2⟩ := h.ro
  refine ⟨(hb x h.fx).trans h.box, h.tx.keepb k.size fun i hi => hb i (h.ft i hi), ⟨vs, r1.keepb k.size fun i hi => hb i (h.fl i hi), fun i l hl => ?_⟩, h.fx, h.ft, h.fl, fun i hi => Nat.lt_of_lt_of_le (h.lt i hi) k.size⟩
  obtain ⟨u, g1, g2, g3⟩ := r2 i l hl
  exact ⟨u, g1, g2.keepb k.size fun i hi => hb i (g3 i hi), g3⟩
theorem HS.ext {T : TypeId} {W W' : World} {x : Nat} {F : Nat → Prop} {tv lv : Value} {ts : List ByteArray} {rs : List (List Sp)} (h : HS T W x F tv lv ts rs) (k : Ext W W') : HS T W' x F tv lv ts rs :=
  h.keep (Kp.of_ext (fun _ => False) k) fun _ _ hq => hq
theorem HS.rd {T : TypeId} {W : World} {x : Nat} {F : Nat → Prop} {tv lv : Value} {ts : List ByteArray} {rs : List (List Sp)} (h : HS T W x F tv lv ts rs) : ∃ A c, lv = .slice A rs.length c ∧ rs.length ≤ c ∧ RdSS W A rs.length c rs := by
  obtain ⟨vs, r1, r2⟩ := h.ro
  exact OwnSS.rd ⟨vs, r1, fun i l hl => by obtain ⟨u, g1, g2, _⟩ := r2 i l hl; exact ⟨u, g1, g2⟩⟩
theorem HS.more {T : TypeId} {W : World} {x : Nat} {F F' : Nat → Prop} {tv lv : Value} {ts : List ByteArray} {rs : List (List Sp)} (h : HS T W x F tv lv ts rs) (hF : ∀ k, F k → F' k) (hl : ∀ k, F' k → k < W.heap.size) : HS T W x F' tv lv ts rs := by
  obtain ⟨vs, r1, r2⟩ := h.ro
  refine ⟨h.box, h.tx, ⟨vs, r1, fun i l hi => ?_⟩, hF x h.fx, fun k hk => hF k (h.ft k hk), fun k hk => hF k (h.fl k hk), hl⟩
  obtain ⟨u, g1, g2, g3⟩ := r2 i l hi
  exact ⟨u, g1, g2, fun k hk => hF k (g3 k hk)⟩
theorem HS.text {T : TypeId} {W W' : World} {x : Nat} {F : Nat → Prop} {tv lv tv' : Value} {ts : List ByteArray} {rs : List (List Sp)} (h : HS T W x F tv lv ts rs) (hT1 : T ≠ 9) (hT2 : T ≠ 23) (hT3 : T ≠ 60) (h12 : 23 ≠ 9) (h13 : 60 ≠ 9) {t : ByteArray} (ho : Own W' 0 9 1 tv' (ts.length + 1) (strV (ts ++ [t])))
    (hk : ∀ k, k < W.heap.size → tv.ownBlock ≠ some k → W'.heap[k]? = W.heap[k]?) (hs : W.heap.size ≤ W'.heap.size) (hb : ∀ k, tv'.ownBlock = some k → tv.ownBlock = some k ∨ W.heap.size ≤ k) :
    HS T (W'.setCell ⟨x, 0, none⟩ tv') x (Gr F W W') tv' lv (ts ++ [t]) rs := by
  have nt : ∀ {e : TypeId} {g : Nat} {cur : Array Value}, W.heap[g]? = some (.cells cur e (0, 0)) → e ≠ 9 → W'.heap[g]? = W.heap[g]? := by
    intro e g cur hg hne
    refine hk g (Array.getElem?_eq_some_iff.1 hg).1 fun hq => ?_
    obtain ⟨cur2, hc⟩ := h.tx.typ hq
    exact typ_ne hg hc hne rfl
  have hx2 : BxT T W' x #[tv, lv] := (nt h.box hT1).trans h.box
  obtain ⟨vs, r1, r2⟩ := h.ro
  have hsz : (W'.setCell ⟨x, 0, none⟩ tv').heap.size = W'.heap.size := by simp [World.setCell]
  refine ⟨hx2.set 0 tv', ?_, ⟨vs, ?_, fun i l hl => ?_⟩, .inl h.fx, fun k hq => ?_, fun k hq => .inl (h.fl k hq), fun k hq => ?_⟩
  · have e : (ts ++ [t]).length = ts.length + 1 := by simp
    rw [e]
    exact own_cell_other (a := ⟨x, 0, none⟩) ho hx2 hT1 tv'
  · refine own_cell_other (a := ⟨x, 0, none⟩) (r1.keepb hs fun k hq => ?_) hx2 hT2 tv'
    obtain ⟨cur, hc⟩ := r1.typ hq
    exact nt hc h12
  · obtain ⟨u, g1, g2, g3⟩ := r2 i l hl
    refine ⟨u, g1, own_cell_other (a := ⟨x, 0, none⟩) (g2.keepb hs fun k hq => ?_) hx2 hT3 tv', fun k hq => .inl (g3 k hq)⟩
    obtain ⟨cur, hc⟩ := g2.typ hq
    exact nt hc h13
  · rcases hb k hq with g | g
    · exact .inl (h.ft k g)
    · exact .inr ⟨g, (ho.lt hq).2⟩
  · rw [hsz]
    rcases hq with g | g
    · exact Nat.lt_of_lt_of_le (h.lt k g) hs
    · exact g.2
theorem HS.row {T : TypeId} {W W' : World} {x : Nat} {F : Nat → Prop} {tv lv lv' u : Value} {ts : List ByteArray} {rs : List (List Sp)} {l : List Sp} (h : HS T W x F tv lv ts rs) (hT1 : T ≠ 9) (hT2 : T ≠ 23) (hT3 : T ≠ 60) (h12 : 9 ≠ 23) (h13 : 60 ≠ 23) {vs : List Value}
    (hvs : Own W 0 23 1 lv rs.length vs) (hrow : ∀ (i : Nat) (l : List Sp), rs[i]? = some l → ∃ u, vs[i]? = some u ∧ Own W 0 60 3 u l.length (spCells l) ∧ ∀ k, u.ownBlock = some k → F k)
    {B : Nat} (hu : Own W B 60 3 u l.length (spCells l)) (hFu : ∀ k, u.ownBlock = some k → F k) (ho : Own W' 0 23 1 lv' (rs.length + 1) (vs ++ [u]))
    (hk : ∀ k, k < W.heap.size → lv.ownBlock ≠ some k → W'.heap[k]? = W.heap[k]?) (hs : W.heap.size ≤ W'.heap.size) (hb : ∀ k, lv'.ownBlock = some k → lv.ownBlock = some k ∨ W.heap.size ≤ k) :
    HS T (W'.setCell ⟨x, 1, none⟩ lv') x (Gr F W W') tv lv' ts (rs ++ [l]) := by
  have nt : ∀ {e : TypeId} {g : Nat} {cur : Array Value}, W.heap[g]? = some (.cells cur e (0, 0)) → e ≠ 23 → W'.heap[g]? = W.heap[g]? := by
    intro e g cur hg hne
    refine hk g (Array.getElem?_eq_some_iff.1 hg).1 fun hq => ?_
    obtain ⟨cur2, hc⟩ := hvs.typ hq
    exact typ_ne hg hc hne rfl
  have hx2 : BxT T W' x #[tv, lv] := (nt h.box hT2).trans h.box
  have hsz : (W'.setCell ⟨x, 1, none⟩ lv').heap.size = W'.heap.size := by simp [World.setCell]
  have hlen : vs.length = rs.length := by have := hvs.1.1; omega
  have hel : (rs ++ [l]).length = rs.length + 1 := by simp
  refine ⟨hx2.set 1 lv', ?_, ⟨vs ++ [u], ?_, fun i m hm => ?_⟩, .inl h.fx, fun k hq => .inl (h.ft k hq), fun k hq => ?_, fun k hq => ?_⟩
  · refine own_cell_other (a := ⟨x, 1, none⟩) (h.tx.keepb hs fun k hq => ?_) hx2 hT1 lv'
    obtain ⟨cur, hc⟩ := h.tx.typ hq
    exact nt hc h12
  · rw [hel]
    exact own_cell_other (a := ⟨x, 1, none⟩) ho hx2 hT2 lv'
  · by_cases hi : i < rs.length
    · rw [List.getElem?_append_left hi] at hm
      obtain ⟨u', g1, g2, g3⟩ := hrow i m hm
      refine ⟨u', by rw [List.getElem?_append_left (by omega)]; exact g1, own_cell_other (a := ⟨x, 1, none⟩) (g2.keepb hs fun k hq => ?_) hx2 hT3 lv', fun k hq => .inl (g3 k hq)⟩
      obtain ⟨cur, hc⟩ := g2.typ hq
      exact nt hc h13
    · have hi2 : i = rs.length := by
        have := (List.getElem?_eq_some_iff.1 hm).1
        rw [hel] at this; omega
      subst hi2
      rw [List.getElem?_append_right (Nat.le_refl _), Nat.sub_self] at hm
      simp only [List.getElem?_cons_zero, Option.some.injEq] at hm
      subst hm
      refine ⟨u, by rw [List.getElem?_append_right (by omega), hlen, Nat.sub_self]; rfl, own_cell_other (a := ⟨x, 1, none⟩) ((hu.more (Nat.zero_le _)).keepb hs fun k hq => ?_) hx2 hT3 lv', fun k hq => .inl (hFu k hq)⟩
      obtain ⟨cur, hc⟩ := hu.typ hq
      exact nt hc h13
  · rcases hb k hq with g | g
    · exact .inl (h.fl k g)
    · exact .inr ⟨g, (ho.lt hq).2⟩
  · rw [hsz]
    rcases hq with g | g
    · exact Nat.lt_of_lt_of_le (h.lt k g) hs
    · exact g.2
end Go.Proofs.YtgcaphjjigpjlaaGreatDoor
namespace Go.Proofs.YtgcaphjjigpjlaaGreatDoor
open Go.RowKit
set_option maxRecDepth 100000
set_option maxHeartbeats 4000000
set_option linter.unusedSimpArgs false
theorem Rd.from {w : World} {A : Option Addr} {n c : Nat} {xs : List Value} (h : Rd w 1 (.slice A n c) n xs) {k : Nat} (hk : k ≤ n) : Rd w 1 (.slice (if c = k then A else Option.map (fun x => x.add k) A) (n - k) (c - k)) (n - k) (xs.drop k) := by
  obtain ⟨h1, A', c', hv, hc, h2⟩ := h
  injection hv with e1 e2 e3
  subst e1; subst e3
  refine ⟨by rw [List.length_drop]; omega, _, _, rfl, by omega, fun h0 => ?_⟩
  obtain ⟨b, off, hA, hb, hcell⟩ := h2 (by omega)
  have hne : c ≠ k := by omega
  rw [if_neg hne, hA]
  refine ⟨b, off + k, ?_, hb, fun j u hu => ?_⟩
  · simp only [Option.map_some, Addr.add]
    by_cases hz : k = 0
    · subst hz; rfl
    · rw [if_neg hz]
  · rw [List.getElem?_drop] at hu
    rw [show off + k + j = off + (k + j) by omega]
    exact hcell _ u hu
theorem RdSS.from {w : World} {A : Option Addr} {n c : Nat} {ls : List (List Sp)} (h : RdSS w A n c ls) {k : Nat} (hk : k ≤ n) : RdSS w (if c = k then A else Option.map (fun x => x.add k) A) (n - k) (c - k) (ls.drop k) := by
  obtain ⟨h1, vs, h2, h3⟩ := h
  refine ⟨by rw [List.length_drop, h1], vs.drop k, h2.from hk, fun i l hl => ?_⟩
  rw [List.getElem?_drop] at hl ⊢
  exact h3 _ l hl
end Go.Proofs.YtgcaphjjigpjlaaGreatDoor
namespace Go.Proofs.YtgcaphjjigpjlaaGreatDoor
open Go.RowKit
set_option maxRecDepth 100000
set_option maxHeartbeats 4000000
set_option linter.unusedSimpArgs false
theorem same16_c (A : Option Addr) (n c : Nat) (B : Option Addr) (m d : Nat) (A' : Option Addr) (c' : Nat) (B' : Option Addr) (d' : Nat) (s : ByteArray) (rv : List Int) (ls : List (List Sp)) (w : World) (h1 : Rd w 1 (.slice A n c) n (nV rv)) (h2 : RdSS w B m d ls) (h1' : Rd w 1 (.slice A' n c') n (nV rv)) (h2' : RdSS w B' m d' ls) (hr : rv.length ≤ 1000) (hl : ∀ l ∈ ls, l.length ≤ 1000) (hlm : ls.length ≤ 1000) :
    Calls Tryz.prog 21 #[.agg #[.string s, .slice A n c, .slice B m d], .agg #[.string s, .slice A' n c', .slice B' m d']] w fun e w' => e = .returned (.bool true) ∧ Ext w w' := by
  have hm := h2.1; have hnl := nV_len h1
  have hmb : m ≤ 1000 := by omega
  have e1 : Ext w (w.alloc (.cells #[.string s, .slice A n c, .slice B m d] 56)) := (Ext.refl w).alloc _
  have e2 : Ext w ((w.alloc (.cells #[.string s, .slice A n c, .slice B m d] 56)).alloc (.cells #[.string s, .slice A' n c', .slice B' m d'] 56)) := e1.alloc _
  have L1 := (LogB.new (s := s) h1 h2).ext ((Ext.refl (w.alloc (.cells #[.string s, .slice A n c, .slice B m d] 56))).alloc (.cells #[.string s, .slice A' n c', .slice B' m d'] 56))
  have L2 := LogB.new (s := s) (h1'.ext e1) (h2'.ext e1)
  rw [size_alloc] at L2
  have HSR := Lib.hid (fun w' (hx : Ext w w') => sameTrue15 (X := rv) (Y := rv) rfl hr (h1.ext hx) (h1'.ext hx))
  obtain ⟨a0, a1, a2⟩ := L1.cells
  obtain ⟨b0, b1, b2⟩ := L2.cells
  have HL1 := Lib.hid L1; have HL2 := Lib.hid L2; have HM := Lib.hid hm; have HLL := Lib.hid hl; have E2 := Lib.hid e2
  clear L1 L2 h1 h2 h1' h2' hm hnl hl e1 e2 hlm
  go_enter Tryz.func21, Tryz.ntmps21
  go_wp2_with fail
  refine (HSR.out _ E2.out).mono ?_; rintro e w3 ⟨rfl, hx3⟩
  replace HL1 := Lib.hid (HL1.out.ext hx3); replace HL2 := Lib.hid (HL2.out.ext hx3)
  have E3 := Lib.hid (E2.out.trans hx3)
  clear a0 a1 a2 b0 b1 b2 hx3 HSR
  obtain ⟨y, hy⟩ : ∃ y, w.heap.size + 1 = y := ⟨_, rfl⟩
  obtain ⟨x, hx⟩ : ∃ x, w.heap.size = x := ⟨_, rfl⟩
  rw [hy] at HL2 ⊢; rw [hx] at HL1 ⊢
  clear hx hy
  go_wp2_with fail
  go_loopw [5] (fun iv wr => ∃ j : Nat, j ≤ m ∧ iv = .int .i64 j ∧ Hid (Ext w3 wr)) (fun iv _ => m - (intOf iv).toNat)
  case atStart => exact ⟨0, by omega, rfl, Lib.hid (Ext.refl _)⟩
  case round =>
    obtain ⟨j, hj, rfl, HX⟩ := hrel
    obtain ⟨_, _, c2⟩ := (HL1.out.ext HX.out).cells
    obtain ⟨_, _, d2⟩ := (HL2.out.ext HX.out).cells
    by_cases hlt : j < m
    · have hjl : j < ls.length := by have := HM.out; omega
      obtain ⟨bb, off, a, kc, rfl, hbb, q0, hr0⟩ := (HL1.out.ext HX.out).seg.at_ hlt hjl
      obtain ⟨bb', off', a', kc', rfl, hbb', q0', hr0'⟩ := (HL2.out.ext HX.out).seg.at_ hlt hjl
      have dn : decide (j < m) = true := by rw [decide_eq_true_eq]; exact hlt
      have i0 : (0 : Int) ≤ (j : Int) := by omega
      have i1 : (j : Int) < (m : Int) := by omega
      have hlen := HLL.out _ (List.getElem_mem hjl)
      obtain ⟨l, hl⟩ : ∃ l, ls[j] = l := ⟨_, rfl⟩
      rw [hl] at q0 q0' hr0 hr0' hlen
      obtain ⟨k, hk⟩ : ∃ k, l.length = k := ⟨_, rfl⟩
      rw [hk] at q0 q0' hr0 hr0'
      have HS := Lib.hid (fun w' (hx : Ext wr w') => sameR4_c a a' k kc kc' l w' (hr0.ext hx) (hr0'.ext hx) hk (by omega))
      have HXr := Lib.hid HX.out
      clear hr0 hr0' hl hk hlen
      go_wp2_with fail
      have hrr := Ext.refl wr
      go_region_held3 (fun V => Ext wr V ∧ V.cell? ⟨x, 2, none⟩ = some (.slice (some ⟨bb, off, none⟩) m d) ∧ V.cell? ⟨y, 2, none⟩ = some (.slice (some ⟨bb', off', none⟩) m d') ∧ V.cell? ⟨bb, off + j, none⟩ = some (.slice a k kc) ∧ V.cell? ⟨bb', off' + j, none⟩ = some (.slice a' k kc'))
        ((go_split_ands; refine ⟨?_, ?_, ?_, ?_, ?_⟩ <;> first | (exact Ext.drew ‹_›) | (exact Ext.trans ‹_› hxk) | (exact ext_cell hxk ‹_›) | go_keep))
        (first
        | (go_at_call 20; go_split_ands; refine (HS.out _ ‹Ext wr _›).mono ?_; rintro e u1 ⟨rfl, hxk⟩)
        | fail)
      go_split_ands
      have HX2 := Lib.hid (HXr.out.trans ‹Ext wr u1›)
      go_wp2_with fail
      go_roundw
      case rel => exact ⟨j + 1, by omega, by go_num, HX2⟩
      case measure => simp [intOf]; omega
    · obtain rfl : j = m := by omega
      have dn : decide (j < j) = false := by rw [decide_eq_false_iff_not]; omega
      go_wp2_with fail
      go_ret
      exact ⟨rfl, E3.out.trans HX.out⟩
end Go.Proofs.YtgcaphjjigpjlaaGreatDoor
