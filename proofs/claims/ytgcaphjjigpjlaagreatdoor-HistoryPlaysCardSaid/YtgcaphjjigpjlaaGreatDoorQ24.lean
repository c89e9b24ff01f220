/- Packed: P17a P17 L17a L17g M17c L17h. -/
import Derived.ArgAppend
import Derived.BigQuiet
import Derived.BigRegion
import Derived.ChangeAlike
import Derived.ChangeOld
import Derived.Deep.Cut
import Derived.Deep.CutRange
import Derived.Deep.DrawnRows
import Derived.Deep.MidRow
import Derived.Deep.QuietTactic
import Derived.Deep.RegionHeld3
import Derived.Deep.RegionWith
import Derived.Deep.Slices
import Derived.Deep.Upon
import Derived.Defers
import Derived.Laws.AppendOwnNone
import Derived.Laws.BytesArg
import Derived.Laws.EntriesVeiled
import Derived.Laws.IdiomCopy
import Derived.Laws.MakeOwn
import Derived.Laws.ResultCell
import Derived.Laws.Rows
import Derived.Lib.AppendStr
import Derived.Lib.AppendZerosOnto
import Derived.Lib.Builder
import Derived.Lib.DecodeN
import Derived.Lib.Hide
import Derived.Lib.Strings
import Derived.Lib.UnsafeStr
import Derived.LoopIn
import Derived.LoopNIn
import Derived.OpenShut
import Derived.OwnWalkIn
import Derived.ProofKit
import Derived.RangeFuncBound
import Derived.RangeFuncCalls
import Derived.RangeFuncLeaves
import Derived.RangeFuncNested
import Derived.RegionTactic
import Derived.ScopeJumps
import Derived.Shelf.Abstract
import Derived.Shelf.RegionOpen
import Derived.ShutString
import Derived.Sort.CutIn
import Derived.StillTail
import Derived.StillTailTactics
import Derived.TacticsInMore
import Derived.Test.YtgcaphjjigpjlaaGreatDoorProg
import Derived.Test.YtgcaphjjigpjlaaGreatDoorShelf
import Derived.WalkKit
import Derived.WalkLawsBesides
import Derived.WalkMore
import Derived.WalkSpells
import Derived.Test.YtgcaphjjigpjlaaGreatDoorQ00
import Derived.Test.YtgcaphjjigpjlaaGreatDoorQ01
import Derived.Test.YtgcaphjjigpjlaaGreatDoorQ02
import Derived.Test.YtgcaphjjigpjlaaGreatDoorQ03
import Derived.Test.YtgcaphjjigpjlaaGreatDoorQ04
import Derived.Test.YtgcaphjjigpjlaaGreatDoorQ05
import Derived.Test.YtgcaphjjigpjlaaGreatDoorQ06
import Derived.Test.YtgcaphjjigpjlaaGreatDoorQ07
import Derived.Test.YtgcaphjjigpjlaaGreatDoorQ08
import Derived.Test.YtgcaphjjigpjlaaGreatDoorQ09
import Derived.Test.YtgcaphjjigpjlaaGreatDoorQ10
import Derived.Test.YtgcaphjjigpjlaaGreatDoorQ11
import Derived.Test.YtgcaphjjigpjlaaGreatDoorQ12
import Derived.Test.YtgcaphjjigpjlaaGreatDoorQ13
import Derived.Test.YtgcaphjjigpjlaaGreatDoorQ14
import Derived.Test.YtgcaphjjigpjlaaGreatDoorQ15
import Derived.Test.YtgcaphjjigpjlaaGreatDoorQ16
import Derived.Test.YtgcaphjjigpjlaaGreatDoorQ17
import Derived.Test.YtgcaphjjigpjlaaGreatDoorQ18
import Derived.Test.YtgcaphjjigpjlaaGreatDoorQ19
import Derived.Test.YtgcaphjjigpjlaaGreatDoorQ20
import Derived.Test.YtgcaphjjigpjlaaGreatDoorQ21
import Derived.Test.YtgcaphjjigpjlaaGreatDoorQ22
import Derived.Test.YtgcaphjjigpjlaaGreatDoorQ23
namespace Go.Proofs.YtgcaphjjigpjlaaGreatDoor
open Go.RowKit
set_option maxRecDepth 100000
set_option maxHeartbeats 4000000
set_option linter.unusedSimpArgs false
structure HS1 (W : World) (x : Nat) (F : Nat → Prop) (N : Int) (lv : Value) (s : ByteArray) (rs : List (List Sp)) : Prop where
  box : BxT 45 W x #[.int .i64 N, lv, .string s]
  ro : ∃ vs : List Value, Own W 0 23 1 lv rs.length vs ∧ ∀ (i : Nat) (l : List Sp), rs[i]? = some l → ∃ u, vs[i]? = some u ∧ Own W 0 60 3 u l.length (spCells l) ∧ ∀ k, u.ownBlock = some k → F k
  fx : F x
  fl : ∀ k, lv.ownBlock = some k → F k
  lt : ∀ k, F k → k < W.heap.size
theorem HS1.keep {W W' : World} {x : Nat} {F S : Nat → Prop} {N : Int} {lv : Value} {s : ByteArray} {rs : List (List Sp)} (h : HS1 W x F N lv s rs) (k : Kp S W W') (hd : ∀ i, F i → ¬ S i) : HS1 W' x F N lv s rs := by
  have hb : ∀ i, F i → W'.heap[i]? = W.heap[i]? := fun i hi => k.block i (h.lt i hi) (hd i hi)
  obtain ⟨vs, r1, r2⟩ := h.ro
  refine ⟨(hb x h.fx).trans h.box, ⟨vs, r1.keepb k.size fun i hi => hb i (h.fl i hi), fun i l hl => ?_⟩, h.fx, h.fl, fun i hi => Nat.lt_of_lt_of_le (h.lt i hi) k.size⟩
  obtain ⟨u, g1, g2, g3⟩ := r2 i l hl
  exact ⟨u, g1, g2.keepb k.size fun i hi => hb i (g3 i hi), g3⟩
theorem HS1.ext {W W' : World} {x : Nat} {F : Nat → Prop} {N : Int} {lv : Value} {s : ByteArray} {rs : List (List Sp)} (h : HS1 W x F N lv s rs) (k : Ext W W') : HS1 W' x F N lv s rs :=
  h.keep (Kp.of_ext (fun _ => False) k) fun _ _ hq => hq
theorem HS1.rd {W : World} {x : Nat} {F : Nat → Prop} {N : Int} {lv : Value} {s : ByteArray} {rs : List (List Sp)} (h : HS1 W x F N lv s rs) : ∃ A c, lv = .slice A rs.length c ∧ rs.length ≤ c ∧ RdSS W A rs.length c rs := by
  obtain ⟨vs, r1, r2⟩ := h.ro
  exact OwnSS.rd ⟨vs, r1, fun i l hl => by obtain ⟨u, g1, g2, _⟩ := r2 i l hl; exact ⟨u, g1, g2⟩⟩
theorem HS1.more {W : World} {x : Nat} {F F' : Nat → Prop} {N : Int} {lv : Value} {s : ByteArray} {rs : List (List Sp)} (h : HS1 W x F N lv s rs) (hF : ∀ k, F k → F' k) (hl : ∀ k, F' k → k < W.heap.size) : HS1 W x F' N lv s rs := by
  obtain ⟨vs, r1, r2⟩ := h.ro
  refine ⟨h.box, ⟨vs, r1, fun i l hi => ?_⟩, hF x h.fx, fun k hk => hF k (h.fl k hk), hl⟩
  obtain ⟨u, g1, g2, g3⟩ := r2 i l hi
  exact ⟨u, g1, g2, fun k hk => hF k (g3 k hk)⟩
theorem HS1.row {W W' : World} {x : Nat} {F : Nat → Prop} {N : Int} {lv lv' u : Value} {s : ByteArray} {rs : List (List Sp)} {l : List Sp} (h : HS1 W x F N lv s rs) (hT2 : 45 ≠ 23) (hT3 : 45 ≠ 60) (h13 : 60 ≠ 23) {vs : List Value}
    (hvs : Own W 0 23 1 lv rs.length vs) (hrow : ∀ (i : Nat) (l : List Sp), rs[i]? = some l → ∃ u, vs[i]? = some u ∧ Own W 0 60 3 u l.length (spCells l) ∧ ∀ k, u.ownBlock = some k → F k)
    {B : Nat} (hu : Own W B 60 3 u l.length (spCells l)) (hFu : ∀ k, u.ownBlock = some k → F k) (ho : Own W' 0 23 1 lv' (rs.length + 1) (vs ++ [u]))
    (hk : ∀ k, k < W.heap.size → lv.ownBlock ≠ some k → W'.heap[k]? = W.heap[k]?) (hs : W.heap.size ≤ W'.heap.size) (hb : ∀ k, lv'.ownBlock = some k → lv.ownBlock = some k ∨ W.heap.size ≤ k) :
    HS1 (W'.setCell ⟨x, 1, none⟩ lv') x (Gr F W W') N lv' s (rs ++ [l]) := by
  have nt : ∀ {e : TypeId} {g : Nat} {cur : Array Value}, W.heap[g]? = some (.cells cur e (0, 0)) → e ≠ 23 → W'.heap[g]? = W.heap[g]? := by
    intro e g cur hg hne
    refine hk g (Array.getElem?_eq_some_iff.1 hg).1 fun hq => ?_
    obtain ⟨cur2, hc⟩ := hvs.typ hq
    exact typ_ne hg hc hne rfl
  have hx2 : BxT 45 W' x #[.int .i64 N, lv, .string s] := (nt h.box hT2).trans h.box
  have hsz : (W'.setCell ⟨x, 1, none⟩ lv').heap.size = W'.heap.size := by simp [World.setCell]
  have hlen : vs.length = rs.length := by have := hvs.1.1; omega
  have hel : (rs ++ [l]).length = rs.length + 1 := by simp
  refine ⟨hx2.set 1 lv', ⟨vs ++ [u], ?_, fun i m hm => ?_⟩, .inl h.fx, fun k hq => ?_, fun k hq => ?_⟩
  · rw [hel]
    exact own_cell_other (a := ⟨x, 1, none⟩) ho hx2 hT2 lv'
  · by_cases hi : i < rs.length
    · rw [List.getElem?_append_left hi] at hm
      obtain ⟨u', g1, g2, g3⟩ := hrow i m hm
      refine ⟨u', by rw [List.getElem?_append_left (by omega)]; exact g1, own_cell_other (a := ⟨x, 1, none⟩) (g2.keepb hs fun k hq => ?_) hx2 hT3 lv', fun k hq => .inl (g3 k hq)⟩
      obtain ⟨cur, hc⟩ := g2.typ hq
      exact nt hc h13
    · have hi2 : i = rs.length := by
        have := (List.getElem?_eq_some_iff.1 hm).1
        rw [hel] at this; omega
      subst hi2
      rw [List.getElem?_append_right (Nat.le_refl _), Nat.sub_self] at hm
      simp only [List.getElem?_cons_zero, Option.some.injEq] at hm
      subst hm
      refine ⟨u, by rw [List.getElem?_append_right (by omega), hlen, Nat.sub_self]; rfl, own_cell_other (a := ⟨x, 1, none⟩) ((hu.more (Nat.zero_le _)).keepb hs fun k hq => ?_) hx2 hT3 lv', fun k hq => .inl (hFu k hq)⟩
      obtain ⟨cur, hc⟩ := hu.typ hq
      exact nt hc h13
  · rcases hb k hq with g | g
    · exact .inl (h.fl k g)
    · exact .inr ⟨g, (ho.lt hq).2⟩
  · rw [hsz]
    rcases hq with g | g
    · exact Nat.lt_of_lt_of_le (h.lt k g) hs
    · exact g.2
def HP (W : World) (x : Nat) (F : Nat → Prop) (s : ByteArray) (ls : List (List Sp)) : Prop := (∃ lv, HS1 W x F (cntF (bs s)) lv s ls) ∧ Hok s ls
theorem HP.keep {W W' : World} {x : Nat} {F S : Nat → Prop} {s : ByteArray} {ls : List (List Sp)} (h : HP W x F s ls) (k : Kp S W W') (hd : ∀ i, F i → ¬ S i) : HP W' x F s ls := by
  obtain ⟨⟨lv, h⟩, h2⟩ := h
  exact ⟨⟨lv, h.keep k hd⟩, h2⟩
theorem HP.lt {W : World} {x : Nat} {F : Nat → Prop} {s : ByteArray} {ls : List (List Sp)} (h : HP W x F s ls) : ∀ k, F k → k < W.heap.size := by
  obtain ⟨⟨lv, h⟩, _⟩ := h
  exact h.lt
theorem HP.ok {W : World} {x : Nat} {F : Nat → Prop} {s : ByteArray} {ls : List (List Sp)} (h : HP W x F s ls) : Hok s ls := h.2
theorem HP.ext {W W' : World} {x : Nat} {F : Nat → Prop} {s : ByteArray} {ls : List (List Sp)} (h : HP W x F s ls) (k : Ext W W') : HP W' x F s ls := h.keep (Kp.of_ext (fun _ => False) k) fun _ _ hq => hq
theorem HP.more {W : World} {x : Nat} {F F' : Nat → Prop} {s : ByteArray} {ls : List (List Sp)} (h : HP W x F s ls) (hF : ∀ k, F k → F' k) (hl : ∀ k, F' k → k < W.heap.size) : HP W x F' s ls := by
  obtain ⟨⟨lv, h⟩, h2⟩ := h
  exact ⟨⟨lv, h.more hF hl⟩, h2⟩
def mayE17 (s : ByteArray) (ls : List (List Sp)) (l : List Sp) (j : Nat) : Int := if mayL l ≠ 0 then mayL l else if inL l ≠ cntF (bs (txt17 s ls j)) then 5 else 0
theorem clone17_c (s : ByteArray) (w : World) (hs : s.size ≤ 1000000) : Calls Tryz.prog 25 #[.string s] w fun e w' => e = .returned (.string s) ∧ Ext w w' := by
  have HC := Lib.hid (fun w' => Tryz.stringslite_Clone s w' (by omega))
  go_enter Tryz.func25, Tryz.ntmps25
  go_wp2_with fail
  refine (HC.out _).mono ?_; rintro e w1 ⟨rfl, hx1⟩
  go_wp2_with fail
  go_ret
  exact ⟨rfl, hx1⟩
theorem newP17_c (s : ByteArray) (w : World) [Tab w] (hs : s.size ≤ 1000000) : Calls Tryz.prog 6 #[.string s] w (NewR HP w s) := by
  have HC := Lib.hid (fun w' => count_c s w' (by omega))
  have HCL := Lib.hid (fun w' => clone17_c s w' hs)
  unfold NewR
  by_cases hd : dec (bs s) = none
  · have hn : newH s = 3 := if_pos hd
    rw [hn]
    have hc : cntF (bs s) = -1 := by unfold cntF; rw [hd]
    rw [hc] at HC
    clear hd hn hc HCL
    go_enter Tryz.func6, Tryz.ntmps6
    go_wp2_with fail
    refine (HC.out _).mono ?_; rintro e w1 ⟨rfl, hx1⟩
    go_wp2_with fail
    go_ret2
    exact ⟨hx1, fun _ => rfl, fun h => absurd h (by omega)⟩
  · obtain ⟨cs, hcs⟩ := Option.ne_none_iff_exists'.1 hd
    have hk0 : 0 ≤ cntF (bs s) := by rw [cntF_some hcs]; omega
    by_cases h4 : 1048576 < cntF (bs s)
    · have hn : newH s = 4 := by unfold newH; rw [if_neg hd, if_pos h4]
      rw [hn]
      clear hd hn hcs HCL
      generalize cntF (bs s) = K at *
      have d1 : decide (K < 0) = false := by rw [decide_eq_false_iff_not]; omega
      have d2 : decide (1048576 < K) = true := by rw [decide_eq_true_eq]; exact h4
      go_enter Tryz.func6, Tryz.ntmps6
      go_wp2_with fail
      refine (HC.out _).mono ?_; rintro e w1 ⟨rfl, hx1⟩
      go_wp2_with fail
      go_ret2
      exact ⟨hx1, fun _ => rfl, fun h => absurd h (by omega)⟩
    · have hn : newH s = 0 := by unfold newH; rw [if_neg hd, if_neg h4]
      rw [hn]
      have hok : Hok s [] := ⟨cs, hcs, by rw [cntF_some hcs] at h4; omega, rfl⟩
      have HOK := Lib.hid hok
      obtain ⟨K, hK⟩ : ∃ K, cntF (bs s) = K := ⟨_, rfl⟩
      rw [hK] at HC hk0 h4
      have HKE := Lib.hid hK
      clear hd hn hcs hok hK
      have d1 : decide (K < 0) = false := by rw [decide_eq_false_iff_not]; omega
      have d2 : decide (1048576 < K) = false := by rw [decide_eq_false_iff_not]; exact h4
      go_enter Tryz.func6, Tryz.ntmps6
      go_wp2_with fail
      refine (HC.out _).mono ?_; rintro e w1 ⟨rfl, hx1⟩
      go_wp2_with fail
      refine (HCL.out _).mono ?_; rintro e w2 ⟨rfl, hx2⟩
      have HX := Lib.hid (hx1.trans hx2)
      clear hx1 hx2
      go_wp2_with fail
      go_ret2
      have e2 : Ext w2 (w2.alloc (.cells #[.int .i64 K, .slice none 0 0, .string s] 45)) := (Ext.refl _).alloc _
      have hb := BxT.new w2 45 #[.int .i64 K, .slice none 0 0, .string s]
      refine ⟨HX.out.trans e2, fun h => absurd rfl h, fun _ => ⟨w2.heap.size, fun k => w2.heap.size ≤ k ∧ k < w2.heap.size + 1, rfl, ⟨⟨_, by rw [HKE.out]; exact hb, ⟨[], Own.nil _ _ _ _ (Nat.zero_le _), fun i l hl => by simp at hl⟩, ⟨by omega, by omega⟩, fun k hk => (by cases hk), fun k hk => ?_⟩, HOK.out⟩, fun k hk => Nat.le_trans HX.out.size hk.1⟩⟩
      rw [size_alloc]; omega
theorem lenP17_c (x : Nat) (F : Nat → Prop) (s : ByteArray) (ls : List (List Sp)) (w : World) [Tab w] (h : HP w x F s ls) (_hs : SmH s ls) :
    Calls Tryz.prog 13 #[.pointer (some ⟨x, 0, none⟩)] w fun e w' => e = .returned (.int .i64 (ls.length : Int)) ∧ Ext w w' := by
  obtain ⟨⟨lv, hh⟩, _⟩ := h
  obtain ⟨A2, d, rfl, hnd, _⟩ := hh.rd
  have y1 : w.cell? ⟨x, 1, none⟩ = some (.slice A2 ls.length d) := hh.box.cell rfl
  clear hh
  generalize ls.length = n at *
  go_enter Tryz.func13, Tryz.ntmps13
  go_wp2_with fail
  go_ret
  exact ⟨rfl, Ext.refl _⟩
theorem sizeP17_c (x : Nat) (F : Nat → Prop) (s : ByteArray) (ls : List (List Sp)) (j : Nat) (w : World) [Tab w] (h : HP w x F s ls) (hs : SmH s ls) (hj : j ≤ ls.length) :
    Calls Tryz.prog 41 #[.pointer (some ⟨x, 0, none⟩), .int .i64 (j : Int)] w fun e w' => e = .returned (.int .i64 (cntF (bs (txt17 s ls j)))) ∧ Ext w w' := by
  have hok := h.ok
  obtain ⟨⟨lv, hh⟩, _⟩ := h
  obtain ⟨A2, d, rfl, hnd, hrss⟩ := hh.rd
  have hsn := hs.num
  cases j with
  | zero =>
    rw [show txt17 s ls 0 = s by unfold txt17; rw [List.take_zero]; rfl]
    have y0 : w.cell? ⟨x, 0, none⟩ = some (.int .i64 (cntF (bs s))) := hh.box.cell rfl
    clear hh hrss hok hs
    generalize cntF (bs s) = K at *
    go_enter Tryz.func41, Tryz.ntmps41
    go_wp2_with fail
    go_ret
    exact ⟨rfl, Ext.refl _⟩
  | succ k =>
    have y1 : w.cell? ⟨x, 1, none⟩ = some (.slice A2 ls.length d) := hh.box.cell rfl
    obtain ⟨e1, e2, e3, e4⟩ := hok.size hs.len hs.num (k := k) (by omega)
    obtain ⟨bb, off, a2, kc2, rfl, hbb, q00, hr00⟩ := hrss.at_ (i := k) (by omega) (by omega)
    have hlen := hs.len _ (List.getElem_mem (by omega : k < ls.length))
    have hsum := hs.sum
    have hs1 := sumT_le16 _ (List.getElem_mem (by omega : k < ls.length))
    have hokw : ∀ u ∈ ls[k], OkW u := fun u hu => okW_of_may ((mayL_all e3 hlen).1 u hu)
    obtain ⟨o0, o1⟩ := outL_le _ hokw
    have HOU := Lib.hid (out4_c a2 ls[k].length kc2 ls[k] w hr00 rfl (by omega) (fun u hu => by have := le_sumT _ u hu; omega))
    have hwo : wrap64 (outL ls[k]) = outL ls[k] := by unfold wrap64; omega
    rw [hwo] at HOU
    rw [e1]
    have hkn : k < ls.length := by omega
    clear hh hrss hok hs hr00 e1 e2 e3 hokw hs1 hwo o1
    generalize outL ls[k] = K at *
    generalize ls[k].length = q at *
    generalize ls.length = n at *
    have i0 : (0 : Int) ≤ (k : Int) := by omega
    have i1 : (k : Int) < (n : Int) := by omega
    have d1 : (((k : Int) + 1) == 0) = false := by rw [beq_eq_false_iff_ne]; omega
    have hwk : IntKind.i64.wrap ((((k : Int) + 1)) - 1) = (k : Int) := by rw [IntKind.wrap_i64]; omega
    rw [show ((k + 1 : Nat) : Int) = (k : Int) + 1 from by omega]
    go_enter Tryz.func41, Tryz.ntmps41
    go_wp2_with fail
    refine HOU.out.mono ?_; rintro e w1 ⟨rfl, hx1⟩
    go_wp2_with fail
    go_ret
    exact ⟨rfl, hx1⟩
theorem mayP17_c (x : Nat) (F : Nat → Prop) (s : ByteArray) (ls : List (List Sp)) (A : Option Addr) (n c : Nat) (l : List Sp) (j : Nat) (w : World) [Tab w] (h : HP w x F s ls) (hs : SmH s ls) (hj : j ≤ ls.length) (hr : RdO w A n c l) (hn : n ≤ 1000) (hts : ∀ u ∈ l, u.2.2.size ≤ 1000000000) :
    Calls Tryz.prog 29 #[.pointer (some ⟨x, 0, none⟩), .slice A n c, .int .i64 (j : Int)] w fun e w' => e = .returned (.int .i64 (mayE17 s ls l j)) ∧ Ext w w' := by
  have hl := hr.1
  have HMA := Lib.hid (fun w' (hx : Ext w w') => have hTb := tab_ext hx; may4_c A n c l w' (hr.ext hx).2 hl (by omega) hts)
  have HIN := Lib.hid (fun w' (hx : Ext w w') => have hTb := tab_ext hx; in4_c A n c l w' (hr.ext hx).2 hl (by omega))
  have HSZ := Lib.hid (fun w' (hx : Ext w w') => have hTb := tab_ext hx; sizeP17_c x F s ls j w' (h.ext hx) hs hj)
  by_cases hma : mayL l = 0
  · rw [hma] at HMA
    obtain ⟨hall, in0, in1⟩ := mayL_all hma (by omega)
    have hwi : wrap64 (inL l) = inL l := by unfold wrap64; omega
    rw [hwi] at HIN
    by_cases hin : inL l = cntF (bs (txt17 s ls j))
    · have hE : mayE17 s ls l j = 0 := by unfold mayE17; rw [if_neg (by omega), if_neg (by omega)]
      rw [hE]
      rw [← hin] at HSZ
      clear hE h hr hs hma hall hwi hin hts
      generalize inL l = IN at *
      go_enter Tryz.func29, Tryz.ntmps29
      go_wp2_with fail
      refine (HMA.out _ (Ext.refl _)).mono ?_; rintro e w1 ⟨rfl, hx1⟩
      go_wp2_with fail
      refine (HIN.out _ hx1).mono ?_; rintro e w2 ⟨rfl, hx2⟩
      have hx12 := hx1.trans hx2
      go_wp2_with fail
      refine (HSZ.out _ hx12).mono ?_; rintro e w3 ⟨rfl, hx3⟩
      go_wp2_with fail
      go_ret
      exact ⟨rfl, hx12.trans hx3⟩
    · have hE : mayE17 s ls l j = 5 := by unfold mayE17; rw [if_neg (by omega), if_pos hin]
      rw [hE]
      have t1 : (inL l != cntF (bs (txt17 s ls j))) = true := by rw [bne_iff_ne]; exact hin
      have t2 : (inL l == cntF (bs (txt17 s ls j))) = false := by rw [beq_eq_false_iff_ne]; exact hin
      clear hE h hr hs hma hall hwi hin hts
      generalize cntF (bs (txt17 s ls j)) = NJ at *
      generalize inL l = IN at *
      go_enter Tryz.func29, Tryz.ntmps29
      go_wp2_with fail
      refine (HMA.out _ (Ext.refl _)).mono ?_; rintro e w1 ⟨rfl, hx1⟩
      go_wp2_with fail
      refine (HIN.out _ hx1).mono ?_; rintro e w2 ⟨rfl, hx2⟩
      have hx12 := hx1.trans hx2
      go_wp2_with fail
      refine (HSZ.out _ hx12).mono ?_; rintro e w3 ⟨rfl, hx3⟩
      go_wp2_with fail
      go_ret
      exact ⟨rfl, hx12.trans hx3⟩
  · have hE : mayE17 s ls l j = mayL l := by unfold mayE17; rw [if_pos hma]
    rw [hE]
    have t1 : (mayL l != 0) = true := by rw [bne_iff_ne]; exact hma
    have t2 : (mayL l == 0) = false := by rw [beq_eq_false_iff_ne]; exact hma
    clear hE h hr hs hma hts HIN HSZ
    generalize mayL l = ME at *
    go_enter Tryz.func29, Tryz.ntmps29
    go_wp2_with fail
    refine (HMA.out _ (Ext.refl _)).mono ?_; rintro e w1 ⟨rfl, hx1⟩
    go_wp2_with fail
    go_ret
    exact ⟨rfl, hx1⟩
end Go.Proofs.YtgcaphjjigpjlaaGreatDoor
namespace Go.Proofs.YtgcaphjjigpjlaaGreatDoor
open Go.RowKit
set_option maxRecDepth 100000
set_option maxHeartbeats 4000000
set_option linter.unusedSimpArgs false
theorem over_may17 (s : ByteArray) (ls : List (List Sp)) (a : List Sp) {j : Nat} (hj : j ≤ ls.length) : overH s ls a (j : Int) = if mayE17 s ls a j = 0 then thruE a (ls.drop j) else mayE17 s ls a j := by
  unfold overH mayE17
  rw [if_neg (by omega), Int.toNat_natCast]
  by_cases h1 : mayL a = 0 <;> by_cases h2 : inL a = cntF (bs (txt17 s ls j)) <;> simp [h1, h2]
theorem app_may17 (s : ByteArray) (ls : List (List Sp)) (l : List Sp) : appE s ls l = if mayE17 s ls l ls.length = 0 then (if 1048576 < outL l then 4 else 0) else mayE17 s ls l ls.length := by
  unfold appE mayE17
  by_cases h1 : mayL l = 0 <;> by_cases h2 : inL l = cntF (bs (txt17 s ls ls.length)) <;> simp [h1, h2]
theorem overP17_c (x : Nat) (F : Nat → Prop) (s : ByteArray) (ls : List (List Sp)) (A : Option Addr) (n c : Nat) (a : List Sp) (r : Int) (w : World) [Tab w] (h : HP w x F s ls) (hs : SmH s ls) (hr : RdO w A n c a) (hS : SmT a ls) :
    Calls Tryz.prog 14 #[.pointer (some ⟨x, 0, none⟩), .slice A n c, .int .i64 r] w (OpR w (overH s ls a r) (overHL ls a r)) := by
  have hal := hS.len
  have hn1 := hr.1
  have hsn := hs.num
  have HLN := Lib.hid (fun w' (hx : Ext w w') => have hTb := tab_ext hx; lenP17_c x F s ls w' (h.ext hx) hs)
  by_cases hrr : r < 0 ∨ (ls.length : Int) < r
  · have hE : overH s ls a r = 6 := if_pos hrr
    rw [hE]
    clear hE h hr hS hs hal hn1
    generalize ls.length = m at *
    have hr2 : r < 0 ∨ (0 ≤ r ∧ (m : Int) < r) := by omega
    clear hrr
    rcases hr2 with h1 | ⟨h1, h2⟩
    · have d1 : decide (r < 0) = true := by rw [decide_eq_true_eq]; exact h1
      go_enter Tryz.func14, Tryz.ntmps14
      go_wp2_with fail
      go_ret2
      exact opR_err (Ext.refl _) (by omega)
    · have d1 : decide (r < 0) = false := by rw [decide_eq_false_iff_not]; omega
      have d2 : decide ((m : Int) < r) = true := by rw [decide_eq_true_eq]; exact h2
      go_enter Tryz.func14, Tryz.ntmps14
      go_wp2_with fail
      refine (HLN.out _ (Ext.refl _)).mono ?_; rintro e w1 ⟨rfl, hx1⟩
      go_wp2_with fail
      go_ret2
      exact opR_err hx1 (by omega)
  · obtain ⟨j, rfl⟩ := Int.eq_ofNat_of_zero_le (by omega : 0 ≤ r)
    have hjn : j ≤ ls.length := by omega
    have HMA := Lib.hid (fun w' (hx : Ext w w') => have hTb := tab_ext hx; mayP17_c x F s ls A n c a j w' (h.ext hx) hs hjn (hr.ext hx) (by omega) hS.each)
    rw [over_may17 s ls a hjn]
    by_cases hma : mayE17 s ls a j = 0
    · have hL : overHL ls a (j : Int) = thruL a (ls.drop j) := by unfold overHL; rw [Int.toNat_natCast]
      rw [hL, if_pos hma]
      rw [hma] at HMA
      obtain ⟨⟨lv, hh⟩, _⟩ := h
      obtain ⟨A2, d, rfl, hnd, hrss⟩ := hh.rd
      have y1 : w.cell? ⟨x, 1, none⟩ = some (.slice A2 ls.length d) := hh.box.cell rfl
      have hfr := hrss.from (k := j) (by omega)
      obtain ⟨AR, hAR⟩ : ∃ X : Option Addr, (if d = j then A2 else Option.map (fun x => x.add j) A2) = X := ⟨_, rfl⟩
      rw [hAR] at hfr
      have hb1 := lenS_take ls j
      have hS2 : SmT a (ls.drop j) := ⟨by omega, hS.txt, ⟨by have := hS.row.len; omega, by have := hS.row.txt; omega, by have := hS.row.num; rw [List.length_drop]; omega⟩⟩
      have HTH := Lib.hid (fun w' (hx : Ext w w') => have hTb := tab_ext hx; thruP_c A n c a _ _ _ (ls.drop j) w' (hr.ext hx) (hfr.ext hx) hS2)
      unfold OpR at HTH ⊢
      clear hL hh hrss hfr hS2 hr hS hs hma hrr hb1
      generalize (if thruE a (ls.drop j) = 0 then thruL a (ls.drop j) else []) = RW at *
      generalize thruE a (ls.drop j) = TE at *
      generalize ls.length = m at *
      have d1 : decide ((j : Int) < 0) = false := by rw [decide_eq_false_iff_not]; omega
      have d2 : decide ((m : Int) < (j : Int)) = false := by rw [decide_eq_false_iff_not]; omega
      have g0 : (0 : Int) ≤ (j : Int) := by omega
      have g1 : (j : Int) ≤ (m : Int) := by omega
      have HQ1 : Hid (∀ V, Ext w V → V.cell? ⟨x, 1, none⟩ = some (.slice A2 m d)) := Lib.hid fun V hx => ext_cell hx y1
      clear y1
      go_enter Tryz.func14, Tryz.ntmps14
      go_wp2_with fail
      refine (HLN.out _ (Ext.refl _)).mono ?_; rintro e w1 ⟨rfl, hx1⟩
      go_wp2_with fail
      refine (HMA.out _ hx1).mono ?_; rintro e w2 ⟨rfl, hx2⟩
      have hx12 := hx1.trans hx2
      have y1 := HQ1.out _ hx12
      go_wp2_with fail
      refine (HTH.out _ hx12).mono ?_; rintro e w5 ⟨hx5, A5, n5, c5, rfl, r5⟩
      have R5 := Lib.hid r5
      clear r5
      go_wp2_with fail
      go_ret2
      exact ⟨hx12.trans hx5, _, _, _, rfl, R5.out⟩
    · rw [if_neg hma]
      have t1 : (mayE17 s ls a j != 0) = true := by rw [bne_iff_ne]; exact hma
      have t2 : (mayE17 s ls a j == 0) = false := by rw [beq_eq_false_iff_ne]; exact hma
      have HMN := Lib.hid hma
      clear h hr hS hs hrr hma
      generalize mayE17 s ls a j = ME at *
      generalize ls.length = m at *
      have d1 : decide ((j : Int) < 0) = false := by rw [decide_eq_false_iff_not]; omega
      have d2 : decide ((m : Int) < (j : Int)) = false := by rw [decide_eq_false_iff_not]; omega
      go_enter Tryz.func14, Tryz.ntmps14
      go_wp2_with fail
      refine (HLN.out _ (Ext.refl _)).mono ?_; rintro e w1 ⟨rfl, hx1⟩
      go_wp2_with fail
      refine (HMA.out _ hx1).mono ?_; rintro e w2 ⟨rfl, hx2⟩
      go_wp2_with fail
      go_ret2
      exact opR_err (hx1.trans hx2) HMN.out
theorem runP17_c (x : Nat) (F : Nat → Prop) (s : ByteArray) (ls : List (List Sp)) (r t : Int) (w : World) [Tab w] (h : HP w x F s ls) (hs : SmH s ls) (hS : Small ls) :
    Calls Tryz.prog 18 #[.pointer (some ⟨x, 0, none⟩), .int .i64 r, .int .i64 t] w (OpR w (runH s ls r t) (runHL s ls r t)) := by
  have hsn := hs.num
  have HLN := Lib.hid (fun w' (hx : Ext w w') => have hTb := tab_ext hx; lenP17_c x F s ls w' (h.ext hx) hs)
  by_cases hrr : r < 0 ∨ t < r ∨ (ls.length : Int) < t
  · have hE : runH s ls r t = 6 := if_pos hrr
    rw [hE]
    clear hE h hs hS
    generalize ls.length = n at *
    have hr2 : r < 0 ∨ (0 ≤ r ∧ t < r) ∨ (0 ≤ r ∧ r ≤ t ∧ (n : Int) < t) := by omega
    clear hrr
    rcases hr2 with h1 | ⟨h1, h2⟩ | ⟨h1, h2, h3⟩
    · have d1 : decide (r < 0) = true := by rw [decide_eq_true_eq]; exact h1
      go_enter Tryz.func18, Tryz.ntmps18
      go_wp2_with fail
      go_ret2
      exact opR_err (Ext.refl _) (by omega)
    · have d1 : decide (r < 0) = false := by rw [decide_eq_false_iff_not]; omega
      have d2 : decide (t < r) = true := by rw [decide_eq_true_eq]; exact h2
      go_enter Tryz.func18, Tryz.ntmps18
      go_wp2_with fail
      go_ret2
      exact opR_err (Ext.refl _) (by omega)
    · have d1 : decide (r < 0) = false := by rw [decide_eq_false_iff_not]; omega
      have d2 : decide (t < r) = false := by rw [decide_eq_false_iff_not]; omega
      have d3 : decide ((n : Int) < t) = true := by rw [decide_eq_true_eq]; exact h3
      go_enter Tryz.func18, Tryz.ntmps18
      go_wp2_with fail
      refine (HLN.out _ (Ext.refl _)).mono ?_; rintro e w1 ⟨rfl, hx1⟩
      go_wp2_with fail
      go_ret2
      exact opR_err hx1 (by omega)
  · obtain ⟨j, rfl⟩ := Int.eq_ofNat_of_zero_le (by omega : 0 ≤ r)
    obtain ⟨q, rfl⟩ := Int.eq_ofNat_of_zero_le (by omega : 0 ≤ t)
    have HSZ := Lib.hid (fun w' (hx : Ext w w') => have hTb := tab_ext hx; sizeP17_c x F s ls j w' (h.ext hx) hs (by omega))
    obtain ⟨⟨lv, hh⟩, _⟩ := h
    obtain ⟨A2, d, rfl, hnd, hrss⟩ := hh.rd
    have y0 : w.cell? ⟨x, 1, none⟩ = some (.slice A2 ls.length d) := hh.box.cell rfl
    have hE : runH s ls (j : Int) (q : Int) = chainE (cntF (bs (txt17 s ls j))) ((ls.take q).drop j) := by unfold runH; rw [if_neg hrr, Int.toNat_natCast, Int.toNat_natCast]
    have hL : runHL s ls (j : Int) (q : Int) = fuseL (cntF (bs (txt17 s ls j))) ((ls.take q).drop j) := by unfold runHL; rw [Int.toNat_natCast, Int.toNat_natCast]
    rw [hE, hL]
    have hfr := (hrss.take (k := q) (by omega)).from (k := j) (by omega)
    obtain ⟨AR, hAR⟩ : ∃ X : Option Addr, (if d = j then A2 else Option.map (fun x => x.add j) A2) = X := ⟨_, rfl⟩
    rw [hAR] at hfr
    have hb1 := lenS_take ls q
    have hb2 := lenS_take (ls.take q) j
    have hS2 : Small ((ls.take q).drop j) := ⟨by have := hS.len; omega, by have := hS.txt; omega, by have := hS.num; rw [List.length_drop, List.length_take]; omega⟩
    have HFU := Lib.hid (fun w' (hx : Ext w w') => have hTb := tab_ext hx; of10_c _ _ _ ((ls.take q).drop j) (cntF (bs (txt17 s ls j))) w' (hfr.ext hx) hS2)
    have hjq : j ≤ q := by omega
    have hqn : q ≤ ls.length := by omega
    unfold OpR at HFU ⊢
    clear hE hL hh hrss hfr hS2 hs hS hrr hb1 hb2
    generalize (if chainE (cntF (bs (txt17 s ls j))) ((ls.take q).drop j) = 0 then fuseL (cntF (bs (txt17 s ls j))) ((ls.take q).drop j) else []) = RW at *
    generalize chainE (cntF (bs (txt17 s ls j))) ((ls.take q).drop j) = TE at *
    generalize cntF (bs (txt17 s ls j)) = NJ at *
    generalize ls.length = n at *
    have d1 : decide ((j : Int) < 0) = false := by rw [decide_eq_false_iff_not]; omega
    have d2 : decide ((q : Int) < (j : Int)) = false := by rw [decide_eq_false_iff_not]; omega
    have d3 : decide ((n : Int) < (q : Int)) = false := by rw [decide_eq_false_iff_not]; omega
    have g0 : (0 : Int) ≤ (j : Int) := by omega
    have g3 : (j : Int) ≤ (q : Int) := by omega
    have g4 : (q : Int) ≤ (d : Int) := by omega
    have g5 : (0 : Int) ≤ (q : Int) := by omega
    go_enter Tryz.func18, Tryz.ntmps18
    go_wp2_with fail
    refine (HLN.out _ (Ext.refl _)).mono ?_; rintro e w1 ⟨rfl, hx1⟩
    have y1 := ext_cell hx1 y0
    clear y0 HLN
    go_wp2_with fail
    go_region_held3 (fun V => Ext w V ∧ V.cell? ⟨x, 1, none⟩ = some (.slice A2 n d))
      ((go_split_ands; refine ⟨?_, ?_⟩ <;> first | (exact Ext.drew ‹_›) | (exact Ext.trans ‹_› hxk) | (exact ext_cell hxk ‹_›) | go_keep))
      (first
      | (go_at_call 41; go_split_ands; refine (HSZ.out _ ‹Ext w _›).mono ?_; rintro e u1 ⟨rfl, hxk⟩)
      | (go_at_call 40; go_split_ands; refine (HFU.out _ ‹Ext w _›).mono ?_; rintro e u2 ⟨hxk, A5, n5, c5, rfl, r5⟩)
      | fail)
    go_split_ands
    have hE := ‹Ext w u2›
    have R5 := Lib.hid r5
    clear r5
    go_wp2_with fail
    go_ret2
    exact ⟨hE, _, _, _, rfl, R5.out⟩
theorem atP17_c (x : Nat) (F : Nat → Prop) (s : ByteArray) (ls : List (List Sp)) (r : Int) (w : World) [Tab w] (h : HP w x F s ls) (hs : SmH s ls) (hS : Small ls) :
    Calls Tryz.prog 16 #[.pointer (some ⟨x, 0, none⟩), .int .i64 r] w fun e w' => e = .returned (atH s ls r) ∧ Ext w w' := by
  have HRU := Lib.hid (runP17_c x F s ls 0 r w h hs hS)
  unfold OpR at HRU
  by_cases hr : r < 0 ∨ (ls.length : Int) < r
  · have hR : atH s ls r = .tuple #[.string ⟨#[]⟩, .int .i64 6] := if_pos hr
    have hE : runH s ls 0 r = 6 := if_pos (by omega)
    rw [hR]
    rw [hE] at HRU
    clear hR hE hr h hs hS
    go_enter Tryz.func16, Tryz.ntmps16
    go_wp2_with fail
    refine HRU.out.mono ?_; rintro e w1 ⟨hx1, A5, n5, c5, rfl, r5⟩
    clear r5
    go_wp2_with fail
    go_ret2
    exact ⟨rfl, hx1⟩
  · obtain ⟨j, rfl⟩ := Int.eq_ofNat_of_zero_le (by omega : 0 ≤ r)
    have hR : atH s ls (j : Int) = .tuple #[.string (txt17 s ls j), .int .i64 0] := by unfold atH; rw [if_neg hr, Int.toNat_natCast]
    have ht0 : txt17 s ls 0 = s := by unfold txt17; rw [List.take_zero]; rfl
    have hE : runH s ls 0 (j : Int) = chainE (cntF (bs s)) (ls.take j) := by
      unfold runH
      rw [if_neg (by omega), Int.toNat_natCast, show (0 : Int).toNat = 0 from rfl, List.drop_zero, ht0]
    have hL : runHL s ls 0 (j : Int) = fuseL (cntF (bs s)) (ls.take j) := by
      unfold runHL
      rw [Int.toNat_natCast, show (0 : Int).toNat = 0 from rfl, List.drop_zero, ht0]
    obtain ⟨k1, k2, k3, k4, k5⟩ := run17_base h.ok hs.len hS j
    rw [hE, k1, hL, if_pos rfl] at HRU
    obtain ⟨⟨lv, hh⟩, _⟩ := h
    have y0 : w.cell? ⟨x, 2, none⟩ = some (.string s) := hh.box.cell rfl
    have hsb := hs.base
    rw [hR]
    clear hR hE hL hh hs hS hr ht0 k1
    generalize fuseL (cntF (bs s)) (ls.take j) = L at *
    have HTO : Hid (∀ (w' : World) A n c, Ext w w' → RdO w' A n c L → Calls Tryz.prog 39 #[.slice A n c, .string s] w' fun e w'' => e = .returned (.tuple #[.string (txt17 s ls j), .int .i64 0]) ∧ Ext w' w'') := Lib.hid fun w' A n c hx hr => by
      have hTb := tab_ext hx
      have hn := hr.1
      have g := to_c A n c L s w' hr.2 hr.1 (by omega) (fun u hu => by have := le_sumT L u hu; omega) (by omega) (by omega)
      unfold toV at g
      rw [k4, k5] at g
      exact g
    clear k2 k3 k4 k5
    generalize txt17 s ls j = TJ at *
    go_enter Tryz.func16, Tryz.ntmps16
    go_wp2_with fail
    refine HRU.out.mono ?_; rintro e w1 ⟨hx1, A5, n5, c5, rfl, r5⟩
    have H5 := Lib.hid (HTO.out _ _ _ _ hx1 r5)
    have y1 := ext_cell hx1 y0
    clear r5
    go_wp2_with fail
    refine H5.out.mono ?_; rintro e w2 ⟨rfl, hx2⟩
    go_wp2_with fail
    go_ret2
    exact ⟨rfl, hx1.trans hx2⟩
theorem app17_errL {w w' : World} {x : Nat} {F : Nat → Prop} {s : ByteArray} {ls : List (List Sp)} {l : List Sp} {Z : Int} (h : HP w x F s ls) (hx : Ext w w') (hE : appE s ls l = Z) (hz : Z ≠ 0) : AppR HP w x F s ls l (.returned (.int .i64 Z)) w' := by
  refine ⟨by rw [hE], Kp.of_ext F hx, ?_⟩
  rw [show appLs s ls l = ls from if_neg (by rw [hE]; exact hz)]
  exact (h.ext hx).more (fun k hk => .inl hk) fun k hk => by
    rcases hk with hk | hk
    · exact Nat.lt_of_lt_of_le (h.lt k hk) hx.size
    · exact hk.2
theorem appP17_c (x : Nat) (F : Nat → Prop) (s : ByteArray) (ls : List (List Sp)) (A : Option Addr) (n c : Nat) (l : List Sp) (w : World) [Tab w] (h : HP w x F s ls) (hs : SmH s ls) (hr : RdO w A n c l) (hn : n ≤ 1000) (hu : sumT l ≤ 400000000) :
    Calls Tryz.prog 11 #[.pointer (some ⟨x, 0, none⟩), .slice A n c] w (AppR HP w x F s ls l) := by
  have hl := hr.1
  have hsn := hs.num
  have hts : ∀ u ∈ l, u.2.2.size ≤ 1000000000 := fun u hu2 => by have := le_sumT l u hu2; omega
  have HLN := Lib.hid (lenP17_c x F s ls w h hs)
  have HMA := Lib.hid (fun w' (hx : Ext w w') => have hTb := tab_ext hx; mayP17_c x F s ls A n c l ls.length w' (h.ext hx) hs (Nat.le_refl _) (hr.ext hx) hn hts)
  have HOU := Lib.hid (fun w' (hx : Ext w w') => have hTb := tab_ext hx; out4_c A n c l w' (hr.ext hx).2 hl (by omega) hts)
  have HH := Lib.hid h
  have hme := app_may17 s ls l
  by_cases hma : mayE17 s ls l ls.length = 0
  · rw [if_pos hma] at hme
    rw [hma] at HMA
    have hm0 : mayL l = 0 := by
      unfold mayE17 at hma
      split at hma
      · exact absurd hma (by assumption)
      · omega
    obtain ⟨hall, in0, in1⟩ := mayL_all hm0 (by omega)
    have hok : ∀ x ∈ l, OkW x := fun x hx => okW_of_may (hall x hx)
    obtain ⟨ou0, ou1⟩ := outL_le l hok
    have hwo : wrap64 (outL l) = outL l := by unfold wrap64; omega
    rw [hwo] at HOU
    by_cases hou : 1048576 < outL l
    · have HE : Hid (appE s ls l = 4) := Lib.hid (by rw [hme, if_pos hou])
      have HNZ : Hid ((4 : Int) ≠ 0) := Lib.hid (by omega)
      clear hme hma hm0 hall hok hwo hr hs hts h hl
      generalize outL l = OU at *
      generalize ls.length = m at *
      go_enter Tryz.func11, Tryz.ntmps11
      go_wp2_with fail
      refine HLN.out.mono ?_; rintro e w1 ⟨rfl, hx1⟩
      go_wp2_with fail
      refine (HMA.out _ hx1).mono ?_; rintro e w2 ⟨rfl, hx2⟩
      have hx12 := hx1.trans hx2
      go_wp2_with fail
      refine (HOU.out _ hx12).mono ?_; rintro e w3 ⟨rfl, hx3⟩
      go_wp2_with fail
      go_ret
      exact app17_errL HH.out (hx12.trans hx3) HE.out HNZ.out
    · have hE : appE s ls l = 0 := by rw [hme, if_neg hou]
      obtain ⟨p1, -, -⟩ := hok_app (l := l) h.ok hs.len (by omega) hE
      have HAPE : Hid (appE s ls l = 0 ∧ appLs s ls l = ls ++ [normL l] ∧ Hok s (ls ++ [normL l])) := Lib.hid ⟨hE, if_pos hE, p1⟩
      have hNOK : Ok l := ⟨fun u hu2 => (hok u hu2).nonneg, by have := okW_N l hok; omega, by omega⟩
      have HOF := Lib.hid (fun w' (hx : Ext w w') => of5_c A n c l w' (hr.ext hx).2 hl (by omega) hNOK)
      obtain ⟨ii, hi', hz0', hz1', hz2'⟩ := info_parts info_ss
      obtain ⟨⟨lv, hh⟩, _⟩ := h
      obtain ⟨al, dl, rfl, _⟩ := hh.rd
      have z1 : w.cell? ⟨x, 1, none⟩ = some (.slice al ls.length dl) := hh.box.cell rfl
      obtain ⟨CB, hCB⟩ : ∃ C, cntF (bs s) = C := ⟨_, rfl⟩
      rw [hCB] at hh
      have HCB := Lib.hid hCB
      have HHS := Lib.hid hh
      have HFL := Lib.hid hh.fl; have HFX := Lib.hid hh.fx
      obtain ⟨m, hm⟩ : ∃ m, ls.length = m := ⟨_, rfl⟩
      have HM := Lib.hid hm
      rw [hm] at hsn
      clear hme hma hm0 hall hok hwo hr hs hts hl hE p1 hNOK hh hCB hm
      generalize outL l = OU at *
      go_enter Tryz.func11, Tryz.ntmps11
      go_wp2_with fail
      refine HLN.out.mono ?_; rintro e w1 ⟨rfl, hx1⟩
      go_wp2_with fail
      refine (HMA.out _ hx1).mono ?_; rintro e w2 ⟨rfl, hx2⟩
      have hx12 := hx1.trans hx2
      go_wp2_with fail
      refine (HOU.out _ hx12).mono ?_; rintro e w4 ⟨rfl, hx4⟩
      have hx14 := hx12.trans hx4
      have y1 := ext_cell hx14 z1
      clear z1 hx1 hx2 hx12 hx4 HLN HMA HOU
      go_wp2_with fail
      refine region_T (fun V => V.cell? ⟨x, 1, none⟩ = some (.slice al ls.length dl)) 11 (by kernel_rfl) (ext_cell (Ext.refl _).drew y1) (fun hHeld => ?_)
      obtain ⟨Wd, hWd⟩ : ∃ x, w4.drew = x := ⟨_, rfl⟩
      rw [hWd] at hHeld ⊢
      have hdx : Ext w4 Wd := by rw [← hWd]; exact (Ext.refl _).drew
      clear hWd
      refine wpAnyT_take (i := 0) (v := ?_) rfl (by kernel_rfl) (fun _ _ _ h => h) (Or.inl ⟨by rfl, ?_⟩) (by assumption) ?_
      rotate_left
      · (intro W hSw; (try dsimp only at hSw); go_simp; (try with_reducible rfl))
      try simp only [Act.put, List.getElem_toArray, List.getElem_cons_succ, List.getElem_cons_zero, List.setIfInBounds_toArray, List.set_cons_zero, List.set_cons_succ]
      refine wpAnyT_take (i := 1) (v := ?_) rfl (by kernel_rfl) (fun _ _ _ h => h) (Or.inl ⟨by rfl, ?_⟩) (by assumption) ?_
      rotate_left
      · (intro W hSw; (try dsimp only at hSw); go_simp; (try with_reducible rfl))
      try simp only [Act.put, List.getElem_toArray, List.getElem_cons_succ, List.getElem_cons_zero, List.setIfInBounds_toArray, List.set_cons_zero, List.set_cons_succ]
      refine wpAnyT_take (i := 2) (v := ?_) rfl (by kernel_rfl) (fun _ _ _ h => h) (Or.inl ⟨by rfl, ?_⟩) (by assumption) ?_
      rotate_left
      · (intro W hSw; (try dsimp only at hSw); go_simp; (try with_reducible rfl))
      try simp only [Act.put, List.getElem_toArray, List.getElem_cons_succ, List.getElem_cons_zero, List.setIfInBounds_toArray, List.set_cons_zero, List.set_cons_succ]
      refine wpAnyT_take (i := 3) (v := ?_) rfl (by kernel_rfl) (fun _ _ _ h => h) (Or.inl ⟨by rfl, ?_⟩) (by assumption) ?_
      rotate_left
      · (intro W hSw; (try dsimp only at hSw); go_simp; (try with_reducible rfl))
      try simp only [Act.put, List.getElem_toArray, List.getElem_cons_succ, List.getElem_cons_zero, List.setIfInBounds_toArray, List.set_cons_zero, List.set_cons_succ]
      refine wpAnyT_take (i := 4) (v := ?_) rfl (by kernel_rfl) (fun _ _ _ h => h) (Or.inl ⟨by rfl, ?_⟩) (by assumption) ?_
      rotate_left
      · (intro W hSw; (try dsimp only at hSw); go_simp; (try with_reducible rfl))
      try simp only [Act.put, List.getElem_toArray, List.getElem_cons_succ, List.getElem_cons_zero, List.setIfInBounds_toArray, List.set_cons_zero, List.set_cons_succ]
      refine wpAnyT_take (i := 5) (v := ?_) rfl (by kernel_rfl) (fun _ _ _ h => h) (Or.inl ⟨by rfl, ?_⟩) (by assumption) ?_
      rotate_left
      · (intro W hSw; (try dsimp only at hSw); go_simp; (try with_reducible rfl))
      try simp only [Act.put, List.getElem_toArray, List.getElem_cons_succ, List.getElem_cons_zero, List.setIfInBounds_toArray, List.set_cons_zero, List.set_cons_succ]
      refine wpAnyT_one (i := 6) rfl (by kernel_rfl) (fun K hK => ?_)
      go_simp
      refine (HOF.out _ (hx14.trans hdx)).mono ?_; rintro e w8 ⟨v8, rfl, hx8, own8⟩
      obtain ⟨a8, c8, rfl, _⟩ := own8.len
      have hd8 := hdx.trans hx8
      refine hK.out _ _ (fun _ => ext_cell hd8 y1) (fun hH => ?_)
      replace hHeld := hH (by decide)
      clear hK K hH
      try simp only [Act.put, List.getElem_toArray, List.getElem_cons_succ, List.getElem_cons_zero, List.setIfInBounds_toArray, List.set_cons_zero, List.set_cons_succ]
      refine wpAnyT_one (i := 7) rfl (by kernel_rfl) (fun K hK => ?_)
      go_simp
      refine hK.out _ _ (fun _ => ext_cell (hd8.alloc _) y1) (fun hH => ?_)
      replace hHeld := hH (by decide)
      clear hK K hH
      try simp only [Act.put, List.getElem_toArray, List.getElem_cons_succ, List.getElem_cons_zero, List.setIfInBounds_toArray, List.set_cons_zero, List.set_cons_succ]
      refine wpAnyT_one (i := 8) rfl (by kernel_rfl) (fun K hK => ?_)
      obtain ⟨nF, hnF⟩ : ∃ nF, (normL l).length = nF := ⟨_, rfl⟩
      rw [hnF] at own8 ⊢
      have hx18 := hx14.trans hd8
      have h8 : HS1 w8 x (Gr F w w8) CB (.slice al ls.length dl) s ls := (HHS.out.ext hx18).more (fun k hk => .inl hk) fun k hk => by
        rcases hk with hk | hk
        · exact Nat.lt_of_lt_of_le (HHS.out.lt k hk) hx18.size
        · exact hk.2
      obtain ⟨vs8, hro8, hrow8⟩ := h8.ro
      have HPU := Lib.hid (push17 (P := Tryz.prog) Tryz.underlying22 hi' hz0' hz1' hz2' rfl hro8 (by rw [HM.out]; omega) (.slice a8 nF c8) rfl)
      refine step_append_ex (by rfl) _ _ _ (by rfl) (by rfl) (by rfl) HPU.out ?_
      rintro v9 W9 ⟨ow9, be9, kp9, sz9, wh9⟩
      obtain ⟨a9, c9, rfl, _⟩ := ow9.len
      have hx9 : W9.heap[x]? = w8.heap[x]? := kp9 x h8.box.lt fun hq => by
        obtain ⟨cur2, hc⟩ := hro8.typ hq
        exact typ_ne h8.box hc (by decide) rfl
      have hb9 : BxT 45 W9 x #[.int .i64 CB, .slice al ls.length dl, .string s] := hx9.trans h8.box
      have y9 : W9.cell? ⟨x, 1, none⟩ = some (.slice al ls.length dl) := hb9.cell rfl
      have f9 := hb9.frozen 1
      refine hK.out _ _ (fun _ => y9) (fun hH => ?_)
      replace hHeld := hH (by decide)
      clear hK K hH
      try simp only [Act.put, List.getElem_toArray, List.getElem_cons_succ, List.getElem_cons_zero, List.setIfInBounds_toArray, List.set_cons_zero, List.set_cons_succ]
      refine wpAnyT_take (i := 9) (v := ?_) rfl (by kernel_rfl) (fun _ _ _ h => h) (Or.inl ⟨by rfl, ?_⟩) (by assumption) ?_
      rotate_left
      · (intro W hSw; (try dsimp only at hSw); go_simp; (try with_reducible rfl))
      try simp only [Act.put, List.getElem_toArray, List.getElem_cons_succ, List.getElem_cons_zero, List.setIfInBounds_toArray, List.set_cons_zero, List.set_cons_succ]
      refine wpAnyT_take (i := 10) (v := ?_) rfl (by kernel_rfl) (fun _ _ _ h => h) (Or.inl ⟨by rfl, ?_⟩) (by assumption) ?_
      rotate_left
      · (intro W hSw; (try dsimp only at hSw); go_simp; (try with_reducible rfl))
      try simp only [Act.put, List.getElem_toArray, List.getElem_cons_succ, List.getElem_cons_zero, List.setIfInBounds_toArray, List.set_cons_zero, List.set_cons_succ]
      refine wpAnyT_one (i := 11) rfl (by kernel_rfl) (fun K hK => ?_)
      go_simp
      refine hK.out _ _ (fun h => absurd rfl h) (fun _ => ?_)
      clear hK K hHeld
      try simp only [Act.put, List.getElem_toArray, List.getElem_cons_succ, List.getElem_cons_zero, List.setIfInBounds_toArray, List.set_cons_zero, List.set_cons_succ]
      refine wpAnyT_done (by kernel_rfl) ?_ _
      have h10 := h8.row (by decide) (by decide) (by decide) hro8 hrow8 (l := normL l) (by rw [hnF]; exact own8) (fun k hk => .inr ⟨Nat.le_trans hx14.size (Nat.le_trans hdx.size (own8.lt hk).1), (own8.lt hk).2⟩) ow9 kp9 sz9 wh9
      have K10 : Kp F w (W9.setCell ⟨x, 1, none⟩ (.slice a9 (ls.length + 1) c9)) := (Kp.of_ext F hx18).trans ((kp_app be9 kp9 HFL.out).set ⟨x, 1, none⟩ (.slice a9 (ls.length + 1) c9) (.inl HFX.out))
      have H10 := Lib.hid h10; have HK10 := Lib.hid K10; have HLT := Lib.hid HHS.out.lt; have HS9 := Lib.hid sz9; have HS8 := Lib.hid hx18.size
      clear h10 K10 h8 hro8 hrow8 own8 ow9 be9 kp9 sz9 wh9 hx9 hb9 y9 f9 y1 hx8 hd8 HPU hx18
      go_wp2_with fail
      go_ret
      obtain ⟨q1, q2, q3⟩ := HAPE.out
      refine ⟨by rw [q1]; rfl, HK10.out, ?_⟩
      rw [q2]
      refine ⟨?_, q3⟩
      rw [HCB.out]
      refine ⟨_, H10.out.more (fun k hk => ?_) fun k hk => ?_⟩
      · rcases hk with hk | hk
        · rcases hk with hk | hk
          · exact .inl hk
          · exact .inr ⟨hk.1, by have := HS9.out; simp only [World.setCell, Array.size_setIfInBounds, Array.size_modify]; omega⟩
        · exact .inr ⟨Nat.le_trans HS8.out hk.1, by simpa [World.setCell] using hk.2⟩
      · rcases hk with hk | hk
        · exact Nat.lt_of_lt_of_le (HLT.out k hk) HK10.out.size
        · exact hk.2
  · have HE : Hid (appE s ls l = mayE17 s ls l ls.length) := Lib.hid (by rw [hme, if_neg hma])
    have HNZ : Hid (mayE17 s ls l ls.length ≠ 0) := Lib.hid hma
    have t1 : (mayE17 s ls l ls.length != 0) = true := by rw [bne_iff_ne]; exact hma
    have t2 : (mayE17 s ls l ls.length == 0) = false := by rw [beq_eq_false_iff_ne]; exact hma
    clear hme hma hr hs hts h hl HOU
    generalize mayE17 s ls l ls.length = ME at *
    generalize ls.length = m at *
    go_enter Tryz.func11, Tryz.ntmps11
    go_wp2_with fail
    refine HLN.out.mono ?_; rintro e w1 ⟨rfl, hx1⟩
    go_wp2_with fail
    refine (HMA.out _ hx1).mono ?_; rintro e w2 ⟨rfl, hx2⟩
    have hx12 := hx1.trans hx2
    go_wp2_with fail
    go_ret
    exact app17_errL HH.out hx12 HE.out HNZ.out
theorem logP17_c (x : Nat) (F : Nat → Prop) (s : ByteArray) (ls : List (List Sp)) (w : World) [Tab w] (h : HP w x F s ls) (hs : SmH s ls) : Calls Tryz.prog 22 #[.pointer (some ⟨x, 0, none⟩)] w (LogR w s ls) := by
  obtain ⟨i, hi, hz0, hz1, hz2⟩ := info_parts info_sp5
  obtain ⟨ii, hi', hz0', hz1', hz2'⟩ := info_parts info_ss
  obtain ⟨ij, hj', hy0', hy1', hy2'⟩ := info_parts info_int
  have HOKH := Lib.hid h.ok
  obtain ⟨⟨lv, hh⟩, _⟩ := h
  obtain ⟨al, dl, rfl, hnd, hrss⟩ := hh.rd
  have y1 : w.cell? ⟨x, 1, none⟩ = some (.slice al ls.length dl) := hh.box.cell rfl
  have y2 : w.cell? ⟨x, 2, none⟩ = some (.string s) := hh.box.cell rfl
  have hxl := hh.box.lt
  have hsn := hs.num
  have HCL := Lib.hid (fun w' => clone17_c s w' hs.base)
  obtain ⟨n, hn⟩ : ∃ n, ls.length = n := ⟨_, rfl⟩
  have HL := Lib.hid hn
  unfold LogR
  rw [hn] at y1 hsn hrss ⊢
  have HRS := Lib.hid hrss; have HLE := Lib.hid hs
  obtain ⟨W0, hW0⟩ : ∃ V, w.alloc (.cells #[.string ⟨#[]⟩, .slice none 0 0, .slice none 0 0] 56) = V := ⟨_, rfl⟩
  obtain ⟨z, hz⟩ : ∃ z, w.heap.size = z := ⟨_, rfl⟩
  have hX0 : Ext w W0 := by rw [← hW0]; exact (Ext.refl w).alloc _
  have hRB : BxT 56 W0 z #[.string ⟨#[]⟩, .slice none 0 0, .slice none 0 0] := by rw [← hW0, ← hz]; exact BxT.new w 56 _
  have p2 := ext_cell ((Ext.refl w).alloc (.cells #[.string ⟨#[]⟩, .slice none 0 0, .slice none 0 0] 56)) y2
  have HY1 : Hid (∀ V, Ext w V → V.cell? ⟨x, 1, none⟩ = some (.slice al n dl)) := Lib.hid fun V hx => ext_cell hx y1
  have HW0 := Lib.hid hW0; have HZ := Lib.hid hz; have HX0 := Lib.hid hX0; have HRB := Lib.hid hRB
  clear hh hrss hn hs hxl y1 y2 hW0 hz hX0 hRB
  go_enter Tryz.func22, Tryz.ntmps22
  go_wp2_with fail
  refine (HCL.out _).mono ?_; rintro e W1 ⟨rfl, hx1⟩
  rw [HW0.out] at hx1
  rw [HZ.out]
  clear p2
  obtain ⟨W2, hW2⟩ : ∃ V, W1.alloc (.cells #[.int .i64 0] 3) = V := ⟨_, rfl⟩
  have hX2 : Ext W1 W2 := by rw [← hW2]; exact (Ext.refl W1).alloc _
  have hR2 : Own W2 w.heap.size 3 1 (.slice (some ⟨W1.heap.size, 0, none⟩) 1 1) 1 (nV (revL 0)) := by rw [← hW2]; exact Own.made W1 w.heap.size 3 1 1 #[.int .i64 0] (HX0.out.trans hx1).size (by omega) rfl
  obtain ⟨r0, hr0⟩ : ∃ r, W1.heap.size = r := ⟨_, rfl⟩
  rw [hr0] at hR2
  have hr1 : z < r0 := by rw [← hr0]; exact Nat.lt_of_lt_of_le HRB.out.lt hx1.size
  obtain ⟨y, hy⟩ : ∃ y, W2.heap.size = y := ⟨_, rfl⟩
  obtain ⟨W3, hW3⟩ : ∃ V, W2.alloc (.cells #[.string s, .slice (some ⟨r0, 0, none⟩) 1 1, .slice none 0 0] 56) = V := ⟨_, rfl⟩
  have hX3 : Ext W2 W3 := by rw [← hW3]; exact (Ext.refl W2).alloc _
  have hBX : BxT 56 W3 y #[.string s, .slice (some ⟨r0, 0, none⟩) 1 1, .slice none 0 0] := by rw [← hW3, ← hy]; exact BxT.new W2 56 _
  have hx03 : Ext w W3 := ((HX0.out.trans hx1).trans hX2).trans hX3
  have hye : r0 + 1 = y := by rw [← hy, ← hW2, size_alloc, hr0]
  have HYE := Lib.hid hye
  have hwz := HZ.out
  have HST0 : Hid (FitSt w W3 W3 z y s 0 (ls.take 0) (.slice (some ⟨r0, 0, none⟩) 1 1) (.slice none 0 0)) := Lib.hid
    ⟨by omega, by omega, hBX.lt, hx03, HRB.out.ext ((hx1.trans hX2).trans hX3), hBX, hR2.ext hX3, ⟨[], Own.nil _ _ _ _ (Nat.le_refl _), fun i l hl => by simp at hl⟩, hx03, Keep2.refl _ _ _⟩
  have HW2 := Lib.hid hW2; have HW3 := Lib.hid hW3; have HR0 := Lib.hid hr0; have HY := Lib.hid hy
  have pl : (W2.alloc (.cells #[.string s, .slice (some ⟨r0, 0, none⟩) 1 1, .slice none 0 0] 56)).cell? ⟨x, 1, none⟩ = some (.slice al n dl) := by rw [hW3]; exact HY1.out _ hx03
  have pl2 : ((W1.alloc (.cells #[.int .i64 0] 3)).alloc (.cells #[.string s, .slice (some ⟨W1.heap.size, 0, none⟩) 1 1, .slice none 0 0] 56)).cell? ⟨x, 1, none⟩ = some (.slice al n dl) := by rw [hW2, hr0, hW3]; exact HY1.out _ hx03
  clear hBX hR2 hX2 hX3 hW2 hW3 hr0 hy hye hr1 hwz hx1 pl
  go_wp2_with fail
  rw [HR0.out, HW2.out, HYE.out, HW3.out]
  obtain ⟨WQ, hWQ⟩ : ∃ V, W3 = V := ⟨_, rfl⟩
  rw [hWQ] at HST0 HW3 hx03 ⊢
  clear hWQ pl2
  go_loopw [19] (fun iv wr => ∃ (j : Nat) (vr vs : Value), j ≤ n ∧ iv = .int .i64 j ∧ Hid (FitSt w WQ wr z y s j (ls.take j) vr vs)) (fun iv _ => n - (intOf iv).toNat)
  case atStart => exact ⟨0, _, _, by omega, rfl, HST0⟩
  case round =>
    clear HST0
    obtain ⟨j, vr, vs, hj, rfl, HST⟩ := hrel
    obtain ⟨ra, rc, rfl, _⟩ := HST.out.rev.len
    have c1 : wr.cell? ⟨y, 1, none⟩ = some (.slice ra (j + 1) rc) := HST.out.box.cell rfl
    by_cases hlt : j < n
    · have dn : decide (j < n) = true := by rw [decide_eq_true_eq]; exact hlt
      have dn2 : decide ((j : Int) < (n : Int)) = true := by rw [decide_eq_true_eq]; omega
      have hjl : j < ls.length := by have := HL.out; omega
      have HTK : Hid (ls.take (j + 1) = ls.take j ++ [ls[j]]) := Lib.hid (by rw [List.take_add_one, List.getElem?_eq_getElem hjl]; rfl)
      have hsl : (ls.take j).length ≤ 1000 := by rw [List.length_take]; omega
      obtain ⟨bb, off, a2, kc2, rfl, hbb, q00, hr00⟩ := HRS.out.at_ hlt hjl
      have i0 : (0 : Int) ≤ (j : Int) := by omega
      have i1 : (j : Int) < (n : Int) := by omega
      have hlen := HLE.out.len _ (List.getElem_mem hjl)
      obtain ⟨e1, e2, e3, e4⟩ := HOKH.out.size HLE.out.len HLE.out.num hjl
      have hokw : ∀ u ∈ ls[j], OkW u := fun u hu => okW_of_may ((mayL_all e3 hlen).1 u hu)
      obtain ⟨o0, o1⟩ := outL_le _ hokw
      have hsT := sumT_le16 _ (List.getElem_mem hjl)
      have hsS := HLE.out.sum
      have hNOK : Ok ls[j] := ⟨fun u hu2 => (hokw u hu2).nonneg, by have := okW_N _ hokw; have := (mayL_all e3 hlen).2; omega, by omega⟩
      obtain ⟨RW, hRW⟩ : ∃ l, ls[j] = l := ⟨_, rfl⟩
      rw [hRW] at q00 hr00 hlen HTK e2 hNOK
      obtain ⟨k, hk⟩ : ∃ k, RW.length = k := ⟨_, rfl⟩
      rw [hk] at q00 hr00 hlen
      have HRL := Lib.hid hk
      have HOFw := Lib.hid (fun w' (hx : Ext w w') => of5_c a2 k kc2 RW w' (hr00.ext hx) HRL.out (by omega) hNOK)
      rw [e2, hk] at HOFw
      obtain ⟨SG, hSG⟩ : ∃ X, ls.take j = X := ⟨_, rfl⟩
      rw [hSG] at HST HTK hsl
      clear hSG hRW hk e1 e2 e3 e4 hokw o0 o1 hsT hsS hNOK
      have q0w : wr.cell? ⟨bb, off + j, none⟩ = some (.slice a2 k kc2) := ext_cell HST.out.ext q00
      obtain ⟨v', w', happ, hown', hbel', hoth⟩ := app_newo (P := Tryz.prog) 54 54 3 ij _ 1 8 Tryz.underlying54 hj' hy0' hy1' hy2' rfl (by omega) (by omega)
        HST.out.ext HST.out.rev (by omega) 1 #[.int .i64 ((j : Int) + 1)] rfl (by omega) (by simp [Value.oneCell']) 3
      obtain ⟨va, vc, rfl, _⟩ := hown'.len
      have HAP := Lib.hid happ
      have HS2 := Lib.hid (HST.out.number hown' hbel' hoth)
      have hb1 : BxT 56 w' y #[.string s, .slice ra (j + 1) rc, vs] := hoth.2 y _ _ _ (by decide) HST.out.box
      have d1 : w'.cell? ⟨y, 1, none⟩ = some (.slice ra (j + 1) rc) := hb1.cell rfl
      have f1 := hb1.frozen 1
      clear happ hown' hbel' hoth hb1
      go_wp2_with (at_builtin; refine wpList_append_run rfl rfl HAP.out rfl rfl ?_)
      obtain ⟨W3, hW3⟩ : ∃ V, w'.setCell ⟨y, 1, none⟩ (.slice va (j + 1 + 1) vc) = V := ⟨_, rfl⟩
      rw [hW3] at HS2 ⊢
      clear hW3 d1 f1 HAP c1 HST q0w
      have HST2 := HS2
      obtain ⟨sa, sc, rfl, _⟩ := HST2.out.sgs.rd
      have g2 : W3.cell? ⟨y, 2, none⟩ = some (.slice sa SG.length sc) := HST2.out.box.cell rfl
      have f2 := HST2.out.box.frozen 2
      have HOF := Lib.hid (fun V (hx : Ext W3 V) => HOFw.out V (HST2.out.ext.trans (Below.mono hx HST2.out.ext.size)))
      clear HS2 q00 hr00 HOFw
      refine region_T (fun V => V.cell? ⟨y, 2, none⟩ = some (.slice sa SG.length sc)) 7 (by kernel_rfl) (ext_cell (Ext.refl _).drew g2) (fun hHeld => ?_)
      obtain ⟨Wd, hWd⟩ : ∃ x, W3.drew = x := ⟨_, rfl⟩
      rw [hWd] at hHeld ⊢
      have hdx : Ext W3 Wd := by rw [← hWd]; exact (Ext.refl _).drew
      clear hWd
      refine wpAnyT_take (i := 0) (v := ?_) rfl (by kernel_rfl) (fun _ _ _ h => h) (Or.inl ⟨by rfl, ?_⟩) (by assumption) ?_
      rotate_left
      · (intro W hSw; (try dsimp only at hSw); go_simp; (try with_reducible rfl))
      try simp only [Act.put, List.getElem_toArray, List.getElem_cons_succ, List.getElem_cons_zero, List.setIfInBounds_toArray, List.set_cons_zero, List.set_cons_succ]
      refine wpAnyT_take (i := 1) (v := ?_) rfl (by kernel_rfl) (fun _ _ _ h => h) (Or.inl ⟨by rfl, ?_⟩) (by assumption) ?_
      rotate_left
      · (intro W hSw; (try dsimp only at hSw); go_simp; (try with_reducible rfl))
      try simp only [Act.put, List.getElem_toArray, List.getElem_cons_succ, List.getElem_cons_zero, List.setIfInBounds_toArray, List.set_cons_zero, List.set_cons_succ]
      refine wpAnyT_take (i := 2) (v := ?_) rfl (by kernel_rfl) (fun _ _ _ h => h) (Or.inl ⟨by rfl, ?_⟩) (by assumption) ?_
      rotate_left
      · (intro W hSw; (try dsimp only at hSw); go_simp; (try with_reducible rfl))
      try simp only [Act.put, List.getElem_toArray, List.getElem_cons_succ, List.getElem_cons_zero, List.setIfInBounds_toArray, List.set_cons_zero, List.set_cons_succ]
      refine wpAnyT_one (i := 3) rfl (by kernel_rfl) (fun K hK => ?_)
      go_simp
      refine (HOF.out _ hdx).mono ?_; rintro e w4 ⟨v8, rfl, hx8, ow4⟩
      obtain ⟨a4, k4, rfl, _⟩ := ow4.len
      have hd4 : Ext W3 w4 := hdx.trans hx8
      refine hK.out _ _ (fun _ => ext_cell hd4 g2) (fun hH => ?_)
      replace hHeld := hH (by decide)
      clear hK K hH
      try simp only [Act.put, List.getElem_toArray, List.getElem_cons_succ, List.getElem_cons_zero, List.setIfInBounds_toArray, List.set_cons_zero, List.set_cons_succ]
      refine wpAnyT_one (i := 4) rfl (by kernel_rfl) (fun K hK => ?_)
      go_simp
      refine hK.out _ _ (fun _ => ext_cell (hd4.alloc _) g2) (fun hH => ?_)
      replace hHeld := hH (by decide)
      clear hK K hH
      try simp only [Act.put, List.getElem_toArray, List.getElem_cons_succ, List.getElem_cons_zero, List.setIfInBounds_toArray, List.set_cons_zero, List.set_cons_succ]
      refine wpAnyT_one (i := 5) rfl (by kernel_rfl) (fun K hK => ?_)
      have hBq : WQ.heap.size ≤ Wd.heap.size := Nat.le_trans HST2.out.keep.1 hdx.size
      have HPU := Lib.hid (fit_push (P := Tryz.prog) Tryz.underlying22 hi' hz0' hz1' hz2' rfl (by decide) HST2.out.sgs hd4 hsl ow4 hBq HRL.out (Below.mono hd4 HST2.out.keep.1))
      refine step_append_ex (by rfl) _ _ _ (by rfl) (by rfl) (by rfl) HPU.out ?_
      rintro v6 w6 ⟨hss6, hbel6, hoth6⟩
      obtain ⟨va6, vc6, rfl, _⟩ := hss6.rd
      have hf6 : w6.frozen? ⟨y, 2, none⟩ = false := (hbel6.frozen (p := ⟨y, 2, none⟩) HST2.out.hq).trans f2
      have hc6 : w6.cell? ⟨y, 2, none⟩ = some (.slice sa SG.length sc) := (hbel6.cell (p := ⟨y, 2, none⟩) HST2.out.hq).trans g2
      refine hK.out _ _ (fun _ => hc6) (fun hH => ?_)
      replace hHeld := hH (by decide)
      clear hK K hH
      try simp only [Act.put, List.getElem_toArray, List.getElem_cons_succ, List.getElem_cons_zero, List.setIfInBounds_toArray, List.set_cons_zero, List.set_cons_succ]
      refine wpAnyT_take (i := 6) (v := ?_) rfl (by kernel_rfl) (fun _ _ _ h => h) (Or.inl ⟨by rfl, ?_⟩) (by assumption) ?_
      rotate_left
      · (intro W hSw; (try dsimp only at hSw); go_simp; (try with_reducible rfl))
      try simp only [Act.put, List.getElem_toArray, List.getElem_cons_succ, List.getElem_cons_zero, List.setIfInBounds_toArray, List.set_cons_zero, List.set_cons_succ]
      refine wpAnyT_one (i := 7) rfl (by kernel_rfl) (fun K hK => ?_)
      go_simp
      refine hK.out _ _ (fun h => absurd rfl h) (fun _ => ?_)
      clear hK K hHeld
      try simp only [Act.put, List.getElem_toArray, List.getElem_cons_succ, List.getElem_cons_zero, List.setIfInBounds_toArray, List.set_cons_zero, List.set_cons_succ]
      refine wpAnyT_done (by kernel_rfl) ?_ _
      have hs3 := HST2.out.segment hd4 hss6 hbel6 hoth6
      rw [List.length_append, List.length_singleton, ← HTK.out] at hs3
      have HS3 := Lib.hid hs3
      clear hs3
      go_wp2_with fail
      go_roundw
      case rel => exact ⟨j + 1, _, _, by omega, by go_num, HS3⟩
      case measure => simp [intOf]; omega
    · obtain rfl : j = n := by omega
      have dn : decide (j < j) = false := by rw [decide_eq_false_iff_not]; omega
      have hst := HST.out
      rw [show ls.take j = ls by rw [← HL.out]; exact List.take_length] at hst
      have c0 : wr.cell? ⟨y, 0, none⟩ = some (.string s) := hst.box.cell rfl
      have c2 : wr.cell? ⟨y, 2, none⟩ = some vs := hst.box.cell rfl
      have k0 : wr.cell? ⟨z, 0, none⟩ = some (.string ⟨#[]⟩) := hst.rb.cell rfl
      have k1 : wr.cell? ⟨z, 1, none⟩ = some (.slice none 0 0) := hst.rb.cell rfl
      have k2 : wr.cell? ⟨z, 2, none⟩ = some (.slice none 0 0) := hst.rb.cell rfl
      have f0 := hst.rb.frozen 0; have f1 := hst.rb.frozen 1; have f2 := hst.rb.frozen 2
      have HSF := Lib.hid hst
      clear hst HST
      obtain ⟨sa, sc, rfl, _⟩ := HSF.out.sgs.slice (n := j) HL.out
      go_wp2_with fail
      refine bodyPost_ret (results_cell_row rfl _ _ z _ _ (0, 0) _ rfl (((HSF.out.rb.set 0 (.string s)).set 1 (.slice ra (j + 1) rc)).set 2 (.slice sa j sc)) Tryz.underlying56 rfl (by kernel_rfl)) rfl ?_
      have hst := HSF.out
      have r1 := hst.rb.set 0 (.string s); have r2 := r1.set 1 (.slice ra (j + 1) rc)
      have o1 := own_cell_other (a := ⟨z, 0, none⟩) hst.rev hst.rb (by decide) (.string s)
      have o2 := own_cell_other (a := ⟨z, 1, none⟩) o1 r1 (by decide) (.slice ra (j + 1) rc)
      have o3 := own_cell_other (a := ⟨z, 2, none⟩) o2 r2 (by decide) (.slice sa j sc)
      have s1 := hst.sgs.cell_other (a := ⟨z, 0, none⟩) hst.rb (by decide) (by decide) (.string s)
      have s2 := s1.cell_other (a := ⟨z, 1, none⟩) r1 (by decide) (by decide) (.slice ra (j + 1) rc)
      have s3 := s2.cell_other (a := ⟨z, 2, none⟩) r2 (by decide) (by decide) (.slice sa j sc)
      have hss := s3.more hst.h0.size
      exact ⟨((hst.ext.setCell (p := ⟨z, 0, none⟩) hst.hz _).setCell (p := ⟨z, 1, none⟩) hst.hz _).setCell (p := ⟨z, 2, none⟩) hst.hz _, ra, j + 1, rc, _, _, _, rfl, o3, hss⟩
end Go.Proofs.YtgcaphjjigpjlaaGreatDoor
namespace Go.Proofs.YtgcaphjjigpjlaaGreatDoor
open Go.RowKit
set_option maxRecDepth 100000
set_option maxHeartbeats 4000000
set_option linter.unusedSimpArgs false
def cut60q (s : ByteArray) : ByteArray := s.extract 0 (min s.size 60)
theorem cut60q_size (s : ByteArray) : (cut60q s).size ≤ 60 := by simp [cut60q]; omega
def fewL17 (l : List Sp) : List Sp := (l.take 20).map fun s => (s.1, s.2.1, cut60q s.2.2)
theorem fewL17_take (l : List Sp) (j : Nat) (h : j < l.length) (h20 : j < 20) : fewL17 (l.take (j + 1)) = fewL17 (l.take j) ++ [(l[j].1, l[j].2.1, cut60q l[j].2.2)] := by
  unfold fewL17
  have e1 : (l.take (j + 1)).take 20 = l.take (j + 1) := List.take_of_length_le (by rw [List.length_take]; omega)
  have e2 : (l.take j).take 20 = l.take j := List.take_of_length_le (by rw [List.length_take]; omega)
  rw [e1, e2, List.take_add_one, List.getElem?_eq_getElem h, List.map_append]
  rfl
theorem fewL17_size (l : List Sp) : ∀ s ∈ fewL17 l, s.2.2.size ≤ 60 := by
  intro s hs
  obtain ⟨x, _, rfl⟩ := List.mem_map.1 hs
  exact cut60q_size _
theorem fewL17_len (l : List Sp) : (fewL17 l).length = min 20 l.length := by simp [fewL17]
theorem few17_c (A : Option Addr) (q c : Nat) (l : List Sp) (w : World) (h : Rd w 3 (.slice A q c) q (spCells l)) (hl : l.length = q) (hs : ∀ s ∈ l, s.2.2.size ≤ maxLen) :
    Calls Tryz.prog 8 #[.slice A q c] w fun e w' => ∃ v, e = .returned v ∧ Ext w w' ∧ Own w' w.heap.size 60 3 v (fewL17 l).length (spCells (fewL17 l)) := by
  obtain ⟨i, hi, hz0, hz1, hz2⟩ := info_parts info_sp5
  have H := Lib.hid h; have HL := Lib.hid hl; have HS := Lib.hid hs
  have hrel0 : Own (w.alloc (.cells #[] 60)) w.heap.size 60 3 (.slice (some ⟨w.heap.size, 0, none⟩) 0 0) 0 (spCells []) ∧ Below w.heap.size w (w.alloc (.cells #[] 60)) :=
    ⟨Own.made w w.heap.size 60 3 0 #[] (Nat.le_refl _) (by omega) rfl, (Below.refl _ _).alloc (Nat.le_refl _) _⟩
  have HR0 := Lib.hid hrel0
  clear h hl hs hrel0
  go_enter Tryz.func8, Tryz.ntmps8
  go_wp2_with fail
  go_loopw [3, 4] (fun o z wr => ∃ j : Nat, j ≤ q ∧ j ≤ 20 ∧ z = .int .i64 j ∧ Own wr w.heap.size 60 3 o j (spCells (fewL17 (l.take j))) ∧ Below w.heap.size w wr) (fun _ z _ => 20 - (intOf z).toNat)
  case atStart => exact ⟨0, by omega, by omega, rfl, HR0.out.1, HR0.out.2⟩
  case round =>
    obtain ⟨j, hj, hj20, rfl, hown, hbel⟩ := hrel
    by_cases hlt : j < q ∧ j < 20
    · have hjl : j < l.length := by have := HL.out; omega
      obtain ⟨b, off, rfl, hb, q0, q1, q2⟩ := sp_at (H.out.ext hbel) HL.out hlt.1
      have dn : decide (j < q) = true := by rw [decide_eq_true_eq]; exact hlt.1
      have d20 : decide ((j : Int) < 20) = true := by rw [decide_eq_true_eq]; omega
      have i0 : (0 : Int) ≤ (j : Int) := by omega
      have i1 : (j : Int) < (q : Int) := by omega
      have hsz : l[j].2.2.size ≤ maxLen := HS.out _ (List.getElem_mem hjl)
      have hst := fewL17_take l j hjl hlt.2
      obtain ⟨R1, hR1⟩ : ∃ R1, fewL17 (l.take (j + 1)) = R1 := ⟨_, rfl⟩
      rw [hR1] at hst
      generalize fewL17 (l.take j) = xs at *
      generalize l[j].1 = a1 at *
      generalize l[j].2.1 = a2 at *
      generalize l[j].2.2 = a3 at *
      unfold maxLen at hsz
      have hm : (min (a3.size : Int) 60).toNat = min a3.size 60 := by omega
      have HST := Lib.hid hst; have HR1 := Lib.hid hR1; have HM := Lib.hid hm
      clear hst hR1 hm
      have hX : a3.extract 0 (min (a3.size : Int) 60).toNat = cut60q a3 := by rw [HM.out]; rfl
      have hbx := hbel.alloc hown.2 (.cells #[.int .i64 a1, .int .i64 a2, .string (a3.extract 0 (min (a3.size : Int) 60).toNat)] 60)
      have hox := hown.alloc (.cells #[.int .i64 a1, .int .i64 a2, .string (a3.extract 0 (min (a3.size : Int) 60).toNat)] 60)
      obtain ⟨v', w', happ, hown', hbel'⟩ := app_new (P := Tryz.prog) 23 23 60 i _ 3 32 Tryz.underlying23 hi hz0 hz1 hz2 rfl (by omega) (by omega)
        hbx hox (by omega) 1 #[.int .i64 a1, .int .i64 a2, .string (a3.extract 0 (min (a3.size : Int) 60).toNat)] rfl (by omega) (by simp [Value.oneCell']) 60
      rw [size_alloc] at happ
      have HAP := Lib.hid happ
      have hown2 : Own w' w.heap.size 60 3 v' (j + 1) (spCells R1) := by rw [HST.out, spCells_append, ← hX]; exact hown'
      clear happ hX hbx hox hown'
      go_wp2_with (at_builtin; refine wpList_append_run rfl rfl HAP.out rfl rfl ?_)
      go_roundw
      case rel => exact ⟨j + 1, by omega, by omega, by go_num, by rw [HR1.out]; exact hown2, hbel'⟩
      case measure => simp [intOf]; omega
    · have hall : l.take j = l.take 20 := by
        rcases (by omega : j = 20 ∨ j = q) with e | e
        · rw [e]
        · have e2 := HL.out
          rw [List.take_of_length_le (by omega), List.take_of_length_le (by omega)]
      have hcase : (decide (j < q) = false) ∨ (decide (j < q) = true ∧ decide ((j : Int) < 20) = false) := by
        by_cases e : j < q
        · exact .inr ⟨by rw [decide_eq_true_eq]; exact e, by rw [decide_eq_false_iff_not]; omega⟩
        · exact .inl (by rw [decide_eq_false_iff_not]; exact e)
      have hfl : fewL17 (l.take j) = fewL17 l := by rw [hall]; unfold fewL17; rw [List.take_take]; rfl
      have hlen : (fewL17 l).length = j := by rw [← hfl, fewL17_len]; have := HL.out; simp; omega
      rw [hfl] at hown
      have HLN := Lib.hid hlen
      clear hall hfl hlen hlt
      rcases hcase with d1 | ⟨d1, d2⟩
      all_goals
        go_wp2_with fail
        go_ret
        refine ⟨_, rfl, hbel, ?_⟩
        rw [HLN.out]
        exact hown
structure HI (H : World → Nat → (Nat → Prop) → ByteArray → List (List Sp) → Prop) : Prop where
  keep : ∀ {W W' : World} {x : Nat} {F S : Nat → Prop} {s : ByteArray} {ls : List (List Sp)}, H W x F s ls → Kp S W W' → (∀ i, F i → ¬ S i) → H W' x F s ls
  lt : ∀ {W : World} {x : Nat} {F : Nat → Prop} {s : ByteArray} {ls : List (List Sp)}, H W x F s ls → ∀ k, F k → k < W.heap.size
  ok : ∀ {W : World} {x : Nat} {F : Nat → Prop} {s : ByteArray} {ls : List (List Sp)}, H W x F s ls → Hok s ls
theorem HI.ext {H : World → Nat → (Nat → Prop) → ByteArray → List (List Sp) → Prop} (hi : HI H) {W W' : World} {x : Nat} {F : Nat → Prop} {s : ByteArray} {ls : List (List Sp)} (h : H W x F s ls) (k : Ext W W') : H W' x F s ls := hi.keep h (Kp.of_ext (fun _ => False) k) fun _ _ hq => hq
theorem ext_kp {w W W' : World} {F : Nat → Prop} (h : Ext w W) (k : Kp F W W') (hF : ∀ i, F i → w.heap.size ≤ i) : Ext w W' :=
  ((Kp.of_ext (fun _ => False) h).wide k fun i hi => .inr (hF i hi)).ext fun _ hq => hq.elim
structure HWs (w W : World) (x : Nat) (F : Nat → Prop) (s : ByteArray) (ls : List (List Sp)) : Prop where
  hp : HP W x F s ls
  ext : Ext w W
  ge : ∀ k, F k → w.heap.size ≤ k
def HW (w W : World) (x : Nat) (s : ByteArray) (ls : List (List Sp)) : Prop := ∃ F, HWs w W x F s ls
theorem HW.e {w W : World} {x : Nat} {s : ByteArray} {ls : List (List Sp)} (h : HW w W x s ls) : Ext w W := by obtain ⟨F, h⟩ := h; exact h.ext
theorem HW.ok {w W : World} {x : Nat} {s : ByteArray} {ls : List (List Sp)} (h : HW w W x s ls) : Hok s ls := by obtain ⟨F, h⟩ := h; exact h.hp.ok
theorem HW.next {w W W' : World} {x : Nat} {s : ByteArray} {ls : List (List Sp)} (h : HW w W x s ls) (k : Ext W W') : HW w W' x s ls := by
  obtain ⟨F, h⟩ := h
  exact ⟨F, h.hp.ext k, h.ext.trans k, h.ge⟩
theorem HWs.app {w W W' : World} {x : Nat} {F : Nat → Prop} {s : ByteArray} {ls ls' : List (List Sp)} (h : HWs w W x F s ls) (k : Kp F W W') (hp : HP W' x (Gr F W W') s ls') : HW w W' x s ls' :=
  ⟨_, hp, ext_kp h.ext k h.ge, fun i hi => by rcases hi with hi | hi; exact h.ge i hi; exact Nat.le_trans h.ext.size hi.1⟩
theorem hw_new (s : ByteArray) (w W : World) [Tab w] (hx : Ext w W) (hs : s.size ≤ 1000000) (hn : newH s = 0) : Calls Tryz.prog 6 #[.string s] W fun e w' => ∃ x, e = .returned (.tuple #[.pointer (some ⟨x, 0, none⟩), .int .i64 0]) ∧ HW w w' x s [] := by
  have hTb := tab_ext hx
  refine (newP17_c s W hs).mono ?_
  rintro e w' ⟨h1, -, h2⟩
  obtain ⟨x, F, he, hp, hF⟩ := h2 hn
  exact ⟨x, he, F, hp, hx.trans h1, fun k hk => Nat.le_trans hx.size (hF k hk)⟩
theorem hw_app (x : Nat) (s : ByteArray) (ls : List (List Sp)) (A : Option Addr) (n c : Nat) (l : List Sp) (w W : World) [Tab w] (h : HW w W x s ls) (hs : SmH s ls) (hr : RdO W A n c l) (hn : n ≤ 1000) (hu : sumT l ≤ 400000000) :
    Calls Tryz.prog 11 #[.pointer (some ⟨x, 0, none⟩), .slice A n c] W fun e w' => e = .returned (.int .i64 (appE s ls l)) ∧ HW w w' x s (appLs s ls l) := by
  have hTb := tab_ext h.e
  obtain ⟨F, h⟩ := h
  refine (appP17_c x F s ls A n c l W h.hp hs hr hn hu).mono ?_
  rintro e w' ⟨h1, h2, h3⟩
  exact ⟨h1, h.app h2 h3⟩
theorem hw_len (x : Nat) (s : ByteArray) (ls : List (List Sp)) (w W : World) [Tab w] (h : HW w W x s ls) (hs : SmH s ls) : Calls Tryz.prog 13 #[.pointer (some ⟨x, 0, none⟩)] W fun e w' => e = .returned (.int .i64 (ls.length : Int)) ∧ Ext W w' := by
  have hTb := tab_ext h.e
  obtain ⟨F, h⟩ := h
  exact lenP17_c x F s ls W h.hp hs
theorem hw_run (x : Nat) (s : ByteArray) (ls : List (List Sp)) (r t : Int) (w W : World) [Tab w] (h : HW w W x s ls) (hs : SmH s ls) (hS : Small ls) : Calls Tryz.prog 18 #[.pointer (some ⟨x, 0, none⟩), .int .i64 r, .int .i64 t] W (OpR W (runH s ls r t) (runHL s ls r t)) := by
  have hTb := tab_ext h.e
  obtain ⟨F, h⟩ := h
  exact runP17_c x F s ls r t W h.hp hs hS
def ex17a : List Sp := [(2, 0, ⟨#[98]⟩), (1, 1, ⟨#[]⟩)]
def ex17b : List Sp := [(3, 1, ⟨#[]⟩), (1, 1, ⟨#[]⟩)]
theorem ex17_n : newH ⟨#[97]⟩ = 0 := by decide +kernel
theorem ex17_e1 : appE ⟨#[97]⟩ [] ex17a = 0 := by decide +kernel
theorem ex17_l1 : appLs ⟨#[97]⟩ [] ex17a = [ex17a] := by decide +kernel
theorem ex17_e2 : appE ⟨#[97]⟩ [ex17a] ex17b = 0 := by decide +kernel
theorem ex17_l2 : appLs ⟨#[97]⟩ [ex17a] ex17b = [ex17a, ex17b] := by decide +kernel
theorem ex17_r : runH ⟨#[97]⟩ [ex17a, ex17b] 0 2 = 0 := by decide +kernel
theorem ex17_rl : runHL ⟨#[97]⟩ [ex17a, ex17b] 0 2 = [(1, 1, ⟨#[]⟩)] := by decide +kernel
theorem smH_of {s : ByteArray} {ls : List (List Sp)} (h1 : s.size ≤ 1000000) (h2 : ls.length ≤ 900) (h3 : ∀ l ∈ ls, l.length ≤ 1000) (h4 : sumTT ls ≤ 400000000) : SmH s ls := ⟨h1, h2, h3, h4⟩
theorem shown17_c (w : World) [Tab w] : Calls Tryz.prog 4 #[] w fun e w' => e = .returned (.bool true) ∧ Ext w w' := by
  have HN := Lib.hid (hw_new ⟨#[97]⟩ w w (Ext.refl w) (by decide) ex17_n)
  have HA1 : Hid (∀ W x, HW w W x ⟨#[97]⟩ [] → Calls Tryz.prog 11 #[.pointer (some ⟨x, 0, none⟩), .slice (some ⟨W.heap.size, 0, none⟩) 2 2] (W.alloc (.cells #[.int .i64 2, .int .i64 0, .string ⟨#[98]⟩, .int .i64 1, .int .i64 1, .string ⟨#[]⟩] 60)) fun e w' => e = .returned (.int .i64 0) ∧ HW w w' x ⟨#[97]⟩ [ex17a]) := Lib.hid fun W x h => by
    have g := hw_app x ⟨#[97]⟩ [] _ 2 2 ex17a w _ (h.next ((Ext.refl W).alloc (.cells #[.int .i64 2, .int .i64 0, .string ⟨#[98]⟩, .int .i64 1, .int .i64 1, .string ⟨#[]⟩] 60))) (smH_of (by decide) (by decide) (by decide) (by decide)) ⟨rfl, rd_made6 (w := W) rfl (Ext.refl _)⟩ (by omega) (by decide)
    rw [ex17_e1, ex17_l1] at g; exact g
  have HA2 : Hid (∀ W x, HW w W x ⟨#[97]⟩ [ex17a] → Calls Tryz.prog 11 #[.pointer (some ⟨x, 0, none⟩), .slice (some ⟨W.heap.size, 0, none⟩) 2 2] (W.alloc (.cells #[.int .i64 3, .int .i64 1, .string ⟨#[]⟩, .int .i64 1, .int .i64 1, .string ⟨#[]⟩] 60)) fun e w' => e = .returned (.int .i64 0) ∧ HW w w' x ⟨#[97]⟩ [ex17a, ex17b]) := Lib.hid fun W x h => by
    have g := hw_app x ⟨#[97]⟩ [ex17a] _ 2 2 ex17b w _ (h.next ((Ext.refl W).alloc (.cells #[.int .i64 3, .int .i64 1, .string ⟨#[]⟩, .int .i64 1, .int .i64 1, .string ⟨#[]⟩] 60))) (smH_of (by decide) (by decide) (by decide) (by decide)) ⟨rfl, rd_made6 (w := W) rfl (Ext.refl _)⟩ (by omega) (by decide)
    rw [ex17_e2, ex17_l2] at g; exact g
  have HR : Hid (∀ W x, HW w W x ⟨#[97]⟩ [ex17a, ex17b] → Calls Tryz.prog 18 #[.pointer (some ⟨x, 0, none⟩), .int .i64 0, .int .i64 2] W fun e w' => Ext W w' ∧ ∃ b off c, e = .returned (.tuple #[.slice (some ⟨b, off, none⟩) 1 c, .int .i64 0]) ∧ w'.cell? ⟨b, off, none⟩ = some (.int .i64 1) ∧ w'.cell? ⟨b, off + 1, none⟩ = some (.int .i64 1) ∧ w'.cell? ⟨b, off + 2, none⟩ = some (.string ⟨#[]⟩)) := Lib.hid fun W x h => by
    have g := hw_run x ⟨#[97]⟩ [ex17a, ex17b] 0 2 w W h (smH_of (by decide) (by decide) (by decide) (by decide)) ⟨by decide, by decide, by decide⟩
    unfold OpR at g
    rw [ex17_r, if_pos rfl, ex17_rl] at g
    refine g.mono ?_
    rintro e w' ⟨g1, A, n, c, g2, g3⟩
    have hn : n = 1 := g3.1.symm
    subst hn
    obtain ⟨b, off, rfl, _, q0, q1, q2⟩ := sp_at g3.2 rfl (i := 0) (by omega)
    exact ⟨g1, b, off, c, g2, by simpa using q0, by simpa using q1, by simpa using q2⟩
  have HL : Hid (∀ W x, HW w W x ⟨#[97]⟩ [ex17a, ex17b] → Calls Tryz.prog 13 #[.pointer (some ⟨x, 0, none⟩)] W fun e w' => e = .returned (.int .i64 2) ∧ Ext W w') := Lib.hid fun W x h =>
    hw_len x ⟨#[97]⟩ [ex17a, ex17b] w W h (smH_of (by decide) (by decide) (by decide) (by decide))
  go_enter Tryz.func4, Tryz.ntmps4
  go_wp2_with fail
  refine HN.out.mono ?_; rintro e w1 ⟨x, rfl, h1⟩
  have H1 := Lib.hid h1; clear h1
  go_wp2_with fail
  refine (HA1.out _ _ H1.out).mono ?_; rintro e w2 ⟨rfl, h2⟩
  have H2 := Lib.hid h2; clear h2 H1
  go_wp2_with fail
  refine (HA2.out _ _ H2.out).mono ?_; rintro e w3 ⟨rfl, h3⟩
  have H3 := Lib.hid h3; clear h3 H2
  go_wp2_with fail
  refine (HR.out _ _ H3.out).mono ?_; rintro e w4 ⟨hx4, b, off, c, rfl, q0, q1, q2⟩
  have H4 := Lib.hid (H3.out.next hx4); clear hx4 H3
  go_wp2_with fail
  refine (HL.out _ _ H4.out).mono ?_; rintro e w5 ⟨rfl, hx5⟩
  go_wp2_with fail
  go_ret
  exact ⟨rfl, H4.out.e.trans hx5⟩
end Go.Proofs.YtgcaphjjigpjlaaGreatDoor
namespace Go.Proofs.YtgcaphjjigpjlaaGreatDoor
open Go.RowKit
set_option maxRecDepth 100000
set_option maxHeartbeats 4000000
set_option linter.unusedSimpArgs false
structure HTwos (w W : World) (x y : Nat) (F G : Nat → Prop) (s : ByteArray) (la lb : List (List Sp)) : Prop where
  p : HP W x F s la
  r : HRef17 W y G s lb
  ext : Ext w W
  geF : ∀ k, F k → w.heap.size ≤ k
  geG : ∀ k, G k → w.heap.size ≤ k
  dis : ∀ k, F k → ¬ G k
def HTwo (w W : World) (x y : Nat) (s : ByteArray) (la lb : List (List Sp)) (Q : Nat → Prop) : Prop := ∃ F G, HTwos w W x y F G s la lb ∧ ∀ k, Q k → ¬ F k ∧ ¬ G k
theorem HTwo.e {w W : World} {x y : Nat} {s : ByteArray} {la lb : List (List Sp)} {Q : Nat → Prop} (h : HTwo w W x y s la lb Q) : Ext w W := by obtain ⟨F, G, h, _⟩ := h; exact h.ext
theorem HTwo.ok {w W : World} {x y : Nat} {s : ByteArray} {la lb : List (List Sp)} {Q : Nat → Prop} (h : HTwo w W x y s la lb Q) : Hok s lb := by obtain ⟨F, G, h, _⟩ := h; exact h.r.ok
theorem HTwo.next {w W W' : World} {x y : Nat} {s : ByteArray} {la lb : List (List Sp)} {Q : Nat → Prop} (h : HTwo w W x y s la lb Q) (k : Ext W W') : HTwo w W' x y s la lb Q := by
  obtain ⟨F, G, h, hq⟩ := h
  exact ⟨F, G, ⟨h.p.ext k, h.r.ext k, h.ext.trans k, h.geF, h.geG, h.dis⟩, hq⟩
theorem HTwo.fresh {w W : World} {x y : Nat} {s : ByteArray} {la lb : List (List Sp)} {Q Q' : Nat → Prop} (h : HTwo w W x y s la lb Q) (hq : ∀ k, Q' k → W.heap.size ≤ k) : HTwo w W x y s la lb Q' := by
  obtain ⟨F, G, h, _⟩ := h
  exact ⟨F, G, h, fun k hk => ⟨fun hf => by have := hq k hk; have := h.p.lt k hf; omega, fun hg => by have := hq k hk; have := h.r.lt k hg; omega⟩⟩
theorem HTwo.off {w W : World} {x y : Nat} {s : ByteArray} {la lb : List (List Sp)} {Q : Nat → Prop} (h : HTwo w W x y s la lb Q) : HTwo w W x y s la lb (fun _ => False) := by
  obtain ⟨F, G, h, _⟩ := h
  exact ⟨F, G, h, fun _ hk => hk.elim⟩
theorem HTwo.cells {w W : World} {x y : Nat} {s : ByteArray} {la lb : List (List Sp)} {Q : Nat → Prop} (h : HTwo w W x y s la lb Q) : ∃ g c1 A2 d, W.cell? ⟨y, 0, none⟩ = some (.slice (some ⟨g, 0, none⟩) (lb.length + 1) c1) ∧ W.cell? ⟨y, 1, none⟩ = some (.slice A2 lb.length d) ∧ ∀ j, j ≤ lb.length → W.cell? ⟨g, j, none⟩ = some (.string (txt17 s lb j)) := by
  obtain ⟨F, G, h, _⟩ := h
  obtain ⟨⟨tv, lv, hh⟩, _⟩ := h.r
  obtain ⟨A2, d, rfl, _, _⟩ := hh.rd
  have ht := hh.tx
  rw [txts17_len] at ht
  obtain ⟨g, c', rfl, _, _, _, hcell⟩ := ht.cells (by omega)
  exact ⟨g, c', A2, d, hh.box.cell rfl, hh.box.cell rfl, fun j hj => hcell j _ (txts17_at s lb hj)⟩
theorem gr_not {F : Nat → Prop} {A B : World} {k : Nat} (h1 : ¬ F k) (h2 : k < A.heap.size) : ¬ Gr F A B k := fun h => by
  rcases h with h | h
  · exact h1 h
  · omega
theorem h2_new {w W W' : World} {x y : Nat} {s : ByteArray} {F G : Nat → Prop} (hx : Ext w W) (hp : HP W x F s []) (hF : ∀ k, F k → w.heap.size ≤ k) (hx2 : Ext W W') (hr : HRef17 W' y G s []) (hG : ∀ k, G k → W.heap.size ≤ k) : HTwo w W' x y s [] [] (fun _ => False) :=
  ⟨F, G, ⟨hp.ext hx2, hr, hx.trans hx2, hF, fun k hk => Nat.le_trans hx.size (hG k hk), fun k hf hg => by have := hp.lt k hf; have := hG k hg; omega⟩, fun _ hk => hk.elim⟩
theorem h2_appP {w W : World} {x y : Nat} {s : ByteArray} {la lb : List (List Sp)} {Q : Nat → Prop} [Tab w] (h : HTwo w W x y s la lb Q) (hQ : ∀ k, Q k → k < W.heap.size) (hs : SmH s la) {A : Option Addr} {n c : Nat} {l : List Sp} (hr : RdO W A n c l) (hA : ∀ b off, A = some ⟨b, off, none⟩ → Q b) (hn : n ≤ 1000) (hu : sumT l ≤ 400000000) :
    Calls Tryz.prog 11 #[.pointer (some ⟨x, 0, none⟩), .slice A n c] W fun e w' => e = .returned (.int .i64 (appE s la l)) ∧ HTwo w w' x y s (appLs s la l) lb Q ∧ RdO w' A n c l ∧ W.heap.size ≤ w'.heap.size := by
  have hTb := tab_ext h.e
  obtain ⟨F, G, h, hq⟩ := h
  refine (appP17_c x F s la A n c l W h.p hs hr hn hu).mono ?_
  rintro e w' ⟨h1, h2, h3⟩
  refine ⟨h1, ⟨Gr F W w', G, ⟨h3, h.r.keep h2 (fun i hi hf => h.dis i hf hi), ext_kp h.ext h2 h.geF, fun i hi => by rcases hi with hi | hi; exact h.geF i hi; exact Nat.le_trans h.ext.size hi.1, h.geG, fun k hk hg => ?_⟩, fun k hk => ⟨gr_not (hq k hk).1 (hQ k hk), (hq k hk).2⟩⟩, rdO_kp hr h2 fun b off e => (hq b (hA b off e)).1, h2.size⟩
  rcases hk with hk | hk
  · exact h.dis k hk hg
  · have := h.r.lt k hg; omega
theorem h2_appR {w W : World} {x y : Nat} {s : ByteArray} {la lb : List (List Sp)} {Q : Nat → Prop} (h : HTwo w W x y s la lb Q) (hs : SmH s lb) {A : Option Addr} {n c : Nat} {l : List Sp} (hr : RdO W A n c l) (hA : ∀ b off, A = some ⟨b, off, none⟩ → Q b) (hn : n ≤ 1000) (hu : sumT l ≤ 400000000) :
    Calls Tryz.prog 12 #[.pointer (some ⟨y, 0, none⟩), .slice A n c] W fun e w' => e = .returned (.int .i64 (appE s lb l)) ∧ HTwo w w' x y s la (appLs s lb l) (fun _ => False) := by
  obtain ⟨F, G, h, hq⟩ := h
  refine (appR17_c y G s lb A n c l W h.r hs hr (fun b off e => (hq b (hA b off e)).2) hn hu).mono ?_
  rintro e w' ⟨h1, h2, h3⟩
  refine ⟨h1, ⟨F, Gr G W w', ⟨h.p.keep h2 (fun i hi hg => h.dis i hi hg), h3, ext_kp h.ext h2 h.geG, h.geF, fun i hi => by rcases hi with hi | hi; exact h.geG i hi; exact Nat.le_trans h.ext.size hi.1, fun k hf hk => ?_⟩, fun _ hk => hk.elim⟩⟩
  rcases hk with hk | hk
  · exact h.dis k hf hk
  · have := h.p.lt k hf; omega
theorem h2_len {w W : World} {x y : Nat} {s : ByteArray} {la lb : List (List Sp)} {Q : Nat → Prop} [Tab w] (h : HTwo w W x y s la lb Q) (hs : SmH s la) : Calls Tryz.prog 13 #[.pointer (some ⟨x, 0, none⟩)] W fun e w' => e = .returned (.int .i64 (la.length : Int)) ∧ Ext W w' := by
  have hTb := tab_ext h.e
  obtain ⟨F, G, h, _⟩ := h
  exact lenP17_c x F s la W h.p hs
theorem h2_atP {w W : World} {x y : Nat} {s : ByteArray} {la lb : List (List Sp)} {Q : Nat → Prop} [Tab w] (h : HTwo w W x y s la lb Q) (hs : SmH s la) (hS : Small la) (r : Int) : Calls Tryz.prog 16 #[.pointer (some ⟨x, 0, none⟩), .int .i64 r] W fun e w' => e = .returned (atH s la r) ∧ Ext W w' := by
  have hTb := tab_ext h.e
  obtain ⟨F, G, h, _⟩ := h
  exact atP17_c x F s la r W h.p hs hS
theorem h2_atR {w W : World} {x y : Nat} {s : ByteArray} {la lb : List (List Sp)} {Q : Nat → Prop} [Tab w] (h : HTwo w W x y s la lb Q) (hs : SmH s lb) (r : Int) : Calls Tryz.prog 17 #[.pointer (some ⟨y, 0, none⟩), .int .i64 r] W fun e w' => e = .returned (atH s lb r) ∧ Ext W w' := by
  have hTb := tab_ext h.e
  obtain ⟨F, G, h, _⟩ := h
  exact atR17_c y G s lb r W h.r hs
theorem h2_overP {w W : World} {x y : Nat} {s : ByteArray} {la lb : List (List Sp)} {Q : Nat → Prop} [Tab w] (h : HTwo w W x y s la lb Q) (hs : SmH s la) {A : Option Addr} {n c : Nat} {a : List Sp} (r : Int) (hr : RdO W A n c a) (hS : SmT a la) : Calls Tryz.prog 14 #[.pointer (some ⟨x, 0, none⟩), .slice A n c, .int .i64 r] W (OpR W (overH s la a r) (overHL la a r)) := by
  have hTb := tab_ext h.e
  obtain ⟨F, G, h, _⟩ := h
  exact overP17_c x F s la A n c a r W h.p hs hr hS
theorem h2_overR {w W : World} {x y : Nat} {s : ByteArray} {la lb : List (List Sp)} {Q : Nat → Prop} [Tab w] (h : HTwo w W x y s la lb Q) (hs : SmH s lb) {A : Option Addr} {n c : Nat} {a : List Sp} (r : Int) (hr : RdO W A n c a) (hS : SmT a lb) : Calls Tryz.prog 15 #[.pointer (some ⟨y, 0, none⟩), .slice A n c, .int .i64 r] W (OpR W (overH s lb a r) (overHL lb a r)) := by
  have hTb := tab_ext h.e
  obtain ⟨F, G, h, _⟩ := h
  exact overR17_c y G s lb A n c a r W h.r hs hr hS
theorem h2_runP {w W : World} {x y : Nat} {s : ByteArray} {la lb : List (List Sp)} {Q : Nat → Prop} [Tab w] (h : HTwo w W x y s la lb Q) (hs : SmH s la) (r t : Int) (hS : Small la) : Calls Tryz.prog 18 #[.pointer (some ⟨x, 0, none⟩), .int .i64 r, .int .i64 t] W (OpR W (runH s la r t) (runHL s la r t)) := by
  have hTb := tab_ext h.e
  obtain ⟨F, G, h, _⟩ := h
  exact runP17_c x F s la r t W h.p hs hS
theorem h2_runR {w W : World} {x y : Nat} {s : ByteArray} {la lb : List (List Sp)} {Q : Nat → Prop} [Tab w] (h : HTwo w W x y s la lb Q) (hs : SmH s lb) (r t : Int) (hS : Small lb) : Calls Tryz.prog 19 #[.pointer (some ⟨y, 0, none⟩), .int .i64 r, .int .i64 t] W (OpR W (runH s lb r t) (runHL s lb r t)) := by
  have hTb := tab_ext h.e
  obtain ⟨F, G, h, _⟩ := h
  exact runR17_c y G s lb r t W h.r hs hS
theorem h2_logP {w W : World} {x y : Nat} {s : ByteArray} {la lb : List (List Sp)} {Q : Nat → Prop} [Tab w] (h : HTwo w W x y s la lb Q) (hs : SmH s la) : Calls Tryz.prog 22 #[.pointer (some ⟨x, 0, none⟩)] W (LogR W s la) := by
  have hTb := tab_ext h.e
  obtain ⟨F, G, h, _⟩ := h
  exact logP17_c x F s la W h.p hs
theorem h2_logR {w W : World} {x y : Nat} {s : ByteArray} {la lb : List (List Sp)} {Q : Nat → Prop} [Tab w] (h : HTwo w W x y s la lb Q) (hs : SmH s lb) : Calls Tryz.prog 23 #[.pointer (some ⟨y, 0, none⟩)] W (LogR W s lb) := by
  have hTb := tab_ext h.e
  obtain ⟨F, G, h, _⟩ := h
  exact logR17_c y G s lb W h.r hs
end Go.Proofs.YtgcaphjjigpjlaaGreatDoor
namespace Go.Proofs.YtgcaphjjigpjlaaGreatDoor
open Go.RowKit
set_option maxRecDepth 100000
set_option maxHeartbeats 4000000
set_option linter.unusedSimpArgs false
structure Sm17 (S : ByteArray) (FL : List (List Sp)) : Prop where
  ok : Hok S FL
  n20 : FL.length ≤ 20
  len : ∀ l ∈ FL, l.length ≤ 20
  lenS : lenS FL ≤ 260
  txt : S.size ≤ 80
  sum : sumTT FL ≤ 24000
theorem Sm17.lens {S : ByteArray} {FL : List (List Sp)} (h : Sm17 S FL) : ∀ l ∈ FL, l.length ≤ 1000 := fun l hl => by have := h.len l hl; omega
theorem Sm17.smH {S : ByteArray} {FL : List (List Sp)} (h : Sm17 S FL) : SmH S FL := ⟨by have := h.txt; omega, by have := h.n20; omega, h.lens, by have := h.sum; omega⟩
theorem Sm17.small {S : ByteArray} {FL : List (List Sp)} (h : Sm17 S FL) : Small FL := ⟨by have := h.lenS; omega, by have := h.sum; omega, by have := h.n20; omega⟩
theorem Sm17.at {S : ByteArray} {FL : List (List Sp)} (h : Sm17 S FL) {j : Nat} (hj : j ≤ FL.length) :
    ∃ ds, dec (bs (txt17 S FL j)) = some ds ∧ cntF (bs (txt17 S FL j)) = (ds.length : Int) ∧ ds.length ≤ 24080 ∧ segE (ds.length : Int) (FL.drop j) = 0 := by
  have hn : FL.length ≤ 900 := by have := h.n20; omega
  have hr := log_rest (hok_log h.ok hn) h.lens hj
  obtain ⟨ds, h1, h2, _, _, h5⟩ := logE_ok hr
  refine ⟨ds, h1, cntF_some h1, ?_, h5⟩
  have h3 := (dec_some h1).2
  have h4 : (bs (txt17 S FL j)).length = (txt17 S FL j).size := bs_length _
  have h6 := txt17_size (s := S) (ls := FL) j
  have h7 : ds.length ≤ (encs ds).length := by
    clear h1 h2 h3 h5
    induction ds with
    | nil => simp [encs]
    | cons a t ih =>
      have h : 0 < (enc1 a).length := by unfold enc1; split <;> (try split) <;> (try split) <;> simp
      simp only [encs, List.flatMap_cons, List.length_append, List.length_cons] at *
      omega
  have e : bs (txt17 S FL j) = bs (allL S (FL.take j)).1 := rfl
  rw [← e] at h3
  rw [h3] at h4
  have := h.txt; have := h.sum
  omega
theorem thru17 {n : Nat} {ls : List (List Sp)} (h : segE (n : Int) ls = 0) (hl : ∀ l ∈ ls, l.length ≤ 1000) : ∃ m, Thru (n : Int) ls m := ⟨_, chE_thru (segE_chE h) (by omega) hl⟩
theorem over17 {S : ByteArray} {FL : List (List Sp)} (h : Sm17 S FL) (a : List Sp) {j : Nat} (hj : j ≤ FL.length) {ds : List Nat} (hd : dec (bs (txt17 S FL j)) = some ds) :
    Good (fitL a (ds.length : Int)) ∧ SmT (fitL a (ds.length : Int)) FL ∧ overH S FL (fitL a (ds.length : Int)) (j : Int) = 0 ∧ (overHL FL (fitL a (ds.length : Int)) (j : Int)).length ≤ 300 := by
  obtain ⟨ds', h1, h2, h3, h4⟩ := h.at hj
  rw [hd] at h1
  injection h1 with h1
  subst h1
  obtain ⟨g1, g2, g3, g4, g5, g6⟩ := good_fit a (ds.length : Int) (by omega) (by omega)
  have hl : ∀ l ∈ FL.drop j, l.length ≤ 1000 := fun l hx => h.lens l (List.mem_of_mem_drop hx)
  obtain ⟨m, hT⟩ := thru17 h4 hl
  have b1 := lenS_take FL j
  have b3 := h.lenS
  rw [← g2] at hT
  obtain ⟨t1, t2, _, _, _⟩ := thruL_len g1 hT
  refine ⟨g1, smT_of g1 h.small (by omega), ?_, ?_⟩
  · unfold overH
    rw [if_neg (by omega), if_neg (by rw [g1.may]; simp), Int.toNat_natCast, h2, if_neg (by omega)]
    unfold thruE chainE
    rw [if_pos g1.may, g2, if_pos (by omega)]
    exact segE_chE h4
  · unfold overHL
    rw [Int.toNat_natCast]; omega
end Go.Proofs.YtgcaphjjigpjlaaGreatDoor
namespace Go.Proofs.YtgcaphjjigpjlaaGreatDoor
open Go.RowKit
set_option maxRecDepth 100000
set_option maxHeartbeats 4000000
set_option linter.unusedSimpArgs false
theorem wpAnyT_strong {P : Program} {ops : Array Oper} {Q : Exit → Act → World → Prop} {md : Region.Mode} {S S' : World → Prop} {m : Nat} (hS : ∀ w, S' w → S w) : ∀ (fuel : Nat) (listed : Array Bool) (a : Act) (w : World), wpAnyT P md ops Q S' m fuel listed a w → wpAnyT P md ops Q S m fuel listed a w
  | 0, _, _, _, h => h
  | fuel + 1, _, _, _, h => ⟨h.1, fun i hi => wpOp_mono (fun a' w' h' => ⟨fun hm => hS w' (h'.1 hm), wpAnyT_strong hS fuel _ a' w' h'.2⟩) (h.2 i hi)⟩
structure Bd17 (j : Nat) (la : List (List Sp)) : Prop where
  num : la.length ≤ j
  len : ∀ l ∈ la, l.length ≤ 20
  sum : sumTT la ≤ 1200 * j
  lens : lenS la ≤ 20 * j
theorem Bd17.smH {j : Nat} {la : List (List Sp)} (h : Bd17 j la) (hj : j ≤ 12) {S : ByteArray} (hS : S.size ≤ 80) : SmH S la := ⟨by omega, by have := h.num; omega, fun l hl => by have := h.len l hl; omega, by have := h.sum; omega⟩
theorem Bd17.small {j : Nat} {la : List (List Sp)} (h : Bd17 j la) (hj : j ≤ 12) : Small la := ⟨by have := h.lens; omega, by have := h.sum; omega, by have := h.num; omega⟩
theorem Bd17.app {j : Nat} {la : List (List Sp)} (h : Bd17 j la) (S : ByteArray) {X : List Sp} (h1 : X.length ≤ 20) (h2 : sumT X ≤ 1200) : Bd17 (j + 1) (appLs S la X) := by
  unfold appLs
  split
  · have hn := norm_len X
    have hs := sumT_norm X
    refine ⟨by rw [List.length_append, List.length_singleton]; have := h.num; omega, fun l hl => ?_, ?_, ?_⟩
    · rcases List.mem_append.1 hl with hl | hl
      · exact h.len l hl
      · rw [List.mem_singleton] at hl; subst hl; omega
    · rw [sumTT_append]; have := h.sum; simp only [sumTT, List.map_cons, List.map_nil, List.sum_cons, List.sum_nil] at *; omega
    · rw [lenS_append]; have := h.lens; simp only [lenS, List.map_cons, List.map_nil, List.sum_cons, List.sum_nil] at *; omega
  · exact ⟨by have := h.num; omega, h.len, by have := h.sum; omega, by have := h.lens; omega⟩
theorem log17_rd {U w' : World} {s : ByteArray} {la : List (List Sp)} {e : Ending} (h : LogR U s la e w') : Ext U w' ∧ ∃ A c B d, e = .returned (.agg #[.string s, .slice A (la.length + 1) c, .slice B la.length d]) ∧ Rd w' 1 (.slice A (la.length + 1) c) (la.length + 1) (nV (revL la.length)) ∧ RdSS w' B la.length d la := by
  obtain ⟨g1, A, n, c, B, m, d, g2, g3, g4⟩ := h
  obtain ⟨A', c', he, _, hss⟩ := g4.rd
  injection he with e1 e2 e3
  subst e1; subst e2; subst e3
  have hn := nV_len g3.rd
  rw [revL_len] at hn
  subst hn
  exact ⟨g1, A, c, _, _, g2, g3.rd, hss⟩
theorem historyPlays_even (s : ByteArray) (A : Option Addr) (n c : Nat) (ls : List (List Sp)) (A9 : Option Addr) (n9 k9 : Nat) (a : List Sp) (R T : Int) (w : World) [Tab w] (hs : s.size ≤ maxLen) (h : RdSS w A n c ls) (hls : ∀ l ∈ ls, ∀ x ∈ l, x.2.2.size ≤ maxLen) (hnn : n ≤ maxLen) (hl0 : Rd w 3 (.slice A9 n9 k9) n9 (spCells a)) (hl1 : a.length = n9) (hts : ∀ x ∈ a, x.2.2.size ≤ maxLen) (hM0 : ((n : Nat) : Int).tmod 2 = 0) :
    Calls Tryz.prog 3 #[.string s, .slice A n c, .agg #[.slice A9 n9 k9, .int .i64 R, .int .i64 T]] w fun e w' => e = .returned (.bool true) ∧ Ext w w' := by
  have hl : RdO w A9 n9 k9 a := ⟨hl1, hl0⟩
  have hnb : n ≤ 9223372036854775807 := by unfold maxLen at hnn; omega
  have HL := Lib.hid h; have HLS := Lib.hid hls; have HA9 := Lib.hid hl; have HTS := Lib.hid hts
  obtain ⟨zb, hzb⟩ : ∃ z, w.heap.size = z := ⟨_, rfl⟩
  obtain ⟨W0, hW0⟩ : ∃ V, w.alloc (.cells #[.slice A9 n9 k9, .int .i64 R, .int .i64 T] 25) = V := ⟨_, rfl⟩
  have HX0 : Hid (Ext w W0) := Lib.hid (by rw [← hW0]; exact (Ext.refl w).alloc _)
  have HBA : Hid (BxT 25 W0 zb #[.slice A9 n9 k9, .int .i64 R, .int .i64 T]) := Lib.hid (by rw [← hW0, ← hzb]; exact BxT.new w 25 _)
  have HSH := Lib.hid (fun w' (hx : Ext w w') => have hTb := tab_ext hx; shown17_c w')
  obtain ⟨TT, cs, hm1, hm2, hTl, hT0, hsz, HFIT, HCP, hcl, hUs, HD⟩ := cut_fit s 20 20 rfl (by omega) hs
  have hraw : (s.extract 0 TT).size ≤ 80 := by rw [ByteArray.size_extract]; omega
  have HW0 := Lib.hid hW0; have HZB := Lib.hid hzb
  obtain ⟨M2, hM2⟩ : ∃ m : Int, ((n : Nat) : Int).tmod 2 = m := ⟨_, rfl⟩
  clear h hls hl0 hl1 hl hts hnn hW0 hzb HD HCP
  have hM : M2 = 0 := by rw [← hM2]; exact hM0
  clear hM0
  have t1 : (M2 == 0) = true := by rw [beq_iff_eq]; exact hM
  obtain ⟨SN, hSN⟩ : ∃ S, mkS (encs cs) = S := ⟨_, rfl⟩
  rw [hSN] at HFIT hUs
  have HSN : Hid (SN.size ≤ 80) := Lib.hid (by omega)
  clear hM hSN hraw
  go_enter Tryz.func3, Tryz.ntmps3
  go_wp2_with fail
  rw [HW0.out, HZB.out]
  refine (HSH.out _ HX0.out).mono ?_; rintro e w1 ⟨rfl, hx1⟩
  have HX1 := Lib.hid (HX0.out.trans hx1); have HX01 := Lib.hid hx1; clear hx1
  go_wp2_with fail
  refine (HFIT.out _).mono ?_; rintro e WV ⟨rfl, hx2⟩
  have HWV : Hid (Ext w WV) := Lib.hid (HX1.out.trans hx2)
  have HWZ : Hid (Ext W0 WV) := Lib.hid (HX01.out.trans hx2)
  clear hx2 t1
  go_wp2_with fail
  all_goals
    clear HFIT HX1 HX01 HSH hm1 hm2 hM2
    have HNP := Lib.hid (fun V (hx : Ext w V) => have hTb := tab_ext hx; newP17_c SN V (by have := HSN.out; omega))
    have HNR := Lib.hid (fun V => newR17_c SN V (by have := HSN.out; omega))
    unfold NewR at HNP HNR
    by_cases hn0 : newH SN = 0
    · refine (HNP.out _ HWV.out).mono ?_; rintro e w3 ⟨hx3, -, he⟩
      obtain ⟨x, F, rfl, hp, hF⟩ := he hn0
      have HNR2 := HNR.out w3
      have HPP := Lib.hid hp
      clear HNP HNR he
      go_wp2_with fail
      refine HNR2.mono ?_; rintro e w4 ⟨hx4, -, he⟩
      obtain ⟨y, G, rfl, hr, hG⟩ := he hn0
      have H4 : Hid (HTwo WV w4 x y SN [] [] (fun _ => False)) := Lib.hid (h2_new hx3 HPP.out hF hx4 hr hG)
      clear HNR2 HPP he hr hG hF hx3 hx4 hn0
      go_wp2_with fail
      go_loopw [13] (fun iv wr => ∃ (j : Nat) (la : List (List Sp)), j ≤ 12 ∧ j ≤ n ∧ iv = .int .i64 j ∧ Hid (HTwo WV wr x y SN la la (fun _ => False)) ∧ Hid (Bd17 j la)) (fun iv _ => 12 - (intOf iv).toNat)
      case atStart => exact ⟨0, [], by omega, by omega, rfl, H4, Lib.hid ⟨by simp, by simp, by simp [sumTT], by simp [lenS]⟩⟩
      case round =>
        clear H4
        obtain ⟨j, la, hj, hjn, rfl, HZ, HBD⟩ := hrel
        by_cases hlt : j < n ∧ j < 12
        · have hxw : Ext w wr := HWV.out.trans HZ.out.e
          have hjl : j < ls.length := by have := HL.out.1; omega
          obtain ⟨bb, off, aa, kc, rfl, hbb, q0, hr⟩ := (HL.out.ext hxw).at_ hlt.1 hjl
          have hsz := HLS.out _ (List.getElem_mem hjl)
          obtain ⟨RW, hRW⟩ : ∃ l, ls[j] = l := ⟨_, rfl⟩
          rw [hRW] at q0 hr hsz
          obtain ⟨k, hk⟩ : ∃ k, RW.length = k := ⟨_, rfl⟩
          rw [hk] at q0 hr
          have d1 : decide (j < n) = true := by rw [decide_eq_true_eq]; exact hlt.1
          have d2 : decide ((j : Int) < 12) = true := by rw [decide_eq_true_eq]; omega
          have i0 : (0 : Int) ≤ (j : Int) := by omega
          have i1 : (j : Int) < (n : Int) := by omega
          have HFE := Lib.hid (fun U (hx : Ext wr U) => few17_c aa k kc RW U (hr.ext hx) hk hsz)
          obtain ⟨ds, hd1, hd2⟩ := hok_last HZ.out.ok (fun l hl => by have := HBD.out.len l hl; omega)
          have hcn : cntF (bs (txt17 SN la la.length)) = (ds.length : Int) := cntF_some hd1
          have HFI := Lib.hid (fun U (hx : Ext wr U) => fitR4_c aa k kc RW (ds.length : Int) U (hr.ext hx) hk hsz (by omega) (by omega))
          have HCN : Hid (∀ U, Calls Tryz.prog 10 #[.string (txt17 SN la la.length)] U fun e w' => e = .returned (.int .i64 (ds.length : Int)) ∧ Ext U w') := Lib.hid fun U => by
            have g := count_c (txt17 SN la la.length) U (by have := txt17_size (s := SN) (ls := la) la.length; have := HBD.out.sum; have := HSN.out; omega)
            rw [hcn] at g; exact g
          obtain ⟨g, c1, A2, d3, y0, y1, yt⟩ := HZ.out.cells
          have yt := yt la.length (Nat.le_refl _)
          have hXLf : (fewL17 RW).length ≤ 20 := by rw [fewL17_len]; omega
          have hXSf : sumT (fewL17 RW) ≤ 1200 := by
            have h1 := sumT_le (fewL17 RW) 60 (fewL17_size RW)
            have : (fewL17 RW).length * 60 ≤ 20 * 60 := Nat.mul_le_mul_right _ hXLf
            omega
          have hln := HBD.out.num
          have hwm : IntKind.i64.wrap (((la.length : Int) + 1) - 1) = (la.length : Int) := by rw [IntKind.wrap_i64]; omega
          have hwm2 : IntKind.i64.wrap ((((la.length + 1 : Nat)) : Int) - 1) = (la.length : Int) := by rw [IntKind.wrap_i64]; omega
          have j0 : (0 : Int) ≤ (la.length : Int) := by omega
          have j1 : (la.length : Int) < (la.length : Int) + 1 := by omega
          have j2 : (la.length : Int) < ((la.length + 1 : Nat) : Int) := by omega
          obtain ⟨M3, hM3⟩ : ∃ m : Int, ((j : Nat) : Int).tmod 3 = m := ⟨_, rfl⟩
          have hxl13 := fitL_len RW (ds.length : Int)
          have hxs13 := fit_sumT RW (ds.length : Int)
          generalize fitL RW (ds.length : Int) = XF at *
          generalize (ds.length : Int) = NL at *
          generalize txt17 SN la la.length = TL at *
          obtain ⟨ll, hll⟩ : ∃ m, la.length = m := ⟨_, rfl⟩
          rw [hll] at y0 y1 yt hwm hwm2 j0 j1 j2
          have hll2 : ll ≤ 12 := by omega
          clear hr hsz hRW hk hd1 hd2 hcn hll hln hxw
          have HZ2 := HZ
          go_wp2_with fail
          refine (HFE.out _ (Ext.refl _)).mono ?_; rintro e wf ⟨vf, rfl, hxf, ownf⟩
          by_cases hm3 : M3 = 2
          · have t3 : (M3 != 2) = false := by rw [hm3]; rfl
            have HXL := Lib.hid hXLf; have HXS := Lib.hid hXSf
            obtain ⟨ar, cr, rfl, _⟩ := ownf.len
            obtain ⟨nr, hnr⟩ : ∃ n, (fewL17 RW).length = n := ⟨_, rfl⟩
            rw [hnr] at ownf ⊢
            clear hm3 HFE HFI HCN hxl13 hxs13 hXLf hXSf y0 y1 yt
            go_wp2_with fail
            obtain ⟨WX, hWX⟩ : ∃ V, wf = V := ⟨_, rfl⟩
            have hown : Own WX wr.heap.size 60 3 (.slice ar nr cr) nr (spCells (fewL17 RW)) := by rw [← hWX]; exact ownf
            have hxx : Ext wr WX := by rw [← hWX]; exact hxf
            rw [hWX]
            clear hWX
            have HQ5 : Hid (HTwo WV WX x y SN la la (fun b => (.slice ar nr cr : Value).ownBlock = some b)) := Lib.hid ((HZ.out.fresh fun b hb => (hown.lt hb).1).next hxx)
            have HR5 : Hid (RdO WX ar nr cr (fewL17 RW)) := Lib.hid ⟨hnr, hown.rd⟩
            have hXl : ((fewL17 RW)).length ≤ 20 := HXL.out
            have hXs : sumT ((fewL17 RW)) ≤ 1200 := HXS.out
            have HBN := Lib.hid (HBD.out.app SN hXl hXs)
            have HAPP : Hid (∀ V, HTwo WV V x y SN la la (fun b => (.slice ar nr cr : Value).ownBlock = some b) → RdO V ar nr cr ((fewL17 RW)) → WX.heap.size ≤ V.heap.size → Calls Tryz.prog 11 #[.pointer (some ⟨x, 0, none⟩), .slice ar nr cr] V fun e w' => e = .returned (.int .i64 (appE SN la ((fewL17 RW)))) ∧ HTwo WV w' x y SN (appLs SN la ((fewL17 RW))) la (fun b => (.slice ar nr cr : Value).ownBlock = some b) ∧ RdO w' ar nr cr ((fewL17 RW))) := Lib.hid fun V hh hr hsz => by
              have hTb := tab_ext HWV.out
              refine (h2_appP hh (fun k hk => Nat.lt_of_lt_of_le (hown.lt hk).2 hsz) (HBD.out.smH (by omega) HSN.out) hr (fun b off e => by rw [e]; rfl) (by have := hr.1; omega) (by omega)).mono ?_
              rintro e w' ⟨g1, g2, g3, _⟩
              exact ⟨g1, g2, g3⟩
            have HAPR : Hid (∀ V, HTwo WV V x y SN (appLs SN la ((fewL17 RW))) la (fun b => (.slice ar nr cr : Value).ownBlock = some b) → RdO V ar nr cr ((fewL17 RW)) → Calls Tryz.prog 12 #[.pointer (some ⟨y, 0, none⟩), .slice ar nr cr] V fun e w' => e = .returned (.int .i64 (appE SN la ((fewL17 RW)))) ∧ HTwo WV w' x y SN (appLs SN la ((fewL17 RW))) (appLs SN la ((fewL17 RW))) (fun _ => False)) := Lib.hid fun V hh hr =>
              h2_appR hh (HBD.out.smH (by omega) HSN.out) hr (fun b off e => by rw [e]; rfl) (by have := hr.1; omega) (by omega)
            have HLEN7 : Hid (∀ V, HTwo WV V x y SN (appLs SN la ((fewL17 RW))) (appLs SN la ((fewL17 RW))) (fun _ => False) → Calls Tryz.prog 13 #[.pointer (some ⟨x, 0, none⟩)] V fun e w' => e = .returned (.int .i64 ((appLs SN la ((fewL17 RW))).length : Int)) ∧ Ext V w') := Lib.hid fun V hh => by
              have hTb := tab_ext HWV.out
              exact h2_len hh (HBN.out.smH (by omega) HSN.out)
            clear hown hxx hXl hXs HZ HBD
            generalize appLs SN la ((fewL17 RW)) = LA at *
            generalize appE SN la ((fewL17 RW)) = EA at *
            refine region_T (fun _ => True) 20 (by kernel_rfl) (True.intro) (fun hHeld => ?_)
            obtain ⟨Wd, hWd⟩ : ∃ x, WX.drew = x := ⟨_, rfl⟩
            rw [hWd]
            have hdx : Ext WX Wd := by rw [← hWd]; exact (Ext.refl _).drew
            clear hWd
            refine wpAnyT_take (i := 0) (v := ?_) rfl (by kernel_rfl) (fun _ _ _ h => h) (Or.inl ⟨by rfl, ?_⟩) (by assumption) ?_
            rotate_left
            · (intro W hSw; (try dsimp only at hSw); go_simp; (try with_reducible rfl))
            try simp only [Act.put, List.getElem_toArray, List.getElem_cons_succ, List.getElem_cons_zero, List.setIfInBounds_toArray, List.set_cons_zero, List.set_cons_succ]
            refine wpAnyT_take (i := 1) (v := ?_) rfl (by kernel_rfl) (fun _ _ _ h => h) (Or.inl ⟨by rfl, ?_⟩) (by assumption) ?_
            rotate_left
            · (intro W hSw; (try dsimp only at hSw); go_simp; (try with_reducible rfl))
            try simp only [Act.put, List.getElem_toArray, List.getElem_cons_succ, List.getElem_cons_zero, List.setIfInBounds_toArray, List.set_cons_zero, List.set_cons_succ]
            refine wpAnyT_take (i := 2) (v := ?_) rfl (by kernel_rfl) (fun _ _ _ h => h) (Or.inl ⟨by rfl, ?_⟩) (by assumption) ?_
            rotate_left
            · (intro W hSw; (try dsimp only at hSw); go_simp; (try with_reducible rfl))
            try simp only [Act.put, List.getElem_toArray, List.getElem_cons_succ, List.getElem_cons_zero, List.setIfInBounds_toArray, List.set_cons_zero, List.set_cons_succ]
            refine wpAnyT_take (i := 3) (v := ?_) rfl (by kernel_rfl) (fun _ _ _ h => h) (Or.inl ⟨by rfl, ?_⟩) (by assumption) ?_
            rotate_left
            · (intro W hSw; (try dsimp only at hSw); go_simp; (try with_reducible rfl))
            try simp only [Act.put, List.getElem_toArray, List.getElem_cons_succ, List.getElem_cons_zero, List.setIfInBounds_toArray, List.set_cons_zero, List.set_cons_succ]
            refine wpAnyT_take (i := 5) (v := ?_) rfl (by kernel_rfl) (fun _ _ _ h => h) (Or.inl ⟨by rfl, ?_⟩) (by assumption) ?_
            rotate_left
            · (intro W hSw; (try dsimp only at hSw); go_simp; (try with_reducible rfl))
            try simp only [Act.put, List.getElem_toArray, List.getElem_cons_succ, List.getElem_cons_zero, List.setIfInBounds_toArray, List.set_cons_zero, List.set_cons_succ]
            refine wpAnyT_take (i := 6) (v := ?_) rfl (by kernel_rfl) (fun _ _ _ h => h) (Or.inl ⟨by rfl, ?_⟩) (by assumption) ?_
            rotate_left
            · (intro W hSw; (try dsimp only at hSw); go_simp; (try with_reducible rfl))
            try simp only [Act.put, List.getElem_toArray, List.getElem_cons_succ, List.getElem_cons_zero, List.setIfInBounds_toArray, List.set_cons_zero, List.set_cons_succ]
            refine wpAnyT_one (i := 4) rfl (by kernel_rfl) (fun K hK => ?_)
            go_simp
            refine (HAPP.out _ (HQ5.out.next hdx) (HR5.out.ext hdx) hdx.size).mono ?_; rintro e wp ⟨rfl, hp6, rp6⟩
            refine hK.out _ _ (fun _ => True.intro) (fun hH => ?_)
            replace hHeld := hH (by decide)
            clear hK K hH
            try simp only [Act.put, List.getElem_toArray, List.getElem_cons_succ, List.getElem_cons_zero, List.setIfInBounds_toArray, List.set_cons_zero, List.set_cons_succ]
            refine wpAnyT_one (i := 7) rfl (by kernel_rfl) (fun K hK => ?_)
            go_simp
            refine (HAPR.out _ hp6 rp6).mono ?_; rintro e wq ⟨rfl, hq7⟩
            obtain ⟨_, _, A7, d7, _, y7, _⟩ := hq7.cells
            refine hK.out _ _ (fun _ => True.intro) (fun hH => ?_)
            replace hHeld := hH (by decide)
            clear hK K hH
            try simp only [Act.put, List.getElem_toArray, List.getElem_cons_succ, List.getElem_cons_zero, List.setIfInBounds_toArray, List.set_cons_zero, List.set_cons_succ]
            refine wpAnyT_strong (S' := fun V => V.cell? ⟨y, 1, none⟩ = some (.slice A7 LA.length d7)) (fun _ _ => True.intro) _ _ _ _ ?_
            clear hHeld
            have hHeld := y7
            refine wpAnyT_take (i := 8) (v := ?_) rfl (by kernel_rfl) (fun _ _ _ h => h) (Or.inl ⟨by rfl, ?_⟩) (by assumption) ?_
            rotate_left
            · (intro W hSw; (try dsimp only at hSw); go_simp; (try with_reducible rfl))
            try simp only [Act.put, List.getElem_toArray, List.getElem_cons_succ, List.getElem_cons_zero, List.setIfInBounds_toArray, List.set_cons_zero, List.set_cons_succ]
            refine wpAnyT_take (i := 9) (v := ?_) rfl (by kernel_rfl) (fun _ _ _ h => h) (Or.inl ⟨by rfl, ?_⟩) (by assumption) ?_
            rotate_left
            · (intro W hSw; (try dsimp only at hSw); go_simp; (try with_reducible rfl))
            try simp only [Act.put, List.getElem_toArray, List.getElem_cons_succ, List.getElem_cons_zero, List.setIfInBounds_toArray, List.set_cons_zero, List.set_cons_succ]
            refine wpAnyT_take (i := 10) (v := ?_) rfl (by kernel_rfl) (fun _ _ _ h => h) (Or.inl ⟨by rfl, ?_⟩) (by assumption) ?_
            rotate_left
            · (intro W hSw; (try dsimp only at hSw); go_simp; (try with_reducible rfl))
            try simp only [Act.put, List.getElem_toArray, List.getElem_cons_succ, List.getElem_cons_zero, List.setIfInBounds_toArray, List.set_cons_zero, List.set_cons_succ]
            refine wpAnyT_take (i := 11) (v := ?_) rfl (by kernel_rfl) (fun _ _ _ h => h) (Or.inl ⟨by rfl, ?_⟩) (by assumption) ?_
            rotate_left
            · (intro W hSw; (try dsimp only at hSw); go_simp; (try with_reducible rfl))
            try simp only [Act.put, List.getElem_toArray, List.getElem_cons_succ, List.getElem_cons_zero, List.setIfInBounds_toArray, List.set_cons_zero, List.set_cons_succ]
            refine wpAnyT_take (i := 12) (v := ?_) rfl (by kernel_rfl) (fun _ _ _ h => h) (Or.inl ⟨by rfl, ?_⟩) (by assumption) ?_
            rotate_left
            · (intro W hSw; (try dsimp only at hSw); go_simp; (try with_reducible rfl))
            try simp only [Act.put, List.getElem_toArray, List.getElem_cons_succ, List.getElem_cons_zero, List.setIfInBounds_toArray, List.set_cons_zero, List.set_cons_succ]
            refine wpAnyT_take (i := 14) (v := ?_) rfl (by kernel_rfl) (fun _ _ _ h => h) (Or.inl ⟨by rfl, ?_⟩) (by assumption) ?_
            rotate_left
            · (intro W hSw; (try dsimp only at hSw); go_simp; (try with_reducible rfl))
            try simp only [Act.put, List.getElem_toArray, List.getElem_cons_succ, List.getElem_cons_zero, List.setIfInBounds_toArray, List.set_cons_zero, List.set_cons_succ]
            refine wpAnyT_take (i := 15) (v := ?_) rfl (by kernel_rfl) (fun _ _ _ h => h) (Or.inl ⟨by rfl, ?_⟩) (by assumption) ?_
            rotate_left
            · (intro W hSw; (try dsimp only at hSw); go_simp; (try with_reducible rfl))
            try simp only [Act.put, List.getElem_toArray, List.getElem_cons_succ, List.getElem_cons_zero, List.setIfInBounds_toArray, List.set_cons_zero, List.set_cons_succ]
            refine wpAnyT_take (i := 16) (v := ?_) rfl (by kernel_rfl) (fun _ _ _ h => h) (Or.inl ⟨by rfl, ?_⟩) (by assumption) ?_
            rotate_left
            · (intro W hSw; (try dsimp only at hSw); go_simp; (try with_reducible rfl))
            try simp only [Act.put, List.getElem_toArray, List.getElem_cons_succ, List.getElem_cons_zero, List.setIfInBounds_toArray, List.set_cons_zero, List.set_cons_succ]
            refine wpAnyT_take (i := 17) (v := ?_) rfl (by kernel_rfl) (fun _ _ _ h => h) (Or.inl ⟨by rfl, ?_⟩) (by assumption) ?_
            rotate_left
            · (intro W hSw; (try dsimp only at hSw); go_simp; (try with_reducible rfl))
            try simp only [Act.put, List.getElem_toArray, List.getElem_cons_succ, List.getElem_cons_zero, List.setIfInBounds_toArray, List.set_cons_zero, List.set_cons_succ]
            refine wpAnyT_take (i := 18) (v := ?_) rfl (by kernel_rfl) (fun _ _ _ h => h) (Or.inl ⟨by rfl, ?_⟩) (by assumption) ?_
            rotate_left
            · (intro W hSw; (try dsimp only at hSw); go_simp; (try with_reducible rfl))
            try simp only [Act.put, List.getElem_toArray, List.getElem_cons_succ, List.getElem_cons_zero, List.setIfInBounds_toArray, List.set_cons_zero, List.set_cons_succ]
            refine wpAnyT_one (i := 13) rfl (by kernel_rfl) (fun K hK => ?_)
            go_simp
            refine (HLEN7.out _ hq7).mono ?_; rintro e we ⟨rfl, hx8⟩
            refine hK.out _ _ (fun _ => ext_cell hx8 y7) (fun hH => ?_)
            replace hHeld := hH (by decide)
            clear hK K hH
            try simp only [Act.put, List.getElem_toArray, List.getElem_cons_succ, List.getElem_cons_zero, List.setIfInBounds_toArray, List.set_cons_zero, List.set_cons_succ]
            refine wpAnyT_take (i := 19) (v := ?_) rfl (by kernel_rfl) (fun _ _ _ h => h) (Or.inl ⟨by rfl, ?_⟩) (by assumption) ?_
            rotate_left
            · (intro W hSw; (try dsimp only at hSw); go_simp; (try with_reducible rfl))
            try simp only [Act.put, List.getElem_toArray, List.getElem_cons_succ, List.getElem_cons_zero, List.setIfInBounds_toArray, List.set_cons_zero, List.set_cons_succ]
            refine wpAnyT_one (i := 20) rfl (by kernel_rfl) (fun K hK => ?_)
            go_simp
            refine hK.out _ _ (fun h => absurd rfl h) (fun _ => ?_)
            clear hK K hHeld
            try simp only [Act.put, List.getElem_toArray, List.getElem_cons_succ, List.getElem_cons_zero, List.setIfInBounds_toArray, List.set_cons_zero, List.set_cons_succ]
            refine wpAnyT_done (by kernel_rfl) ?_ _
            have H9 := Lib.hid (hq7.next hx8)
            clear hq7 hx8 hp6 rp6 hdx HQ5 HR5 HAPP HAPR HLEN7
            go_wp2_with fail
            go_roundw
            case rel => exact ⟨j + 1, LA, by omega, by omega, by go_num, H9, HBN⟩
            case measure => simp [intOf]; omega
          · have t3 : (M3 != 2) = true := by rw [bne_iff_ne]; exact hm3
            have HXL : Hid (XF.length ≤ 20) := Lib.hid (by omega)
            have HXS : Hid (sumT XF ≤ 1200) := Lib.hid (by omega)
            have z0 := ext_cell hxf q0; have z1 := ext_cell hxf y0; have z2 := ext_cell hxf yt
            have HXF := Lib.hid hxf
            clear hm3 HFE ownf y0 y1 yt q0 hXLf hXSf hxl13 hxs13
            go_wp2_with fail
            have hwm3 : IntKind.i64.wrap (ll : Int) = (ll : Int) := by rw [IntKind.wrap_i64]; omega
            have hrr := Ext.refl wf
            go_region_held3 (fun V => Ext wf V ∧ V.cell? ⟨bb, off + j, none⟩ = some (.slice aa k kc) ∧ V.cell? ⟨y, 0, none⟩ = some (.slice (some ⟨g, 0, none⟩) (ll + 1) c1) ∧ V.cell? ⟨g, ll, none⟩ = some (.string TL))
              ((go_split_ands; refine ⟨?_, ?_, ?_, ?_⟩ <;> first | (exact Ext.drew ‹_›) | (exact Ext.trans ‹_› hxk) | (exact ext_cell hxk ‹_›) | go_keep))
              (first
              | (go_at_call 10; go_split_ands; refine (HCN.out _).mono ?_; rintro e u1 ⟨rfl, hxk⟩)
              | (go_at_call 9; go_split_ands; refine (HFI.out _ (HXF.out.trans ‹Ext wf _›)).mono ?_; rintro e wg ⟨vg, rfl, hxk, owng⟩)
              | fail)
            go_split_ands
            have hE := ‹Ext wf wg›
            have hU := ‹Ext wf u1›
            obtain ⟨ar, cr, rfl, _⟩ := owng.len
            obtain ⟨nr, hnr⟩ : ∃ n, XF.length = n := ⟨_, rfl⟩
            rw [hnr] at owng ⊢
            have HOG := Lib.hid (owng.more (Nat.le_trans HXF.out.size hU.size))
            have HEG := Lib.hid (HXF.out.trans hE)
            clear owng hE hU hwm3 HFI HCN hrr
            go_wp2_with fail
            obtain ⟨WX, hWX⟩ : ∃ V, wg = V := ⟨_, rfl⟩
            have hown : Own WX wr.heap.size 60 3 (.slice ar nr cr) nr (spCells XF) := by rw [← hWX]; exact HOG.out
            have hxx : Ext wr WX := by rw [← hWX]; exact HEG.out
            rw [hWX]
            clear hWX
            have HQ5 : Hid (HTwo WV WX x y SN la la (fun b => (.slice ar nr cr : Value).ownBlock = some b)) := Lib.hid ((HZ.out.fresh fun b hb => (hown.lt hb).1).next hxx)
            have HR5 : Hid (RdO WX ar nr cr XF) := Lib.hid ⟨hnr, hown.rd⟩
            have hXl : (XF).length ≤ 20 := HXL.out
            have hXs : sumT (XF) ≤ 1200 := HXS.out
            have HBN := Lib.hid (HBD.out.app SN hXl hXs)
            have HAPP : Hid (∀ V, HTwo WV V x y SN la la (fun b => (.slice ar nr cr : Value).ownBlock = some b) → RdO V ar nr cr (XF) → WX.heap.size ≤ V.heap.size → Calls Tryz.prog 11 #[.pointer (some ⟨x, 0, none⟩), .slice ar nr cr] V fun e w' => e = .returned (.int .i64 (appE SN la (XF))) ∧ HTwo WV w' x y SN (appLs SN la (XF)) la (fun b => (.slice ar nr cr : Value).ownBlock = some b) ∧ RdO w' ar nr cr (XF)) := Lib.hid fun V hh hr hsz => by
              have hTb := tab_ext HWV.out
              refine (h2_appP hh (fun k hk => Nat.lt_of_lt_of_le (hown.lt hk).2 hsz) (HBD.out.smH (by omega) HSN.out) hr (fun b off e => by rw [e]; rfl) (by have := hr.1; omega) (by omega)).mono ?_
              rintro e w' ⟨g1, g2, g3, _⟩
              exact ⟨g1, g2, g3⟩
            have HAPR : Hid (∀ V, HTwo WV V x y SN (appLs SN la (XF)) la (fun b => (.slice ar nr cr : Value).ownBlock = some b) → RdO V ar nr cr (XF) → Calls Tryz.prog 12 #[.pointer (some ⟨y, 0, none⟩), .slice ar nr cr] V fun e w' => e = .returned (.int .i64 (appE SN la (XF))) ∧ HTwo WV w' x y SN (appLs SN la (XF)) (appLs SN la (XF)) (fun _ => False)) := Lib.hid fun V hh hr =>
              h2_appR hh (HBD.out.smH (by omega) HSN.out) hr (fun b off e => by rw [e]; rfl) (by have := hr.1; omega) (by omega)
            have HLEN7 : Hid (∀ V, HTwo WV V x y SN (appLs SN la (XF)) (appLs SN la (XF)) (fun _ => False) → Calls Tryz.prog 13 #[.pointer (some ⟨x, 0, none⟩)] V fun e w' => e = .returned (.int .i64 ((appLs SN la (XF)).length : Int)) ∧ Ext V w') := Lib.hid fun V hh => by
              have hTb := tab_ext HWV.out
              exact h2_len hh (HBN.out.smH (by omega) HSN.out)
            clear hown hxx hXl hXs HZ HBD
            generalize appLs SN la (XF) = LA at *
            generalize appE SN la (XF) = EA at *
            refine region_T (fun _ => True) 20 (by kernel_rfl) (True.intro) (fun hHeld => ?_)
            obtain ⟨Wd, hWd⟩ : ∃ x, WX.drew = x := ⟨_, rfl⟩
            rw [hWd]
            have hdx : Ext WX Wd := by rw [← hWd]; exact (Ext.refl _).drew
            clear hWd
            refine wpAnyT_take (i := 0) (v := ?_) rfl (by kernel_rfl) (fun _ _ _ h => h) (Or.inl ⟨by rfl, ?_⟩) (by assumption) ?_
            rotate_left
            · (intro W hSw; (try dsimp only at hSw); go_simp; (try with_reducible rfl))
            try simp only [Act.put, List.getElem_toArray, List.getElem_cons_succ, List.getElem_cons_zero, List.setIfInBounds_toArray, List.set_cons_zero, List.set_cons_succ]
            refine wpAnyT_take (i := 1) (v := ?_) rfl (by kernel_rfl) (fun _ _ _ h => h) (Or.inl ⟨by rfl, ?_⟩) (by assumption) ?_
            rotate_left
            · (intro W hSw; (try dsimp only at hSw); go_simp; (try with_reducible rfl))
            try simp only [Act.put, List.getElem_toArray, List.getElem_cons_succ, List.getElem_cons_zero, List.setIfInBounds_toArray, List.set_cons_zero, List.set_cons_succ]
            refine wpAnyT_take (i := 2) (v := ?_) rfl (by kernel_rfl) (fun _ _ _ h => h) (Or.inl ⟨by rfl, ?_⟩) (by assumption) ?_
            rotate_left
            · (intro W hSw; (try dsimp only at hSw); go_simp; (try with_reducible rfl))
            try simp only [Act.put, List.getElem_toArray, List.getElem_cons_succ, List.getElem_cons_zero, List.setIfInBounds_toArray, List.set_cons_zero, List.set_cons_succ]
            refine wpAnyT_take (i := 3) (v := ?_) rfl (by kernel_rfl) (fun _ _ _ h => h) (Or.inl ⟨by rfl, ?_⟩) (by assumption) ?_
            rotate_left
            · (intro W hSw; (try dsimp only at hSw); go_simp; (try with_reducible rfl))
            try simp only [Act.put, List.getElem_toArray, List.getElem_cons_succ, List.getElem_cons_zero, List.setIfInBounds_toArray, List.set_cons_zero, List.set_cons_succ]
            refine wpAnyT_take (i := 5) (v := ?_) rfl (by kernel_rfl) (fun _ _ _ h => h) (Or.inl ⟨by rfl, ?_⟩) (by assumption) ?_
            rotate_left
            · (intro W hSw; (try dsimp only at hSw); go_simp; (try with_reducible rfl))
            try simp only [Act.put, List.getElem_toArray, List.getElem_cons_succ, List.getElem_cons_zero, List.setIfInBounds_toArray, List.set_cons_zero, List.set_cons_succ]
            refine wpAnyT_take (i := 6) (v := ?_) rfl (by kernel_rfl) (fun _ _ _ h => h) (Or.inl ⟨by rfl, ?_⟩) (by assumption) ?_
            rotate_left
            · (intro W hSw; (try dsimp only at hSw); go_simp; (try with_reducible rfl))
            try simp only [Act.put, List.getElem_toArray, List.getElem_cons_succ, List.getElem_cons_zero, List.setIfInBounds_toArray, List.set_cons_zero, List.set_cons_succ]
            refine wpAnyT_one (i := 4) rfl (by kernel_rfl) (fun K hK => ?_)
            go_simp
            refine (HAPP.out _ (HQ5.out.next hdx) (HR5.out.ext hdx) hdx.size).mono ?_; rintro e wp ⟨rfl, hp6, rp6⟩
            refine hK.out _ _ (fun _ => True.intro) (fun hH => ?_)
            replace hHeld := hH (by decide)
            clear hK K hH
            try simp only [Act.put, List.getElem_toArray, List.getElem_cons_succ, List.getElem_cons_zero, List.setIfInBounds_toArray, List.set_cons_zero, List.set_cons_succ]
            refine wpAnyT_one (i := 7) rfl (by kernel_rfl) (fun K hK => ?_)
            go_simp
            refine (HAPR.out _ hp6 rp6).mono ?_; rintro e wq ⟨rfl, hq7⟩
            obtain ⟨_, _, A7, d7, _, y7, _⟩ := hq7.cells
            refine hK.out _ _ (fun _ => True.intro) (fun hH => ?_)
            replace hHeld := hH (by decide)
            clear hK K hH
            try simp only [Act.put, List.getElem_toArray, List.getElem_cons_succ, List.getElem_cons_zero, List.setIfInBounds_toArray, List.set_cons_zero, List.set_cons_succ]
            refine wpAnyT_strong (S' := fun V => V.cell? ⟨y, 1, none⟩ = some (.slice A7 LA.length d7)) (fun _ _ => True.intro) _ _ _ _ ?_
            clear hHeld
            have hHeld := y7
            refine wpAnyT_take (i := 8) (v := ?_) rfl (by kernel_rfl) (fun _ _ _ h => h) (Or.inl ⟨by rfl, ?_⟩) (by assumption) ?_
            rotate_left
            · (intro W hSw; (try dsimp only at hSw); go_simp; (try with_reducible rfl))
            try simp only [Act.put, List.getElem_toArray, List.getElem_cons_succ, List.getElem_cons_zero, List.setIfInBounds_toArray, List.set_cons_zero, List.set_cons_succ]
            refine wpAnyT_take (i := 9) (v := ?_) rfl (by kernel_rfl) (fun _ _ _ h => h) (Or.inl ⟨by rfl, ?_⟩) (by assumption) ?_
            rotate_left
            · (intro W hSw; (try dsimp only at hSw); go_simp; (try with_reducible rfl))
            try simp only [Act.put, List.getElem_toArray, List.getElem_cons_succ, List.getElem_cons_zero, List.setIfInBounds_toArray, List.set_cons_zero, List.set_cons_succ]
            refine wpAnyT_take (i := 10) (v := ?_) rfl (by kernel_rfl) (fun _ _ _ h => h) (Or.inl ⟨by rfl, ?_⟩) (by assumption) ?_
            rotate_left
            · (intro W hSw; (try dsimp only at hSw); go_simp; (try with_reducible rfl))
            try simp only [Act.put, List.getElem_toArray, List.getElem_cons_succ, List.getElem_cons_zero, List.setIfInBounds_toArray, List.set_cons_zero, List.set_cons_succ]
            refine wpAnyT_take (i := 11) (v := ?_) rfl (by kernel_rfl) (fun _ _ _ h => h) (Or.inl ⟨by rfl, ?_⟩) (by assumption) ?_
            rotate_left
            · (intro W hSw; (try dsimp only at hSw); go_simp; (try with_reducible rfl))
            try simp only [Act.put, List.getElem_toArray, List.getElem_cons_succ, List.getElem_cons_zero, List.setIfInBounds_toArray, List.set_cons_zero, List.set_cons_succ]
            refine wpAnyT_take (i := 12) (v := ?_) rfl (by kernel_rfl) (fun _ _ _ h => h) (Or.inl ⟨by rfl, ?_⟩) (by assumption) ?_
            rotate_left
            · (intro W hSw; (try dsimp only at hSw); go_simp; (try with_reducible rfl))
            try simp only [Act.put, List.getElem_toArray, List.getElem_cons_succ, List.getElem_cons_zero, List.setIfInBounds_toArray, List.set_cons_zero, List.set_cons_succ]
            refine wpAnyT_take (i := 14) (v := ?_) rfl (by kernel_rfl) (fun _ _ _ h => h) (Or.inl ⟨by rfl, ?_⟩) (by assumption) ?_
            rotate_left
            · (intro W hSw; (try dsimp only at hSw); go_simp; (try with_reducible rfl))
            try simp only [Act.put, List.getElem_toArray, List.getElem_cons_succ, List.getElem_cons_zero, List.setIfInBounds_toArray, List.set_cons_zero, List.set_cons_succ]
            refine wpAnyT_take (i := 15) (v := ?_) rfl (by kernel_rfl) (fun _ _ _ h => h) (Or.inl ⟨by rfl, ?_⟩) (by assumption) ?_
            rotate_left
            · (intro W hSw; (try dsimp only at hSw); go_simp; (try with_reducible rfl))
            try simp only [Act.put, List.getElem_toArray, List.getElem_cons_succ, List.getElem_cons_zero, List.setIfInBounds_toArray, List.set_cons_zero, List.set_cons_succ]
            refine wpAnyT_take (i := 16) (v := ?_) rfl (by kernel_rfl) (fun _ _ _ h => h) (Or.inl ⟨by rfl, ?_⟩) (by assumption) ?_
            rotate_left
            · (intro W hSw; (try dsimp only at hSw); go_simp; (try with_reducible rfl))
            try simp only [Act.put, List.getElem_toArray, List.getElem_cons_succ, List.getElem_cons_zero, List.setIfInBounds_toArray, List.set_cons_zero, List.set_cons_succ]
            refine wpAnyT_take (i := 17) (v := ?_) rfl (by kernel_rfl) (fun _ _ _ h => h) (Or.inl ⟨by rfl, ?_⟩) (by assumption) ?_
            rotate_left
            · (intro W hSw; (try dsimp only at hSw); go_simp; (try with_reducible rfl))
            try simp only [Act.put, List.getElem_toArray, List.getElem_cons_succ, List.getElem_cons_zero, List.setIfInBounds_toArray, List.set_cons_zero, List.set_cons_succ]
            refine wpAnyT_take (i := 18) (v := ?_) rfl (by kernel_rfl) (fun _ _ _ h => h) (Or.inl ⟨by rfl, ?_⟩) (by assumption) ?_
            rotate_left
            · (intro W hSw; (try dsimp only at hSw); go_simp; (try with_reducible rfl))
            try simp only [Act.put, List.getElem_toArray, List.getElem_cons_succ, List.getElem_cons_zero, List.setIfInBounds_toArray, List.set_cons_zero, List.set_cons_succ]
            refine wpAnyT_one (i := 13) rfl (by kernel_rfl) (fun K hK => ?_)
            go_simp
            refine (HLEN7.out _ hq7).mono ?_; rintro e we ⟨rfl, hx8⟩
            refine hK.out _ _ (fun _ => ext_cell hx8 y7) (fun hH => ?_)
            replace hHeld := hH (by decide)
            clear hK K hH
            try simp only [Act.put, List.getElem_toArray, List.getElem_cons_succ, List.getElem_cons_zero, List.setIfInBounds_toArray, List.set_cons_zero, List.set_cons_succ]
            refine wpAnyT_take (i := 19) (v := ?_) rfl (by kernel_rfl) (fun _ _ _ h => h) (Or.inl ⟨by rfl, ?_⟩) (by assumption) ?_
            rotate_left
            · (intro W hSw; (try dsimp only at hSw); go_simp; (try with_reducible rfl))
            try simp only [Act.put, List.getElem_toArray, List.getElem_cons_succ, List.getElem_cons_zero, List.setIfInBounds_toArray, List.set_cons_zero, List.set_cons_succ]
            refine wpAnyT_one (i := 20) rfl (by kernel_rfl) (fun K hK => ?_)
            go_simp
            refine hK.out _ _ (fun h => absurd rfl h) (fun _ => ?_)
            clear hK K hHeld
            try simp only [Act.put, List.getElem_toArray, List.getElem_cons_succ, List.getElem_cons_zero, List.setIfInBounds_toArray, List.set_cons_zero, List.set_cons_succ]
            refine wpAnyT_done (by kernel_rfl) ?_ _
            have H9 := Lib.hid (hq7.next hx8)
            clear hq7 hx8 hp6 rp6 hdx HQ5 HR5 HAPP HAPR HLEN7
            go_wp2_with fail
            go_roundw
            case rel => exact ⟨j + 1, LA, by omega, by omega, by go_num, H9, HBN⟩
            case measure => simp [intOf]; omega
        · have hdc : decide (j < n) = false ∨ (decide (j < n) = true ∧ decide ((j : Int) < 12) = false) := by
            by_cases h1 : j < n
            · right; exact ⟨by rw [decide_eq_true_eq]; exact h1, by rw [decide_eq_false_iff_not]; omega⟩
            · left; rw [decide_eq_false_iff_not]; exact h1
          have hS17 : Sm17 SN la := ⟨HZ.out.ok, by have := HBD.out.num; omega, HBD.out.len, by have := HBD.out.lens; omega, HSN.out, by have := HBD.out.sum; omega⟩
          have hsmH := hS17.smH
          have hbl := HBD.out.num
          obtain ⟨D, hD⟩ : ∃ D : Int, R.tmod ((la.length : Int) + 1) = D := ⟨_, rfl⟩
          have hDa : D.natAbs < la.length + 1 := by
            rw [← hD, Int.natAbs_tmod]
            have : ((la.length : Int) + 1).natAbs = la.length + 1 := by omega
            rw [this]; exact Nat.mod_lt _ (by omega)
          have hQ0 : 0 ≤ (D + ((la.length : Int) + 1)).tmod ((la.length : Int) + 1) := Int.tmod_nonneg _ (by omega)
          have hQ1 : (D + ((la.length : Int) + 1)).tmod ((la.length : Int) + 1) < (la.length : Int) + 1 := Int.tmod_lt_of_pos _ (by omega)
          obtain ⟨q, hq⟩ := Int.eq_ofNat_of_zero_le hQ0
          have hql : q ≤ la.length := by omega
          obtain ⟨ds, hd1, hd2, hd3, _⟩ := hS17.at (j := q) hql
          obtain ⟨gX, hSX, hO, hPl⟩ := over17 hS17 a hql hd1
          have hHA := HA9.out
          have hxw : ∀ {V}, HTwo WV V x y SN la la (fun _ => False) → Ext w V := fun h => HWV.out.trans h.e
          have HCN : Hid (∀ U, Calls Tryz.prog 10 #[.string (txt17 SN la q)] U fun e w' => e = .returned (.int .i64 (ds.length : Int)) ∧ Ext U w') := Lib.hid fun U => by
            have g := count_c (txt17 SN la q) U (by have := txt17_size (s := SN) (ls := la) q; have := HBD.out.sum; have := HSN.out; omega)
            rw [hd2] at g; exact g
          have HFI : Hid (∀ U, Ext w U → Calls Tryz.prog 9 #[.slice A9 n9 k9, .int .i64 (ds.length : Int)] U fun e w' => Ext U w' ∧ ∃ A n c, e = .returned (.slice A n c) ∧ RdO w' A n c (fitL a (ds.length : Int))) := Lib.hid fun U hx => by
            refine (fitR4_c A9 n9 k9 a (ds.length : Int) U (hHA.ext hx).2 hHA.1 HTS.out (by omega) (by omega)).mono ?_
            rintro e w' ⟨v, g1, g2, g3⟩
            obtain ⟨A, n, c, hv, hr⟩ := rdO_own g3
            exact ⟨g2, A, n, c, by rw [g1, hv], hr⟩
          have HFW : Hid (∀ U, Ext w U → Calls Tryz.prog 8 #[.slice A9 n9 k9] U fun e w' => Ext U w' ∧ ∃ A n c, e = .returned (.slice A n c) ∧ RdO w' A n c (fewL17 a)) := Lib.hid fun U hx => by
            refine (few17_c A9 n9 k9 a U (hHA.ext hx).2 hHA.1 HTS.out).mono ?_
            rintro e w' ⟨v, g1, g2, g3⟩
            obtain ⟨A, n, c, hv, hr⟩ := rdO_own g3
            exact ⟨g2, A, n, c, by rw [g1, hv], hr⟩
          obtain ⟨PP, hPP⟩ : ∃ l, overHL la (fitL a (ds.length : Int)) (q : Int) = l := ⟨_, rfl⟩
          rw [hPP] at hPl
          have HOP : Hid (∀ U A n c, HTwo WV U x y SN la la (fun _ => False) → RdO U A n c (fitL a (ds.length : Int)) → Calls Tryz.prog 14 #[.pointer (some ⟨x, 0, none⟩), .slice A n c, .int .i64 (q : Int)] U fun e w' => Ext U w' ∧ ∃ A n c, e = .returned (.tuple #[.slice A n c, .int .i64 0]) ∧ RdO w' A n c PP) := Lib.hid fun U A n c hh hr => by
            have hTb := tab_ext HWV.out
            have g := h2_overP hh hsmH (q : Int) hr hSX
            unfold OpR at g
            rw [hO, if_pos rfl, hPP] at g; exact g
          have HOR : Hid (∀ U A n c, HTwo WV U x y SN la la (fun _ => False) → RdO U A n c (fitL a (ds.length : Int)) → Calls Tryz.prog 15 #[.pointer (some ⟨y, 0, none⟩), .slice A n c, .int .i64 (q : Int)] U fun e w' => Ext U w' ∧ ∃ A n c, e = .returned (.tuple #[.slice A n c, .int .i64 0]) ∧ RdO w' A n c PP) := Lib.hid fun U A n c hh hr => by
            have hTb := tab_ext HWV.out
            have g := h2_overR hh hsmH (q : Int) hr hSX
            unfold OpR at g
            rw [hO, if_pos rfl, hPP] at g; exact g
          have hfl : (fewL17 a).length ≤ 20 := by rw [fewL17_len]; omega
          have hfs : sumT (fewL17 a) ≤ 1200 := by
            have h1 := sumT_le (fewL17 a) 60 (fewL17_size a)
            have : (fewL17 a).length * 60 ≤ 20 * 60 := Nat.mul_le_mul_right _ hfl
            omega
          have hbs := HBD.out.lens
          have hSW : SmT (fewL17 a) la := ⟨by omega, by omega, hS17.small⟩
          obtain ⟨P2, hP2⟩ : ∃ l, (if overH SN la (fewL17 a) R = 0 then overHL la (fewL17 a) R else []) = l := ⟨_, rfl⟩
          have hP2l : P2.length ≤ 1000 := by
            rw [← hP2]
            split
            · rename_i h0
              unfold overH at h0
              split at h0
              · omega
              · split at h0
                · omega
                · split at h0
                  · omega
                  · obtain ⟨_, ok, _, _, hT⟩ := thruE_ok h0 (by omega) (fun l hl => hS17.lens l (List.mem_of_mem_drop hl))
                    have g := thruJ_len ok hT (la.drop R.toNat).length (Nat.le_refl _)
                    rw [thruJ_all, List.take_length] at g
                    have := lenS_take la R.toNat
                    unfold overHL; omega
            · simp
          obtain ⟨E2, hE2⟩ : ∃ e, overH SN la (fewL17 a) R = e := ⟨_, rfl⟩
          have HOP2 : Hid (∀ U A n c, HTwo WV U x y SN la la (fun _ => False) → RdO U A n c (fewL17 a) → Calls Tryz.prog 14 #[.pointer (some ⟨x, 0, none⟩), .slice A n c, .int .i64 R] U fun e w' => Ext U w' ∧ ∃ A n c, e = .returned (.tuple #[.slice A n c, .int .i64 E2]) ∧ RdO w' A n c P2) := Lib.hid fun U A n c hh hr => by
            have hTb := tab_ext HWV.out
            have g := h2_overP hh hsmH R hr hSW
            unfold OpR at g
            rw [hP2, hE2] at g; exact g
          have HOR2 : Hid (∀ U A n c, HTwo WV U x y SN la la (fun _ => False) → RdO U A n c (fewL17 a) → Calls Tryz.prog 15 #[.pointer (some ⟨y, 0, none⟩), .slice A n c, .int .i64 R] U fun e w' => Ext U w' ∧ ∃ A n c, e = .returned (.tuple #[.slice A n c, .int .i64 E2]) ∧ RdO w' A n c P2) := Lib.hid fun U A n c hh hr => by
            have hTb := tab_ext HWV.out
            have g := h2_overR hh hsmH R hr hSW
            unfold OpR at g
            rw [hP2, hE2] at g; exact g
          obtain ⟨AS, AE, hAT⟩ : ∃ t e, atH SN la R = .tuple #[.string t, .int .i64 e] := by unfold atH; split <;> exact ⟨_, _, rfl⟩
          have HTP : Hid (∀ U, HTwo WV U x y SN la la (fun _ => False) → Calls Tryz.prog 16 #[.pointer (some ⟨x, 0, none⟩), .int .i64 R] U fun e w' => e = .returned (.tuple #[.string AS, .int .i64 AE]) ∧ Ext U w') := Lib.hid fun U hh => by
            have hTb := tab_ext HWV.out
            rw [← hAT]; exact h2_atP hh hsmH hS17.small R
          have HTR : Hid (∀ U, HTwo WV U x y SN la la (fun _ => False) → Calls Tryz.prog 17 #[.pointer (some ⟨y, 0, none⟩), .int .i64 R] U fun e w' => e = .returned (.tuple #[.string AS, .int .i64 AE]) ∧ Ext U w') := Lib.hid fun U hh => by
            have hTb := tab_ext HWV.out
            rw [← hAT]; exact h2_atR hh hsmH R
          have hrl : ∀ r t : Int, (if runH SN la r t = 0 then runHL SN la r t else []).length ≤ 1000 := fun r t => by
            split
            · rename_i h0
              unfold runH at h0
              split at h0
              · omega
              · have hl2 : ∀ l ∈ (la.take t.toNat).drop r.toNat, l.length ≤ 1000 := fun l hx => hS17.lens l (List.mem_of_mem_take (List.mem_of_mem_drop hx))
                obtain ⟨⟨h1, h2⟩, hT⟩ := chain_thru h0 hl2
                obtain ⟨_, _, _, _, _, f6, _⟩ := fR_small hT (by omega)
                unfold runHL fuseL
                rw [if_pos h0]
                have := lenS_take la t.toNat; have := lenS_take (la.take t.toNat) r.toNat
                omega
            · simp
          have HRP : Hid (∀ r t U, HTwo WV U x y SN la la (fun _ => False) → Calls Tryz.prog 18 #[.pointer (some ⟨x, 0, none⟩), .int .i64 r, .int .i64 t] U fun e w' => Ext U w' ∧ ∃ A n c, e = .returned (.tuple #[.slice A n c, .int .i64 (runH SN la r t)]) ∧ RdO w' A n c (if runH SN la r t = 0 then runHL SN la r t else [])) := Lib.hid fun r t U hh => by
            have hTb := tab_ext HWV.out
            exact h2_runP hh hsmH r t hS17.small
          have HRR : Hid (∀ r t U, HTwo WV U x y SN la la (fun _ => False) → Calls Tryz.prog 19 #[.pointer (some ⟨y, 0, none⟩), .int .i64 r, .int .i64 t] U fun e w' => Ext U w' ∧ ∃ A n c, e = .returned (.tuple #[.slice A n c, .int .i64 (runH SN la r t)]) ∧ RdO w' A n c (if runH SN la r t = 0 then runHL SN la r t else [])) := Lib.hid fun r t U hh => by
            have hTb := tab_ext HWV.out
            exact h2_runR hh hsmH r t hS17.small
          have HGP : Hid (∀ U, HTwo WV U x y SN la la (fun _ => False) → Calls Tryz.prog 22 #[.pointer (some ⟨x, 0, none⟩)] U fun e w' => Ext U w' ∧ ∃ A c B d, e = .returned (.agg #[.string SN, .slice A (la.length + 1) c, .slice B la.length d]) ∧ Rd w' 1 (.slice A (la.length + 1) c) (la.length + 1) (nV (revL la.length)) ∧ RdSS w' B la.length d la) := Lib.hid fun U hh => by
            have hTb := tab_ext HWV.out
            exact (h2_logP hh hsmH).mono fun e w' hg => log17_rd hg
          have HGR : Hid (∀ U, HTwo WV U x y SN la la (fun _ => False) → Calls Tryz.prog 23 #[.pointer (some ⟨y, 0, none⟩)] U fun e w' => Ext U w' ∧ ∃ A c B d, e = .returned (.agg #[.string SN, .slice A (la.length + 1) c, .slice B la.length d]) ∧ Rd w' 1 (.slice A (la.length + 1) c) (la.length + 1) (nV (revL la.length)) ∧ RdSS w' B la.length d la) := Lib.hid fun U hh => by
            have hTb := tab_ext HWV.out
            exact (h2_logR hh hsmH).mono fun e w' hg => log17_rd hg
          have HLN : Hid (∀ U, HTwo WV U x y SN la la (fun _ => False) → Calls Tryz.prog 13 #[.pointer (some ⟨x, 0, none⟩)] U fun e w' => e = .returned (.int .i64 (la.length : Int)) ∧ Ext U w') := Lib.hid fun U hh => by
            have hTb := tab_ext HWV.out
            exact h2_len hh hsmH
          have HRP1 := Lib.hid (HRP.out R T); have HRR1 := Lib.hid (HRR.out R T)
          have HRP2 := Lib.hid (HRP.out (q : Int) (la.length : Int)); have HRR2 := Lib.hid (HRR.out (q : Int) (la.length : Int))
          have hrl1 := hrl R T; have hrl2 := hrl (q : Int) (la.length : Int)
          have HAB : Hid (∀ V, Ext WV V → V.cell? ⟨zb, 0, none⟩ = some (.slice A9 n9 k9) ∧ V.cell? ⟨zb, 1, none⟩ = some (.int .i64 R) ∧ V.cell? ⟨zb, 2, none⟩ = some (.int .i64 T)) := Lib.hid fun V hx => by
            have hb := HBA.out.ext (HWZ.out.trans hx)
            exact ⟨hb.cell rfl, hb.cell rfl, hb.cell rfl⟩
          have hS17L := Lib.hid hS17.lens
          obtain ⟨P3, hP3⟩ : ∃ l, (if runH SN la R T = 0 then runHL SN la R T else []) = l := ⟨_, rfl⟩
          obtain ⟨P4, hP4⟩ : ∃ l, (if runH SN la (q : Int) (la.length : Int) = 0 then runHL SN la (q : Int) (la.length : Int) else []) = l := ⟨_, rfl⟩
          rw [hP3] at HRP1 HRR1 hrl1; rw [hP4] at HRP2 HRR2 hrl2
          obtain ⟨E3, hE3⟩ : ∃ e, runH SN la R T = e := ⟨_, rfl⟩
          obtain ⟨E4, hE4⟩ : ∃ e, runH SN la (q : Int) (la.length : Int) = e := ⟨_, rfl⟩
          rw [hE3] at HRP1 HRR1; rw [hE4] at HRP2 HRR2
          obtain ⟨TQ, hTQ⟩ : ∃ t, txt17 SN la q = t := ⟨_, rfl⟩
          rw [hTQ] at HCN
          obtain ⟨XA, hXA⟩ : ∃ l, fitL a (ds.length : Int) = l := ⟨_, rfl⟩
          rw [hXA] at HFI HOP HOR
          obtain ⟨ND, hND⟩ : ∃ z : Int, (ds.length : Int) = z := ⟨_, rfl⟩
          rw [hND] at HFI HCN
          have K0 := HZ
          clear HRP HRR hrl hP3 hP4 hE3 hE4 hXA hND hO hSX gX hPP hP2 hE2 hAT hSW hfs hfl hsmH hS17 hd1 hd2 hd3 hHA HBD
          obtain ⟨ll, hll⟩ : ∃ m, la.length = m := ⟨_, rfl⟩
          rw [hll] at HGP HGR HLN HRP2 HRR2 hD hDa hQ0 hQ1 hq hbl
          have hql2 : q ≤ ll := by omega
          have b1 : -(ll : Int) ≤ D := by omega
          have b2 : D ≤ (ll : Int) := by omega
          have b3 : (ll : Int) ≤ 12 := by omega
          have b4 : (0 : Int) ≤ (q : Int) := by omega
          have b5 : (q : Int) < (ll : Int) + 1 := by omega
          have b6 : (q : Int) < ((ll + 1 : Nat) : Int) := by omega
          have b7 : ((ll : Int) + 1 == 0) = false := by rw [beq_eq_false_iff_ne]; omega
          have b8 : ¬ ((ll : Int) + 1 = 0) := by omega
          clear hQ0 hQ1 hDa HZ
          rcases hdc with d1 | ⟨d1, d2⟩
          all_goals
            obtain ⟨z0, z1, z2⟩ := HAB.out _ K0.out.e
            obtain ⟨g, c1, A2, d3, y0, y1, yt⟩ := K0.out.cells
            have yt := yt q hql
            rw [hll] at y0 y1
            rw [hTQ] at yt
            have HXV := Lib.hid (hxw K0.out)
            go_wp2_with fail
            have hrr := Ext.refl wr
            go_region_held3 (fun V => Ext wr V ∧ V.cell? ⟨zb, 0, none⟩ = some (.slice A9 n9 k9) ∧ V.cell? ⟨y, 0, none⟩ = some (.slice (some ⟨g, 0, none⟩) (ll + 1) c1) ∧ V.cell? ⟨g, q, none⟩ = some (.string TQ))
              ((go_split_ands; refine ⟨?_, ?_, ?_, ?_⟩ <;> first | (exact Ext.drew ‹_›) | (exact Ext.trans ‹_› hxk) | (exact ext_cell hxk ‹_›) | go_keep))
              (first
              | (go_at_call 10; go_split_ands; refine (HCN.out _).mono ?_; rintro e u1 ⟨rfl, hxk⟩)
              | (go_at_call 9; go_split_ands; refine (HFI.out _ (HXV.out.trans ‹Ext wr _›)).mono ?_; rintro e v1 ⟨hxk, a4, n4, k4, rfl, r4⟩)
              | fail)
            go_split_ands
            have hE := ‹Ext wr v1›
            have K1 := Lib.hid (K0.out.next hE)
            have R4 := Lib.hid r4
            clear r4 hE K0 z0 z1 z2 y0 y1 yt hrr
            go_wp2_with fail
            refine (HOP.out _ _ _ _ K1.out R4.out).mono ?_; rintro e v2 ⟨hx2, a5, n5, k5, rfl, r5⟩
            have K2 := Lib.hid (K1.out.next hx2)
            replace R4 := Lib.hid (R4.out.ext hx2)
            have R5 := Lib.hid r5
            clear r5
            clear hx2 K1
            go_wp2_with fail
            refine (HOR.out _ _ _ _ K2.out R4.out).mono ?_; rintro e v3 ⟨hx3, a6, n6, k6, rfl, r6⟩
            have K3 := Lib.hid (K2.out.next hx3)
            replace R4 := Lib.hid (R4.out.ext hx3)
            replace R5 := Lib.hid (R5.out.ext hx3)
            have R6 := Lib.hid r6
            clear r6
            clear hx3 K2
            obtain ⟨z0, z1, z2⟩ := HAB.out _ K3.out.e
            have HXB := Lib.hid (hxw K3.out)
            go_wp2_with fail
            have hrr := Ext.refl v3
            go_region_held3 (fun V => Ext v3 V ∧ V.cell? ⟨zb, 0, none⟩ = some (.slice A9 n9 k9) ∧ V.cell? ⟨zb, 1, none⟩ = some (.int .i64 R))
              ((go_split_ands; refine ⟨?_, ?_, ?_⟩ <;> first | (exact Ext.drew ‹_›) | (exact Ext.trans ‹_› hxk) | (exact ext_cell hxk ‹_›) | go_keep))
              (first
              | (go_at_call 8; go_split_ands; refine (HFW.out _ (HXB.out.trans ‹Ext v3 _›)).mono ?_; rintro e uW ⟨hxk, aW, nW, kW, rfl, rW⟩)
              | (go_at_call 14; go_split_ands; refine (HOP2.out _ _ _ _ (K3.out.next ‹Ext v3 _›) rW).mono ?_; rintro e v4 ⟨hxk, a7, n7, k7, rfl, r7⟩)
              | fail)
            go_split_ands
            have hE := ‹Ext v3 v4›
            have K4 := Lib.hid (K3.out.next hE)
            replace R4 := Lib.hid (R4.out.ext hE)
            replace R5 := Lib.hid (R5.out.ext hE)
            replace R6 := Lib.hid (R6.out.ext hE)
            have R7 := Lib.hid r7
            clear r7 hE K3 z0 z1 z2 hrr HXB rW
            obtain ⟨z0, z1, z2⟩ := HAB.out _ K4.out.e
            have HXB := Lib.hid (hxw K4.out)
            go_wp2_with fail
            have hrr := Ext.refl v4
            go_region_held3 (fun V => Ext v4 V ∧ V.cell? ⟨zb, 0, none⟩ = some (.slice A9 n9 k9) ∧ V.cell? ⟨zb, 1, none⟩ = some (.int .i64 R))
              ((go_split_ands; refine ⟨?_, ?_, ?_⟩ <;> first | (exact Ext.drew ‹_›) | (exact Ext.trans ‹_› hxk) | (exact ext_cell hxk ‹_›) | go_keep))
              (first
              | (go_at_call 8; go_split_ands; refine (HFW.out _ (HXB.out.trans ‹Ext v4 _›)).mono ?_; rintro e uW ⟨hxk, aW, nW, kW, rfl, rW⟩)
              | (go_at_call 15; go_split_ands; refine (HOR2.out _ _ _ _ (K4.out.next ‹Ext v4 _›) rW).mono ?_; rintro e v5 ⟨hxk, a8, n8, k8, rfl, r8⟩)
              | fail)
            go_split_ands
            have hE := ‹Ext v4 v5›
            have K5 := Lib.hid (K4.out.next hE)
            replace R4 := Lib.hid (R4.out.ext hE)
            replace R5 := Lib.hid (R5.out.ext hE)
            replace R6 := Lib.hid (R6.out.ext hE)
            replace R7 := Lib.hid (R7.out.ext hE)
            have R8 := Lib.hid r8
            clear r8 hE K4 z0 z1 z2 hrr HXB rW
            obtain ⟨z0, z1, z2⟩ := HAB.out _ K5.out.e
            go_wp2_with fail
            refine (HTP.out _ K5.out).mono ?_; rintro e v6 ⟨rfl, hx6⟩
            have K6 := Lib.hid (K5.out.next hx6)
            replace R4 := Lib.hid (R4.out.ext hx6)
            replace R5 := Lib.hid (R5.out.ext hx6)
            replace R6 := Lib.hid (R6.out.ext hx6)
            replace R7 := Lib.hid (R7.out.ext hx6)
            replace R8 := Lib.hid (R8.out.ext hx6)
            clear hx6 K5
            clear z0 z1 z2
            obtain ⟨z0, z1, z2⟩ := HAB.out _ K6.out.e
            go_wp2_with fail
            refine (HTR.out _ K6.out).mono ?_; rintro e v7 ⟨rfl, hx7⟩
            have K7 := Lib.hid (K6.out.next hx7)
            replace R4 := Lib.hid (R4.out.ext hx7)
            replace R5 := Lib.hid (R5.out.ext hx7)
            replace R6 := Lib.hid (R6.out.ext hx7)
            replace R7 := Lib.hid (R7.out.ext hx7)
            replace R8 := Lib.hid (R8.out.ext hx7)
            clear hx7 K6
            clear z0 z1 z2
            obtain ⟨z0, z1, z2⟩ := HAB.out _ K7.out.e
            go_wp2_with fail
            have hrr := Ext.refl v7
            go_region_held3 (fun V => Ext v7 V ∧ V.cell? ⟨zb, 1, none⟩ = some (.int .i64 R) ∧ V.cell? ⟨zb, 2, none⟩ = some (.int .i64 T))
              ((go_split_ands; refine ⟨?_, ?_, ?_⟩ <;> first | (exact Ext.drew ‹_›) | (exact Ext.trans ‹_› hxk) | (exact ext_cell hxk ‹_›) | go_keep))
              (first
              | (go_at_call 18; go_split_ands; refine (HRP1.out _ (K7.out.next ‹Ext v7 _›)).mono ?_; rintro e v8 ⟨hxk, a9, n9b, k9b, rfl, r9⟩)
              | fail)
            go_split_ands
            have hx8 := ‹Ext v7 v8›
            have K8 := Lib.hid (K7.out.next hx8)
            replace R4 := Lib.hid (R4.out.ext hx8)
            replace R5 := Lib.hid (R5.out.ext hx8)
            replace R6 := Lib.hid (R6.out.ext hx8)
            replace R7 := Lib.hid (R7.out.ext hx8)
            replace R8 := Lib.hid (R8.out.ext hx8)
            have R9 := Lib.hid r9
            clear r9
            clear hx8 K7 hrr
            clear z0 z1 z2
            obtain ⟨z0, z1, z2⟩ := HAB.out _ K8.out.e
            go_wp2_with fail
            refine (HRR1.out _ K8.out).mono ?_; rintro e v9 ⟨hx9, a10, n10, k10, rfl, r10⟩
            have K9 := Lib.hid (K8.out.next hx9)
            replace R4 := Lib.hid (R4.out.ext hx9)
            replace R5 := Lib.hid (R5.out.ext hx9)
            replace R6 := Lib.hid (R6.out.ext hx9)
            replace R7 := Lib.hid (R7.out.ext hx9)
            replace R8 := Lib.hid (R8.out.ext hx9)
            replace R9 := Lib.hid (R9.out.ext hx9)
            have R10 := Lib.hid r10
            clear r10
            clear hx9 K8
            clear z0 z1 z2
            obtain ⟨z0, z1, z2⟩ := HAB.out _ K9.out.e
            go_wp2_with fail
            have hrr := Ext.refl v9
            go_region_held3 (fun V => Ext v9 V ∧ V.cell? ⟨zb, 1, none⟩ = some (.int .i64 R))
              ((go_split_ands; refine ⟨?_, ?_⟩ <;> first | (exact Ext.drew ‹_›) | (exact Ext.trans ‹_› hxk) | (exact ext_cell hxk ‹_›) | go_keep))
              (first
              | (go_at_call 13; go_split_ands; refine (HLN.out _ (K9.out.next ‹Ext v9 _›)).mono ?_; rintro e v10 ⟨rfl, hxk⟩)
              | (go_at_call 18; go_split_ands; refine (HRP2.out _ (K9.out.next ‹Ext v9 _›)).mono ?_; rintro e v11 ⟨hxk, a11, n11, k11, rfl, r11⟩)
              | fail)
            go_split_ands
            have hx11 := ‹Ext v9 v11›
            have K11 := Lib.hid (K9.out.next hx11)
            replace R4 := Lib.hid (R4.out.ext hx11)
            replace R5 := Lib.hid (R5.out.ext hx11)
            replace R6 := Lib.hid (R6.out.ext hx11)
            replace R7 := Lib.hid (R7.out.ext hx11)
            replace R8 := Lib.hid (R8.out.ext hx11)
            replace R9 := Lib.hid (R9.out.ext hx11)
            replace R10 := Lib.hid (R10.out.ext hx11)
            have R11 := Lib.hid r11
            clear r11
            clear hx11 K9 hrr
            clear z0 z1 z2
            obtain ⟨_, _, A2, d3, _, y1, _⟩ := K11.out.cells
            rw [hll] at y1
            go_wp2_with fail
            refine (HRR2.out _ K11.out).mono ?_; rintro e v12 ⟨hx12, a12, n12, k12, rfl, r12⟩
            have K12 := Lib.hid (K11.out.next hx12)
            replace R4 := Lib.hid (R4.out.ext hx12)
            replace R5 := Lib.hid (R5.out.ext hx12)
            replace R6 := Lib.hid (R6.out.ext hx12)
            replace R7 := Lib.hid (R7.out.ext hx12)
            replace R8 := Lib.hid (R8.out.ext hx12)
            replace R9 := Lib.hid (R9.out.ext hx12)
            replace R10 := Lib.hid (R10.out.ext hx12)
            replace R11 := Lib.hid (R11.out.ext hx12)
            have R12 := Lib.hid r12
            clear r12
            clear hx12 K11
            clear y1
            have e1 := R5.out.1; have e2 := R6.out.1
            rw [e1] at e2
            subst e2
            have HSQ := Lib.hid (fun w' (hx : Ext v12 w') => sameR4_c _ _ _ _ _ PP w' (R5.out.2.ext hx) (R6.out.2.ext hx) e1 (by omega))
            clear e1
            go_wp2_with fail
            refine (HSQ.out _ (Ext.refl _)).mono ?_; rintro e v13 ⟨rfl, hx13⟩
            have K13 := Lib.hid (K12.out.next hx13)
            replace R4 := Lib.hid (R4.out.ext hx13)
            replace R5 := Lib.hid (R5.out.ext hx13)
            replace R6 := Lib.hid (R6.out.ext hx13)
            replace R7 := Lib.hid (R7.out.ext hx13)
            replace R8 := Lib.hid (R8.out.ext hx13)
            replace R9 := Lib.hid (R9.out.ext hx13)
            replace R10 := Lib.hid (R10.out.ext hx13)
            replace R11 := Lib.hid (R11.out.ext hx13)
            replace R12 := Lib.hid (R12.out.ext hx13)
            clear hx13 K12
            clear HSQ
            have e1 := R7.out.1; have e2 := R8.out.1
            rw [e1] at e2
            subst e2
            have HSQ := Lib.hid (fun w' (hx : Ext v13 w') => sameR4_c _ _ _ _ _ P2 w' (R7.out.2.ext hx) (R8.out.2.ext hx) e1 (by omega))
            clear e1
            go_wp2_with fail
            refine (HSQ.out _ (Ext.refl _)).mono ?_; rintro e v14 ⟨rfl, hx14⟩
            have K14 := Lib.hid (K13.out.next hx14)
            replace R4 := Lib.hid (R4.out.ext hx14)
            replace R5 := Lib.hid (R5.out.ext hx14)
            replace R6 := Lib.hid (R6.out.ext hx14)
            replace R7 := Lib.hid (R7.out.ext hx14)
            replace R8 := Lib.hid (R8.out.ext hx14)
            replace R9 := Lib.hid (R9.out.ext hx14)
            replace R10 := Lib.hid (R10.out.ext hx14)
            replace R11 := Lib.hid (R11.out.ext hx14)
            replace R12 := Lib.hid (R12.out.ext hx14)
            clear hx14 K13
            clear HSQ
            have e1 := R9.out.1; have e2 := R10.out.1
            rw [e1] at e2
            subst e2
            have HSQ := Lib.hid (fun w' (hx : Ext v14 w') => sameR4_c _ _ _ _ _ P3 w' (R9.out.2.ext hx) (R10.out.2.ext hx) e1 (by omega))
            clear e1
            go_wp2_with fail
            refine (HSQ.out _ (Ext.refl _)).mono ?_; rintro e v15 ⟨rfl, hx15⟩
            have K15 := Lib.hid (K14.out.next hx15)
            replace R4 := Lib.hid (R4.out.ext hx15)
            replace R5 := Lib.hid (R5.out.ext hx15)
            replace R6 := Lib.hid (R6.out.ext hx15)
            replace R7 := Lib.hid (R7.out.ext hx15)
            replace R8 := Lib.hid (R8.out.ext hx15)
            replace R9 := Lib.hid (R9.out.ext hx15)
            replace R10 := Lib.hid (R10.out.ext hx15)
            replace R11 := Lib.hid (R11.out.ext hx15)
            replace R12 := Lib.hid (R12.out.ext hx15)
            clear hx15 K14
            clear HSQ
            have e1 := R11.out.1; have e2 := R12.out.1
            rw [e1] at e2
            subst e2
            have HSQ := Lib.hid (fun w' (hx : Ext v15 w') => sameR4_c _ _ _ _ _ P4 w' (R11.out.2.ext hx) (R12.out.2.ext hx) e1 (by omega))
            clear e1
            go_wp2_with fail
            refine (HSQ.out _ (Ext.refl _)).mono ?_; rintro e v16 ⟨rfl, hx16⟩
            have K16 := Lib.hid (K15.out.next hx16)
            replace R4 := Lib.hid (R4.out.ext hx16)
            replace R5 := Lib.hid (R5.out.ext hx16)
            replace R6 := Lib.hid (R6.out.ext hx16)
            replace R7 := Lib.hid (R7.out.ext hx16)
            replace R8 := Lib.hid (R8.out.ext hx16)
            replace R9 := Lib.hid (R9.out.ext hx16)
            replace R10 := Lib.hid (R10.out.ext hx16)
            replace R11 := Lib.hid (R11.out.ext hx16)
            replace R12 := Lib.hid (R12.out.ext hx16)
            clear hx16 K15
            clear HSQ
            clear R5 R6 R7 R8 R9 R10 R11 R12 R4
            go_wp2_with fail
            refine (HGP.out _ K16.out).mono ?_; rintro e v17 ⟨hx17, aG, cG, bG, dG, rfl, rG, sG⟩
            have K17 := Lib.hid (K16.out.next hx17)
            clear hx17 K16
            have RG := Lib.hid (And.intro rG sG)
            clear rG sG
            go_wp2_with fail
            refine (HGR.out _ K17.out).mono ?_; rintro e vZ ⟨hxZ, aH, cH, bH, dH, rfl, rH, sH⟩
            have HSZ := Lib.hid (same16_c aG (ll + 1) cG bG ll dG aH cH bH dH SN (revL ll) la vZ (RG.out.1.ext hxZ) (RG.out.2.ext hxZ) rH sH (by rw [revL_len]; omega) hS17L.out (by omega))
            have KZ := Lib.hid ((hxw K17.out).trans hxZ)
            clear hxZ rH sH RG
            go_wp2_with fail
            refine HSZ.out.mono ?_; rintro e vY ⟨rfl, hxY⟩
            go_wp2_with fail
            go_ret
            exact ⟨rfl, KZ.out.trans hxY⟩
    · obtain ⟨EN, hEN⟩ : ∃ e, newH SN = e := ⟨_, rfl⟩
      rw [hEN] at HNP HNR hn0
      have t2 : (EN == 0) = false := by rw [beq_eq_false_iff_ne]; exact hn0
      have t3 : (EN != 0) = true := by rw [bne_iff_ne]; exact hn0
      refine (HNP.out _ HWV.out).mono ?_; rintro e w3 ⟨hx3, he, -⟩
      obtain rfl := he hn0
      have HNR2 := HNR.out w3
      have HX3 := Lib.hid (HWV.out.trans hx3)
      have HN0 := Lib.hid hn0
      clear HNP HNR he hx3 hEN hn0
      go_wp2_with fail
      refine HNR2.mono ?_; rintro e w4 ⟨hx4, he, -⟩
      obtain rfl := he HN0.out
      clear HNR2 he
      go_wp2_with fail
      go_ret
      exact ⟨rfl, HX3.out.trans hx4⟩
theorem historyPlays_odd (s : ByteArray) (A : Option Addr) (n c : Nat) (ls : List (List Sp)) (A9 : Option Addr) (n9 k9 : Nat) (a : List Sp) (R T : Int) (w : World) [Tab w] (hs : s.size ≤ maxLen) (h : RdSS w A n c ls) (hls : ∀ l ∈ ls, ∀ x ∈ l, x.2.2.size ≤ maxLen) (hnn : n ≤ maxLen) (hl0 : Rd w 3 (.slice A9 n9 k9) n9 (spCells a)) (hl1 : a.length = n9) (hts : ∀ x ∈ a, x.2.2.size ≤ maxLen) (hM0 : ¬ ((n : Nat) : Int).tmod 2 = 0) :
    Calls Tryz.prog 3 #[.string s, .slice A n c, .agg #[.slice A9 n9 k9, .int .i64 R, .int .i64 T]] w fun e w' => e = .returned (.bool true) ∧ Ext w w' := by
  have hl : RdO w A9 n9 k9 a := ⟨hl1, hl0⟩
  have hnb : n ≤ 9223372036854775807 := by unfold maxLen at hnn; omega
  have HL := Lib.hid h; have HLS := Lib.hid hls; have HA9 := Lib.hid hl; have HTS := Lib.hid hts
  obtain ⟨zb, hzb⟩ : ∃ z, w.heap.size = z := ⟨_, rfl⟩
  obtain ⟨W0, hW0⟩ : ∃ V, w.alloc (.cells #[.slice A9 n9 k9, .int .i64 R, .int .i64 T] 25) = V := ⟨_, rfl⟩
  have HX0 : Hid (Ext w W0) := Lib.hid (by rw [← hW0]; exact (Ext.refl w).alloc _)
  have HBA : Hid (BxT 25 W0 zb #[.slice A9 n9 k9, .int .i64 R, .int .i64 T]) := Lib.hid (by rw [← hW0, ← hzb]; exact BxT.new w 25 _)
  have HSH := Lib.hid (fun w' (hx : Ext w w') => have hTb := tab_ext hx; shown17_c w')
  obtain ⟨TT, cs, hm1, hm2, hTl, hT0, hsz, HFIT, HCP, hcl, hUs, HD⟩ := cut_fit s 20 20 rfl (by omega) hs
  have hraw : (s.extract 0 TT).size ≤ 80 := by rw [ByteArray.size_extract]; omega
  have HW0 := Lib.hid hW0; have HZB := Lib.hid hzb
  obtain ⟨M2, hM2⟩ : ∃ m : Int, ((n : Nat) : Int).tmod 2 = m := ⟨_, rfl⟩
  clear h hls hl0 hl1 hl hts hnn hW0 hzb HD HCP
  have hM : ¬ M2 = 0 := by rw [← hM2]; exact hM0
  clear hM0
  have t1 : (M2 == 0) = false := by rw [beq_eq_false_iff_ne]; exact hM
  obtain ⟨SN, hSN⟩ : ∃ S, s.extract 0 TT = S := ⟨_, rfl⟩
  rw [hSN] at hraw
  have HSN : Hid (SN.size ≤ 80) := Lib.hid hraw
  clear hM hUs hraw
  go_enter Tryz.func3, Tryz.ntmps3
  go_wp2_with fail
  rw [HW0.out, HZB.out]
  refine (HSH.out _ HX0.out).mono ?_; rintro e w1 ⟨rfl, hx1⟩
  have HX1 := Lib.hid (HX0.out.trans hx1); have HX01 := Lib.hid hx1; clear hx1
  go_wp2_with fail
  clear hSN t1
  obtain ⟨WV, hWV⟩ : ∃ V, w1 = V := ⟨_, rfl⟩
  have HWV : Hid (Ext w WV) := Lib.hid (hWV ▸ HX1.out)
  have HWZ : Hid (Ext W0 WV) := Lib.hid (hWV ▸ HX01.out)
  rw [hWV]
  clear hWV
  all_goals
    clear HFIT HX1 HX01 HSH hm1 hm2 hM2
    have HNP := Lib.hid (fun V (hx : Ext w V) => have hTb := tab_ext hx; newP17_c SN V (by have := HSN.out; omega))
    have HNR := Lib.hid (fun V => newR17_c SN V (by have := HSN.out; omega))
    unfold NewR at HNP HNR
    by_cases hn0 : newH SN = 0
    · refine (HNP.out _ HWV.out).mono ?_; rintro e w3 ⟨hx3, -, he⟩
      obtain ⟨x, F, rfl, hp, hF⟩ := he hn0
      have HNR2 := HNR.out w3
      have HPP := Lib.hid hp
      clear HNP HNR he
      go_wp2_with fail
      refine HNR2.mono ?_; rintro e w4 ⟨hx4, -, he⟩
      obtain ⟨y, G, rfl, hr, hG⟩ := he hn0
      have H4 : Hid (HTwo WV w4 x y SN [] [] (fun _ => False)) := Lib.hid (h2_new hx3 HPP.out hF hx4 hr hG)
      clear HNR2 HPP he hr hG hF hx3 hx4 hn0
      go_wp2_with fail
      go_loopw [13] (fun iv wr => ∃ (j : Nat) (la : List (List Sp)), j ≤ 12 ∧ j ≤ n ∧ iv = .int .i64 j ∧ Hid (HTwo WV wr x y SN la la (fun _ => False)) ∧ Hid (Bd17 j la)) (fun iv _ => 12 - (intOf iv).toNat)
      case atStart => exact ⟨0, [], by omega, by omega, rfl, H4, Lib.hid ⟨by simp, by simp, by simp [sumTT], by simp [lenS]⟩⟩
      case round =>
        clear H4
        obtain ⟨j, la, hj, hjn, rfl, HZ, HBD⟩ := hrel
        by_cases hlt : j < n ∧ j < 12
        · have hxw : Ext w wr := HWV.out.trans HZ.out.e
          have hjl : j < ls.length := by have := HL.out.1; omega
          obtain ⟨bb, off, aa, kc, rfl, hbb, q0, hr⟩ := (HL.out.ext hxw).at_ hlt.1 hjl
          have hsz := HLS.out _ (List.getElem_mem hjl)
          obtain ⟨RW, hRW⟩ : ∃ l, ls[j] = l := ⟨_, rfl⟩
          rw [hRW] at q0 hr hsz
          obtain ⟨k, hk⟩ : ∃ k, RW.length = k := ⟨_, rfl⟩
          rw [hk] at q0 hr
          have d1 : decide (j < n) = true := by rw [decide_eq_true_eq]; exact hlt.1
          have d2 : decide ((j : Int) < 12) = true := by rw [decide_eq_true_eq]; omega
          have i0 : (0 : Int) ≤ (j : Int) := by omega
          have i1 : (j : Int) < (n : Int) := by omega
          have HFE := Lib.hid (fun U (hx : Ext wr U) => few17_c aa k kc RW U (hr.ext hx) hk hsz)
          obtain ⟨ds, hd1, hd2⟩ := hok_last HZ.out.ok (fun l hl => by have := HBD.out.len l hl; omega)
          have hcn : cntF (bs (txt17 SN la la.length)) = (ds.length : Int) := cntF_some hd1
          have HFI := Lib.hid (fun U (hx : Ext wr U) => fitR4_c aa k kc RW (ds.length : Int) U (hr.ext hx) hk hsz (by omega) (by omega))
          have HCN : Hid (∀ U, Calls Tryz.prog 10 #[.string (txt17 SN la la.length)] U fun e w' => e = .returned (.int .i64 (ds.length : Int)) ∧ Ext U w') := Lib.hid fun U => by
            have g := count_c (txt17 SN la la.length) U (by have := txt17_size (s := SN) (ls := la) la.length; have := HBD.out.sum; have := HSN.out; omega)
            rw [hcn] at g; exact g
          obtain ⟨g, c1, A2, d3, y0, y1, yt⟩ := HZ.out.cells
          have yt := yt la.length (Nat.le_refl _)
          have hXLf : (fewL17 RW).length ≤ 20 := by rw [fewL17_len]; omega
          have hXSf : sumT (fewL17 RW) ≤ 1200 := by
            have h1 := sumT_le (fewL17 RW) 60 (fewL17_size RW)
            have : (fewL17 RW).length * 60 ≤ 20 * 60 := Nat.mul_le_mul_right _ hXLf
            omega
          have hln := HBD.out.num
          have hwm : IntKind.i64.wrap (((la.length : Int) + 1) - 1) = (la.length : Int) := by rw [IntKind.wrap_i64]; omega
          have hwm2 : IntKind.i64.wrap ((((la.length + 1 : Nat)) : Int) - 1) = (la.length : Int) := by rw [IntKind.wrap_i64]; omega
          have j0 : (0 : Int) ≤ (la.length : Int) := by omega
          have j1 : (la.length : Int) < (la.length : Int) + 1 := by omega
          have j2 : (la.length : Int) < ((la.length + 1 : Nat) : Int) := by omega
          obtain ⟨M3, hM3⟩ : ∃ m : Int, ((j : Nat) : Int).tmod 3 = m := ⟨_, rfl⟩
          have hxl13 := fitL_len RW (ds.length : Int)
          have hxs13 := fit_sumT RW (ds.length : Int)
          generalize fitL RW (ds.length : Int) = XF at *
          generalize (ds.length : Int) = NL at *
          generalize txt17 SN la la.length = TL at *
          obtain ⟨ll, hll⟩ : ∃ m, la.length = m := ⟨_, rfl⟩
          rw [hll] at y0 y1 yt hwm hwm2 j0 j1 j2
          have hll2 : ll ≤ 12 := by omega
          clear hr hsz hRW hk hd1 hd2 hcn hll hln hxw
          have HZ2 := HZ
          go_wp2_with fail
          refine (HFE.out _ (Ext.refl _)).mono ?_; rintro e wf ⟨vf, rfl, hxf, ownf⟩
          by_cases hm3 : M3 = 2
          · have t3 : (M3 != 2) = false := by rw [hm3]; rfl
            have HXL := Lib.hid hXLf; have HXS := Lib.hid hXSf
            obtain ⟨ar, cr, rfl, _⟩ := ownf.len
            obtain ⟨nr, hnr⟩ : ∃ n, (fewL17 RW).length = n := ⟨_, rfl⟩
            rw [hnr] at ownf ⊢
            clear hm3 HFE HFI HCN hxl13 hxs13 hXLf hXSf y0 y1 yt
            go_wp2_with fail
            obtain ⟨WX, hWX⟩ : ∃ V, wf = V := ⟨_, rfl⟩
            have hown : Own WX wr.heap.size 60 3 (.slice ar nr cr) nr (spCells (fewL17 RW)) := by rw [← hWX]; exact ownf
            have hxx : Ext wr WX := by rw [← hWX]; exact hxf
            rw [hWX]
            clear hWX
            have HQ5 : Hid (HTwo WV WX x y SN la la (fun b => (.slice ar nr cr : Value).ownBlock = some b)) := Lib.hid ((HZ.out.fresh fun b hb => (hown.lt hb).1).next hxx)
            have HR5 : Hid (RdO WX ar nr cr (fewL17 RW)) := Lib.hid ⟨hnr, hown.rd⟩
            have hXl : ((fewL17 RW)).length ≤ 20 := HXL.out
            have hXs : sumT ((fewL17 RW)) ≤ 1200 := HXS.out
            have HBN := Lib.hid (HBD.out.app SN hXl hXs)
            have HAPP : Hid (∀ V, HTwo WV V x y SN la la (fun b => (.slice ar nr cr : Value).ownBlock = some b) → RdO V ar nr cr ((fewL17 RW)) → WX.heap.size ≤ V.heap.size → Calls Tryz.prog 11 #[.pointer (some ⟨x, 0, none⟩), .slice ar nr cr] V fun e w' => e = .returned (.int .i64 (appE SN la ((fewL17 RW)))) ∧ HTwo WV w' x y SN (appLs SN la ((fewL17 RW))) la (fun b => (.slice ar nr cr : Value).ownBlock = some b) ∧ RdO w' ar nr cr ((fewL17 RW))) := Lib.hid fun V hh hr hsz => by
              have hTb := tab_ext HWV.out
              refine (h2_appP hh (fun k hk => Nat.lt_of_lt_of_le (hown.lt hk).2 hsz) (HBD.out.smH (by omega) HSN.out) hr (fun b off e => by rw [e]; rfl) (by have := hr.1; omega) (by omega)).mono ?_
              rintro e w' ⟨g1, g2, g3, _⟩
              exact ⟨g1, g2, g3⟩
            have HAPR : Hid (∀ V, HTwo WV V x y SN (appLs SN la ((fewL17 RW))) la (fun b => (.slice ar nr cr : Value).ownBlock = some b) → RdO V ar nr cr ((fewL17 RW)) → Calls Tryz.prog 12 #[.pointer (some ⟨y, 0, none⟩), .slice ar nr cr] V fun e w' => e = .returned (.int .i64 (appE SN la ((fewL17 RW)))) ∧ HTwo WV w' x y SN (appLs SN la ((fewL17 RW))) (appLs SN la ((fewL17 RW))) (fun _ => False)) := Lib.hid fun V hh hr =>
              h2_appR hh (HBD.out.smH (by omega) HSN.out) hr (fun b off e => by rw [e]; rfl) (by have := hr.1; omega) (by omega)
            have HLEN7 : Hid (∀ V, HTwo WV V x y SN (appLs SN la ((fewL17 RW))) (appLs SN la ((fewL17 RW))) (fun _ => False) → Calls Tryz.prog 13 #[.pointer (some ⟨x, 0, none⟩)] V fun e w' => e = .returned (.int .i64 ((appLs SN la ((fewL17 RW))).length : Int)) ∧ Ext V w') := Lib.hid fun V hh => by
              have hTb := tab_ext HWV.out
              exact h2_len hh (HBN.out.smH (by omega) HSN.out)
            clear hown hxx hXl hXs HZ HBD
            generalize appLs SN la ((fewL17 RW)) = LA at *
            generalize appE SN la ((fewL17 RW)) = EA at *
            refine region_T (fun _ => True) 20 (by kernel_rfl) (True.intro) (fun hHeld => ?_)
            obtain ⟨Wd, hWd⟩ : ∃ x, WX.drew = x := ⟨_, rfl⟩
            rw [hWd]
            have hdx : Ext WX Wd := by rw [← hWd]; exact (Ext.refl _).drew
            clear hWd
            refine wpAnyT_take (i := 0) (v := ?_) rfl (by kernel_rfl) (fun _ _ _ h => h) (Or.inl ⟨by rfl, ?_⟩) (by assumption) ?_
            rotate_left
            · (intro W hSw; (try dsimp only at hSw); go_simp; (try with_reducible rfl))
            try simp only [Act.put, List.getElem_toArray, List.getElem_cons_succ, List.getElem_cons_zero, List.setIfInBounds_toArray, List.set_cons_zero, List.set_cons_succ]
            refine wpAnyT_take (i := 1) (v := ?_) rfl (by kernel_rfl) (fun _ _ _ h => h) (Or.inl ⟨by rfl, ?_⟩) (by assumption) ?_
            rotate_left
            · (intro W hSw; (try dsimp only at hSw); go_simp; (try with_reducible rfl))
            try simp only [Act.put, List.getElem_toArray, List.getElem_cons_succ, List.getElem_cons_zero, List.setIfInBounds_toArray, List.set_cons_zero, List.set_cons_succ]
            refine wpAnyT_take (i := 2) (v := ?_) rfl (by kernel_rfl) (fun _ _ _ h => h) (Or.inl ⟨by rfl, ?_⟩) (by assumption) ?_
            rotate_left
            · (intro W hSw; (try dsimp only at hSw); go_simp; (try with_reducible rfl))
            try simp only [Act.put, List.getElem_toArray, List.getElem_cons_succ, List.getElem_cons_zero, List.setIfInBounds_toArray, List.set_cons_zero, List.set_cons_succ]
            refine wpAnyT_take (i := 3) (v := ?_) rfl (by kernel_rfl) (fun _ _ _ h => h) (Or.inl ⟨by rfl, ?_⟩) (by assumption) ?_
            rotate_left
            · (intro W hSw; (try dsimp only at hSw); go_simp; (try with_reducible rfl))
            try simp only [Act.put, List.getElem_toArray, List.getElem_cons_succ, List.getElem_cons_zero, List.setIfInBounds_toArray, List.set_cons_zero, List.set_cons_succ]
            refine wpAnyT_take (i := 5) (v := ?_) rfl (by kernel_rfl) (fun _ _ _ h => h) (Or.inl ⟨by rfl, ?_⟩) (by assumption) ?_
            rotate_left
            · (intro W hSw; (try dsimp only at hSw); go_simp; (try with_reducible rfl))
            try simp only [Act.put, List.getElem_toArray, List.getElem_cons_succ, List.getElem_cons_zero, List.setIfInBounds_toArray, List.set_cons_zero, List.set_cons_succ]
            refine wpAnyT_take (i := 6) (v := ?_) rfl (by kernel_rfl) (fun _ _ _ h => h) (Or.inl ⟨by rfl, ?_⟩) (by assumption) ?_
            rotate_left
            · (intro W hSw; (try dsimp only at hSw); go_simp; (try with_reducible rfl))
            try simp only [Act.put, List.getElem_toArray, List.getElem_cons_succ, List.getElem_cons_zero, List.setIfInBounds_toArray, List.set_cons_zero, List.set_cons_succ]
            refine wpAnyT_one (i := 4) rfl (by kernel_rfl) (fun K hK => ?_)
            go_simp
            refine (HAPP.out _ (HQ5.out.next hdx) (HR5.out.ext hdx) hdx.size).mono ?_; rintro e wp ⟨rfl, hp6, rp6⟩
            refine hK.out _ _ (fun _ => True.intro) (fun hH => ?_)
            replace hHeld := hH (by decide)
            clear hK K hH
            try simp only [Act.put, List.getElem_toArray, List.getElem_cons_succ, List.getElem_cons_zero, List.setIfInBounds_toArray, List.set_cons_zero, List.set_cons_succ]
            refine wpAnyT_one (i := 7) rfl (by kernel_rfl) (fun K hK => ?_)
            go_simp
            refine (HAPR.out _ hp6 rp6).mono ?_; rintro e wq ⟨rfl, hq7⟩
            obtain ⟨_, _, A7, d7, _, y7, _⟩ := hq7.cells
            refine hK.out _ _ (fun _ => True.intro) (fun hH => ?_)
            replace hHeld := hH (by decide)
            clear hK K hH
            try simp only [Act.put, List.getElem_toArray, List.getElem_cons_succ, List.getElem_cons_zero, List.setIfInBounds_toArray, List.set_cons_zero, List.set_cons_succ]
            refine wpAnyT_strong (S' := fun V => V.cell? ⟨y, 1, none⟩ = some (.slice A7 LA.length d7)) (fun _ _ => True.intro) _ _ _ _ ?_
            clear hHeld
            have hHeld := y7
            refine wpAnyT_take (i := 8) (v := ?_) rfl (by kernel_rfl) (fun _ _ _ h => h) (Or.inl ⟨by rfl, ?_⟩) (by assumption) ?_
            rotate_left
            · (intro W hSw; (try dsimp only at hSw); go_simp; (try with_reducible rfl))
            try simp only [Act.put, List.getElem_toArray, List.getElem_cons_succ, List.getElem_cons_zero, List.setIfInBounds_toArray, List.set_cons_zero, List.set_cons_succ]
            refine wpAnyT_take (i := 9) (v := ?_) rfl (by kernel_rfl) (fun _ _ _ h => h) (Or.inl ⟨by rfl, ?_⟩) (by assumption) ?_
            rotate_left
            · (intro W hSw; (try dsimp only at hSw); go_simp; (try with_reducible rfl))
            try simp only [Act.put, List.getElem_toArray, List.getElem_cons_succ, List.getElem_cons_zero, List.setIfInBounds_toArray, List.set_cons_zero, List.set_cons_succ]
            refine wpAnyT_take (i := 10) (v := ?_) rfl (by kernel_rfl) (fun _ _ _ h => h) (Or.inl ⟨by rfl, ?_⟩) (by assumption) ?_
            rotate_left
            · (intro W hSw; (try dsimp only at hSw); go_simp; (try with_reducible rfl))
            try simp only [Act.put, List.getElem_toArray, List.getElem_cons_succ, List.getElem_cons_zero, List.setIfInBounds_toArray, List.set_cons_zero, List.set_cons_succ]
            refine wpAnyT_take (i := 11) (v := ?_) rfl (by kernel_rfl) (fun _ _ _ h => h) (Or.inl ⟨by rfl, ?_⟩) (by assumption) ?_
            rotate_left
            · (intro W hSw; (try dsimp only at hSw); go_simp; (try with_reducible rfl))
            try simp only [Act.put, List.getElem_toArray, List.getElem_cons_succ, List.getElem_cons_zero, List.setIfInBounds_toArray, List.set_cons_zero, List.set_cons_succ]
            refine wpAnyT_take (i := 12) (v := ?_) rfl (by kernel_rfl) (fun _ _ _ h => h) (Or.inl ⟨by rfl, ?_⟩) (by assumption) ?_
            rotate_left
            · (intro W hSw; (try dsimp only at hSw); go_simp; (try with_reducible rfl))
            try simp only [Act.put, List.getElem_toArray, List.getElem_cons_succ, List.getElem_cons_zero, List.setIfInBounds_toArray, List.set_cons_zero, List.set_cons_succ]
            refine wpAnyT_take (i := 14) (v := ?_) rfl (by kernel_rfl) (fun _ _ _ h => h) (Or.inl ⟨by rfl, ?_⟩) (by assumption) ?_
            rotate_left
            · (intro W hSw; (try dsimp only at hSw); go_simp; (try with_reducible rfl))
            try simp only [Act.put, List.getElem_toArray, List.getElem_cons_succ, List.getElem_cons_zero, List.setIfInBounds_toArray, List.set_cons_zero, List.set_cons_succ]
            refine wpAnyT_take (i := 15) (v := ?_) rfl (by kernel_rfl) (fun _ _ _ h => h) (Or.inl ⟨by rfl, ?_⟩) (by assumption) ?_
            rotate_left
            · (intro W hSw; (try dsimp only at hSw); go_simp; (try with_reducible rfl))
            try simp only [Act.put, List.getElem_toArray, List.getElem_cons_succ, List.getElem_cons_zero, List.setIfInBounds_toArray, List.set_cons_zero, List.set_cons_succ]
            refine wpAnyT_take (i := 16) (v := ?_) rfl (by kernel_rfl) (fun _ _ _ h => h) (Or.inl ⟨by rfl, ?_⟩) (by assumption) ?_
            rotate_left
            · (intro W hSw; (try dsimp only at hSw); go_simp; (try with_reducible rfl))
            try simp only [Act.put, List.getElem_toArray, List.getElem_cons_succ, List.getElem_cons_zero, List.setIfInBounds_toArray, List.set_cons_zero, List.set_cons_succ]
            refine wpAnyT_take (i := 17) (v := ?_) rfl (by kernel_rfl) (fun _ _ _ h => h) (Or.inl ⟨by rfl, ?_⟩) (by assumption) ?_
            rotate_left
            · (intro W hSw; (try dsimp only at hSw); go_simp; (try with_reducible rfl))
            try simp only [Act.put, List.getElem_toArray, List.getElem_cons_succ, List.getElem_cons_zero, List.setIfInBounds_toArray, List.set_cons_zero, List.set_cons_succ]
            refine wpAnyT_take (i := 18) (v := ?_) rfl (by kernel_rfl) (fun _ _ _ h => h) (Or.inl ⟨by rfl, ?_⟩) (by assumption) ?_
            rotate_left
            · (intro W hSw; (try dsimp only at hSw); go_simp; (try with_reducible rfl))
            try simp only [Act.put, List.getElem_toArray, List.getElem_cons_succ, List.getElem_cons_zero, List.setIfInBounds_toArray, List.set_cons_zero, List.set_cons_succ]
            refine wpAnyT_one (i := 13) rfl (by kernel_rfl) (fun K hK => ?_)
            go_simp
            refine (HLEN7.out _ hq7).mono ?_; rintro e we ⟨rfl, hx8⟩
            refine hK.out _ _ (fun _ => ext_cell hx8 y7) (fun hH => ?_)
            replace hHeld := hH (by decide)
            clear hK K hH
            try simp only [Act.put, List.getElem_toArray, List.getElem_cons_succ, List.getElem_cons_zero, List.setIfInBounds_toArray, List.set_cons_zero, List.set_cons_succ]
            refine wpAnyT_take (i := 19) (v := ?_) rfl (by kernel_rfl) (fun _ _ _ h => h) (Or.inl ⟨by rfl, ?_⟩) (by assumption) ?_
            rotate_left
            · (intro W hSw; (try dsimp only at hSw); go_simp; (try with_reducible rfl))
            try simp only [Act.put, List.getElem_toArray, List.getElem_cons_succ, List.getElem_cons_zero, List.setIfInBounds_toArray, List.set_cons_zero, List.set_cons_succ]
            refine wpAnyT_one (i := 20) rfl (by kernel_rfl) (fun K hK => ?_)
            go_simp
            refine hK.out _ _ (fun h => absurd rfl h) (fun _ => ?_)
            clear hK K hHeld
            try simp only [Act.put, List.getElem_toArray, List.getElem_cons_succ, List.getElem_cons_zero, List.setIfInBounds_toArray, List.set_cons_zero, List.set_cons_succ]
            refine wpAnyT_done (by kernel_rfl) ?_ _
            have H9 := Lib.hid (hq7.next hx8)
            clear hq7 hx8 hp6 rp6 hdx HQ5 HR5 HAPP HAPR HLEN7
            go_wp2_with fail
            go_roundw
            case rel => exact ⟨j + 1, LA, by omega, by omega, by go_num, H9, HBN⟩
            case measure => simp [intOf]; omega
          · have t3 : (M3 != 2) = true := by rw [bne_iff_ne]; exact hm3
            have HXL : Hid (XF.length ≤ 20) := Lib.hid (by omega)
            have HXS : Hid (sumT XF ≤ 1200) := Lib.hid (by omega)
            have z0 := ext_cell hxf q0; have z1 := ext_cell hxf y0; have z2 := ext_cell hxf yt
            have HXF := Lib.hid hxf
            clear hm3 HFE ownf y0 y1 yt q0 hXLf hXSf hxl13 hxs13
            go_wp2_with fail
            have hwm3 : IntKind.i64.wrap (ll : Int) = (ll : Int) := by rw [IntKind.wrap_i64]; omega
            have hrr := Ext.refl wf
            go_region_held3 (fun V => Ext wf V ∧ V.cell? ⟨bb, off + j, none⟩ = some (.slice aa k kc) ∧ V.cell? ⟨y, 0, none⟩ = some (.slice (some ⟨g, 0, none⟩) (ll + 1) c1) ∧ V.cell? ⟨g, ll, none⟩ = some (.string TL))
              ((go_split_ands; refine ⟨?_, ?_, ?_, ?_⟩ <;> first | (exact Ext.drew ‹_›) | (exact Ext.trans ‹_› hxk) | (exact ext_cell hxk ‹_›) | go_keep))
              (first
              | (go_at_call 10; go_split_ands; refine (HCN.out _).mono ?_; rintro e u1 ⟨rfl, hxk⟩)
              | (go_at_call 9; go_split_ands; refine (HFI.out _ (HXF.out.trans ‹Ext wf _›)).mono ?_; rintro e wg ⟨vg, rfl, hxk, owng⟩)
              | fail)
            go_split_ands
            have hE := ‹Ext wf wg›
            have hU := ‹Ext wf u1›
            obtain ⟨ar, cr, rfl, _⟩ := owng.len
            obtain ⟨nr, hnr⟩ : ∃ n, XF.length = n := ⟨_, rfl⟩
            rw [hnr] at owng ⊢
            have HOG := Lib.hid (owng.more (Nat.le_trans HXF.out.size hU.size))
            have HEG := Lib.hid (HXF.out.trans hE)
            clear owng hE hU hwm3 HFI HCN hrr
            go_wp2_with fail
            obtain ⟨WX, hWX⟩ : ∃ V, wg = V := ⟨_, rfl⟩
            have hown : Own WX wr.heap.size 60 3 (.slice ar nr cr) nr (spCells XF) := by rw [← hWX]; exact HOG.out
            have hxx : Ext wr WX := by rw [← hWX]; exact HEG.out
            rw [hWX]
            clear hWX
            have HQ5 : Hid (HTwo WV WX x y SN la la (fun b => (.slice ar nr cr : Value).ownBlock = some b)) := Lib.hid ((HZ.out.fresh fun b hb => (hown.lt hb).1).next hxx)
            have HR5 : Hid (RdO WX ar nr cr XF) := Lib.hid ⟨hnr, hown.rd⟩
            have hXl : (XF).length ≤ 20 := HXL.out
            have hXs : sumT (XF) ≤ 1200 := HXS.out
            have HBN := Lib.hid (HBD.out.app SN hXl hXs)
            have HAPP : Hid (∀ V, HTwo WV V x y SN la la (fun b => (.slice ar nr cr : Value).ownBlock = some b) → RdO V ar nr cr (XF) → WX.heap.size ≤ V.heap.size → Calls Tryz.prog 11 #[.pointer (some ⟨x, 0, none⟩), .slice ar nr cr] V fun e w' => e = .returned (.int .i64 (appE SN la (XF))) ∧ HTwo WV w' x y SN (appLs SN la (XF)) la (fun b => (.slice ar nr cr : Value).ownBlock = some b) ∧ RdO w' ar nr cr (XF)) := Lib.hid fun V hh hr hsz => by
              have hTb := tab_ext HWV.out
              refine (h2_appP hh (fun k hk => Nat.lt_of_lt_of_le (hown.lt hk).2 hsz) (HBD.out.smH (by omega) HSN.out) hr (fun b off e => by rw [e]; rfl) (by have := hr.1; omega) (by omega)).mono ?_
              rintro e w' ⟨g1, g2, g3, _⟩
              exact ⟨g1, g2, g3⟩
            have HAPR : Hid (∀ V, HTwo WV V x y SN (appLs SN la (XF)) la (fun b => (.slice ar nr cr : Value).ownBlock = some b) → RdO V ar nr cr (XF) → Calls Tryz.prog 12 #[.pointer (some ⟨y, 0, none⟩), .slice ar nr cr] V fun e w' => e = .returned (.int .i64 (appE SN la (XF))) ∧ HTwo WV w' x y SN (appLs SN la (XF)) (appLs SN la (XF)) (fun _ => False)) := Lib.hid fun V hh hr =>
              h2_appR hh (HBD.out.smH (by omega) HSN.out) hr (fun b off e => by rw [e]; rfl) (by have := hr.1; omega) (by omega)
            have HLEN7 : Hid (∀ V, HTwo WV V x y SN (appLs SN la (XF)) (appLs SN la (XF)) (fun _ => False) → Calls Tryz.prog 13 #[.pointer (some ⟨x, 0, none⟩)] V fun e w' => e = .returned (.int .i64 ((appLs SN la (XF)).length : Int)) ∧ Ext V w') := Lib.hid fun V hh => by
              have hTb := tab_ext HWV.out
              exact h2_len hh (HBN.out.smH (by omega) HSN.out)
            clear hown hxx hXl hXs HZ HBD
            generalize appLs SN la (XF) = LA at *
            generalize appE SN la (XF) = EA at *
            refine region_T (fun _ => True) 20 (by kernel_rfl) (True.intro) (fun hHeld => ?_)
            obtain ⟨Wd, hWd⟩ : ∃ x, WX.drew = x := ⟨_, rfl⟩
            rw [hWd]
            have hdx : Ext WX Wd := by rw [← hWd]; exact (Ext.refl _).drew
            clear hWd
            refine wpAnyT_take (i := 0) (v := ?_) rfl (by kernel_rfl) (fun _ _ _ h => h) (Or.inl ⟨by rfl, ?_⟩) (by assumption) ?_
            rotate_left
            · (intro W hSw; (try dsimp only at hSw); go_simp; (try with_reducible rfl))
            try simp only [Act.put, List.getElem_toArray, List.getElem_cons_succ, List.getElem_cons_zero, List.setIfInBounds_toArray, List.set_cons_zero, List.set_cons_succ]
            refine wpAnyT_take (i := 1) (v := ?_) rfl (by kernel_rfl) (fun _ _ _ h => h) (Or.inl ⟨by rfl, ?_⟩) (by assumption) ?_
            rotate_left
            · (intro W hSw; (try dsimp only at hSw); go_simp; (try with_reducible rfl))
            try simp only [Act.put, List.getElem_toArray, List.getElem_cons_succ, List.getElem_cons_zero, List.setIfInBounds_toArray, List.set_cons_zero, List.set_cons_succ]
            refine wpAnyT_take (i := 2) (v := ?_) rfl (by kernel_rfl) (fun _ _ _ h => h) (Or.inl ⟨by rfl, ?_⟩) (by assumption) ?_
            rotate_left
            · (intro W hSw; (try dsimp only at hSw); go_simp; (try with_reducible rfl))
            try simp only [Act.put, List.getElem_toArray, List.getElem_cons_succ, List.getElem_cons_zero, List.setIfInBounds_toArray, List.set_cons_zero, List.set_cons_succ]
            refine wpAnyT_take (i := 3) (v := ?_) rfl (by kernel_rfl) (fun _ _ _ h => h) (Or.inl ⟨by rfl, ?_⟩) (by assumption) ?_
            rotate_left
            · (intro W hSw; (try dsimp only at hSw); go_simp; (try with_reducible rfl))
            try simp only [Act.put, List.getElem_toArray, List.getElem_cons_succ, List.getElem_cons_zero, List.setIfInBounds_toArray, List.set_cons_zero, List.set_cons_succ]
            refine wpAnyT_take (i := 5) (v := ?_) rfl (by kernel_rfl) (fun _ _ _ h => h) (Or.inl ⟨by rfl, ?_⟩) (by assumption) ?_
            rotate_left
            · (intro W hSw; (try dsimp only at hSw); go_simp; (try with_reducible rfl))
            try simp only [Act.put, List.getElem_toArray, List.getElem_cons_succ, List.getElem_cons_zero, List.setIfInBounds_toArray, List.set_cons_zero, List.set_cons_succ]
            refine wpAnyT_take (i := 6) (v := ?_) rfl (by kernel_rfl) (fun _ _ _ h => h) (Or.inl ⟨by rfl, ?_⟩) (by assumption) ?_
            rotate_left
            · (intro W hSw; (try dsimp only at hSw); go_simp; (try with_reducible rfl))
            try simp only [Act.put, List.getElem_toArray, List.getElem_cons_succ, List.getElem_cons_zero, List.setIfInBounds_toArray, List.set_cons_zero, List.set_cons_succ]
            refine wpAnyT_one (i := 4) rfl (by kernel_rfl) (fun K hK => ?_)
            go_simp
            refine (HAPP.out _ (HQ5.out.next hdx) (HR5.out.ext hdx) hdx.size).mono ?_; rintro e wp ⟨rfl, hp6, rp6⟩
            refine hK.out _ _ (fun _ => True.intro) (fun hH => ?_)
            replace hHeld := hH (by decide)
            clear hK K hH
            try simp only [Act.put, List.getElem_toArray, List.getElem_cons_succ, List.getElem_cons_zero, List.setIfInBounds_toArray, List.set_cons_zero, List.set_cons_succ]
            refine wpAnyT_one (i := 7) rfl (by kernel_rfl) (fun K hK => ?_)
            go_simp
            refine (HAPR.out _ hp6 rp6).mono ?_; rintro e wq ⟨rfl, hq7⟩
            obtain ⟨_, _, A7, d7, _, y7, _⟩ := hq7.cells
            refine hK.out _ _ (fun _ => True.intro) (fun hH => ?_)
            replace hHeld := hH (by decide)
            clear hK K hH
            try simp only [Act.put, List.getElem_toArray, List.getElem_cons_succ, List.getElem_cons_zero, List.setIfInBounds_toArray, List.set_cons_zero, List.set_cons_succ]
            refine wpAnyT_strong (S' := fun V => V.cell? ⟨y, 1, none⟩ = some (.slice A7 LA.length d7)) (fun _ _ => True.intro) _ _ _ _ ?_
            clear hHeld
            have hHeld := y7
            refine wpAnyT_take (i := 8) (v := ?_) rfl (by kernel_rfl) (fun _ _ _ h => h) (Or.inl ⟨by rfl, ?_⟩) (by assumption) ?_
            rotate_left
            · (intro W hSw; (try dsimp only at hSw); go_simp; (try with_reducible rfl))
            try simp only [Act.put, List.getElem_toArray, List.getElem_cons_succ, List.getElem_cons_zero, List.setIfInBounds_toArray, List.set_cons_zero, List.set_cons_succ]
            refine wpAnyT_take (i := 9) (v := ?_) rfl (by kernel_rfl) (fun _ _ _ h => h) (Or.inl ⟨by rfl, ?_⟩) (by assumption) ?_
            rotate_left
            · (intro W hSw; (try dsimp only at hSw); go_simp; (try with_reducible rfl))
            try simp only [Act.put, List.getElem_toArray, List.getElem_cons_succ, List.getElem_cons_zero, List.setIfInBounds_toArray, List.set_cons_zero, List.set_cons_succ]
            refine wpAnyT_take (i := 10) (v := ?_) rfl (by kernel_rfl) (fun _ _ _ h => h) (Or.inl ⟨by rfl, ?_⟩) (by assumption) ?_
            rotate_left
            · (intro W hSw; (try dsimp only at hSw); go_simp; (try with_reducible rfl))
            try simp only [Act.put, List.getElem_toArray, List.getElem_cons_succ, List.getElem_cons_zero, List.setIfInBounds_toArray, List.set_cons_zero, List.set_cons_succ]
            refine wpAnyT_take (i := 11) (v := ?_) rfl (by kernel_rfl) (fun _ _ _ h => h) (Or.inl ⟨by rfl, ?_⟩) (by assumption) ?_
            rotate_left
            · (intro W hSw; (try dsimp only at hSw); go_simp; (try with_reducible rfl))
            try simp only [Act.put, List.getElem_toArray, List.getElem_cons_succ, List.getElem_cons_zero, List.setIfInBounds_toArray, List.set_cons_zero, List.set_cons_succ]
            refine wpAnyT_take (i := 12) (v := ?_) rfl (by kernel_rfl) (fun _ _ _ h => h) (Or.inl ⟨by rfl, ?_⟩) (by assumption) ?_
            rotate_left
            · (intro W hSw; (try dsimp only at hSw); go_simp; (try with_reducible rfl))
            try simp only [Act.put, List.getElem_toArray, List.getElem_cons_succ, List.getElem_cons_zero, List.setIfInBounds_toArray, List.set_cons_zero, List.set_cons_succ]
            refine wpAnyT_take (i := 14) (v := ?_) rfl (by kernel_rfl) (fun _ _ _ h => h) (Or.inl ⟨by rfl, ?_⟩) (by assumption) ?_
            rotate_left
            · (intro W hSw; (try dsimp only at hSw); go_simp; (try with_reducible rfl))
            try simp only [Act.put, List.getElem_toArray, List.getElem_cons_succ, List.getElem_cons_zero, List.setIfInBounds_toArray, List.set_cons_zero, List.set_cons_succ]
            refine wpAnyT_take (i := 15) (v := ?_) rfl (by kernel_rfl) (fun _ _ _ h => h) (Or.inl ⟨by rfl, ?_⟩) (by assumption) ?_
            rotate_left
            · (intro W hSw; (try dsimp only at hSw); go_simp; (try with_reducible rfl))
            try simp only [Act.put, List.getElem_toArray, List.getElem_cons_succ, List.getElem_cons_zero, List.setIfInBounds_toArray, List.set_cons_zero, List.set_cons_succ]
            refine wpAnyT_take (i := 16) (v := ?_) rfl (by kernel_rfl) (fun _ _ _ h => h) (Or.inl ⟨by rfl, ?_⟩) (by assumption) ?_
            rotate_left
            · (intro W hSw; (try dsimp only at hSw); go_simp; (try with_reducible rfl))
            try simp only [Act.put, List.getElem_toArray, List.getElem_cons_succ, List.getElem_cons_zero, List.setIfInBounds_toArray, List.set_cons_zero, List.set_cons_succ]
            refine wpAnyT_take (i := 17) (v := ?_) rfl (by kernel_rfl) (fun _ _ _ h => h) (Or.inl ⟨by rfl, ?_⟩) (by assumption) ?_
            rotate_left
            · (intro W hSw; (try dsimp only at hSw); go_simp; (try with_reducible rfl))
            try simp only [Act.put, List.getElem_toArray, List.getElem_cons_succ, List.getElem_cons_zero, List.setIfInBounds_toArray, List.set_cons_zero, List.set_cons_succ]
            refine wpAnyT_take (i := 18) (v := ?_) rfl (by kernel_rfl) (fun _ _ _ h => h) (Or.inl ⟨by rfl, ?_⟩) (by assumption) ?_
            rotate_left
            · (intro W hSw; (try dsimp only at hSw); go_simp; (try with_reducible rfl))
            try simp only [Act.put, List.getElem_toArray, List.getElem_cons_succ, List.getElem_cons_zero, List.setIfInBounds_toArray, List.set_cons_zero, List.set_cons_succ]
            refine wpAnyT_one (i := 13) rfl (by kernel_rfl) (fun K hK => ?_)
            go_simp
            refine (HLEN7.out _ hq7).mono ?_; rintro e we ⟨rfl, hx8⟩
            refine hK.out _ _ (fun _ => ext_cell hx8 y7) (fun hH => ?_)
            replace hHeld := hH (by decide)
            clear hK K hH
            try simp only [Act.put, List.getElem_toArray, List.getElem_cons_succ, List.getElem_cons_zero, List.setIfInBounds_toArray, List.set_cons_zero, List.set_cons_succ]
            refine wpAnyT_take (i := 19) (v := ?_) rfl (by kernel_rfl) (fun _ _ _ h => h) (Or.inl ⟨by rfl, ?_⟩) (by assumption) ?_
            rotate_left
            · (intro W hSw; (try dsimp only at hSw); go_simp; (try with_reducible rfl))
            try simp only [Act.put, List.getElem_toArray, List.getElem_cons_succ, List.getElem_cons_zero, List.setIfInBounds_toArray, List.set_cons_zero, List.set_cons_succ]
            refine wpAnyT_one (i := 20) rfl (by kernel_rfl) (fun K hK => ?_)
            go_simp
            refine hK.out _ _ (fun h => absurd rfl h) (fun _ => ?_)
            clear hK K hHeld
            try simp only [Act.put, List.getElem_toArray, List.getElem_cons_succ, List.getElem_cons_zero, List.setIfInBounds_toArray, List.set_cons_zero, List.set_cons_succ]
            refine wpAnyT_done (by kernel_rfl) ?_ _
            have H9 := Lib.hid (hq7.next hx8)
            clear hq7 hx8 hp6 rp6 hdx HQ5 HR5 HAPP HAPR HLEN7
            go_wp2_with fail
            go_roundw
            case rel => exact ⟨j + 1, LA, by omega, by omega, by go_num, H9, HBN⟩
            case measure => simp [intOf]; omega
        · have hdc : decide (j < n) = false ∨ (decide (j < n) = true ∧ decide ((j : Int) < 12) = false) := by
            by_cases h1 : j < n
            · right; exact ⟨by rw [decide_eq_true_eq]; exact h1, by rw [decide_eq_false_iff_not]; omega⟩
            · left; rw [decide_eq_false_iff_not]; exact h1
          have hS17 : Sm17 SN la := ⟨HZ.out.ok, by have := HBD.out.num; omega, HBD.out.len, by have := HBD.out.lens; omega, HSN.out, by have := HBD.out.sum; omega⟩
          have hsmH := hS17.smH
          have hbl := HBD.out.num
          obtain ⟨D, hD⟩ : ∃ D : Int, R.tmod ((la.length : Int) + 1) = D := ⟨_, rfl⟩
          have hDa : D.natAbs < la.length + 1 := by
            rw [← hD, Int.natAbs_tmod]
            have : ((la.length : Int) + 1).natAbs = la.length + 1 := by omega
            rw [this]; exact Nat.mod_lt _ (by omega)
          have hQ0 : 0 ≤ (D + ((la.length : Int) + 1)).tmod ((la.length : Int) + 1) := Int.tmod_nonneg _ (by omega)
          have hQ1 : (D + ((la.length : Int) + 1)).tmod ((la.length : Int) + 1) < (la.length : Int) + 1 := Int.tmod_lt_of_pos _ (by omega)
          obtain ⟨q, hq⟩ := Int.eq_ofNat_of_zero_le hQ0
          have hql : q ≤ la.length := by omega
          obtain ⟨ds, hd1, hd2, hd3, _⟩ := hS17.at (j := q) hql
          obtain ⟨gX, hSX, hO, hPl⟩ := over17 hS17 a hql hd1
          have hHA := HA9.out
          have hxw : ∀ {V}, HTwo WV V x y SN la la (fun _ => False) → Ext w V := fun h => HWV.out.trans h.e
          have HCN : Hid (∀ U, Calls Tryz.prog 10 #[.string (txt17 SN la q)] U fun e w' => e = .returned (.int .i64 (ds.length : Int)) ∧ Ext U w') := Lib.hid fun U => by
            have g := count_c (txt17 SN la q) U (by have := txt17_size (s := SN) (ls := la) q; have := HBD.out.sum; have := HSN.out; omega)
            rw [hd2] at g; exact g
          have HFI : Hid (∀ U, Ext w U → Calls Tryz.prog 9 #[.slice A9 n9 k9, .int .i64 (ds.length : Int)] U fun e w' => Ext U w' ∧ ∃ A n c, e = .returned (.slice A n c) ∧ RdO w' A n c (fitL a (ds.length : Int))) := Lib.hid fun U hx => by
            refine (fitR4_c A9 n9 k9 a (ds.length : Int) U (hHA.ext hx).2 hHA.1 HTS.out (by omega) (by omega)).mono ?_
            rintro e w' ⟨v, g1, g2, g3⟩
            obtain ⟨A, n, c, hv, hr⟩ := rdO_own g3
            exact ⟨g2, A, n, c, by rw [g1, hv], hr⟩
          have HFW : Hid (∀ U, Ext w U → Calls Tryz.prog 8 #[.slice A9 n9 k9] U fun e w' => Ext U w' ∧ ∃ A n c, e = .returned (.slice A n c) ∧ RdO w' A n c (fewL17 a)) := Lib.hid fun U hx => by
            refine (few17_c A9 n9 k9 a U (hHA.ext hx).2 hHA.1 HTS.out).mono ?_
            rintro e w' ⟨v, g1, g2, g3⟩
            obtain ⟨A, n, c, hv, hr⟩ := rdO_own g3
            exact ⟨g2, A, n, c, by rw [g1, hv], hr⟩
          obtain ⟨PP, hPP⟩ : ∃ l, overHL la (fitL a (ds.length : Int)) (q : Int) = l := ⟨_, rfl⟩
          rw [hPP] at hPl
          have HOP : Hid (∀ U A n c, HTwo WV U x y SN la la (fun _ => False) → RdO U A n c (fitL a (ds.length : Int)) → Calls Tryz.prog 14 #[.pointer (some ⟨x, 0, none⟩), .slice A n c, .int .i64 (q : Int)] U fun e w' => Ext U w' ∧ ∃ A n c, e = .returned (.tuple #[.slice A n c, .int .i64 0]) ∧ RdO w' A n c PP) := Lib.hid fun U A n c hh hr => by
            have hTb := tab_ext HWV.out
            have g := h2_overP hh hsmH (q : Int) hr hSX
            unfold OpR at g
            rw [hO, if_pos rfl, hPP] at g; exact g
          have HOR : Hid (∀ U A n c, HTwo WV U x y SN la la (fun _ => False) → RdO U A n c (fitL a (ds.length : Int)) → Calls Tryz.prog 15 #[.pointer (some ⟨y, 0, none⟩), .slice A n c, .int .i64 (q : Int)] U fun e w' => Ext U w' ∧ ∃ A n c, e = .returned (.tuple #[.slice A n c, .int .i64 0]) ∧ RdO w' A n c PP) := Lib.hid fun U A n c hh hr => by
            have hTb := tab_ext HWV.out
            have g := h2_overR hh hsmH (q : Int) hr hSX
            unfold OpR at g
            rw [hO, if_pos rfl, hPP] at g; exact g
          have hfl : (fewL17 a).length ≤ 20 := by rw [fewL17_len]; omega
          have hfs : sumT (fewL17 a) ≤ 1200 := by
            have h1 := sumT_le (fewL17 a) 60 (fewL17_size a)
            have : (fewL17 a).length * 60 ≤ 20 * 60 := Nat.mul_le_mul_right _ hfl
            omega
          have hbs := HBD.out.lens
          have hSW : SmT (fewL17 a) la := ⟨by omega, by omega, hS17.small⟩
          obtain ⟨P2, hP2⟩ : ∃ l, (if overH SN la (fewL17 a) R = 0 then overHL la (fewL17 a) R else []) = l := ⟨_, rfl⟩
          have hP2l : P2.length ≤ 1000 := by
            rw [← hP2]
            split
            · rename_i h0
              unfold overH at h0
              split at h0
              · omega
              · split at h0
                · omega
                · split at h0
                  · omega
                  · obtain ⟨_, ok, _, _, hT⟩ := thruE_ok h0 (by omega) (fun l hl => hS17.lens l (List.mem_of_mem_drop hl))
                    have g := thruJ_len ok hT (la.drop R.toNat).length (Nat.le_refl _)
                    rw [thruJ_all, List.take_length] at g
                    have := lenS_take la R.toNat
                    unfold overHL; omega
            · simp
          obtain ⟨E2, hE2⟩ : ∃ e, overH SN la (fewL17 a) R = e := ⟨_, rfl⟩
          have HOP2 : Hid (∀ U A n c, HTwo WV U x y SN la la (fun _ => False) → RdO U A n c (fewL17 a) → Calls Tryz.prog 14 #[.pointer (some ⟨x, 0, none⟩), .slice A n c, .int .i64 R] U fun e w' => Ext U w' ∧ ∃ A n c, e = .returned (.tuple #[.slice A n c, .int .i64 E2]) ∧ RdO w' A n c P2) := Lib.hid fun U A n c hh hr => by
            have hTb := tab_ext HWV.out
            have g := h2_overP hh hsmH R hr hSW
            unfold OpR at g
            rw [hP2, hE2] at g; exact g
          have HOR2 : Hid (∀ U A n c, HTwo WV U x y SN la la (fun _ => False) → RdO U A n c (fewL17 a) → Calls Tryz.prog 15 #[.pointer (some ⟨y, 0, none⟩), .slice A n c, .int .i64 R] U fun e w' => Ext U w' ∧ ∃ A n c, e = .returned (.tuple #[.slice A n c, .int .i64 E2]) ∧ RdO w' A n c P2) := Lib.hid fun U A n c hh hr => by
            have hTb := tab_ext HWV.out
            have g := h2_overR hh hsmH R hr hSW
            unfold OpR at g
            rw [hP2, hE2] at g; exact g
          obtain ⟨AS, AE, hAT⟩ : ∃ t e, atH SN la R = .tuple #[.string t, .int .i64 e] := by unfold atH; split <;> exact ⟨_, _, rfl⟩
          have HTP : Hid (∀ U, HTwo WV U x y SN la la (fun _ => False) → Calls Tryz.prog 16 #[.pointer (some ⟨x, 0, none⟩), .int .i64 R] U fun e w' => e = .returned (.tuple #[.string AS, .int .i64 AE]) ∧ Ext U w') := Lib.hid fun U hh => by
            have hTb := tab_ext HWV.out
            rw [← hAT]; exact h2_atP hh hsmH hS17.small R
          have HTR : Hid (∀ U, HTwo WV U x y SN la la (fun _ => False) → Calls Tryz.prog 17 #[.pointer (some ⟨y, 0, none⟩), .int .i64 R] U fun e w' => e = .returned (.tuple #[.string AS, .int .i64 AE]) ∧ Ext U w') := Lib.hid fun U hh => by
            have hTb := tab_ext HWV.out
            rw [← hAT]; exact h2_atR hh hsmH R
          have hrl : ∀ r t : Int, (if runH SN la r t = 0 then runHL SN la r t else []).length ≤ 1000 := fun r t => by
            split
            · rename_i h0
              unfold runH at h0
              split at h0
              · omega
              · have hl2 : ∀ l ∈ (la.take t.toNat).drop r.toNat, l.length ≤ 1000 := fun l hx => hS17.lens l (List.mem_of_mem_take (List.mem_of_mem_drop hx))
                obtain ⟨⟨h1, h2⟩, hT⟩ := chain_thru h0 hl2
                obtain ⟨_, _, _, _, _, f6, _⟩ := fR_small hT (by omega)
                unfold runHL fuseL
                rw [if_pos h0]
                have := lenS_take la t.toNat; have := lenS_take (la.take t.toNat) r.toNat
                omega
            · simp
          have HRP : Hid (∀ r t U, HTwo WV U x y SN la la (fun _ => False) → Calls Tryz.prog 18 #[.pointer (some ⟨x, 0, none⟩), .int .i64 r, .int .i64 t] U fun e w' => Ext U w' ∧ ∃ A n c, e = .returned (.tuple #[.slice A n c, .int .i64 (runH SN la r t)]) ∧ RdO w' A n c (if runH SN la r t = 0 then runHL SN la r t else [])) := Lib.hid fun r t U hh => by
            have hTb := tab_ext HWV.out
            exact h2_runP hh hsmH r t hS17.small
          have HRR : Hid (∀ r t U, HTwo WV U x y SN la la (fun _ => False) → Calls Tryz.prog 19 #[.pointer (some ⟨y, 0, none⟩), .int .i64 r, .int .i64 t] U fun e w' => Ext U w' ∧ ∃ A n c, e = .returned (.tuple #[.slice A n c, .int .i64 (runH SN la r t)]) ∧ RdO w' A n c (if runH SN la r t = 0 then runHL SN la r t else [])) := Lib.hid fun r t U hh => by
            have hTb := tab_ext HWV.out
            exact h2_runR hh hsmH r t hS17.small
          have HGP : Hid (∀ U, HTwo WV U x y SN la la (fun _ => False) → Calls Tryz.prog 22 #[.pointer (some ⟨x, 0, none⟩)] U fun e w' => Ext U w' ∧ ∃ A c B d, e = .returned (.agg #[.string SN, .slice A (la.length + 1) c, .slice B la.length d]) ∧ Rd w' 1 (.slice A (la.length + 1) c) (la.length + 1) (nV (revL la.length)) ∧ RdSS w' B la.length d la) := Lib.hid fun U hh => by
            have hTb := tab_ext HWV.out
            exact (h2_logP hh hsmH).mono fun e w' hg => log17_rd hg
          have HGR : Hid (∀ U, HTwo WV U x y SN la la (fun _ => False) → Calls Tryz.prog 23 #[.pointer (some ⟨y, 0, none⟩)] U fun e w' => Ext U w' ∧ ∃ A c B d, e = .returned (.agg #[.string SN, .slice A (la.length + 1) c, .slice B la.length d]) ∧ Rd w' 1 (.slice A (la.length + 1) c) (la.length + 1) (nV (revL la.length)) ∧ RdSS w' B la.length d la) := Lib.hid fun U hh => by
            have hTb := tab_ext HWV.out
            exact (h2_logR hh hsmH).mono fun e w' hg => log17_rd hg
          have HLN : Hid (∀ U, HTwo WV U x y SN la la (fun _ => False) → Calls Tryz.prog 13 #[.pointer (some ⟨x, 0, none⟩)] U fun e w' => e = .returned (.int .i64 (la.length : Int)) ∧ Ext U w') := Lib.hid fun U hh => by
            have hTb := tab_ext HWV.out
            exact h2_len hh hsmH
          have HRP1 := Lib.hid (HRP.out R T); have HRR1 := Lib.hid (HRR.out R T)
          have HRP2 := Lib.hid (HRP.out (q : Int) (la.length : Int)); have HRR2 := Lib.hid (HRR.out (q : Int) (la.length : Int))
          have hrl1 := hrl R T; have hrl2 := hrl (q : Int) (la.length : Int)
          have HAB : Hid (∀ V, Ext WV V → V.cell? ⟨zb, 0, none⟩ = some (.slice A9 n9 k9) ∧ V.cell? ⟨zb, 1, none⟩ = some (.int .i64 R) ∧ V.cell? ⟨zb, 2, none⟩ = some (.int .i64 T)) := Lib.hid fun V hx => by
            have hb := HBA.out.ext (HWZ.out.trans hx)
            exact ⟨hb.cell rfl, hb.cell rfl, hb.cell rfl⟩
          have hS17L := Lib.hid hS17.lens
          obtain ⟨P3, hP3⟩ : ∃ l, (if runH SN la R T = 0 then runHL SN la R T else []) = l := ⟨_, rfl⟩
          obtain ⟨P4, hP4⟩ : ∃ l, (if runH SN la (q : Int) (la.length : Int) = 0 then runHL SN la (q : Int) (la.length : Int) else []) = l := ⟨_, rfl⟩
          rw [hP3] at HRP1 HRR1 hrl1; rw [hP4] at HRP2 HRR2 hrl2
          obtain ⟨E3, hE3⟩ : ∃ e, runH SN la R T = e := ⟨_, rfl⟩
          obtain ⟨E4, hE4⟩ : ∃ e, runH SN la (q : Int) (la.length : Int) = e := ⟨_, rfl⟩
          rw [hE3] at HRP1 HRR1; rw [hE4] at HRP2 HRR2
          obtain ⟨TQ, hTQ⟩ : ∃ t, txt17 SN la q = t := ⟨_, rfl⟩
          rw [hTQ] at HCN
          obtain ⟨XA, hXA⟩ : ∃ l, fitL a (ds.length : Int) = l := ⟨_, rfl⟩
          rw [hXA] at HFI HOP HOR
          obtain ⟨ND, hND⟩ : ∃ z : Int, (ds.length : Int) = z := ⟨_, rfl⟩
          rw [hND] at HFI HCN
          have K0 := HZ
          clear HRP HRR hrl hP3 hP4 hE3 hE4 hXA hND hO hSX gX hPP hP2 hE2 hAT hSW hfs hfl hsmH hS17 hd1 hd2 hd3 hHA HBD
          obtain ⟨ll, hll⟩ : ∃ m, la.length = m := ⟨_, rfl⟩
          rw [hll] at HGP HGR HLN HRP2 HRR2 hD hDa hQ0 hQ1 hq hbl
          have hql2 : q ≤ ll := by omega
          have b1 : -(ll : Int) ≤ D := by omega
          have b2 : D ≤ (ll : Int) := by omega
          have b3 : (ll : Int) ≤ 12 := by omega
          have b4 : (0 : Int) ≤ (q : Int) := by omega
          have b5 : (q : Int) < (ll : Int) + 1 := by omega
          have b6 : (q : Int) < ((ll + 1 : Nat) : Int) := by omega
          have b7 : ((ll : Int) + 1 == 0) = false := by rw [beq_eq_false_iff_ne]; omega
          have b8 : ¬ ((ll : Int) + 1 = 0) := by omega
          clear hQ0 hQ1 hDa HZ
          rcases hdc with d1 | ⟨d1, d2⟩
          all_goals
            obtain ⟨z0, z1, z2⟩ := HAB.out _ K0.out.e
            obtain ⟨g, c1, A2, d3, y0, y1, yt⟩ := K0.out.cells
            have yt := yt q hql
            rw [hll] at y0 y1
            rw [hTQ] at yt
            have HXV := Lib.hid (hxw K0.out)
            go_wp2_with fail
            have hrr := Ext.refl wr
            go_region_held3 (fun V => Ext wr V ∧ V.cell? ⟨zb, 0, none⟩ = some (.slice A9 n9 k9) ∧ V.cell? ⟨y, 0, none⟩ = some (.slice (some ⟨g, 0, none⟩) (ll + 1) c1) ∧ V.cell? ⟨g, q, none⟩ = some (.string TQ))
              ((go_split_ands; refine ⟨?_, ?_, ?_, ?_⟩ <;> first | (exact Ext.drew ‹_›) | (exact Ext.trans ‹_› hxk) | (exact ext_cell hxk ‹_›) | go_keep))
              (first
              | (go_at_call 10; go_split_ands; refine (HCN.out _).mono ?_; rintro e u1 ⟨rfl, hxk⟩)
              | (go_at_call 9; go_split_ands; refine (HFI.out _ (HXV.out.trans ‹Ext wr _›)).mono ?_; rintro e v1 ⟨hxk, a4, n4, k4, rfl, r4⟩)
              | fail)
            go_split_ands
            have hE := ‹Ext wr v1›
            have K1 := Lib.hid (K0.out.next hE)
            have R4 := Lib.hid r4
            clear r4 hE K0 z0 z1 z2 y0 y1 yt hrr
            go_wp2_with fail
            refine (HOP.out _ _ _ _ K1.out R4.out).mono ?_; rintro e v2 ⟨hx2, a5, n5, k5, rfl, r5⟩
            have K2 := Lib.hid (K1.out.next hx2)
            replace R4 := Lib.hid (R4.out.ext hx2)
            have R5 := Lib.hid r5
            clear r5
            clear hx2 K1
            go_wp2_with fail
            refine (HOR.out _ _ _ _ K2.out R4.out).mono ?_; rintro e v3 ⟨hx3, a6, n6, k6, rfl, r6⟩
            have K3 := Lib.hid (K2.out.next hx3)
            replace R4 := Lib.hid (R4.out.ext hx3)
            replace R5 := Lib.hid (R5.out.ext hx3)
            have R6 := Lib.hid r6
            clear r6
            clear hx3 K2
            obtain ⟨z0, z1, z2⟩ := HAB.out _ K3.out.e
            have HXB := Lib.hid (hxw K3.out)
            go_wp2_with fail
            have hrr := Ext.refl v3
            go_region_held3 (fun V => Ext v3 V ∧ V.cell? ⟨zb, 0, none⟩ = some (.slice A9 n9 k9) ∧ V.cell? ⟨zb, 1, none⟩ = some (.int .i64 R))
              ((go_split_ands; refine ⟨?_, ?_, ?_⟩ <;> first | (exact Ext.drew ‹_›) | (exact Ext.trans ‹_› hxk) | (exact ext_cell hxk ‹_›) | go_keep))
              (first
              | (go_at_call 8; go_split_ands; refine (HFW.out _ (HXB.out.trans ‹Ext v3 _›)).mono ?_; rintro e uW ⟨hxk, aW, nW, kW, rfl, rW⟩)
              | (go_at_call 14; go_split_ands; refine (HOP2.out _ _ _ _ (K3.out.next ‹Ext v3 _›) rW).mono ?_; rintro e v4 ⟨hxk, a7, n7, k7, rfl, r7⟩)
              | fail)
            go_split_ands
            have hE := ‹Ext v3 v4›
            have K4 := Lib.hid (K3.out.next hE)
            replace R4 := Lib.hid (R4.out.ext hE)
            replace R5 := Lib.hid (R5.out.ext hE)
            replace R6 := Lib.hid (R6.out.ext hE)
            have R7 := Lib.hid r7
            clear r7 hE K3 z0 z1 z2 hrr HXB rW
            obtain ⟨z0, z1, z2⟩ := HAB.out _ K4.out.e
            have HXB := Lib.hid (hxw K4.out)
            go_wp2_with fail
            have hrr := Ext.refl v4
            go_region_held3 (fun V => Ext v4 V ∧ V.cell? ⟨zb, 0, none⟩ = some (.slice A9 n9 k9) ∧ V.cell? ⟨zb, 1, none⟩ = some (.int .i64 R))
              ((go_split_ands; refine ⟨?_, ?_, ?_⟩ <;> first | (exact Ext.drew ‹_›) | (exact Ext.trans ‹_› hxk) | (exact ext_cell hxk ‹_›) | go_keep))
              (first
              | (go_at_call 8; go_split_ands; refine (HFW.out _ (HXB.out.trans ‹Ext v4 _›)).mono ?_; rintro e uW ⟨hxk, aW, nW, kW, rfl, rW⟩)
              | (go_at_call 15; go_split_ands; refine (HOR2.out _ _ _ _ (K4.out.next ‹Ext v4 _›) rW).mono ?_; rintro e v5 ⟨hxk, a8, n8, k8, rfl, r8⟩)
              | fail)
            go_split_ands
            have hE := ‹Ext v4 v5›
            have K5 := Lib.hid (K4.out.next hE)
            replace R4 := Lib.hid (R4.out.ext hE)
            replace R5 := Lib.hid (R5.out.ext hE)
            replace R6 := Lib.hid (R6.out.ext hE)
            replace R7 := Lib.hid (R7.out.ext hE)
            have R8 := Lib.hid r8
            clear r8 hE K4 z0 z1 z2 hrr HXB rW
            obtain ⟨z0, z1, z2⟩ := HAB.out _ K5.out.e
            go_wp2_with fail
            refine (HTP.out _ K5.out).mono ?_; rintro e v6 ⟨rfl, hx6⟩
            have K6 := Lib.hid (K5.out.next hx6)
            replace R4 := Lib.hid (R4.out.ext hx6)
            replace R5 := Lib.hid (R5.out.ext hx6)
            replace R6 := Lib.hid (R6.out.ext hx6)
            replace R7 := Lib.hid (R7.out.ext hx6)
            replace R8 := Lib.hid (R8.out.ext hx6)
            clear hx6 K5
            clear z0 z1 z2
            obtain ⟨z0, z1, z2⟩ := HAB.out _ K6.out.e
            go_wp2_with fail
            refine (HTR.out _ K6.out).mono ?_; rintro e v7 ⟨rfl, hx7⟩
            have K7 := Lib.hid (K6.out.next hx7)
            replace R4 := Lib.hid (R4.out.ext hx7)
            replace R5 := Lib.hid (R5.out.ext hx7)
            replace R6 := Lib.hid (R6.out.ext hx7)
            replace R7 := Lib.hid (R7.out.ext hx7)
            replace R8 := Lib.hid (R8.out.ext hx7)
            clear hx7 K6
            clear z0 z1 z2
            obtain ⟨z0, z1, z2⟩ := HAB.out _ K7.out.e
            go_wp2_with fail
            have hrr := Ext.refl v7
            go_region_held3 (fun V => Ext v7 V ∧ V.cell? ⟨zb, 1, none⟩ = some (.int .i64 R) ∧ V.cell? ⟨zb, 2, none⟩ = some (.int .i64 T))
              ((go_split_ands; refine ⟨?_, ?_, ?_⟩ <;> first | (exact Ext.drew ‹_›) | (exact Ext.trans ‹_› hxk) | (exact ext_cell hxk ‹_›) | go_keep))
              (first
              | (go_at_call 18; go_split_ands; refine (HRP1.out _ (K7.out.next ‹Ext v7 _›)).mono ?_; rintro e v8 ⟨hxk, a9, n9b, k9b, rfl, r9⟩)
              | fail)
            go_split_ands
            have hx8 := ‹Ext v7 v8›
            have K8 := Lib.hid (K7.out.next hx8)
            replace R4 := Lib.hid (R4.out.ext hx8)
            replace R5 := Lib.hid (R5.out.ext hx8)
            replace R6 := Lib.hid (R6.out.ext hx8)
            replace R7 := Lib.hid (R7.out.ext hx8)
            replace R8 := Lib.hid (R8.out.ext hx8)
            have R9 := Lib.hid r9
            clear r9
            clear hx8 K7 hrr
            clear z0 z1 z2
            obtain ⟨z0, z1, z2⟩ := HAB.out _ K8.out.e
            go_wp2_with fail
            refine (HRR1.out _ K8.out).mono ?_; rintro e v9 ⟨hx9, a10, n10, k10, rfl, r10⟩
            have K9 := Lib.hid (K8.out.next hx9)
            replace R4 := Lib.hid (R4.out.ext hx9)
            replace R5 := Lib.hid (R5.out.ext hx9)
            replace R6 := Lib.hid (R6.out.ext hx9)
            replace R7 := Lib.hid (R7.out.ext hx9)
            replace R8 := Lib.hid (R8.out.ext hx9)
            replace R9 := Lib.hid (R9.out.ext hx9)
            have R10 := Lib.hid r10
            clear r10
            clear hx9 K8
            clear z0 z1 z2
            obtain ⟨z0, z1, z2⟩ := HAB.out _ K9.out.e
            go_wp2_with fail
            have hrr := Ext.refl v9
            go_region_held3 (fun V => Ext v9 V ∧ V.cell? ⟨zb, 1, none⟩ = some (.int .i64 R))
              ((go_split_ands; refine ⟨?_, ?_⟩ <;> first | (exact Ext.drew ‹_›) | (exact Ext.trans ‹_› hxk) | (exact ext_cell hxk ‹_›) | go_keep))
              (first
              | (go_at_call 13; go_split_ands; refine (HLN.out _ (K9.out.next ‹Ext v9 _›)).mono ?_; rintro e v10 ⟨rfl, hxk⟩)
              | (go_at_call 18; go_split_ands; refine (HRP2.out _ (K9.out.next ‹Ext v9 _›)).mono ?_; rintro e v11 ⟨hxk, a11, n11, k11, rfl, r11⟩)
              | fail)
            go_split_ands
            have hx11 := ‹Ext v9 v11›
            have K11 := Lib.hid (K9.out.next hx11)
            replace R4 := Lib.hid (R4.out.ext hx11)
            replace R5 := Lib.hid (R5.out.ext hx11)
            replace R6 := Lib.hid (R6.out.ext hx11)
            replace R7 := Lib.hid (R7.out.ext hx11)
            replace R8 := Lib.hid (R8.out.ext hx11)
            replace R9 := Lib.hid (R9.out.ext hx11)
            replace R10 := Lib.hid (R10.out.ext hx11)
            have R11 := Lib.hid r11
            clear r11
            clear hx11 K9 hrr
            clear z0 z1 z2
            obtain ⟨_, _, A2, d3, _, y1, _⟩ := K11.out.cells
            rw [hll] at y1
            go_wp2_with fail
            refine (HRR2.out _ K11.out).mono ?_; rintro e v12 ⟨hx12, a12, n12, k12, rfl, r12⟩
            have K12 := Lib.hid (K11.out.next hx12)
            replace R4 := Lib.hid (R4.out.ext hx12)
            replace R5 := Lib.hid (R5.out.ext hx12)
            replace R6 := Lib.hid (R6.out.ext hx12)
            replace R7 := Lib.hid (R7.out.ext hx12)
            replace R8 := Lib.hid (R8.out.ext hx12)
            replace R9 := Lib.hid (R9.out.ext hx12)
            replace R10 := Lib.hid (R10.out.ext hx12)
            replace R11 := Lib.hid (R11.out.ext hx12)
            have R12 := Lib.hid r12
            clear r12
            clear hx12 K11
            clear y1
            have e1 := R5.out.1; have e2 := R6.out.1
            rw [e1] at e2
            subst e2
            have HSQ := Lib.hid (fun w' (hx : Ext v12 w') => sameR4_c _ _ _ _ _ PP w' (R5.out.2.ext hx) (R6.out.2.ext hx) e1 (by omega))
            clear e1
            go_wp2_with fail
            refine (HSQ.out _ (Ext.refl _)).mono ?_; rintro e v13 ⟨rfl, hx13⟩
            have K13 := Lib.hid (K12.out.next hx13)
            replace R4 := Lib.hid (R4.out.ext hx13)
            replace R5 := Lib.hid (R5.out.ext hx13)
            replace R6 := Lib.hid (R6.out.ext hx13)
            replace R7 := Lib.hid (R7.out.ext hx13)
            replace R8 := Lib.hid (R8.out.ext hx13)
            replace R9 := Lib.hid (R9.out.ext hx13)
            replace R10 := Lib.hid (R10.out.ext hx13)
            replace R11 := Lib.hid (R11.out.ext hx13)
            replace R12 := Lib.hid (R12.out.ext hx13)
            clear hx13 K12
            clear HSQ
            have e1 := R7.out.1; have e2 := R8.out.1
            rw [e1] at e2
            subst e2
            have HSQ := Lib.hid (fun w' (hx : Ext v13 w') => sameR4_c _ _ _ _ _ P2 w' (R7.out.2.ext hx) (R8.out.2.ext hx) e1 (by omega))
            clear e1
            go_wp2_with fail
            refine (HSQ.out _ (Ext.refl _)).mono ?_; rintro e v14 ⟨rfl, hx14⟩
            have K14 := Lib.hid (K13.out.next hx14)
            replace R4 := Lib.hid (R4.out.ext hx14)
            replace R5 := Lib.hid (R5.out.ext hx14)
            replace R6 := Lib.hid (R6.out.ext hx14)
            replace R7 := Lib.hid (R7.out.ext hx14)
            replace R8 := Lib.hid (R8.out.ext hx14)
            replace R9 := Lib.hid (R9.out.ext hx14)
            replace R10 := Lib.hid (R10.out.ext hx14)
            replace R11 := Lib.hid (R11.out.ext hx14)
            replace R12 := Lib.hid (R12.out.ext hx14)
            clear hx14 K13
            clear HSQ
            have e1 := R9.out.1; have e2 := R10.out.1
            rw [e1] at e2
            subst e2
            have HSQ := Lib.hid (fun w' (hx : Ext v14 w') => sameR4_c _ _ _ _ _ P3 w' (R9.out.2.ext hx) (R10.out.2.ext hx) e1 (by omega))
            clear e1
            go_wp2_with fail
            refine (HSQ.out _ (Ext.refl _)).mono ?_; rintro e v15 ⟨rfl, hx15⟩
            have K15 := Lib.hid (K14.out.next hx15)
            replace R4 := Lib.hid (R4.out.ext hx15)
            replace R5 := Lib.hid (R5.out.ext hx15)
            replace R6 := Lib.hid (R6.out.ext hx15)
            replace R7 := Lib.hid (R7.out.ext hx15)
            replace R8 := Lib.hid (R8.out.ext hx15)
            replace R9 := Lib.hid (R9.out.ext hx15)
            replace R10 := Lib.hid (R10.out.ext hx15)
            replace R11 := Lib.hid (R11.out.ext hx15)
            replace R12 := Lib.hid (R12.out.ext hx15)
            clear hx15 K14
            clear HSQ
            have e1 := R11.out.1; have e2 := R12.out.1
            rw [e1] at e2
            subst e2
            have HSQ := Lib.hid (fun w' (hx : Ext v15 w') => sameR4_c _ _ _ _ _ P4 w' (R11.out.2.ext hx) (R12.out.2.ext hx) e1 (by omega))
            clear e1
            go_wp2_with fail
            refine (HSQ.out _ (Ext.refl _)).mono ?_; rintro e v16 ⟨rfl, hx16⟩
            have K16 := Lib.hid (K15.out.next hx16)
            replace R4 := Lib.hid (R4.out.ext hx16)
            replace R5 := Lib.hid (R5.out.ext hx16)
            replace R6 := Lib.hid (R6.out.ext hx16)
            replace R7 := Lib.hid (R7.out.ext hx16)
            replace R8 := Lib.hid (R8.out.ext hx16)
            replace R9 := Lib.hid (R9.out.ext hx16)
            replace R10 := Lib.hid (R10.out.ext hx16)
            replace R11 := Lib.hid (R11.out.ext hx16)
            replace R12 := Lib.hid (R12.out.ext hx16)
            clear hx16 K15
            clear HSQ
            clear R5 R6 R7 R8 R9 R10 R11 R12 R4
            go_wp2_with fail
            refine (HGP.out _ K16.out).mono ?_; rintro e v17 ⟨hx17, aG, cG, bG, dG, rfl, rG, sG⟩
            have K17 := Lib.hid (K16.out.next hx17)
            clear hx17 K16
            have RG := Lib.hid (And.intro rG sG)
            clear rG sG
            go_wp2_with fail
            refine (HGR.out _ K17.out).mono ?_; rintro e vZ ⟨hxZ, aH, cH, bH, dH, rfl, rH, sH⟩
            have HSZ := Lib.hid (same16_c aG (ll + 1) cG bG ll dG aH cH bH dH SN (revL ll) la vZ (RG.out.1.ext hxZ) (RG.out.2.ext hxZ) rH sH (by rw [revL_len]; omega) hS17L.out (by omega))
            have KZ := Lib.hid ((hxw K17.out).trans hxZ)
            clear hxZ rH sH RG
            go_wp2_with fail
            refine HSZ.out.mono ?_; rintro e vY ⟨rfl, hxY⟩
            go_wp2_with fail
            go_ret
            exact ⟨rfl, KZ.out.trans hxY⟩
    · obtain ⟨EN, hEN⟩ : ∃ e, newH SN = e := ⟨_, rfl⟩
      rw [hEN] at HNP HNR hn0
      have t2 : (EN == 0) = false := by rw [beq_eq_false_iff_ne]; exact hn0
      have t3 : (EN != 0) = true := by rw [bne_iff_ne]; exact hn0
      refine (HNP.out _ HWV.out).mono ?_; rintro e w3 ⟨hx3, he, -⟩
      obtain rfl := he hn0
      have HNR2 := HNR.out w3
      have HX3 := Lib.hid (HWV.out.trans hx3)
      have HN0 := Lib.hid hn0
      clear HNP HNR he hx3 hEN hn0
      go_wp2_with fail
      refine HNR2.mono ?_; rintro e w4 ⟨hx4, he, -⟩
      obtain rfl := he HN0.out
      clear HNR2 he
      go_wp2_with fail
      go_ret
      exact ⟨rfl, HX3.out.trans hx4⟩
theorem historyPlays_c (s : ByteArray) (A : Option Addr) (n c : Nat) (ls : List (List Sp)) (A9 : Option Addr) (n9 k9 : Nat) (a : List Sp) (R T : Int) (w : World) [Tab w] (hs : s.size ≤ maxLen) (h : RdSS w A n c ls) (hls : ∀ l ∈ ls, ∀ x ∈ l, x.2.2.size ≤ maxLen) (hnn : n ≤ maxLen) (hl0 : Rd w 3 (.slice A9 n9 k9) n9 (spCells a)) (hl1 : a.length = n9) (hts : ∀ x ∈ a, x.2.2.size ≤ maxLen) :
    Calls Tryz.prog 3 #[.string s, .slice A n c, .agg #[.slice A9 n9 k9, .int .i64 R, .int .i64 T]] w fun e w' => e = .returned (.bool true) ∧ Ext w w' := by
  by_cases hM0 : ((n : Nat) : Int).tmod 2 = 0
  · exact historyPlays_even s A n c ls A9 n9 k9 a R T w hs h hls hnn hl0 hl1 hts hM0
  · exact historyPlays_odd s A n c ls A9 n9 k9 a R T w hs h hls hnn hl0 hl1 hts hM0
end Go.Proofs.YtgcaphjjigpjlaaGreatDoor
