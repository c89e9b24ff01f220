/- Packed: P17a P17 L17a M17c L17c L17e L17f L17d L17b. -/
import Derived.ArgAppend
import Derived.BigQuiet
import Derived.BigRegion
import Derived.ChangeAlike
import Derived.ChangeOld
import Derived.Deep.Cut
import Derived.Deep.CutRange
import Derived.Deep.DrawnRows
import Derived.Deep.MidRow
import Derived.Deep.QuietTactic
import Derived.Deep.RegionHeld3
import Derived.Deep.RegionWith
import Derived.Deep.Slices
import Derived.Deep.Upon
import Derived.Defers
import Derived.Laws.AppendOwnNone
import Derived.Laws.BytesArg
import Derived.Laws.EntriesVeiled
import Derived.Laws.IdiomCopy
import Derived.Laws.MakeOwn
import Derived.Laws.ResultCell
import Derived.Laws.Rows
import Derived.Lib.AppendStr
import Derived.Lib.AppendZerosOnto
import Derived.Lib.Builder
import Derived.Lib.DecodeN
import Derived.Lib.Hide
import Derived.Lib.Strings
import Derived.Lib.UnsafeStr
import Derived.LoopIn
import Derived.LoopNIn
import Derived.OpenShut
import Derived.OwnWalkIn
import Derived.ProofKit
import Derived.RangeFuncBound
import Derived.RangeFuncCalls
import Derived.RangeFuncLeaves
import Derived.RangeFuncNested
import Derived.RegionTactic
import Derived.ScopeJumps
import Derived.Shelf.Abstract
import Derived.Shelf.RegionOpen
import Derived.ShutString
import Derived.Sort.CutIn
import Derived.StillTail
import Derived.StillTailTactics
import Derived.TacticsInMore
import Derived.Test.YtgcaphjjigpjlaaDoorProg
import Derived.Test.YtgcaphjjigpjlaaDoorShelf
import Derived.WalkKit
import Derived.WalkLawsBesides
import Derived.WalkMore
import Derived.WalkSpells
import Derived.Test.YtgcaphjjigpjlaaDoorQ00
import Derived.Test.YtgcaphjjigpjlaaDoorQ01
import Derived.Test.YtgcaphjjigpjlaaDoorQ02
import Derived.Test.YtgcaphjjigpjlaaDoorQ03
import Derived.Test.YtgcaphjjigpjlaaDoorQ04
import Derived.Test.YtgcaphjjigpjlaaDoorQ05
import Derived.Test.YtgcaphjjigpjlaaDoorQ06
import Derived.Test.YtgcaphjjigpjlaaDoorQ07
import Derived.Test.YtgcaphjjigpjlaaDoorQ08
import Derived.Test.YtgcaphjjigpjlaaDoorQ09
import Derived.Test.YtgcaphjjigpjlaaDoorQ10
import Derived.Test.YtgcaphjjigpjlaaDoorQ11
import Derived.Test.YtgcaphjjigpjlaaDoorQ12
import Derived.Test.YtgcaphjjigpjlaaDoorQ13
import Derived.Test.YtgcaphjjigpjlaaDoorQ14
import Derived.Test.YtgcaphjjigpjlaaDoorQ15
import Derived.Test.YtgcaphjjigpjlaaDoorQ16
import Derived.Test.YtgcaphjjigpjlaaDoorQ17
import Derived.Test.YtgcaphjjigpjlaaDoorQ18
import Derived.Test.YtgcaphjjigpjlaaDoorQ19
import Derived.Test.YtgcaphjjigpjlaaDoorQ20
import Derived.Test.YtgcaphjjigpjlaaDoorQ21
import Derived.Test.YtgcaphjjigpjlaaDoorQ22
import Derived.Test.YtgcaphjjigpjlaaDoorQ23
import Derived.Test.YtgcaphjjigpjlaaDoorQ24
import Derived.Test.YtgcaphjjigpjlaaDoorQ25
import Derived.Test.YtgcaphjjigpjlaaDoorQ26
import Derived.Test.YtgcaphjjigpjlaaDoorQ27
namespace Go.Proofs.YtgcaphjjigpjlaaDoor
open Go.RowKit
set_option maxRecDepth 100000
set_option maxHeartbeats 4000000
set_option linter.unusedSimpArgs false
structure HS1 (W : World) (x : Nat) (F : Nat → Prop) (N : Int) (lv : Value) (s : ByteArray) (rs : List (List Sp)) : Prop where
  box : BxT 36 W x #[.int .i64 N, lv, .string s]
  ro : ∃ vs : List Value, Own W 0 37 1 lv rs.length vs ∧ ∀ (i : Nat) (l : List Sp), rs[i]? = some l → ∃ u, vs[i]? = some u ∧ Own W 0 50 3 u l.length (spCells l) ∧ ∀ k, u.ownBlock = some k → F k
  fx : F x
  fl : ∀ k, lv.ownBlock = some k → F k
  lt : ∀ k, F k → k < W.heap.size
theorem HS1.keep {W W' : World} {x : Nat} {F S : Nat → Prop} {N : Int} {lv : Value} {s : ByteArray} {rs : List (List Sp)} (h : HS1 W x F N lv s rs) (k : Kp S W W') (hd : ∀ i, F i → ¬ S i) : HS1 W' x F N lv s rs := by
  have hb : ∀ i, F i → W'.heap[i]? = W.heap[i]? := fun i hi => k.block i (h.lt i hi) (hd i hi)
  obtain ⟨vs, r1, r2⟩ := h.ro
  refine ⟨(hb x h.fx).trans h.box, ⟨vs, r1.keepb k.size fun i hi => hb i (h.fl i hi), fun i l hl => ?_⟩, h.fx, h.fl, fun i hi => Nat.lt_of_lt_of_le (h.lt i hi) k.size⟩
  obtain ⟨u, g1, g2, g3⟩ := r2 i l hl
  exact ⟨u, g1, g2.keepb k.size fun i hi => hb i (g3 i hi), g3⟩
theorem HS1.ext {W W' : World} {x : Nat} {F : Nat → Prop} {N : Int} {lv : Value} {s : ByteArray} {rs : List (List Sp)} (h : HS1 W x F N lv s rs) (k : Ext W W') : HS1 W' x F N lv s rs :=
  h.keep (Kp.of_ext (fun _ => False) k) fun _ _ hq => hq
theorem HS1.rd {W : World} {x : Nat} {F : Nat → Prop} {N : Int} {lv : Value} {s : ByteArray} {rs : List (List Sp)} (h : HS1 W x F N lv s rs) : ∃ A c, lv = .slice A rs.length c ∧ rs.length ≤ c ∧ RdSS W A rs.length c rs := by
  obtain ⟨vs, r1, r2⟩ := h.ro
  exact OwnSS.rd ⟨vs, r1, fun i l hl => by obtain ⟨u, g1, g2, _⟩ := r2 i l hl; exact ⟨u, g1, g2⟩⟩
theorem HS1.more {W : World} {x : Nat} {F F' : Nat → Prop} {N : Int} {lv : Value} {s : ByteArray} {rs : List (List Sp)} (h : HS1 W x F N lv s rs) (hF : ∀ k, F k → F' k) (hl : ∀ k, F' k → k < W.heap.size) : HS1 W x F' N lv s rs := by
  obtain ⟨vs, r1, r2⟩ := h.ro
  refine ⟨h.box, ⟨vs, r1, fun i l hi => ?_⟩, hF x h.fx, fun k hk => hF k (h.fl k hk), hl⟩
  obtain ⟨u, g1, g2, g3⟩ := r2 i l hi
  exact ⟨u, g1, g2, fun k hk => hF k (g3 k hk)⟩
theorem HS1.row {W W' : World} {x : Nat} {F : Nat → Prop} {N : Int} {lv lv' u : Value} {s : ByteArray} {rs : List (List Sp)} {l : List Sp} (h : HS1 W x F N lv s rs) (hT2 : 36 ≠ 37) (hT3 : 36 ≠ 50) (h13 : 50 ≠ 37) {vs : List Value}
    (hvs : Own W 0 37 1 lv rs.length vs) (hrow : ∀ (i : Nat) (l : List Sp), rs[i]? = some l → ∃ u, vs[i]? = some u ∧ Own W 0 50 3 u l.length (spCells l) ∧ ∀ k, u.ownBlock = some k → F k)
    {B : Nat} (hu : Own W B 50 3 u l.length (spCells l)) (hFu : ∀ k, u.ownBlock = some k → F k) (ho : Own W' 0 37 1 lv' (rs.length + 1) (vs ++ [u]))
    (hk : ∀ k, k < W.heap.size → lv.ownBlock ≠ some k → W'.heap[k]? = W.heap[k]?) (hs : W.heap.size ≤ W'.heap.size) (hb : ∀ k, lv'.ownBlock = some k → lv.ownBlock = some k ∨ W.heap.size ≤ k) :
    HS1 (W'.setCell ⟨x, 1, none⟩ lv') x (Gr F W W') N lv' s (rs ++ [l]) := by
  have nt : ∀ {e : TypeId} {g : Nat} {cur : Array Value}, W.heap[g]? = some (.cells cur e (0, 0)) → e ≠ 37 → W'.heap[g]? = W.heap[g]? := by
    intro e g cur hg hne
    refine hk g (Array.getElem?_eq_some_iff.1 hg).1 fun hq => ?_
    obtain ⟨cur2, hc⟩ := hvs.typ hq
    exact typ_ne hg hc hne rfl
  have hx2 : BxT 36 W' x #[.int .i64 N, lv, .string s] := (nt h.box hT2).trans h.box
  have hsz : (W'.setCell ⟨x, 1, none⟩ lv').heap.size = W'.heap.size := by simp [World.setCell]
  have hlen : vs.length = rs.length := by have := hvs.1.1; omega
  have hel : (rs ++ [l]).length = rs.length + 1 := by simp
  refine ⟨hx2.set 1 lv', ⟨vs ++ [u], ?_, fun i m hm => ?_⟩, .inl h.fx, fun k hq => ?_, fun k hq => ?_⟩
  · rw [hel]
    exact own_cell_other (a := ⟨x, 1, none⟩) ho hx2 hT2 lv'
  · by_cases hi : i < rs.length
    · rw [List.getElem?_append_left hi] at hm
      obtain ⟨u', g1, g2, g3⟩ := hrow i m hm
      refine ⟨u', by rw [List.getElem?_append_left (by omega)]; exact g1, own_cell_other (a := ⟨x, 1, none⟩) (g2.keepb hs fun k hq => ?_) hx2 hT3 lv', fun k hq => .inl (g3 k hq)⟩
      obtain ⟨cur, hc⟩ := g2.typ hq
      exact nt hc h13
    · have hi2 : i = rs.length := by
        have := (List.getElem?_eq_some_iff.1 hm).1
        rw [hel] at this; omega
      subst hi2
      rw [List.getElem?_append_right (Nat.le_refl _), Nat.sub_self] at hm
      simp only [List.getElem?_cons_zero, Option.some.injEq] at hm
      subst hm
      refine ⟨u, by rw [List.getElem?_append_right (by omega), hlen, Nat.sub_self]; rfl, own_cell_other (a := ⟨x, 1, none⟩) ((hu.more (Nat.zero_le _)).keepb hs fun k hq => ?_) hx2 hT3 lv', fun k hq => .inl (hFu k hq)⟩
      obtain ⟨cur, hc⟩ := hu.typ hq
      exact nt hc h13
  · rcases hb k hq with g | g
    · exact .inl (h.fl k g)
    · exact .inr ⟨g, (ho.lt hq).2⟩
  · rw [hsz]
    rcases hq with g | g
    · exact Nat.lt_of_lt_of_le (h.lt k g) hs
    · exact g.2
def HP (W : World) (x : Nat) (F : Nat → Prop) (s : ByteArray) (ls : List (List Sp)) : Prop := (∃ lv, HS1 W x F (cntF (bs s)) lv s ls) ∧ Hok s ls
theorem HP.keep {W W' : World} {x : Nat} {F S : Nat → Prop} {s : ByteArray} {ls : List (List Sp)} (h : HP W x F s ls) (k : Kp S W W') (hd : ∀ i, F i → ¬ S i) : HP W' x F s ls := by
  obtain ⟨⟨lv, h⟩, h2⟩ := h
  exact ⟨⟨lv, h.keep k hd⟩, h2⟩
theorem HP.lt {W : World} {x : Nat} {F : Nat → Prop} {s : ByteArray} {ls : List (List Sp)} (h : HP W x F s ls) : ∀ k, F k → k < W.heap.size := by
  obtain ⟨⟨lv, h⟩, _⟩ := h
  exact h.lt
theorem HP.ok {W : World} {x : Nat} {F : Nat → Prop} {s : ByteArray} {ls : List (List Sp)} (h : HP W x F s ls) : Hok s ls := h.2
theorem HP.ext {W W' : World} {x : Nat} {F : Nat → Prop} {s : ByteArray} {ls : List (List Sp)} (h : HP W x F s ls) (k : Ext W W') : HP W' x F s ls := h.keep (Kp.of_ext (fun _ => False) k) fun _ _ hq => hq
theorem HP.more {W : World} {x : Nat} {F F' : Nat → Prop} {s : ByteArray} {ls : List (List Sp)} (h : HP W x F s ls) (hF : ∀ k, F k → F' k) (hl : ∀ k, F' k → k < W.heap.size) : HP W x F' s ls := by
  obtain ⟨⟨lv, h⟩, h2⟩ := h
  exact ⟨⟨lv, h.more hF hl⟩, h2⟩
def mayE17 (s : ByteArray) (ls : List (List Sp)) (l : List Sp) (j : Nat) : Int := if mayL l ≠ 0 then mayL l else if inL l ≠ cntF (bs (txt17 s ls j)) then 5 else 0
theorem clone17_c (s : ByteArray) (w : World) (hs : s.size ≤ 1000000) : Calls Tryd.prog 30 #[.string s] w fun e w' => e = .returned (.string s) ∧ Ext w w' := by
  have HC := Lib.hid (fun w' => Tryd.stringslite_Clone s w' (by omega))
  go_enter Tryd.func30, Tryd.ntmps30
  go_wp2_with fail
  refine (HC.out _).mono ?_; rintro e w1 ⟨rfl, hx1⟩
  go_wp2_with fail
  go_ret
  exact ⟨rfl, hx1⟩
theorem newP17_c (s : ByteArray) (w : World) [Tab w] (hs : s.size ≤ 1000000) : Calls Tryd.prog 9 #[.string s] w (NewR HP w s) := by
  have HC := Lib.hid (fun w' => count_c s w' (by omega))
  have HCL := Lib.hid (fun w' => clone17_c s w' hs)
  unfold NewR
  by_cases hd : dec (bs s) = none
  · have hn : newH s = 3 := if_pos hd
    rw [hn]
    have hc : cntF (bs s) = -1 := by unfold cntF; rw [hd]
    rw [hc] at HC
    clear hd hn hc HCL
    go_enter Tryd.func9, Tryd.ntmps9
    go_wp2_with fail
    refine (HC.out _).mono ?_; rintro e w1 ⟨rfl, hx1⟩
    go_wp2_with fail
    go_ret2
    exact ⟨hx1, fun _ => rfl, fun h => absurd h (by omega)⟩
  · obtain ⟨cs, hcs⟩ := Option.ne_none_iff_exists'.1 hd
    have hk0 : 0 ≤ cntF (bs s) := by rw [cntF_some hcs]; omega
    by_cases h4 : 1048576 < cntF (bs s)
    · have hn : newH s = 4 := by unfold newH; rw [if_neg hd, if_pos h4]
      rw [hn]
      clear hd hn hcs HCL
      generalize cntF (bs s) = K at *
      have d1 : decide (K < 0) = false := by rw [decide_eq_false_iff_not]; omega
      have d2 : decide (1048576 < K) = true := by rw [decide_eq_true_eq]; exact h4
      go_enter Tryd.func9, Tryd.ntmps9
      go_wp2_with fail
      refine (HC.out _).mono ?_; rintro e w1 ⟨rfl, hx1⟩
      go_wp2_with fail
      go_ret2
      exact ⟨hx1, fun _ => rfl, fun h => absurd h (by omega)⟩
    · have hn : newH s = 0 := by unfold newH; rw [if_neg hd, if_neg h4]
      rw [hn]
      have hok : Hok s [] := ⟨cs, hcs, by rw [cntF_some hcs] at h4; omega, rfl⟩
      have HOK := Lib.hid hok
      obtain ⟨K, hK⟩ : ∃ K, cntF (bs s) = K := ⟨_, rfl⟩
      rw [hK] at HC hk0 h4
      have HKE := Lib.hid hK
      clear hd hn hcs hok hK
      have d1 : decide (K < 0) = false := by rw [decide_eq_false_iff_not]; omega
      have d2 : decide (1048576 < K) = false := by rw [decide_eq_false_iff_not]; exact h4
      go_enter Tryd.func9, Tryd.ntmps9
      go_wp2_with fail
      refine (HC.out _).mono ?_; rintro e w1 ⟨rfl, hx1⟩
      go_wp2_with fail
      refine (HCL.out _).mono ?_; rintro e w2 ⟨rfl, hx2⟩
      have HX := Lib.hid (hx1.trans hx2)
      clear hx1 hx2
      go_wp2_with fail
      go_ret2
      have e2 : Ext w2 (w2.alloc (.cells #[.int .i64 K, .slice none 0 0, .string s] 36)) := (Ext.refl _).alloc _
      have hb := BxT.new w2 36 #[.int .i64 K, .slice none 0 0, .string s]
      refine ⟨HX.out.trans e2, fun h => absurd rfl h, fun _ => ⟨w2.heap.size, fun k => w2.heap.size ≤ k ∧ k < w2.heap.size + 1, rfl, ⟨⟨_, by rw [HKE.out]; exact hb, ⟨[], Own.nil _ _ _ _ (Nat.zero_le _), fun i l hl => by simp at hl⟩, ⟨by omega, by omega⟩, fun k hk => (by cases hk), fun k hk => ?_⟩, HOK.out⟩, fun k hk => Nat.le_trans HX.out.size hk.1⟩⟩
      rw [size_alloc]; omega
theorem lenP17_c (x : Nat) (F : Nat → Prop) (s : ByteArray) (ls : List (List Sp)) (w : World) [Tab w] (h : HP w x F s ls) (_hs : SmH s ls) :
    Calls Tryd.prog 11 #[.pointer (some ⟨x, 0, none⟩)] w fun e w' => e = .returned (.int .i64 (ls.length : Int)) ∧ Ext w w' := by
  obtain ⟨⟨lv, hh⟩, _⟩ := h
  obtain ⟨A2, d, rfl, hnd, _⟩ := hh.rd
  have y1 : w.cell? ⟨x, 1, none⟩ = some (.slice A2 ls.length d) := hh.box.cell rfl
  clear hh
  generalize ls.length = n at *
  go_enter Tryd.func11, Tryd.ntmps11
  go_wp2_with fail
  go_ret
  exact ⟨rfl, Ext.refl _⟩
theorem sizeP17_c (x : Nat) (F : Nat → Prop) (s : ByteArray) (ls : List (List Sp)) (j : Nat) (w : World) [Tab w] (h : HP w x F s ls) (hs : SmH s ls) (hj : j ≤ ls.length) :
    Calls Tryd.prog 34 #[.pointer (some ⟨x, 0, none⟩), .int .i64 (j : Int)] w fun e w' => e = .returned (.int .i64 (cntF (bs (txt17 s ls j)))) ∧ Ext w w' := by
  have hok := h.ok
  obtain ⟨⟨lv, hh⟩, _⟩ := h
  obtain ⟨A2, d, rfl, hnd, hrss⟩ := hh.rd
  have hsn := hs.num
  cases j with
  | zero =>
    rw [show txt17 s ls 0 = s by unfold txt17; rw [List.take_zero]; rfl]
    have y0 : w.cell? ⟨x, 0, none⟩ = some (.int .i64 (cntF (bs s))) := hh.box.cell rfl
    clear hh hrss hok hs
    generalize cntF (bs s) = K at *
    go_enter Tryd.func34, Tryd.ntmps34
    go_wp2_with fail
    go_ret
    exact ⟨rfl, Ext.refl _⟩
  | succ k =>
    have y1 : w.cell? ⟨x, 1, none⟩ = some (.slice A2 ls.length d) := hh.box.cell rfl
    obtain ⟨e1, e2, e3, e4⟩ := hok.size hs.len hs.num (k := k) (by omega)
    obtain ⟨bb, off, a2, kc2, rfl, hbb, q00, hr00⟩ := hrss.at_ (i := k) (by omega) (by omega)
    have hlen := hs.len _ (List.getElem_mem (by omega : k < ls.length))
    have hsum := hs.sum
    have hs1 := sumT_le16 _ (List.getElem_mem (by omega : k < ls.length))
    have hokw : ∀ u ∈ ls[k], OkW u := fun u hu => okW_of_may ((mayL_all e3 hlen).1 u hu)
    obtain ⟨o0, o1⟩ := outL_le _ hokw
    have HOU := Lib.hid (out4_c a2 ls[k].length kc2 ls[k] w hr00 rfl (by omega) (fun u hu => by have := le_sumT _ u hu; omega))
    have hwo : wrap64 (outL ls[k]) = outL ls[k] := by unfold wrap64; omega
    rw [hwo] at HOU
    rw [e1]
    have hkn : k < ls.length := by omega
    clear hh hrss hok hs hr00 e1 e2 e3 hokw hs1 hwo o1
    generalize outL ls[k] = K at *
    generalize ls[k].length = q at *
    generalize ls.length = n at *
    have i0 : (0 : Int) ≤ (k : Int) := by omega
    have i1 : (k : Int) < (n : Int) := by omega
    have d1 : (((k : Int) + 1) == 0) = false := by rw [beq_eq_false_iff_ne]; omega
    have hwk : IntKind.i64.wrap ((((k : Int) + 1)) - 1) = (k : Int) := by rw [IntKind.wrap_i64]; omega
    rw [show ((k + 1 : Nat) : Int) = (k : Int) + 1 from by omega]
    go_enter Tryd.func34, Tryd.ntmps34
    go_wp2_with fail
    refine HOU.out.mono ?_; rintro e w1 ⟨rfl, hx1⟩
    go_wp2_with fail
    go_ret
    exact ⟨rfl, hx1⟩
theorem mayP17_c (x : Nat) (F : Nat → Prop) (s : ByteArray) (ls : List (List Sp)) (A : Option Addr) (n c : Nat) (l : List Sp) (j : Nat) (w : World) [Tab w] (h : HP w x F s ls) (hs : SmH s ls) (hj : j ≤ ls.length) (hr : RdO w A n c l) (hn : n ≤ 1000) (hts : ∀ u ∈ l, u.2.2.size ≤ 1000000000) :
    Calls Tryd.prog 31 #[.pointer (some ⟨x, 0, none⟩), .slice A n c, .int .i64 (j : Int)] w fun e w' => e = .returned (.int .i64 (mayE17 s ls l j)) ∧ Ext w w' := by
  have hl := hr.1
  have HMA := Lib.hid (fun w' (hx : Ext w w') => have hTb := tab_ext hx; may4_c A n c l w' (hr.ext hx).2 hl (by omega) hts)
  have HIN := Lib.hid (fun w' (hx : Ext w w') => have hTb := tab_ext hx; in4_c A n c l w' (hr.ext hx).2 hl (by omega))
  have HSZ := Lib.hid (fun w' (hx : Ext w w') => have hTb := tab_ext hx; sizeP17_c x F s ls j w' (h.ext hx) hs hj)
  by_cases hma : mayL l = 0
  · rw [hma] at HMA
    obtain ⟨hall, in0, in1⟩ := mayL_all hma (by omega)
    have hwi : wrap64 (inL l) = inL l := by unfold wrap64; omega
    rw [hwi] at HIN
    by_cases hin : inL l = cntF (bs (txt17 s ls j))
    · have hE : mayE17 s ls l j = 0 := by unfold mayE17; rw [if_neg (by omega), if_neg (by omega)]
      rw [hE]
      rw [← hin] at HSZ
      clear hE h hr hs hma hall hwi hin hts
      generalize inL l = IN at *
      go_enter Tryd.func31, Tryd.ntmps31
      go_wp2_with fail
      refine (HMA.out _ (Ext.refl _)).mono ?_; rintro e w1 ⟨rfl, hx1⟩
      go_wp2_with fail
      refine (HIN.out _ hx1).mono ?_; rintro e w2 ⟨rfl, hx2⟩
      have hx12 := hx1.trans hx2
      go_wp2_with fail
      refine (HSZ.out _ hx12).mono ?_; rintro e w3 ⟨rfl, hx3⟩
      go_wp2_with fail
      go_ret
      exact ⟨rfl, hx12.trans hx3⟩
    · have hE : mayE17 s ls l j = 5 := by unfold mayE17; rw [if_neg (by omega), if_pos hin]
      rw [hE]
      have t1 : (inL l != cntF (bs (txt17 s ls j))) = true := by rw [bne_iff_ne]; exact hin
      have t2 : (inL l == cntF (bs (txt17 s ls j))) = false := by rw [beq_eq_false_iff_ne]; exact hin
      clear hE h hr hs hma hall hwi hin hts
      generalize cntF (bs (txt17 s ls j)) = NJ at *
      generalize inL l = IN at *
      go_enter Tryd.func31, Tryd.ntmps31
      go_wp2_with fail
      refine (HMA.out _ (Ext.refl _)).mono ?_; rintro e w1 ⟨rfl, hx1⟩
      go_wp2_with fail
      refine (HIN.out _ hx1).mono ?_; rintro e w2 ⟨rfl, hx2⟩
      have hx12 := hx1.trans hx2
      go_wp2_with fail
      refine (HSZ.out _ hx12).mono ?_; rintro e w3 ⟨rfl, hx3⟩
      go_wp2_with fail
      go_ret
      exact ⟨rfl, hx12.trans hx3⟩
  · have hE : mayE17 s ls l j = mayL l := by unfold mayE17; rw [if_pos hma]
    rw [hE]
    have t1 : (mayL l != 0) = true := by rw [bne_iff_ne]; exact hma
    have t2 : (mayL l == 0) = false := by rw [beq_eq_false_iff_ne]; exact hma
    clear hE h hr hs hma hts HIN HSZ
    generalize mayL l = ME at *
    go_enter Tryd.func31, Tryd.ntmps31
    go_wp2_with fail
    refine (HMA.out _ (Ext.refl _)).mono ?_; rintro e w1 ⟨rfl, hx1⟩
    go_wp2_with fail
    go_ret
    exact ⟨rfl, hx1⟩
end Go.Proofs.YtgcaphjjigpjlaaDoor
namespace Go.Proofs.YtgcaphjjigpjlaaDoor
open Go.RowKit
set_option maxRecDepth 100000
set_option maxHeartbeats 4000000
set_option linter.unusedSimpArgs false
theorem over_may17 (s : ByteArray) (ls : List (List Sp)) (a : List Sp) {j : Nat} (hj : j ≤ ls.length) : overH s ls a (j : Int) = if mayE17 s ls a j = 0 then thruE a (ls.drop j) else mayE17 s ls a j := by
  unfold overH mayE17
  rw [if_neg (by omega), Int.toNat_natCast]
  by_cases h1 : mayL a = 0 <;> by_cases h2 : inL a = cntF (bs (txt17 s ls j)) <;> simp [h1, h2]
theorem app_may17 (s : ByteArray) (ls : List (List Sp)) (l : List Sp) : appE s ls l = if mayE17 s ls l ls.length = 0 then (if 1048576 < outL l then 4 else 0) else mayE17 s ls l ls.length := by
  unfold appE mayE17
  by_cases h1 : mayL l = 0 <;> by_cases h2 : inL l = cntF (bs (txt17 s ls ls.length)) <;> simp [h1, h2]
theorem overP17_c (x : Nat) (F : Nat → Prop) (s : ByteArray) (ls : List (List Sp)) (A : Option Addr) (n c : Nat) (a : List Sp) (r : Int) (w : World) [Tab w] (h : HP w x F s ls) (hs : SmH s ls) (hr : RdO w A n c a) (hS : SmT a ls) :
    Calls Tryd.prog 22 #[.pointer (some ⟨x, 0, none⟩), .slice A n c, .int .i64 r] w (OpR w (overH s ls a r) (overHL ls a r)) := by
  have hal := hS.len
  have hn1 := hr.1
  have hsn := hs.num
  have HLN := Lib.hid (fun w' (hx : Ext w w') => have hTb := tab_ext hx; lenP17_c x F s ls w' (h.ext hx) hs)
  by_cases hrr : r < 0 ∨ (ls.length : Int) < r
  · have hE : overH s ls a r = 6 := if_pos hrr
    rw [hE]
    clear hE h hr hS hs hal hn1
    generalize ls.length = m at *
    have hr2 : r < 0 ∨ (0 ≤ r ∧ (m : Int) < r) := by omega
    clear hrr
    rcases hr2 with h1 | ⟨h1, h2⟩
    · have d1 : decide (r < 0) = true := by rw [decide_eq_true_eq]; exact h1
      go_enter Tryd.func22, Tryd.ntmps22
      go_wp2_with fail
      go_ret2
      exact opR_err (Ext.refl _) (by omega)
    · have d1 : decide (r < 0) = false := by rw [decide_eq_false_iff_not]; omega
      have d2 : decide ((m : Int) < r) = true := by rw [decide_eq_true_eq]; exact h2
      go_enter Tryd.func22, Tryd.ntmps22
      go_wp2_with fail
      refine (HLN.out _ (Ext.refl _)).mono ?_; rintro e w1 ⟨rfl, hx1⟩
      go_wp2_with fail
      go_ret2
      exact opR_err hx1 (by omega)
  · obtain ⟨j, rfl⟩ := Int.eq_ofNat_of_zero_le (by omega : 0 ≤ r)
    have hjn : j ≤ ls.length := by omega
    have HMA := Lib.hid (fun w' (hx : Ext w w') => have hTb := tab_ext hx; mayP17_c x F s ls A n c a j w' (h.ext hx) hs hjn (hr.ext hx) (by omega) hS.each)
    rw [over_may17 s ls a hjn]
    by_cases hma : mayE17 s ls a j = 0
    · have hL : overHL ls a (j : Int) = thruL a (ls.drop j) := by unfold overHL; rw [Int.toNat_natCast]
      rw [hL, if_pos hma]
      rw [hma] at HMA
      obtain ⟨⟨lv, hh⟩, _⟩ := h
      obtain ⟨A2, d, rfl, hnd, hrss⟩ := hh.rd
      have y1 : w.cell? ⟨x, 1, none⟩ = some (.slice A2 ls.length d) := hh.box.cell rfl
      have hfr := hrss.from (k := j) (by omega)
      obtain ⟨AR, hAR⟩ : ∃ X : Option Addr, (if d = j then A2 else Option.map (fun x => x.add j) A2) = X := ⟨_, rfl⟩
      rw [hAR] at hfr
      have hb1 := lenS_take ls j
      have hS2 : SmT a (ls.drop j) := ⟨by omega, hS.txt, ⟨by have := hS.row.len; omega, by have := hS.row.txt; omega, by have := hS.row.num; rw [List.length_drop]; omega⟩⟩
      have HTH := Lib.hid (fun w' (hx : Ext w w') => have hTb := tab_ext hx; thruP_c A n c a _ _ _ (ls.drop j) w' (hr.ext hx) (hfr.ext hx) hS2)
      unfold OpR at HTH ⊢
      clear hL hh hrss hfr hS2 hr hS hs hma hrr hb1
      generalize (if thruE a (ls.drop j) = 0 then thruL a (ls.drop j) else []) = RW at *
      generalize thruE a (ls.drop j) = TE at *
      generalize ls.length = m at *
      have d1 : decide ((j : Int) < 0) = false := by rw [decide_eq_false_iff_not]; omega
      have d2 : decide ((m : Int) < (j : Int)) = false := by rw [decide_eq_false_iff_not]; omega
      have g0 : (0 : Int) ≤ (j : Int) := by omega
      have g1 : (j : Int) ≤ (m : Int) := by omega
      have HQ1 : Hid (∀ V, Ext w V → V.cell? ⟨x, 1, none⟩ = some (.slice A2 m d)) := Lib.hid fun V hx => ext_cell hx y1
      clear y1
      go_enter Tryd.func22, Tryd.ntmps22
      go_wp2_with fail
      refine (HLN.out _ (Ext.refl _)).mono ?_; rintro e w1 ⟨rfl, hx1⟩
      go_wp2_with fail
      refine (HMA.out _ hx1).mono ?_; rintro e w2 ⟨rfl, hx2⟩
      have hx12 := hx1.trans hx2
      have y1 := HQ1.out _ hx12
      go_wp2_with fail
      refine (HTH.out _ hx12).mono ?_; rintro e w5 ⟨hx5, A5, n5, c5, rfl, r5⟩
      have R5 := Lib.hid r5
      clear r5
      go_wp2_with fail
      go_ret2
      exact ⟨hx12.trans hx5, _, _, _, rfl, R5.out⟩
    · rw [if_neg hma]
      have t1 : (mayE17 s ls a j != 0) = true := by rw [bne_iff_ne]; exact hma
      have t2 : (mayE17 s ls a j == 0) = false := by rw [beq_eq_false_iff_ne]; exact hma
      have HMN := Lib.hid hma
      clear h hr hS hs hrr hma
      generalize mayE17 s ls a j = ME at *
      generalize ls.length = m at *
      have d1 : decide ((j : Int) < 0) = false := by rw [decide_eq_false_iff_not]; omega
      have d2 : decide ((m : Int) < (j : Int)) = false := by rw [decide_eq_false_iff_not]; omega
      go_enter Tryd.func22, Tryd.ntmps22
      go_wp2_with fail
      refine (HLN.out _ (Ext.refl _)).mono ?_; rintro e w1 ⟨rfl, hx1⟩
      go_wp2_with fail
      refine (HMA.out _ hx1).mono ?_; rintro e w2 ⟨rfl, hx2⟩
      go_wp2_with fail
      go_ret2
      exact opR_err (hx1.trans hx2) HMN.out
theorem runP17_c (x : Nat) (F : Nat → Prop) (s : ByteArray) (ls : List (List Sp)) (r t : Int) (w : World) [Tab w] (h : HP w x F s ls) (hs : SmH s ls) (hS : Small ls) :
    Calls Tryd.prog 13 #[.pointer (some ⟨x, 0, none⟩), .int .i64 r, .int .i64 t] w (OpR w (runH s ls r t) (runHL s ls r t)) := by
  have hsn := hs.num
  have HLN := Lib.hid (fun w' (hx : Ext w w') => have hTb := tab_ext hx; lenP17_c x F s ls w' (h.ext hx) hs)
  by_cases hrr : r < 0 ∨ t < r ∨ (ls.length : Int) < t
  · have hE : runH s ls r t = 6 := if_pos hrr
    rw [hE]
    clear hE h hs hS
    generalize ls.length = n at *
    have hr2 : r < 0 ∨ (0 ≤ r ∧ t < r) ∨ (0 ≤ r ∧ r ≤ t ∧ (n : Int) < t) := by omega
    clear hrr
    rcases hr2 with h1 | ⟨h1, h2⟩ | ⟨h1, h2, h3⟩
    · have d1 : decide (r < 0) = true := by rw [decide_eq_true_eq]; exact h1
      go_enter Tryd.func13, Tryd.ntmps13
      go_wp2_with fail
      go_ret2
      exact opR_err (Ext.refl _) (by omega)
    · have d1 : decide (r < 0) = false := by rw [decide_eq_false_iff_not]; omega
      have d2 : decide (t < r) = true := by rw [decide_eq_true_eq]; exact h2
      go_enter Tryd.func13, Tryd.ntmps13
      go_wp2_with fail
      go_ret2
      exact opR_err (Ext.refl _) (by omega)
    · have d1 : decide (r < 0) = false := by rw [decide_eq_false_iff_not]; omega
      have d2 : decide (t < r) = false := by rw [decide_eq_false_iff_not]; omega
      have d3 : decide ((n : Int) < t) = true := by rw [decide_eq_true_eq]; exact h3
      go_enter Tryd.func13, Tryd.ntmps13
      go_wp2_with fail
      refine (HLN.out _ (Ext.refl _)).mono ?_; rintro e w1 ⟨rfl, hx1⟩
      go_wp2_with fail
      go_ret2
      exact opR_err hx1 (by omega)
  · obtain ⟨j, rfl⟩ := Int.eq_ofNat_of_zero_le (by omega : 0 ≤ r)
    obtain ⟨q, rfl⟩ := Int.eq_ofNat_of_zero_le (by omega : 0 ≤ t)
    have HSZ := Lib.hid (fun w' (hx : Ext w w') => have hTb := tab_ext hx; sizeP17_c x F s ls j w' (h.ext hx) hs (by omega))
    obtain ⟨⟨lv, hh⟩, _⟩ := h
    obtain ⟨A2, d, rfl, hnd, hrss⟩ := hh.rd
    have y0 : w.cell? ⟨x, 1, none⟩ = some (.slice A2 ls.length d) := hh.box.cell rfl
    have hE : runH s ls (j : Int) (q : Int) = chainE (cntF (bs (txt17 s ls j))) ((ls.take q).drop j) := by unfold runH; rw [if_neg hrr, Int.toNat_natCast, Int.toNat_natCast]
    have hL : runHL s ls (j : Int) (q : Int) = fuseL (cntF (bs (txt17 s ls j))) ((ls.take q).drop j) := by unfold runHL; rw [Int.toNat_natCast, Int.toNat_natCast]
    rw [hE, hL]
    have hfr := (hrss.take (k := q) (by omega)).from (k := j) (by omega)
    obtain ⟨AR, hAR⟩ : ∃ X : Option Addr, (if d = j then A2 else Option.map (fun x => x.add j) A2) = X := ⟨_, rfl⟩
    rw [hAR] at hfr
    have hb1 := lenS_take ls q
    have hb2 := lenS_take (ls.take q) j
    have hS2 : Small ((ls.take q).drop j) := ⟨by have := hS.len; omega, by have := hS.txt; omega, by have := hS.num; rw [List.length_drop, List.length_take]; omega⟩
    have HFU := Lib.hid (fun w' (hx : Ext w w') => have hTb := tab_ext hx; of10_c _ _ _ ((ls.take q).drop j) (cntF (bs (txt17 s ls j))) w' (hfr.ext hx) hS2)
    have hjq : j ≤ q := by omega
    have hqn : q ≤ ls.length := by omega
    unfold OpR at HFU ⊢
    clear hE hL hh hrss hfr hS2 hs hS hrr hb1 hb2
    generalize (if chainE (cntF (bs (txt17 s ls j))) ((ls.take q).drop j) = 0 then fuseL (cntF (bs (txt17 s ls j))) ((ls.take q).drop j) else []) = RW at *
    generalize chainE (cntF (bs (txt17 s ls j))) ((ls.take q).drop j) = TE at *
    generalize cntF (bs (txt17 s ls j)) = NJ at *
    generalize ls.length = n at *
    have d1 : decide ((j : Int) < 0) = false := by rw [decide_eq_false_iff_not]; omega
    have d2 : decide ((q : Int) < (j : Int)) = false := by rw [decide_eq_false_iff_not]; omega
    have d3 : decide ((n : Int) < (q : Int)) = false := by rw [decide_eq_false_iff_not]; omega
    have g0 : (0 : Int) ≤ (j : Int) := by omega
    have g3 : (j : Int) ≤ (q : Int) := by omega
    have g4 : (q : Int) ≤ (d : Int) := by omega
    have g5 : (0 : Int) ≤ (q : Int) := by omega
    go_enter Tryd.func13, Tryd.ntmps13
    go_wp2_with fail
    refine (HLN.out _ (Ext.refl _)).mono ?_; rintro e w1 ⟨rfl, hx1⟩
    have y1 := ext_cell hx1 y0
    clear y0 HLN
    go_wp2_with fail
    go_region_held3 (fun V => Ext w V ∧ V.cell? ⟨x, 1, none⟩ = some (.slice A2 n d))
      ((go_split_ands; refine ⟨?_, ?_⟩ <;> first | (exact Ext.drew ‹_›) | (exact Ext.trans ‹_› hxk) | (exact ext_cell hxk ‹_›) | go_keep))
      (first
      | (go_at_call 34; go_split_ands; refine (HSZ.out _ ‹Ext w _›).mono ?_; rintro e u1 ⟨rfl, hxk⟩)
      | (go_at_call 33; go_split_ands; refine (HFU.out _ ‹Ext w _›).mono ?_; rintro e u2 ⟨hxk, A5, n5, c5, rfl, r5⟩)
      | fail)
    go_split_ands
    have hE := ‹Ext w u2›
    have R5 := Lib.hid r5
    clear r5
    go_wp2_with fail
    go_ret2
    exact ⟨hE, _, _, _, rfl, R5.out⟩
theorem atP17_c (x : Nat) (F : Nat → Prop) (s : ByteArray) (ls : List (List Sp)) (r : Int) (w : World) [Tab w] (h : HP w x F s ls) (hs : SmH s ls) (hS : Small ls) :
    Calls Tryd.prog 12 #[.pointer (some ⟨x, 0, none⟩), .int .i64 r] w fun e w' => e = .returned (atH s ls r) ∧ Ext w w' := by
  have HRU := Lib.hid (runP17_c x F s ls 0 r w h hs hS)
  unfold OpR at HRU
  by_cases hr : r < 0 ∨ (ls.length : Int) < r
  · have hR : atH s ls r = .tuple #[.string ⟨#[]⟩, .int .i64 6] := if_pos hr
    have hE : runH s ls 0 r = 6 := if_pos (by omega)
    rw [hR]
    rw [hE] at HRU
    clear hR hE hr h hs hS
    go_enter Tryd.func12, Tryd.ntmps12
    go_wp2_with fail
    refine HRU.out.mono ?_; rintro e w1 ⟨hx1, A5, n5, c5, rfl, r5⟩
    clear r5
    go_wp2_with fail
    go_ret2
    exact ⟨rfl, hx1⟩
  · obtain ⟨j, rfl⟩ := Int.eq_ofNat_of_zero_le (by omega : 0 ≤ r)
    have hR : atH s ls (j : Int) = .tuple #[.string (txt17 s ls j), .int .i64 0] := by unfold atH; rw [if_neg hr, Int.toNat_natCast]
    have ht0 : txt17 s ls 0 = s := by unfold txt17; rw [List.take_zero]; rfl
    have hE : runH s ls 0 (j : Int) = chainE (cntF (bs s)) (ls.take j) := by
      unfold runH
      rw [if_neg (by omega), Int.toNat_natCast, show (0 : Int).toNat = 0 from rfl, List.drop_zero, ht0]
    have hL : runHL s ls 0 (j : Int) = fuseL (cntF (bs s)) (ls.take j) := by
      unfold runHL
      rw [Int.toNat_natCast, show (0 : Int).toNat = 0 from rfl, List.drop_zero, ht0]
    obtain ⟨k1, k2, k3, k4, k5⟩ := run17_base h.ok hs.len hS j
    rw [hE, k1, hL, if_pos rfl] at HRU
    obtain ⟨⟨lv, hh⟩, _⟩ := h
    have y0 : w.cell? ⟨x, 2, none⟩ = some (.string s) := hh.box.cell rfl
    have hsb := hs.base
    rw [hR]
    clear hR hE hL hh hs hS hr ht0 k1
    generalize fuseL (cntF (bs s)) (ls.take j) = L at *
    have HTO : Hid (∀ (w' : World) A n c, Ext w w' → RdO w' A n c L → Calls Tryd.prog 14 #[.slice A n c, .string s] w' fun e w'' => e = .returned (.tuple #[.string (txt17 s ls j), .int .i64 0]) ∧ Ext w' w'') := Lib.hid fun w' A n c hx hr => by
      have hTb := tab_ext hx
      have hn := hr.1
      have g := to_c A n c L s w' hr.2 hr.1 (by omega) (fun u hu => by have := le_sumT L u hu; omega) (by omega) (by omega)
      unfold toV at g
      rw [k4, k5] at g
      exact g
    clear k2 k3 k4 k5
    generalize txt17 s ls j = TJ at *
    go_enter Tryd.func12, Tryd.ntmps12
    go_wp2_with fail
    refine HRU.out.mono ?_; rintro e w1 ⟨hx1, A5, n5, c5, rfl, r5⟩
    have H5 := Lib.hid (HTO.out _ _ _ _ hx1 r5)
    have y1 := ext_cell hx1 y0
    clear r5
    go_wp2_with fail
    refine H5.out.mono ?_; rintro e w2 ⟨rfl, hx2⟩
    go_wp2_with fail
    go_ret2
    exact ⟨rfl, hx1.trans hx2⟩
theorem app17_errL {w w' : World} {x : Nat} {F : Nat → Prop} {s : ByteArray} {ls : List (List Sp)} {l : List Sp} {Z : Int} (h : HP w x F s ls) (hx : Ext w w') (hE : appE s ls l = Z) (hz : Z ≠ 0) : AppR HP w x F s ls l (.returned (.int .i64 Z)) w' := by
  refine ⟨by rw [hE], Kp.of_ext F hx, ?_⟩
  rw [show appLs s ls l = ls from if_neg (by rw [hE]; exact hz)]
  exact (h.ext hx).more (fun k hk => .inl hk) fun k hk => by
    rcases hk with hk | hk
    · exact Nat.lt_of_lt_of_le (h.lt k hk) hx.size
    · exact hk.2
theorem appP17_c (x : Nat) (F : Nat → Prop) (s : ByteArray) (ls : List (List Sp)) (A : Option Addr) (n c : Nat) (l : List Sp) (w : World) [Tab w] (h : HP w x F s ls) (hs : SmH s ls) (hr : RdO w A n c l) (hn : n ≤ 1000) (hu : sumT l ≤ 400000000) :
    Calls Tryd.prog 10 #[.pointer (some ⟨x, 0, none⟩), .slice A n c] w (AppR HP w x F s ls l) := by
  have hl := hr.1
  have hsn := hs.num
  have hts : ∀ u ∈ l, u.2.2.size ≤ 1000000000 := fun u hu2 => by have := le_sumT l u hu2; omega
  have HLN := Lib.hid (lenP17_c x F s ls w h hs)
  have HMA := Lib.hid (fun w' (hx : Ext w w') => have hTb := tab_ext hx; mayP17_c x F s ls A n c l ls.length w' (h.ext hx) hs (Nat.le_refl _) (hr.ext hx) hn hts)
  have HOU := Lib.hid (fun w' (hx : Ext w w') => have hTb := tab_ext hx; out4_c A n c l w' (hr.ext hx).2 hl (by omega) hts)
  have HH := Lib.hid h
  have hme := app_may17 s ls l
  by_cases hma : mayE17 s ls l ls.length = 0
  · rw [if_pos hma] at hme
    rw [hma] at HMA
    have hm0 : mayL l = 0 := by
      unfold mayE17 at hma
      split at hma
      · exact absurd hma (by assumption)
      · omega
    obtain ⟨hall, in0, in1⟩ := mayL_all hm0 (by omega)
    have hok : ∀ x ∈ l, OkW x := fun x hx => okW_of_may (hall x hx)
    obtain ⟨ou0, ou1⟩ := outL_le l hok
    have hwo : wrap64 (outL l) = outL l := by unfold wrap64; omega
    rw [hwo] at HOU
    by_cases hou : 1048576 < outL l
    · have HE : Hid (appE s ls l = 4) := Lib.hid (by rw [hme, if_pos hou])
      have HNZ : Hid ((4 : Int) ≠ 0) := Lib.hid (by omega)
      clear hme hma hm0 hall hok hwo hr hs hts h hl
      generalize outL l = OU at *
      generalize ls.length = m at *
      go_enter Tryd.func10, Tryd.ntmps10
      go_wp2_with fail
      refine HLN.out.mono ?_; rintro e w1 ⟨rfl, hx1⟩
      go_wp2_with fail
      refine (HMA.out _ hx1).mono ?_; rintro e w2 ⟨rfl, hx2⟩
      have hx12 := hx1.trans hx2
      go_wp2_with fail
      refine (HOU.out _ hx12).mono ?_; rintro e w3 ⟨rfl, hx3⟩
      go_wp2_with fail
      go_ret
      exact app17_errL HH.out (hx12.trans hx3) HE.out HNZ.out
    · have hE : appE s ls l = 0 := by rw [hme, if_neg hou]
      obtain ⟨p1, -, -⟩ := hok_app (l := l) h.ok hs.len (by omega) hE
      have HAPE : Hid (appE s ls l = 0 ∧ appLs s ls l = ls ++ [normL l] ∧ Hok s (ls ++ [normL l])) := Lib.hid ⟨hE, if_pos hE, p1⟩
      have hNOK : Ok l := ⟨fun u hu2 => (hok u hu2).nonneg, by have := okW_N l hok; omega, by omega⟩
      have HOF := Lib.hid (fun w' (hx : Ext w w') => of5_c A n c l w' (hr.ext hx).2 hl (by omega) hNOK)
      obtain ⟨ii, hi', hz0', hz1', hz2'⟩ := info_parts info_ss
      obtain ⟨⟨lv, hh⟩, _⟩ := h
      obtain ⟨al, dl, rfl, _⟩ := hh.rd
      have z1 : w.cell? ⟨x, 1, none⟩ = some (.slice al ls.length dl) := hh.box.cell rfl
      obtain ⟨CB, hCB⟩ : ∃ C, cntF (bs s) = C := ⟨_, rfl⟩
      rw [hCB] at hh
      have HCB := Lib.hid hCB
      have HHS := Lib.hid hh
      have HFL := Lib.hid hh.fl; have HFX := Lib.hid hh.fx
      obtain ⟨m, hm⟩ : ∃ m, ls.length = m := ⟨_, rfl⟩
      have HM := Lib.hid hm
      rw [hm] at hsn
      clear hme hma hm0 hall hok hwo hr hs hts hl hE p1 hNOK hh hCB hm
      generalize outL l = OU at *
      go_enter Tryd.func10, Tryd.ntmps10
      go_wp2_with fail
      refine HLN.out.mono ?_; rintro e w1 ⟨rfl, hx1⟩
      go_wp2_with fail
      refine (HMA.out _ hx1).mono ?_; rintro e w2 ⟨rfl, hx2⟩
      have hx12 := hx1.trans hx2
      go_wp2_with fail
      refine (HOU.out _ hx12).mono ?_; rintro e w4 ⟨rfl, hx4⟩
      have hx14 := hx12.trans hx4
      have y1 := ext_cell hx14 z1
      clear z1 hx1 hx2 hx12 hx4 HLN HMA HOU
      go_wp2_with fail
      refine region_T (fun V => V.cell? ⟨x, 1, none⟩ = some (.slice al ls.length dl)) 11 (by kernel_rfl) (ext_cell (Ext.refl _).drew y1) (fun hHeld => ?_)
      obtain ⟨Wd, hWd⟩ : ∃ x, w4.drew = x := ⟨_, rfl⟩
      rw [hWd] at hHeld ⊢
      have hdx : Ext w4 Wd := by rw [← hWd]; exact (Ext.refl _).drew
      clear hWd
      refine wpAnyT_take (i := 0) (v := ?_) rfl (by kernel_rfl) (fun _ _ _ h => h) (Or.inl ⟨by rfl, ?_⟩) (by assumption) ?_
      rotate_left
      · (intro W hSw; (try dsimp only at hSw); go_simp; (try with_reducible rfl))
      try simp only [Act.put, List.getElem_toArray, List.getElem_cons_succ, List.getElem_cons_zero, List.setIfInBounds_toArray, List.set_cons_zero, List.set_cons_succ]
      refine wpAnyT_take (i := 1) (v := ?_) rfl (by kernel_rfl) (fun _ _ _ h => h) (Or.inl ⟨by rfl, ?_⟩) (by assumption) ?_
      rotate_left
      · (intro W hSw; (try dsimp only at hSw); go_simp; (try with_reducible rfl))
      try simp only [Act.put, List.getElem_toArray, List.getElem_cons_succ, List.getElem_cons_zero, List.setIfInBounds_toArray, List.set_cons_zero, List.set_cons_succ]
      refine wpAnyT_take (i := 2) (v := ?_) rfl (by kernel_rfl) (fun _ _ _ h => h) (Or.inl ⟨by rfl, ?_⟩) (by assumption) ?_
      rotate_left
      · (intro W hSw; (try dsimp only at hSw); go_simp; (try with_reducible rfl))
      try simp only [Act.put, List.getElem_toArray, List.getElem_cons_succ, List.getElem_cons_zero, List.setIfInBounds_toArray, List.set_cons_zero, List.set_cons_succ]
      refine wpAnyT_take (i := 3) (v := ?_) rfl (by kernel_rfl) (fun _ _ _ h => h) (Or.inl ⟨by rfl, ?_⟩) (by assumption) ?_
      rotate_left
      · (intro W hSw; (try dsimp only at hSw); go_simp; (try with_reducible rfl))
      try simp only [Act.put, List.getElem_toArray, List.getElem_cons_succ, List.getElem_cons_zero, List.setIfInBounds_toArray, List.set_cons_zero, List.set_cons_succ]
      refine wpAnyT_take (i := 4) (v := ?_) rfl (by kernel_rfl) (fun _ _ _ h => h) (Or.inl ⟨by rfl, ?_⟩) (by assumption) ?_
      rotate_left
      · (intro W hSw; (try dsimp only at hSw); go_simp; (try with_reducible rfl))
      try simp only [Act.put, List.getElem_toArray, List.getElem_cons_succ, List.getElem_cons_zero, List.setIfInBounds_toArray, List.set_cons_zero, List.set_cons_succ]
      refine wpAnyT_take (i := 5) (v := ?_) rfl (by kernel_rfl) (fun _ _ _ h => h) (Or.inl ⟨by rfl, ?_⟩) (by assumption) ?_
      rotate_left
      · (intro W hSw; (try dsimp only at hSw); go_simp; (try with_reducible rfl))
      try simp only [Act.put, List.getElem_toArray, List.getElem_cons_succ, List.getElem_cons_zero, List.setIfInBounds_toArray, List.set_cons_zero, List.set_cons_succ]
      refine wpAnyT_one (i := 6) rfl (by kernel_rfl) (fun K hK => ?_)
      go_simp
      refine (HOF.out _ (hx14.trans hdx)).mono ?_; rintro e w8 ⟨v8, rfl, hx8, own8⟩
      obtain ⟨a8, c8, rfl, _⟩ := own8.len
      have hd8 := hdx.trans hx8
      refine hK.out _ _ (fun _ => ext_cell hd8 y1) (fun hH => ?_)
      replace hHeld := hH (by decide)
      clear hK K hH
      try simp only [Act.put, List.getElem_toArray, List.getElem_cons_succ, List.getElem_cons_zero, List.setIfInBounds_toArray, List.set_cons_zero, List.set_cons_succ]
      refine wpAnyT_one (i := 7) rfl (by kernel_rfl) (fun K hK => ?_)
      go_simp
      refine hK.out _ _ (fun _ => ext_cell (hd8.alloc _) y1) (fun hH => ?_)
      replace hHeld := hH (by decide)
      clear hK K hH
      try simp only [Act.put, List.getElem_toArray, List.getElem_cons_succ, List.getElem_cons_zero, List.setIfInBounds_toArray, List.set_cons_zero, List.set_cons_succ]
      refine wpAnyT_one (i := 8) rfl (by kernel_rfl) (fun K hK => ?_)
      obtain ⟨nF, hnF⟩ : ∃ nF, (normL l).length = nF := ⟨_, rfl⟩
      rw [hnF] at own8 ⊢
      have hx18 := hx14.trans hd8
      have h8 : HS1 w8 x (Gr F w w8) CB (.slice al ls.length dl) s ls := (HHS.out.ext hx18).more (fun k hk => .inl hk) fun k hk => by
        rcases hk with hk | hk
        · exact Nat.lt_of_lt_of_le (HHS.out.lt k hk) hx18.size
        · exact hk.2
      obtain ⟨vs8, hro8, hrow8⟩ := h8.ro
      have HPU := Lib.hid (push17 (P := Tryd.prog) Tryd.underlying22 hi' hz0' hz1' hz2' rfl hro8 (by rw [HM.out]; omega) (.slice a8 nF c8) rfl)
      refine step_append_ex (by rfl) _ _ _ (by rfl) (by rfl) (by rfl) HPU.out ?_
      rintro v9 W9 ⟨ow9, be9, kp9, sz9, wh9⟩
      obtain ⟨a9, c9, rfl, _⟩ := ow9.len
      have hx9 : W9.heap[x]? = w8.heap[x]? := kp9 x h8.box.lt fun hq => by
        obtain ⟨cur2, hc⟩ := hro8.typ hq
        exact typ_ne h8.box hc (by decide) rfl
      have hb9 : BxT 36 W9 x #[.int .i64 CB, .slice al ls.length dl, .string s] := hx9.trans h8.box
      have y9 : W9.cell? ⟨x, 1, none⟩ = some (.slice al ls.length dl) := hb9.cell rfl
      have f9 := hb9.frozen 1
      refine hK.out _ _ (fun _ => y9) (fun hH => ?_)
      replace hHeld := hH (by decide)
      clear hK K hH
      try simp only [Act.put, List.getElem_toArray, List.getElem_cons_succ, List.getElem_cons_zero, List.setIfInBounds_toArray, List.set_cons_zero, List.set_cons_succ]
      refine wpAnyT_take (i := 9) (v := ?_) rfl (by kernel_rfl) (fun _ _ _ h => h) (Or.inl ⟨by rfl, ?_⟩) (by assumption) ?_
      rotate_left
      · (intro W hSw; (try dsimp only at hSw); go_simp; (try with_reducible rfl))
      try simp only [Act.put, List.getElem_toArray, List.getElem_cons_succ, List.getElem_cons_zero, List.setIfInBounds_toArray, List.set_cons_zero, List.set_cons_succ]
      refine wpAnyT_take (i := 10) (v := ?_) rfl (by kernel_rfl) (fun _ _ _ h => h) (Or.inl ⟨by rfl, ?_⟩) (by assumption) ?_
      rotate_left
      · (intro W hSw; (try dsimp only at hSw); go_simp; (try with_reducible rfl))
      try simp only [Act.put, List.getElem_toArray, List.getElem_cons_succ, List.getElem_cons_zero, List.setIfInBounds_toArray, List.set_cons_zero, List.set_cons_succ]
      refine wpAnyT_one (i := 11) rfl (by kernel_rfl) (fun K hK => ?_)
      go_simp
      refine hK.out _ _ (fun h => absurd rfl h) (fun _ => ?_)
      clear hK K hHeld
      try simp only [Act.put, List.getElem_toArray, List.getElem_cons_succ, List.getElem_cons_zero, List.setIfInBounds_toArray, List.set_cons_zero, List.set_cons_succ]
      refine wpAnyT_done (by kernel_rfl) ?_ _
      have h10 := h8.row (by decide) (by decide) (by decide) hro8 hrow8 (l := normL l) (by rw [hnF]; exact own8) (fun k hk => .inr ⟨Nat.le_trans hx14.size (Nat.le_trans hdx.size (own8.lt hk).1), (own8.lt hk).2⟩) ow9 kp9 sz9 wh9
      have K10 : Kp F w (W9.setCell ⟨x, 1, none⟩ (.slice a9 (ls.length + 1) c9)) := (Kp.of_ext F hx18).trans ((kp_app be9 kp9 HFL.out).set ⟨x, 1, none⟩ (.slice a9 (ls.length + 1) c9) (.inl HFX.out))
      have H10 := Lib.hid h10; have HK10 := Lib.hid K10; have HLT := Lib.hid HHS.out.lt; have HS9 := Lib.hid sz9; have HS8 := Lib.hid hx18.size
      clear h10 K10 h8 hro8 hrow8 own8 ow9 be9 kp9 sz9 wh9 hx9 hb9 y9 f9 y1 hx8 hd8 HPU hx18
      go_wp2_with fail
      go_ret
      obtain ⟨q1, q2, q3⟩ := HAPE.out
      refine ⟨by rw [q1]; rfl, HK10.out, ?_⟩
      rw [q2]
      refine ⟨?_, q3⟩
      rw [HCB.out]
      refine ⟨_, H10.out.more (fun k hk => ?_) fun k hk => ?_⟩
      · rcases hk with hk | hk
        · rcases hk with hk | hk
          · exact .inl hk
          · exact .inr ⟨hk.1, by have := HS9.out; simp only [World.setCell, Array.size_setIfInBounds, Array.size_modify]; omega⟩
        · exact .inr ⟨Nat.le_trans HS8.out hk.1, by simpa [World.setCell] using hk.2⟩
      · rcases hk with hk | hk
        · exact Nat.lt_of_lt_of_le (HLT.out k hk) HK10.out.size
        · exact hk.2
  · have HE : Hid (appE s ls l = mayE17 s ls l ls.length) := Lib.hid (by rw [hme, if_neg hma])
    have HNZ : Hid (mayE17 s ls l ls.length ≠ 0) := Lib.hid hma
    have t1 : (mayE17 s ls l ls.length != 0) = true := by rw [bne_iff_ne]; exact hma
    have t2 : (mayE17 s ls l ls.length == 0) = false := by rw [beq_eq_false_iff_ne]; exact hma
    clear hme hma hr hs hts h hl HOU
    generalize mayE17 s ls l ls.length = ME at *
    generalize ls.length = m at *
    go_enter Tryd.func10, Tryd.ntmps10
    go_wp2_with fail
    refine HLN.out.mono ?_; rintro e w1 ⟨rfl, hx1⟩
    go_wp2_with fail
    refine (HMA.out _ hx1).mono ?_; rintro e w2 ⟨rfl, hx2⟩
    have hx12 := hx1.trans hx2
    go_wp2_with fail
    go_ret
    exact app17_errL HH.out hx12 HE.out HNZ.out
theorem logP17_c (x : Nat) (F : Nat → Prop) (s : ByteArray) (ls : List (List Sp)) (w : World) [Tab w] (h : HP w x F s ls) (hs : SmH s ls) : Calls Tryd.prog 17 #[.pointer (some ⟨x, 0, none⟩)] w (LogR w s ls) := by
  obtain ⟨i, hi, hz0, hz1, hz2⟩ := info_parts info_sp5
  obtain ⟨ii, hi', hz0', hz1', hz2'⟩ := info_parts info_ss
  obtain ⟨ij, hj', hy0', hy1', hy2'⟩ := info_parts info_int
  have HOKH := Lib.hid h.ok
  obtain ⟨⟨lv, hh⟩, _⟩ := h
  obtain ⟨al, dl, rfl, hnd, hrss⟩ := hh.rd
  have y1 : w.cell? ⟨x, 1, none⟩ = some (.slice al ls.length dl) := hh.box.cell rfl
  have y2 : w.cell? ⟨x, 2, none⟩ = some (.string s) := hh.box.cell rfl
  have hxl := hh.box.lt
  have hsn := hs.num
  have HCL := Lib.hid (fun w' => clone17_c s w' hs.base)
  obtain ⟨n, hn⟩ : ∃ n, ls.length = n := ⟨_, rfl⟩
  have HL := Lib.hid hn
  unfold LogR
  rw [hn] at y1 hsn hrss ⊢
  have HRS := Lib.hid hrss; have HLE := Lib.hid hs
  obtain ⟨W0, hW0⟩ : ∃ V, w.alloc (.cells #[.string ⟨#[]⟩, .slice none 0 0, .slice none 0 0] 26) = V := ⟨_, rfl⟩
  obtain ⟨z, hz⟩ : ∃ z, w.heap.size = z := ⟨_, rfl⟩
  have hX0 : Ext w W0 := by rw [← hW0]; exact (Ext.refl w).alloc _
  have hRB : BxT 26 W0 z #[.string ⟨#[]⟩, .slice none 0 0, .slice none 0 0] := by rw [← hW0, ← hz]; exact BxT.new w 26 _
  have p2 := ext_cell ((Ext.refl w).alloc (.cells #[.string ⟨#[]⟩, .slice none 0 0, .slice none 0 0] 26)) y2
  have HY1 : Hid (∀ V, Ext w V → V.cell? ⟨x, 1, none⟩ = some (.slice al n dl)) := Lib.hid fun V hx => ext_cell hx y1
  have HW0 := Lib.hid hW0; have HZ := Lib.hid hz; have HX0 := Lib.hid hX0; have HRB := Lib.hid hRB
  clear hh hrss hn hs hxl y1 y2 hW0 hz hX0 hRB
  go_enter Tryd.func17, Tryd.ntmps17
  go_wp2_with fail
  refine (HCL.out _).mono ?_; rintro e W1 ⟨rfl, hx1⟩
  rw [HW0.out] at hx1
  rw [HZ.out]
  clear p2
  obtain ⟨W2, hW2⟩ : ∃ V, W1.alloc (.cells #[.int .i64 0] 3) = V := ⟨_, rfl⟩
  have hX2 : Ext W1 W2 := by rw [← hW2]; exact (Ext.refl W1).alloc _
  have hR2 : Own W2 w.heap.size 3 1 (.slice (some ⟨W1.heap.size, 0, none⟩) 1 1) 1 (nV (revL 0)) := by rw [← hW2]; exact Own.made W1 w.heap.size 3 1 1 #[.int .i64 0] (HX0.out.trans hx1).size (by omega) rfl
  obtain ⟨r0, hr0⟩ : ∃ r, W1.heap.size = r := ⟨_, rfl⟩
  rw [hr0] at hR2
  have hr1 : z < r0 := by rw [← hr0]; exact Nat.lt_of_lt_of_le HRB.out.lt hx1.size
  obtain ⟨y, hy⟩ : ∃ y, W2.heap.size = y := ⟨_, rfl⟩
  obtain ⟨W3, hW3⟩ : ∃ V, W2.alloc (.cells #[.string s, .slice (some ⟨r0, 0, none⟩) 1 1, .slice none 0 0] 26) = V := ⟨_, rfl⟩
  have hX3 : Ext W2 W3 := by rw [← hW3]; exact (Ext.refl W2).alloc _
  have hBX : BxT 26 W3 y #[.string s, .slice (some ⟨r0, 0, none⟩) 1 1, .slice none 0 0] := by rw [← hW3, ← hy]; exact BxT.new W2 26 _
  have hx03 : Ext w W3 := ((HX0.out.trans hx1).trans hX2).trans hX3
  have hye : r0 + 1 = y := by rw [← hy, ← hW2, size_alloc, hr0]
  have HYE := Lib.hid hye
  have hwz := HZ.out
  have HST0 : Hid (FitSt w W3 W3 z y s 0 (ls.take 0) (.slice (some ⟨r0, 0, none⟩) 1 1) (.slice none 0 0)) := Lib.hid
    ⟨by omega, by omega, hBX.lt, hx03, HRB.out.ext ((hx1.trans hX2).trans hX3), hBX, hR2.ext hX3, ⟨[], Own.nil _ _ _ _ (Nat.le_refl _), fun i l hl => by simp at hl⟩, hx03, Keep2.refl _ _ _⟩
  have HW2 := Lib.hid hW2; have HW3 := Lib.hid hW3; have HR0 := Lib.hid hr0; have HY := Lib.hid hy
  have pl : (W2.alloc (.cells #[.string s, .slice (some ⟨r0, 0, none⟩) 1 1, .slice none 0 0] 26)).cell? ⟨x, 1, none⟩ = some (.slice al n dl) := by rw [hW3]; exact HY1.out _ hx03
  have pl2 : ((W1.alloc (.cells #[.int .i64 0] 3)).alloc (.cells #[.string s, .slice (some ⟨W1.heap.size, 0, none⟩) 1 1, .slice none 0 0] 26)).cell? ⟨x, 1, none⟩ = some (.slice al n dl) := by rw [hW2, hr0, hW3]; exact HY1.out _ hx03
  clear hBX hR2 hX2 hX3 hW2 hW3 hr0 hy hye hr1 hwz hx1 pl
  go_wp2_with fail
  rw [HR0.out, HW2.out, HYE.out, HW3.out]
  obtain ⟨WQ, hWQ⟩ : ∃ V, W3 = V := ⟨_, rfl⟩
  rw [hWQ] at HST0 HW3 hx03 ⊢
  clear hWQ pl2
  go_loopw [19] (fun iv wr => ∃ (j : Nat) (vr vs : Value), j ≤ n ∧ iv = .int .i64 j ∧ Hid (FitSt w WQ wr z y s j (ls.take j) vr vs)) (fun iv _ => n - (intOf iv).toNat)
  case atStart => exact ⟨0, _, _, by omega, rfl, HST0⟩
  case round =>
    clear HST0
    obtain ⟨j, vr, vs, hj, rfl, HST⟩ := hrel
    obtain ⟨ra, rc, rfl, _⟩ := HST.out.rev.len
    have c1 : wr.cell? ⟨y, 1, none⟩ = some (.slice ra (j + 1) rc) := HST.out.box.cell rfl
    by_cases hlt : j < n
    · have dn : decide (j < n) = true := by rw [decide_eq_true_eq]; exact hlt
      have dn2 : decide ((j : Int) < (n : Int)) = true := by rw [decide_eq_true_eq]; omega
      have hjl : j < ls.length := by have := HL.out; omega
      have HTK : Hid (ls.take (j + 1) = ls.take j ++ [ls[j]]) := Lib.hid (by rw [List.take_add_one, List.getElem?_eq_getElem hjl]; rfl)
      have hsl : (ls.take j).length ≤ 1000 := by rw [List.length_take]; omega
      obtain ⟨bb, off, a2, kc2, rfl, hbb, q00, hr00⟩ := HRS.out.at_ hlt hjl
      have i0 : (0 : Int) ≤ (j : Int) := by omega
      have i1 : (j : Int) < (n : Int) := by omega
      have hlen := HLE.out.len _ (List.getElem_mem hjl)
      obtain ⟨e1, e2, e3, e4⟩ := HOKH.out.size HLE.out.len HLE.out.num hjl
      have hokw : ∀ u ∈ ls[j], OkW u := fun u hu => okW_of_may ((mayL_all e3 hlen).1 u hu)
      obtain ⟨o0, o1⟩ := outL_le _ hokw
      have hsT := sumT_le16 _ (List.getElem_mem hjl)
      have hsS := HLE.out.sum
      have hNOK : Ok ls[j] := ⟨fun u hu2 => (hokw u hu2).nonneg, by have := okW_N _ hokw; have := (mayL_all e3 hlen).2; omega, by omega⟩
      obtain ⟨RW, hRW⟩ : ∃ l, ls[j] = l := ⟨_, rfl⟩
      rw [hRW] at q00 hr00 hlen HTK e2 hNOK
      obtain ⟨k, hk⟩ : ∃ k, RW.length = k := ⟨_, rfl⟩
      rw [hk] at q00 hr00 hlen
      have HRL := Lib.hid hk
      have HOFw := Lib.hid (fun w' (hx : Ext w w') => of5_c a2 k kc2 RW w' (hr00.ext hx) HRL.out (by omega) hNOK)
      rw [e2, hk] at HOFw
      obtain ⟨SG, hSG⟩ : ∃ X, ls.take j = X := ⟨_, rfl⟩
      rw [hSG] at HST HTK hsl
      clear hSG hRW hk e1 e2 e3 e4 hokw o0 o1 hsT hsS hNOK
      have q0w : wr.cell? ⟨bb, off + j, none⟩ = some (.slice a2 k kc2) := ext_cell HST.out.ext q00
      obtain ⟨v', w', happ, hown', hbel', hoth⟩ := app_newo (P := Tryd.prog) 24 24 3 ij _ 1 8 Tryd.underlying24 hj' hy0' hy1' hy2' rfl (by omega) (by omega)
        HST.out.ext HST.out.rev (by omega) 1 #[.int .i64 ((j : Int) + 1)] rfl (by omega) (by simp [Value.oneCell']) 3
      obtain ⟨va, vc, rfl, _⟩ := hown'.len
      have HAP := Lib.hid happ
      have HS2 := Lib.hid (HST.out.number hown' hbel' hoth)
      have hb1 : BxT 26 w' y #[.string s, .slice ra (j + 1) rc, vs] := hoth.2 y _ _ _ (by decide) HST.out.box
      have d1 : w'.cell? ⟨y, 1, none⟩ = some (.slice ra (j + 1) rc) := hb1.cell rfl
      have f1 := hb1.frozen 1
      clear happ hown' hbel' hoth hb1
      go_wp2_with (at_builtin; refine wpList_append_run rfl rfl HAP.out rfl rfl ?_)
      obtain ⟨W3, hW3⟩ : ∃ V, w'.setCell ⟨y, 1, none⟩ (.slice va (j + 1 + 1) vc) = V := ⟨_, rfl⟩
      rw [hW3] at HS2 ⊢
      clear hW3 d1 f1 HAP c1 HST q0w
      have HST2 := HS2
      obtain ⟨sa, sc, rfl, _⟩ := HST2.out.sgs.rd
      have g2 : W3.cell? ⟨y, 2, none⟩ = some (.slice sa SG.length sc) := HST2.out.box.cell rfl
      have f2 := HST2.out.box.frozen 2
      have HOF := Lib.hid (fun V (hx : Ext W3 V) => HOFw.out V (HST2.out.ext.trans (Below.mono hx HST2.out.ext.size)))
      clear HS2 q00 hr00 HOFw
      refine region_T (fun V => V.cell? ⟨y, 2, none⟩ = some (.slice sa SG.length sc)) 7 (by kernel_rfl) (ext_cell (Ext.refl _).drew g2) (fun hHeld => ?_)
      obtain ⟨Wd, hWd⟩ : ∃ x, W3.drew = x := ⟨_, rfl⟩
      rw [hWd] at hHeld ⊢
      have hdx : Ext W3 Wd := by rw [← hWd]; exact (Ext.refl _).drew
      clear hWd
      refine wpAnyT_take (i := 0) (v := ?_) rfl (by kernel_rfl) (fun _ _ _ h => h) (Or.inl ⟨by rfl, ?_⟩) (by assumption) ?_
      rotate_left
      · (intro W hSw; (try dsimp only at hSw); go_simp; (try with_reducible rfl))
      try simp only [Act.put, List.getElem_toArray, List.getElem_cons_succ, List.getElem_cons_zero, List.setIfInBounds_toArray, List.set_cons_zero, List.set_cons_succ]
      refine wpAnyT_take (i := 1) (v := ?_) rfl (by kernel_rfl) (fun _ _ _ h => h) (Or.inl ⟨by rfl, ?_⟩) (by assumption) ?_
      rotate_left
      · (intro W hSw; (try dsimp only at hSw); go_simp; (try with_reducible rfl))
      try simp only [Act.put, List.getElem_toArray, List.getElem_cons_succ, List.getElem_cons_zero, List.setIfInBounds_toArray, List.set_cons_zero, List.set_cons_succ]
      refine wpAnyT_take (i := 2) (v := ?_) rfl (by kernel_rfl) (fun _ _ _ h => h) (Or.inl ⟨by rfl, ?_⟩) (by assumption) ?_
      rotate_left
      · (intro W hSw; (try dsimp only at hSw); go_simp; (try with_reducible rfl))
      try simp only [Act.put, List.getElem_toArray, List.getElem_cons_succ, List.getElem_cons_zero, List.setIfInBounds_toArray, List.set_cons_zero, List.set_cons_succ]
      refine wpAnyT_one (i := 3) rfl (by kernel_rfl) (fun K hK => ?_)
      go_simp
      refine (HOF.out _ hdx).mono ?_; rintro e w4 ⟨v8, rfl, hx8, ow4⟩
      obtain ⟨a4, k4, rfl, _⟩ := ow4.len
      have hd4 : Ext W3 w4 := hdx.trans hx8
      refine hK.out _ _ (fun _ => ext_cell hd4 g2) (fun hH => ?_)
      replace hHeld := hH (by decide)
      clear hK K hH
      try simp only [Act.put, List.getElem_toArray, List.getElem_cons_succ, List.getElem_cons_zero, List.setIfInBounds_toArray, List.set_cons_zero, List.set_cons_succ]
      refine wpAnyT_one (i := 4) rfl (by kernel_rfl) (fun K hK => ?_)
      go_simp
      refine hK.out _ _ (fun _ => ext_cell (hd4.alloc _) g2) (fun hH => ?_)
      replace hHeld := hH (by decide)
      clear hK K hH
      try simp only [Act.put, List.getElem_toArray, List.getElem_cons_succ, List.getElem_cons_zero, List.setIfInBounds_toArray, List.set_cons_zero, List.set_cons_succ]
      refine wpAnyT_one (i := 5) rfl (by kernel_rfl) (fun K hK => ?_)
      have hBq : WQ.heap.size ≤ Wd.heap.size := Nat.le_trans HST2.out.keep.1 hdx.size
      have HPU := Lib.hid (fit_push (P := Tryd.prog) Tryd.underlying22 hi' hz0' hz1' hz2' rfl (by decide) HST2.out.sgs hd4 hsl ow4 hBq HRL.out (Below.mono hd4 HST2.out.keep.1))
      refine step_append_ex (by rfl) _ _ _ (by rfl) (by rfl) (by rfl) HPU.out ?_
      rintro v6 w6 ⟨hss6, hbel6, hoth6⟩
      obtain ⟨va6, vc6, rfl, _⟩ := hss6.rd
      have hf6 : w6.frozen? ⟨y, 2, none⟩ = false := (hbel6.frozen (p := ⟨y, 2, none⟩) HST2.out.hq).trans f2
      have hc6 : w6.cell? ⟨y, 2, none⟩ = some (.slice sa SG.length sc) := (hbel6.cell (p := ⟨y, 2, none⟩) HST2.out.hq).trans g2
      refine hK.out _ _ (fun _ => hc6) (fun hH => ?_)
      replace hHeld := hH (by decide)
      clear hK K hH
      try simp only [Act.put, List.getElem_toArray, List.getElem_cons_succ, List.getElem_cons_zero, List.setIfInBounds_toArray, List.set_cons_zero, List.set_cons_succ]
      refine wpAnyT_take (i := 6) (v := ?_) rfl (by kernel_rfl) (fun _ _ _ h => h) (Or.inl ⟨by rfl, ?_⟩) (by assumption) ?_
      rotate_left
      · (intro W hSw; (try dsimp only at hSw); go_simp; (try with_reducible rfl))
      try simp only [Act.put, List.getElem_toArray, List.getElem_cons_succ, List.getElem_cons_zero, List.setIfInBounds_toArray, List.set_cons_zero, List.set_cons_succ]
      refine wpAnyT_one (i := 7) rfl (by kernel_rfl) (fun K hK => ?_)
      go_simp
      refine hK.out _ _ (fun h => absurd rfl h) (fun _ => ?_)
      clear hK K hHeld
      try simp only [Act.put, List.getElem_toArray, List.getElem_cons_succ, List.getElem_cons_zero, List.setIfInBounds_toArray, List.set_cons_zero, List.set_cons_succ]
      refine wpAnyT_done (by kernel_rfl) ?_ _
      have hs3 := HST2.out.segment hd4 hss6 hbel6 hoth6
      rw [List.length_append, List.length_singleton, ← HTK.out] at hs3
      have HS3 := Lib.hid hs3
      clear hs3
      go_wp2_with fail
      go_roundw
      case rel => exact ⟨j + 1, _, _, by omega, by go_num, HS3⟩
      case measure => simp [intOf]; omega
    · obtain rfl : j = n := by omega
      have dn : decide (j < j) = false := by rw [decide_eq_false_iff_not]; omega
      have hst := HST.out
      rw [show ls.take j = ls by rw [← HL.out]; exact List.take_length] at hst
      have c0 : wr.cell? ⟨y, 0, none⟩ = some (.string s) := hst.box.cell rfl
      have c2 : wr.cell? ⟨y, 2, none⟩ = some vs := hst.box.cell rfl
      have k0 : wr.cell? ⟨z, 0, none⟩ = some (.string ⟨#[]⟩) := hst.rb.cell rfl
      have k1 : wr.cell? ⟨z, 1, none⟩ = some (.slice none 0 0) := hst.rb.cell rfl
      have k2 : wr.cell? ⟨z, 2, none⟩ = some (.slice none 0 0) := hst.rb.cell rfl
      have f0 := hst.rb.frozen 0; have f1 := hst.rb.frozen 1; have f2 := hst.rb.frozen 2
      have HSF := Lib.hid hst
      clear hst HST
      obtain ⟨sa, sc, rfl, _⟩ := HSF.out.sgs.slice (n := j) HL.out
      go_wp2_with fail
      refine bodyPost_ret (results_cell_row rfl _ _ z _ _ (0, 0) _ rfl (((HSF.out.rb.set 0 (.string s)).set 1 (.slice ra (j + 1) rc)).set 2 (.slice sa j sc)) Tryd.underlying26 rfl (by kernel_rfl)) rfl ?_
      have hst := HSF.out
      have r1 := hst.rb.set 0 (.string s); have r2 := r1.set 1 (.slice ra (j + 1) rc)
      have o1 := own_cell_other (a := ⟨z, 0, none⟩) hst.rev hst.rb (by decide) (.string s)
      have o2 := own_cell_other (a := ⟨z, 1, none⟩) o1 r1 (by decide) (.slice ra (j + 1) rc)
      have o3 := own_cell_other (a := ⟨z, 2, none⟩) o2 r2 (by decide) (.slice sa j sc)
      have s1 := hst.sgs.cell_other (a := ⟨z, 0, none⟩) hst.rb (by decide) (by decide) (.string s)
      have s2 := s1.cell_other (a := ⟨z, 1, none⟩) r1 (by decide) (by decide) (.slice ra (j + 1) rc)
      have s3 := s2.cell_other (a := ⟨z, 2, none⟩) r2 (by decide) (by decide) (.slice sa j sc)
      have hss := s3.more hst.h0.size
      exact ⟨((hst.ext.setCell (p := ⟨z, 0, none⟩) hst.hz _).setCell (p := ⟨z, 1, none⟩) hst.hz _).setCell (p := ⟨z, 2, none⟩) hst.hz _, ra, j + 1, rc, _, _, _, rfl, o3, hss⟩
end Go.Proofs.YtgcaphjjigpjlaaDoor
namespace Go.Proofs.YtgcaphjjigpjlaaDoor
open Go.RowKit
set_option maxRecDepth 100000
set_option maxHeartbeats 4000000
set_option linter.unusedSimpArgs false
def cut60q (s : ByteArray) : ByteArray := s.extract 0 (min s.size 60)
theorem cut60q_size (s : ByteArray) : (cut60q s).size ≤ 60 := by simp [cut60q]; omega
def fewL17 (l : List Sp) : List Sp := (l.take 20).map fun s => (s.1, s.2.1, cut60q s.2.2)
theorem fewL17_take (l : List Sp) (j : Nat) (h : j < l.length) (h20 : j < 20) : fewL17 (l.take (j + 1)) = fewL17 (l.take j) ++ [(l[j].1, l[j].2.1, cut60q l[j].2.2)] := by
  unfold fewL17
  have e1 : (l.take (j + 1)).take 20 = l.take (j + 1) := List.take_of_length_le (by rw [List.length_take]; omega)
  have e2 : (l.take j).take 20 = l.take j := List.take_of_length_le (by rw [List.length_take]; omega)
  rw [e1, e2, List.take_add_one, List.getElem?_eq_getElem h, List.map_append]
  rfl
theorem fewL17_size (l : List Sp) : ∀ s ∈ fewL17 l, s.2.2.size ≤ 60 := by
  intro s hs
  obtain ⟨x, _, rfl⟩ := List.mem_map.1 hs
  exact cut60q_size _
theorem fewL17_len (l : List Sp) : (fewL17 l).length = min 20 l.length := by simp [fewL17]
theorem few17_c (A : Option Addr) (q c : Nat) (l : List Sp) (w : World) (h : Rd w 3 (.slice A q c) q (spCells l)) (hl : l.length = q) (hs : ∀ s ∈ l, s.2.2.size ≤ maxLen) :
    Calls Tryd.prog 19 #[.slice A q c] w fun e w' => ∃ v, e = .returned v ∧ Ext w w' ∧ Own w' w.heap.size 50 3 v (fewL17 l).length (spCells (fewL17 l)) := by
  obtain ⟨i, hi, hz0, hz1, hz2⟩ := info_parts info_sp5
  have H := Lib.hid h; have HL := Lib.hid hl; have HS := Lib.hid hs
  have hrel0 : Own (w.alloc (.cells #[] 50)) w.heap.size 50 3 (.slice (some ⟨w.heap.size, 0, none⟩) 0 0) 0 (spCells []) ∧ Below w.heap.size w (w.alloc (.cells #[] 50)) :=
    ⟨Own.made w w.heap.size 50 3 0 #[] (Nat.le_refl _) (by omega) rfl, (Below.refl _ _).alloc (Nat.le_refl _) _⟩
  have HR0 := Lib.hid hrel0
  clear h hl hs hrel0
  go_enter Tryd.func19, Tryd.ntmps19
  go_wp2_with fail
  go_loopw [3, 4] (fun o z wr => ∃ j : Nat, j ≤ q ∧ j ≤ 20 ∧ z = .int .i64 j ∧ Own wr w.heap.size 50 3 o j (spCells (fewL17 (l.take j))) ∧ Below w.heap.size w wr) (fun _ z _ => 20 - (intOf z).toNat)
  case atStart => exact ⟨0, by omega, by omega, rfl, HR0.out.1, HR0.out.2⟩
  case round =>
    obtain ⟨j, hj, hj20, rfl, hown, hbel⟩ := hrel
    by_cases hlt : j < q ∧ j < 20
    · have hjl : j < l.length := by have := HL.out; omega
      obtain ⟨b, off, rfl, hb, q0, q1, q2⟩ := sp_at (H.out.ext hbel) HL.out hlt.1
      have dn : decide (j < q) = true := by rw [decide_eq_true_eq]; exact hlt.1
      have d20 : decide ((j : Int) < 20) = true := by rw [decide_eq_true_eq]; omega
      have i0 : (0 : Int) ≤ (j : Int) := by omega
      have i1 : (j : Int) < (q : Int) := by omega
      have hsz : l[j].2.2.size ≤ maxLen := HS.out _ (List.getElem_mem hjl)
      have hst := fewL17_take l j hjl hlt.2
      obtain ⟨R1, hR1⟩ : ∃ R1, fewL17 (l.take (j + 1)) = R1 := ⟨_, rfl⟩
      rw [hR1] at hst
      generalize fewL17 (l.take j) = xs at *
      generalize l[j].1 = a1 at *
      generalize l[j].2.1 = a2 at *
      generalize l[j].2.2 = a3 at *
      unfold maxLen at hsz
      have hm : (min (a3.size : Int) 60).toNat = min a3.size 60 := by omega
      have HST := Lib.hid hst; have HR1 := Lib.hid hR1; have HM := Lib.hid hm
      clear hst hR1 hm
      have hX : a3.extract 0 (min (a3.size : Int) 60).toNat = cut60q a3 := by rw [HM.out]; rfl
      have hbx := hbel.alloc hown.2 (.cells #[.int .i64 a1, .int .i64 a2, .string (a3.extract 0 (min (a3.size : Int) 60).toNat)] 50)
      have hox := hown.alloc (.cells #[.int .i64 a1, .int .i64 a2, .string (a3.extract 0 (min (a3.size : Int) 60).toNat)] 50)
      obtain ⟨v', w', happ, hown', hbel'⟩ := app_new (P := Tryd.prog) 37 37 50 i _ 3 32 Tryd.underlying37 hi hz0 hz1 hz2 rfl (by omega) (by omega)
        hbx hox (by omega) 1 #[.int .i64 a1, .int .i64 a2, .string (a3.extract 0 (min (a3.size : Int) 60).toNat)] rfl (by omega) (by simp [Value.oneCell']) 50
      rw [size_alloc] at happ
      have HAP := Lib.hid happ
      have hown2 : Own w' w.heap.size 50 3 v' (j + 1) (spCells R1) := by rw [HST.out, spCells_append, ← hX]; exact hown'
      clear happ hX hbx hox hown'
      go_wp2_with (at_builtin; refine wpList_append_run rfl rfl HAP.out rfl rfl ?_)
      go_roundw
      case rel => exact ⟨j + 1, by omega, by omega, by go_num, by rw [HR1.out]; exact hown2, hbel'⟩
      case measure => simp [intOf]; omega
    · have hall : l.take j = l.take 20 := by
        rcases (by omega : j = 20 ∨ j = q) with e | e
        · rw [e]
        · have e2 := HL.out
          rw [List.take_of_length_le (by omega), List.take_of_length_le (by omega)]
      have hcase : (decide (j < q) = false) ∨ (decide (j < q) = true ∧ decide ((j : Int) < 20) = false) := by
        by_cases e : j < q
        · exact .inr ⟨by rw [decide_eq_true_eq]; exact e, by rw [decide_eq_false_iff_not]; omega⟩
        · exact .inl (by rw [decide_eq_false_iff_not]; exact e)
      have hfl : fewL17 (l.take j) = fewL17 l := by rw [hall]; unfold fewL17; rw [List.take_take]; rfl
      have hlen : (fewL17 l).length = j := by rw [← hfl, fewL17_len]; have := HL.out; simp; omega
      rw [hfl] at hown
      have HLN := Lib.hid hlen
      clear hall hfl hlen hlt
      rcases hcase with d1 | ⟨d1, d2⟩
      all_goals
        go_wp2_with fail
        go_ret
        refine ⟨_, rfl, hbel, ?_⟩
        rw [HLN.out]
        exact hown
structure HI (H : World → Nat → (Nat → Prop) → ByteArray → List (List Sp) → Prop) : Prop where
  keep : ∀ {W W' : World} {x : Nat} {F S : Nat → Prop} {s : ByteArray} {ls : List (List Sp)}, H W x F s ls → Kp S W W' → (∀ i, F i → ¬ S i) → H W' x F s ls
  lt : ∀ {W : World} {x : Nat} {F : Nat → Prop} {s : ByteArray} {ls : List (List Sp)}, H W x F s ls → ∀ k, F k → k < W.heap.size
  ok : ∀ {W : World} {x : Nat} {F : Nat → Prop} {s : ByteArray} {ls : List (List Sp)}, H W x F s ls → Hok s ls
theorem HI.ext {H : World → Nat → (Nat → Prop) → ByteArray → List (List Sp) → Prop} (hi : HI H) {W W' : World} {x : Nat} {F : Nat → Prop} {s : ByteArray} {ls : List (List Sp)} (h : H W x F s ls) (k : Ext W W') : H W' x F s ls := hi.keep h (Kp.of_ext (fun _ => False) k) fun _ _ hq => hq
theorem ext_kp {w W W' : World} {F : Nat → Prop} (h : Ext w W) (k : Kp F W W') (hF : ∀ i, F i → w.heap.size ≤ i) : Ext w W' :=
  ((Kp.of_ext (fun _ => False) h).wide k fun i hi => .inr (hF i hi)).ext fun _ hq => hq.elim
structure HWs (w W : World) (x : Nat) (F : Nat → Prop) (s : ByteArray) (ls : List (List Sp)) : Prop where
  hp : HP W x F s ls
  ext : Ext w W
  ge : ∀ k, F k → w.heap.size ≤ k
def HW (w W : World) (x : Nat) (s : ByteArray) (ls : List (List Sp)) : Prop := ∃ F, HWs w W x F s ls
theorem HW.e {w W : World} {x : Nat} {s : ByteArray} {ls : List (List Sp)} (h : HW w W x s ls) : Ext w W := by obtain ⟨F, h⟩ := h; exact h.ext
theorem HW.ok {w W : World} {x : Nat} {s : ByteArray} {ls : List (List Sp)} (h : HW w W x s ls) : Hok s ls := by obtain ⟨F, h⟩ := h; exact h.hp.ok
theorem HW.next {w W W' : World} {x : Nat} {s : ByteArray} {ls : List (List Sp)} (h : HW w W x s ls) (k : Ext W W') : HW w W' x s ls := by
  obtain ⟨F, h⟩ := h
  exact ⟨F, h.hp.ext k, h.ext.trans k, h.ge⟩
theorem HWs.app {w W W' : World} {x : Nat} {F : Nat → Prop} {s : ByteArray} {ls ls' : List (List Sp)} (h : HWs w W x F s ls) (k : Kp F W W') (hp : HP W' x (Gr F W W') s ls') : HW w W' x s ls' :=
  ⟨_, hp, ext_kp h.ext k h.ge, fun i hi => by rcases hi with hi | hi; exact h.ge i hi; exact Nat.le_trans h.ext.size hi.1⟩
theorem hw_new (s : ByteArray) (w W : World) [Tab w] (hx : Ext w W) (hs : s.size ≤ 1000000) (hn : newH s = 0) : Calls Tryd.prog 9 #[.string s] W fun e w' => ∃ x, e = .returned (.tuple #[.pointer (some ⟨x, 0, none⟩), .int .i64 0]) ∧ HW w w' x s [] := by
  have hTb := tab_ext hx
  refine (newP17_c s W hs).mono ?_
  rintro e w' ⟨h1, -, h2⟩
  obtain ⟨x, F, he, hp, hF⟩ := h2 hn
  exact ⟨x, he, F, hp, hx.trans h1, fun k hk => Nat.le_trans hx.size (hF k hk)⟩
theorem hw_app (x : Nat) (s : ByteArray) (ls : List (List Sp)) (A : Option Addr) (n c : Nat) (l : List Sp) (w W : World) [Tab w] (h : HW w W x s ls) (hs : SmH s ls) (hr : RdO W A n c l) (hn : n ≤ 1000) (hu : sumT l ≤ 400000000) :
    Calls Tryd.prog 10 #[.pointer (some ⟨x, 0, none⟩), .slice A n c] W fun e w' => e = .returned (.int .i64 (appE s ls l)) ∧ HW w w' x s (appLs s ls l) := by
  have hTb := tab_ext h.e
  obtain ⟨F, h⟩ := h
  refine (appP17_c x F s ls A n c l W h.hp hs hr hn hu).mono ?_
  rintro e w' ⟨h1, h2, h3⟩
  exact ⟨h1, h.app h2 h3⟩
theorem hw_len (x : Nat) (s : ByteArray) (ls : List (List Sp)) (w W : World) [Tab w] (h : HW w W x s ls) (hs : SmH s ls) : Calls Tryd.prog 11 #[.pointer (some ⟨x, 0, none⟩)] W fun e w' => e = .returned (.int .i64 (ls.length : Int)) ∧ Ext W w' := by
  have hTb := tab_ext h.e
  obtain ⟨F, h⟩ := h
  exact lenP17_c x F s ls W h.hp hs
theorem hw_at (x : Nat) (s : ByteArray) (ls : List (List Sp)) (r : Int) (w W : World) [Tab w] (h : HW w W x s ls) (hs : SmH s ls) (hS : Small ls) : Calls Tryd.prog 12 #[.pointer (some ⟨x, 0, none⟩), .int .i64 r] W fun e w' => e = .returned (atH s ls r) ∧ Ext W w' := by
  have hTb := tab_ext h.e
  obtain ⟨F, h⟩ := h
  exact atP17_c x F s ls r W h.hp hs hS
theorem hw_over (x : Nat) (s : ByteArray) (ls : List (List Sp)) (A : Option Addr) (n c : Nat) (a : List Sp) (r : Int) (w W : World) [Tab w] (h : HW w W x s ls) (hs : SmH s ls) (hr : RdO W A n c a) (hS : SmT a ls) : Calls Tryd.prog 22 #[.pointer (some ⟨x, 0, none⟩), .slice A n c, .int .i64 r] W (OpR W (overH s ls a r) (overHL ls a r)) := by
  have hTb := tab_ext h.e
  obtain ⟨F, h⟩ := h
  exact overP17_c x F s ls A n c a r W h.hp hs hr hS
theorem hw_run (x : Nat) (s : ByteArray) (ls : List (List Sp)) (r t : Int) (w W : World) [Tab w] (h : HW w W x s ls) (hs : SmH s ls) (hS : Small ls) : Calls Tryd.prog 13 #[.pointer (some ⟨x, 0, none⟩), .int .i64 r, .int .i64 t] W (OpR W (runH s ls r t) (runHL s ls r t)) := by
  have hTb := tab_ext h.e
  obtain ⟨F, h⟩ := h
  exact runP17_c x F s ls r t W h.hp hs hS
theorem hw_log (x : Nat) (s : ByteArray) (ls : List (List Sp)) (w W : World) [Tab w] (h : HW w W x s ls) (hs : SmH s ls) : Calls Tryd.prog 17 #[.pointer (some ⟨x, 0, none⟩)] W (LogR W s ls) := by
  have hTb := tab_ext h.e
  obtain ⟨F, h⟩ := h
  exact logP17_c x F s ls W h.hp hs
def ex17a : List Sp := [(2, 0, ⟨#[98]⟩), (1, 1, ⟨#[]⟩)]
def ex17b : List Sp := [(3, 1, ⟨#[]⟩), (1, 1, ⟨#[]⟩)]
theorem ex17_n : newH ⟨#[97]⟩ = 0 := by decide +kernel
theorem ex17_e1 : appE ⟨#[97]⟩ [] ex17a = 0 := by decide +kernel
theorem ex17_l1 : appLs ⟨#[97]⟩ [] ex17a = [ex17a] := by decide +kernel
theorem ex17_e2 : appE ⟨#[97]⟩ [ex17a] ex17b = 0 := by decide +kernel
theorem ex17_l2 : appLs ⟨#[97]⟩ [ex17a] ex17b = [ex17a, ex17b] := by decide +kernel
theorem ex17_r : runH ⟨#[97]⟩ [ex17a, ex17b] 0 2 = 0 := by decide +kernel
theorem ex17_rl : runHL ⟨#[97]⟩ [ex17a, ex17b] 0 2 = [(1, 1, ⟨#[]⟩)] := by decide +kernel
theorem smH_of {s : ByteArray} {ls : List (List Sp)} (h1 : s.size ≤ 1000000) (h2 : ls.length ≤ 900) (h3 : ∀ l ∈ ls, l.length ≤ 1000) (h4 : sumTT ls ≤ 400000000) : SmH s ls := ⟨h1, h2, h3, h4⟩
theorem shown17_c (w : World) [Tab w] : Calls Tryd.prog 7 #[] w fun e w' => e = .returned (.bool true) ∧ Ext w w' := by
  have HN := Lib.hid (hw_new ⟨#[97]⟩ w w (Ext.refl w) (by decide) ex17_n)
  have HA1 : Hid (∀ W x, HW w W x ⟨#[97]⟩ [] → Calls Tryd.prog 10 #[.pointer (some ⟨x, 0, none⟩), .slice (some ⟨W.heap.size, 0, none⟩) 2 2] (W.alloc (.cells #[.int .i64 2, .int .i64 0, .string ⟨#[98]⟩, .int .i64 1, .int .i64 1, .string ⟨#[]⟩] 50)) fun e w' => e = .returned (.int .i64 0) ∧ HW w w' x ⟨#[97]⟩ [ex17a]) := Lib.hid fun W x h => by
    have g := hw_app x ⟨#[97]⟩ [] _ 2 2 ex17a w _ (h.next ((Ext.refl W).alloc (.cells #[.int .i64 2, .int .i64 0, .string ⟨#[98]⟩, .int .i64 1, .int .i64 1, .string ⟨#[]⟩] 50))) (smH_of (by decide) (by decide) (by decide) (by decide)) ⟨rfl, rd_made6 (w := W) rfl (Ext.refl _)⟩ (by omega) (by decide)
    rw [ex17_e1, ex17_l1] at g; exact g
  have HA2 : Hid (∀ W x, HW w W x ⟨#[97]⟩ [ex17a] → Calls Tryd.prog 10 #[.pointer (some ⟨x, 0, none⟩), .slice (some ⟨W.heap.size, 0, none⟩) 2 2] (W.alloc (.cells #[.int .i64 3, .int .i64 1, .string ⟨#[]⟩, .int .i64 1, .int .i64 1, .string ⟨#[]⟩] 50)) fun e w' => e = .returned (.int .i64 0) ∧ HW w w' x ⟨#[97]⟩ [ex17a, ex17b]) := Lib.hid fun W x h => by
    have g := hw_app x ⟨#[97]⟩ [ex17a] _ 2 2 ex17b w _ (h.next ((Ext.refl W).alloc (.cells #[.int .i64 3, .int .i64 1, .string ⟨#[]⟩, .int .i64 1, .int .i64 1, .string ⟨#[]⟩] 50))) (smH_of (by decide) (by decide) (by decide) (by decide)) ⟨rfl, rd_made6 (w := W) rfl (Ext.refl _)⟩ (by omega) (by decide)
    rw [ex17_e2, ex17_l2] at g; exact g
  have HR : Hid (∀ W x, HW w W x ⟨#[97]⟩ [ex17a, ex17b] → Calls Tryd.prog 13 #[.pointer (some ⟨x, 0, none⟩), .int .i64 0, .int .i64 2] W fun e w' => Ext W w' ∧ ∃ b off c, e = .returned (.tuple #[.slice (some ⟨b, off, none⟩) 1 c, .int .i64 0]) ∧ w'.cell? ⟨b, off, none⟩ = some (.int .i64 1) ∧ w'.cell? ⟨b, off + 1, none⟩ = some (.int .i64 1) ∧ w'.cell? ⟨b, off + 2, none⟩ = some (.string ⟨#[]⟩)) := Lib.hid fun W x h => by
    have g := hw_run x ⟨#[97]⟩ [ex17a, ex17b] 0 2 w W h (smH_of (by decide) (by decide) (by decide) (by decide)) ⟨by decide, by decide, by decide⟩
    unfold OpR at g
    rw [ex17_r, if_pos rfl, ex17_rl] at g
    refine g.mono ?_
    rintro e w' ⟨g1, A, n, c, g2, g3⟩
    have hn : n = 1 := g3.1.symm
    subst hn
    obtain ⟨b, off, rfl, _, q0, q1, q2⟩ := sp_at g3.2 rfl (i := 0) (by omega)
    exact ⟨g1, b, off, c, g2, by simpa using q0, by simpa using q1, by simpa using q2⟩
  have HL : Hid (∀ W x, HW w W x ⟨#[97]⟩ [ex17a, ex17b] → Calls Tryd.prog 11 #[.pointer (some ⟨x, 0, none⟩)] W fun e w' => e = .returned (.int .i64 2) ∧ Ext W w') := Lib.hid fun W x h =>
    hw_len x ⟨#[97]⟩ [ex17a, ex17b] w W h (smH_of (by decide) (by decide) (by decide) (by decide))
  go_enter Tryd.func7, Tryd.ntmps7
  go_wp2_with fail
  refine HN.out.mono ?_; rintro e w1 ⟨x, rfl, h1⟩
  have H1 := Lib.hid h1; clear h1
  go_wp2_with fail
  refine (HA1.out _ _ H1.out).mono ?_; rintro e w2 ⟨rfl, h2⟩
  have H2 := Lib.hid h2; clear h2 H1
  go_wp2_with fail
  refine (HA2.out _ _ H2.out).mono ?_; rintro e w3 ⟨rfl, h3⟩
  have H3 := Lib.hid h3; clear h3 H2
  go_wp2_with fail
  refine (HR.out _ _ H3.out).mono ?_; rintro e w4 ⟨hx4, b, off, c, rfl, q0, q1, q2⟩
  have H4 := Lib.hid (H3.out.next hx4); clear hx4 H3
  go_wp2_with fail
  refine (HL.out _ _ H4.out).mono ?_; rintro e w5 ⟨rfl, hx5⟩
  go_wp2_with fail
  go_ret
  exact ⟨rfl, H4.out.e.trans hx5⟩
end Go.Proofs.YtgcaphjjigpjlaaDoor
namespace Go.Proofs.YtgcaphjjigpjlaaDoor
open Go.RowKit
set_option maxRecDepth 100000
set_option maxHeartbeats 4000000
set_option linter.unusedSimpArgs false
structure Sm17 (S : ByteArray) (FL : List (List Sp)) : Prop where
  ok : Hok S FL
  n20 : FL.length ≤ 20
  len : ∀ l ∈ FL, l.length ≤ 20
  lenS : lenS FL ≤ 260
  txt : S.size ≤ 80
  sum : sumTT FL ≤ 24000
theorem Sm17.lens {S : ByteArray} {FL : List (List Sp)} (h : Sm17 S FL) : ∀ l ∈ FL, l.length ≤ 1000 := fun l hl => by have := h.len l hl; omega
theorem Sm17.smH {S : ByteArray} {FL : List (List Sp)} (h : Sm17 S FL) : SmH S FL := ⟨by have := h.txt; omega, by have := h.n20; omega, h.lens, by have := h.sum; omega⟩
theorem Sm17.small {S : ByteArray} {FL : List (List Sp)} (h : Sm17 S FL) : Small FL := ⟨by have := h.lenS; omega, by have := h.sum; omega, by have := h.n20; omega⟩
theorem lenS_le13 (ls : List (List Sp)) (k : Nat) (h : ∀ l ∈ ls, l.length ≤ k) : lenS ls ≤ ls.length * k := by
  induction ls with
  | nil => simp [lenS]
  | cons l r ih =>
    rw [lenS_cons, List.length_cons, Nat.succ_mul]
    have := h l (by simp)
    have := ih fun x hx => h x (List.mem_cons_of_mem _ hx)
    omega
theorem FitLog.sm17 {S : ByteArray} {FR : List Int} {FL : List (List Sp)} (h : FitLog S FR FL) : Sm17 S FL := by
  obtain ⟨cs, h1, h2, _, _, h5⟩ := logE_ok h.ok
  have hb := lenS_le13 FL 13 h.len
  have := h.n20
  have : FL.length * 13 ≤ 20 * 13 := Nat.mul_le_mul_right _ (by omega)
  exact ⟨⟨cs, h1, h2, h5⟩, h.n20, fun l hl => by have := h.len l hl; omega, by omega, h.txt, by have := h.sum; omega⟩
theorem Sm17.at {S : ByteArray} {FL : List (List Sp)} (h : Sm17 S FL) {j : Nat} (hj : j ≤ FL.length) :
    ∃ ds, dec (bs (txt17 S FL j)) = some ds ∧ cntF (bs (txt17 S FL j)) = (ds.length : Int) ∧ ds.length ≤ 24080 ∧ segE (ds.length : Int) (FL.drop j) = 0 := by
  have hn : FL.length ≤ 900 := by have := h.n20; omega
  have hr := log_rest (hok_log h.ok hn) h.lens hj
  obtain ⟨ds, h1, h2, _, _, h5⟩ := logE_ok hr
  refine ⟨ds, h1, cntF_some h1, ?_, h5⟩
  have h3 := (dec_some h1).2
  have h4 : (bs (txt17 S FL j)).length = (txt17 S FL j).size := bs_length _
  have h6 := txt17_size (s := S) (ls := FL) j
  have h7 : ds.length ≤ (encs ds).length := by
    clear h1 h2 h3 h5
    induction ds with
    | nil => simp [encs]
    | cons a t ih =>
      have h : 0 < (enc1 a).length := by unfold enc1; split <;> (try split) <;> (try split) <;> simp
      simp only [encs, List.flatMap_cons, List.length_append, List.length_cons] at *
      omega
  have e : bs (txt17 S FL j) = bs (allL S (FL.take j)).1 := rfl
  rw [← e] at h3
  rw [h3] at h4
  have := h.txt; have := h.sum
  omega
theorem part17 {FL : List (List Sp)} {r k : Nat} : (FL.take k).drop r = (FL.drop r).take (k - r) := List.drop_take
theorem thru17 {n : Nat} {ls : List (List Sp)} (h : segE (n : Int) ls = 0) (hl : ∀ l ∈ ls, l.length ≤ 1000) : ∃ m, Thru (n : Int) ls m := ⟨_, chE_thru (segE_chE h) (by omega) hl⟩
theorem run17 {S : ByteArray} {FL : List (List Sp)} (h : Sm17 S FL) {r k : Nat} (hrk : r ≤ k) (hk : k ≤ FL.length) :
    runH S FL (r : Int) (k : Int) = 0 ∧ (runHL S FL (r : Int) (k : Int)).length ≤ 261 ∧ sumT (runHL S FL (r : Int) (k : Int)) ≤ 24000 ∧ (∀ s ∈ runHL S FL (r : Int) (k : Int), OkW s) ∧ toE (runHL S FL (r : Int) (k : Int)) (txt17 S FL r) = 0 ∧ toS (runHL S FL (r : Int) (k : Int)) (txt17 S FL r) = txt17 S FL k := by
  obtain ⟨ds, h1, h2, h3, h4⟩ := h.at (j := r) (by omega)
  have hp : segE (ds.length : Int) ((FL.take k).drop r) = 0 := by rw [part17]; exact segE_take _ h4
  have hl : ∀ l ∈ (FL.take k).drop r, l.length ≤ 1000 := fun l hx => h.lens l (List.mem_of_mem_take (List.mem_of_mem_drop hx))
  obtain ⟨m, hT⟩ := thru17 hp hl
  have hch : chainE (ds.length : Int) ((FL.take k).drop r) = 0 := by unfold chainE; rw [if_pos (by omega)]; exact segE_chE hp
  obtain ⟨f1, f2, f3, f4, f5, f6, f7⟩ := fR_small hT (by omega)
  have hL : runHL S FL (r : Int) (k : Int) = spT (fR (ds.length : Int) ((FL.take k).drop r)) := by
    unfold runHL fuseL
    rw [Int.toNat_natCast, Int.toNat_natCast, h2, if_pos hch]
  have b1 := lenS_take FL k
  have b2 := lenS_take (FL.take k) r
  have b3 := h.lenS
  have b4 := h.sum
  have hd := dec_some h1
  have hs : mkS (encs ds) = txt17 S FL r := (mkS_of hd.2).symm
  obtain ⟨t1, t2⟩ := toE10 f1 ds hd.1 (by rw [f4]) (by rw [f4]; omega)
  obtain ⟨a1, _, _⟩ := all_fR hT ds hd.1 rfl
  rw [hs] at t1 t2 a1
  rw [hL]
  refine ⟨?_, by omega, by omega, f1, t1, ?_⟩
  · unfold runH
    rw [if_neg (by omega), Int.toNat_natCast, Int.toNat_natCast, h2]
    exact hch
  · rw [t2, f2]
    have e : FL.take k = FL.take r ++ (FL.take k).drop r := by
      conv => lhs; rw [← List.take_append_drop r (FL.take k)]
      rw [List.take_take, Nat.min_eq_left hrk]
    obtain ⟨cs, c1, _, c3⟩ := h.ok
    obtain ⟨g1, _⟩ := allL_ok c1 (segE_take r c3) fun l hx => h.lens l (List.mem_of_mem_take hx)
    have e2 : (allL S (FL.take k)).1 = (allL (allL S (FL.take r)).1 ((FL.take k).drop r)).1 := by
      conv => lhs; rw [e]
      rw [allL_append g1]
    show _ = (allL S (FL.take k)).1
    rw [e2]
    show _ = (allL (txt17 S FL r) ((FL.take k).drop r)).1
    rw [a1]
theorem steps17 {X : List Sp} (gX : Good X) {CW : List (List Sp)} {k : Int} (hT : Thru (inL X) CW k) (h260 : lenS CW ≤ 260) (ht : sumTT CW ≤ 24000) (hn : CW.length ≤ 20) (hl : X.length ≤ 20) (hi : inL X ≤ 30000) (K : Nat) :
    SmT X (CW.take K) ∧ (∃ k1, Thru (inL X) (CW.take K) k1) ∧ Good (thruL X (CW.take K)) ∧ SmT (thruL X (CW.take K)) (CW.drop K) ∧ Thru (inL (thruL X (CW.take K))) (CW.drop K) k ∧ thruL (thruL X (CW.take K)) (CW.drop K) = thruL X CW := by
  obtain ⟨k1, t1, t2⟩ := thru_take hT K
  obtain ⟨b1, b2, b3, b4, b5⟩ := thruL_len gX t1
  obtain ⟨s1, s2, s3, s4, s5, s6, s7⟩ := fR_small t1 (by omega)
  have hout := outL_le _ s1
  have hlt := lenS_take CW K
  have htx := gX.txt
  have l1 : (CW.take K).length ≤ 20 := by rw [List.length_take]; omega
  have l2 : (CW.drop K).length ≤ 20 := by rw [List.length_drop]; omega
  obtain ⟨f1, f2⟩ := fR_len t1
  obtain ⟨g1, g2⟩ := fR_len t2
  have htn := gX.tin
  refine ⟨⟨by omega, by omega, ⟨by omega, by omega, by omega⟩⟩, ⟨k1, t1⟩, ⟨b3, by omega, by omega, by omega⟩, ⟨by omega, by omega, ⟨by omega, by omega, by omega⟩⟩, by rw [b5]; exact t2, ?_⟩
  unfold thruL at b4 b5 ⊢
  rw [b4, b5, ← over_one _ _ _ _ (Nat.le_refl _) (by omega) (by omega), ← fR_append t1 t2, List.take_append_drop]
theorem over17 {S : ByteArray} {FL : List (List Sp)} (h : Sm17 S FL) (a : List Sp) {j : Nat} (hj : j ≤ FL.length) {ds : List Nat} (hd : dec (bs (txt17 S FL j)) = some ds) :
    Good (fitL a (ds.length : Int)) ∧ SmT (fitL a (ds.length : Int)) FL ∧ overH S FL (fitL a (ds.length : Int)) (j : Int) = 0 ∧ (overHL FL (fitL a (ds.length : Int)) (j : Int)).length ≤ 300 := by
  obtain ⟨ds', h1, h2, h3, h4⟩ := h.at hj
  rw [hd] at h1
  injection h1 with h1
  subst h1
  obtain ⟨g1, g2, g3, g4, g5, g6⟩ := good_fit a (ds.length : Int) (by omega) (by omega)
  have hl : ∀ l ∈ FL.drop j, l.length ≤ 1000 := fun l hx => h.lens l (List.mem_of_mem_drop hx)
  obtain ⟨m, hT⟩ := thru17 h4 hl
  have b1 := lenS_take FL j
  have b3 := h.lenS
  rw [← g2] at hT
  obtain ⟨t1, t2, _, _, _⟩ := thruL_len g1 hT
  refine ⟨g1, smT_of g1 h.small (by omega), ?_, ?_⟩
  · unfold overH
    rw [if_neg (by omega), if_neg (by rw [g1.may]; simp), Int.toNat_natCast, h2, if_neg (by omega)]
    unfold thruE chainE
    rw [if_pos g1.may, g2, if_pos (by omega)]
    exact segE_chE h4
  · unfold overHL
    rw [Int.toNat_natCast]; omega
theorem over17_end {FL : List (List Sp)} {X : List Sp} (gX : Good X) : overHL FL X (FL.length : Int) = normL X := by
  unfold overHL
  rw [Int.toNat_natCast, List.drop_length]
  exact (none13 gX).1
theorem over17_step {S : ByteArray} {FL : List (List Sp)} (h : Sm17 S FL) (a : List Sp) {j : Nat} (hj : j < FL.length) {ds : List Nat} (hd : dec (bs (txt17 S FL j)) = some ds) :
    overE (fitL a (ds.length : Int)) FL[j] = 0 ∧ Good FL[j] ∧ Good (overL (fitL a (ds.length : Int)) FL[j]) ∧ SmT (overL (fitL a (ds.length : Int)) FL[j]) FL ∧ overH S FL (overL (fitL a (ds.length : Int)) FL[j]) ((j : Int) + 1) = 0 ∧ overHL FL (overL (fitL a (ds.length : Int)) FL[j]) ((j : Int) + 1) = overHL FL (fitL a (ds.length : Int)) (j : Int) := by
  obtain ⟨gX, hS, _, _⟩ := over17 h a (by omega) hd
  obtain ⟨ds', h1, h2, h3, h4⟩ := h.at (Nat.le_of_lt hj)
  rw [hd] at h1
  injection h1 with h1
  subst h1
  obtain ⟨g1, g2, g3, g4, g5, g6⟩ := good_fit a (ds.length : Int) (by omega) (by omega)
  generalize fitL a (ds.length : Int) = X at *
  have hl : ∀ l ∈ FL.drop j, l.length ≤ 1000 := fun l hx => h.lens l (List.mem_of_mem_drop hx)
  obtain ⟨m, hT⟩ := thru17 h4 hl
  rw [← g2] at hT
  have b1 := lenS_take FL j
  have b3 := h.lenS
  have b4 := h.sum
  have b5 := h.n20
  have hlen : (FL.drop j).length ≤ 20 := by rw [List.length_drop]; omega
  obtain ⟨s1, _, s3, s4, s5, s6⟩ := steps17 gX hT (by omega) (by omega) hlen (by omega) (by omega) 1
  have e1 : (FL.drop j).take 1 = [FL[j]] := by rw [List.drop_eq_getElem_cons hj]; rfl
  have e2 : (FL.drop j).drop 1 = FL.drop (j + 1) := by rw [List.drop_drop]
  rw [List.drop_eq_getElem_cons hj] at h4 hT
  obtain ⟨⟨m1, m2, m3, m4⟩, m5⟩ := segE_cons.1 h4
  obtain ⟨q1, q2, q3, q4, q5⟩ := hT
  have hb := (lenS_take FL j).1
  have hme := List.getElem_mem hj
  have hL1 := h.len _ hme
  have hT1 := sumT_le16 _ hme
  have gY : Good FL[j] := ⟨q1, by omega, by omega, by rw [q2, g2]; omega⟩
  obtain ⟨o1, o2, o3⟩ := one13 gX gY q2.symm
  rw [e1, o1] at s3 s4 s5 s6
  rw [e2] at s4 s5 s6
  have hin : inL (overL X FL[j]) = outL FL[j] := (overL_all X FL[j] gX.ok gY.ok q2.symm).2.2.2.1
  have hov := (overL_all X FL[j] gX.ok gY.ok q2.symm)
  have n1 := norm_len X
  have n2 := norm_len FL[j]
  have tx := gX.txt
  refine ⟨?_, gY, s3, smT_of s3 h.small (by have := hov.2.2.2.2.1; omega), ?_, ?_⟩
  · unfold overE
    rw [if_pos gX.may, if_pos gY.may, if_pos q2.symm]
  · obtain ⟨ds2, k1, k2, k3, k4⟩ := h.at (j := j + 1) (by omega)
    have hc : inL (overL X FL[j]) = (ds2.length : Int) := by
      rw [hin]
      obtain ⟨ta, tb, tc⟩ := seg_to hd m1 (by rw [m2]) (h.lens _ hme)
      have hst := (log_step (hok_log h.ok (by omega)) h.lens hj).2
      have hst2 : txt17 S FL (j + 1) = toS FL[j] (txt17 S FL j) := hst
      rw [hst2, tb] at k1
      injection k1 with k1
      rw [← k1]; exact tc.symm
    unfold overH
    rw [show ((j : Int) + 1).toNat = j + 1 from by omega, if_neg (by omega), if_neg (by rw [s3.may]; simp), k2, if_neg (by omega)]
    unfold thruE chainE
    rw [if_pos s3.may, if_pos (by omega), hc]
    exact segE_chE k4
  · unfold overHL
    rw [show ((j : Int) + 1).toNat = j + 1 from by omega, Int.toNat_natCast]
    rw [s6]
end Go.Proofs.YtgcaphjjigpjlaaDoor
namespace Go.Proofs.YtgcaphjjigpjlaaDoor
open Go.RowKit
set_option maxRecDepth 100000
set_option maxHeartbeats 4000000
set_option linter.unusedSimpArgs false
theorem new17 {S : ByteArray} {FL : List (List Sp)} (h : Sm17 S FL) : newH S = 0 := by
  obtain ⟨cs, h1, h2, _⟩ := h.ok
  unfold newH
  rw [if_neg (by rw [h1]; simp), cntF_some h1, if_neg (by omega)]
theorem sumTT_take17 (ls : List (List Sp)) (j : Nat) : sumTT (ls.take j) ≤ sumTT ls := by have := lenS_take ls j; omega
theorem SmH.take {S : ByteArray} {FL : List (List Sp)} (h : SmH S FL) (j : Nat) : SmH S (FL.take j) :=
  ⟨h.base, by have := h.num; rw [List.length_take]; omega, fun l hl => h.len l (List.mem_of_mem_take hl), by have := sumTT_take17 FL j; have := h.sum; omega⟩
theorem app17 {S : ByteArray} {FL : List (List Sp)} (h : Sm17 S FL) {j : Nat} (hj : j < FL.length) : appE S (FL.take j) FL[j] = 0 ∧ appLs S (FL.take j) FL[j] = FL.take (j + 1) := by
  obtain ⟨ds, h1, h2, h3, h4⟩ := h.at (Nat.le_of_lt hj)
  rw [List.drop_eq_getElem_cons hj] at h4
  obtain ⟨⟨m1, m2, m3, m4⟩, m5⟩ := segE_cons.1 h4
  have e : txt17 S (FL.take j) (FL.take j).length = txt17 S FL j := by unfold txt17; rw [List.take_length]
  have g1 : appE S (FL.take j) FL[j] = 0 := by
    unfold appE
    rw [if_neg (by omega), e, h2, if_neg (by omega), if_neg (by omega)]
  refine ⟨g1, ?_⟩
  unfold appLs
  rw [if_pos g1, m4, List.take_add_one, List.getElem?_eq_getElem hj]
  rfl
end Go.Proofs.YtgcaphjjigpjlaaDoor
namespace Go.Proofs.YtgcaphjjigpjlaaDoor
open Go.RowKit
set_option maxRecDepth 100000
set_option maxHeartbeats 4000000
set_option linter.unusedSimpArgs false
theorem historyRuns_c (s : ByteArray) (A : Option Addr) (n c : Nat) (ls : List (List Sp)) (w : World) [Tab w] (hs : s.size ≤ maxLen) (h : RdSS w A n c ls) (hls : ∀ l ∈ ls, ∀ x ∈ l, x.2.2.size ≤ maxLen) (hnn : n ≤ maxLen) :
    Calls Tryd.prog 3 #[.string s, .slice A n c] w fun e w' => e = .returned (.bool true) ∧ Ext w w' := by
  have hnm := h.1
  obtain ⟨TT, hTT⟩ : ∃ T, T = min n 8 := ⟨_, rfl⟩
  have hTn : TT ≤ n := by omega
  have hnb : n ≤ 9223372036854775807 := by unfold maxLen at hnn; omega
  have hcap : n ≤ c := by obtain ⟨_, _, ⟨_, _, _, hv, hc, _⟩, _⟩ := h; injection hv with _ _ e; omega
  have m1 : min (n : Int) 8 = (TT : Int) := by omega
  have m2 : (if (8 : Int) < (n : Int) then (8 : Int) else (n : Int)) = (TT : Int) := by split <;> omega
  have m3 : (0 : Int) ≤ (TT : Int) := by omega
  have m4 : (TT : Int) ≤ (c : Int) := by omega
  obtain ⟨S, FR, FL, hF, hfit⟩ := fitG16 s A TT c (ls.take TT) w hs (h.take hTn) (fun l hl => hls l (List.mem_of_mem_take hl))
  have HSH := Lib.hid (fun w' (hx : Ext w w') => have hTb := tab_ext hx; shown17_c w')
  have HFI := Lib.hid hfit
  have hS := hF.sm17
  have hSm := hS.smH
  obtain ⟨FN, hFN⟩ : ∃ n, FL.length = n := ⟨_, rfl⟩
  have h20 := hF.n20
  rw [hFN] at HFI h20
  have HFN := Lib.hid hFN
  have HNW : Hid (∀ V, Ext w V → Calls Tryd.prog 9 #[.string S] V fun e w' => ∃ x, e = .returned (.tuple #[.pointer (some ⟨x, 0, none⟩), .int .i64 0]) ∧ HW V w' x S []) := Lib.hid fun V hx => by
    have hTb := tab_ext hx
    exact hw_new S V V (Ext.refl V) hSm.base (new17 hS)
  have HAP : Hid (∀ V U x j (hj : j < FL.length) a k kc, Ext w V → HW V U x S (FL.take j) → Rd U 3 (.slice a k kc) k (spCells FL[j]) → FL[j].length = k → Calls Tryd.prog 10 #[.pointer (some ⟨x, 0, none⟩), .slice a k kc] U fun e w' => e = .returned (.int .i64 0) ∧ HW V w' x S (FL.take (j + 1))) := Lib.hid fun V U x j hj a k kc hx hw hr hk => by
    have hTb := tab_ext hx
    obtain ⟨g1, g2⟩ := app17 hS hj
    have hme := List.getElem_mem hj
    have g := hw_app x S (FL.take j) a k kc FL[j] V U hw (hSm.take j) ⟨hk, hr⟩ (by have := hS.len _ hme; omega) (by have := sumT_le16 _ hme; have := hS.sum; omega)
    rw [g1, g2] at g; exact g
  have hFR : FR = revL FL.length := hF.rev
  have hlog := hF.ok
  have HLG : Hid (∀ V U x, Ext w V → HW V U x S FL → Calls Tryd.prog 17 #[.pointer (some ⟨x, 0, none⟩)] U fun e w' => Ext U w' ∧ ∃ A n c B d, e = .returned (.agg #[.string S, .slice A n c, .slice B FN d]) ∧ Rd w' 1 (.slice A n c) n (nV FR) ∧ RdSS w' B FN d FL) := Lib.hid fun V U x hx hw => by
    have hTb := tab_ext hx
    refine (hw_log x S FL V U hw hSm).mono ?_
    rintro e w' ⟨g1, A, n, c, B, m, d, g2, g3, g4⟩
    obtain ⟨A', c', he, _, hss⟩ := g4.rd
    injection he with e1 e2 e3
    subst e1; subst e2; subst e3
    rw [hFN] at g2 hss
    exact ⟨g1, A, n, c, _, _, g2, by rw [hFR]; exact g3.rd, hss⟩
  have HLN : Hid (∀ V U x, Ext w V → HW V U x S FL → Calls Tryd.prog 11 #[.pointer (some ⟨x, 0, none⟩)] U fun e w' => e = .returned (.int .i64 (FN : Int)) ∧ Ext U w') := Lib.hid fun V U x hx hw => by
    have hTb := tab_ext hx
    have g := hw_len x S FL V U hw hSm
    rw [hFN] at g; exact g
  have hsm16 := hF.sm
  have HMY : Hid (∀ V A n c B d, Ext w V → Rd V 1 (.slice A n c) n (nV FR) → RdSS V B FN d FL → Calls Tryd.prog 16 #[.agg #[.string S, .slice A n c, .slice B FN d]] V fun e w' => e = .returned (.int .i64 0) ∧ Ext V w') := Lib.hid fun V A n c B d hx h1 h2 => by
    have hTb := tab_ext hx
    have g := mayP16_c A n c B FN d S FR FL V h1 h2 hsm16
    rw [hlog] at g; exact g
  have HSM : Hid (∀ V A n c B d x A' n' c' B' d', LogB V x A' n' c' B' FN d' S FR FL → Rd V 1 (.slice A n c) n (nV FR) → RdSS V B FN d FL → Calls Tryd.prog 18 #[.agg #[.string S, .slice A n c, .slice B FN d], .agg #[.string S, .slice A' n' c', .slice B' FN d']] V fun e w' => e = .returned (.bool true) ∧ Ext V w') := Lib.hid fun V A n c B d x A' n' c' B' d' hl h1 h2 => by
    have q1 := nV_len h1
    have q2 := nV_len hl.rev
    rw [q1] at q2
    subst q2
    exact same16_c A n c B FN d A' c' B' d' S FR FL V h1 h2 hl.rev hl.seg (by rw [hFR, revL_len]; omega) hS.lens (by omega)
  obtain ⟨TX, hTX⟩ : ∃ f : Nat → ByteArray, txt17 S FL = f := ⟨_, rfl⟩
  have HAT : Hid (∀ q, q ≤ FN → ∀ V U x, Ext w V → HW V U x S FL → Calls Tryd.prog 12 #[.pointer (some ⟨x, 0, none⟩), .int .i64 (q : Int)] U fun e w' => e = .returned (.tuple #[.string (TX q), .int .i64 0]) ∧ Ext U w') := Lib.hid fun q hq V U x hx hw => by
    have hTb := tab_ext hx
    have g := hw_at x S FL (q : Int) V U hw hSm hS.small
    rw [show atH S FL (q : Int) = .tuple #[.string (TX q), .int .i64 0] by unfold atH; rw [if_neg (by omega), Int.toNat_natCast, hTX]] at g
    exact g
  obtain ⟨RR, hRR⟩ : ∃ f : Nat → Nat → List Sp, (fun (q p : Nat) => runHL S FL (q : Int) (p : Int)) = f := ⟨_, rfl⟩
  have hRq : ∀ q p : Nat, runHL S FL (q : Int) (p : Int) = RR q p := fun q p => by rw [← hRR]
  have hrun : ∀ q p, q ≤ p → p ≤ FN → runH S FL (q : Int) (p : Int) = 0 ∧ (RR q p).length ≤ 261 ∧ sumT (RR q p) ≤ 24000 ∧ (∀ s ∈ RR q p, OkW s) ∧ toE (RR q p) (TX q) = 0 ∧ toS (RR q p) (TX q) = TX p := fun q p h1 h2 => by
    have g := run17 hS h1 (by omega : p ≤ FL.length)
    rw [hRq, hTX] at g; exact g
  have hts : ∀ q, (TX q).size ≤ 30000 := fun q => by rw [← hTX]; have := txt17_size (s := S) (ls := FL) q; have := hS.txt; have := hS.sum; omega
  have hdq : ∀ q, q ≤ FN → dec (bs (TX q)) ≠ none := fun q hq => by
    obtain ⟨ds, h1, _⟩ := hS.at (j := q) (by omega)
    rw [hTX] at h1; rw [h1]; simp
  have HRN : Hid (∀ q p, q ≤ p → p ≤ FN → ∀ V U x, Ext w V → HW V U x S FL → Calls Tryd.prog 13 #[.pointer (some ⟨x, 0, none⟩), .int .i64 (q : Int), .int .i64 (p : Int)] U fun e w' => Ext U w' ∧ ∃ A n c, e = .returned (.tuple #[.slice A n c, .int .i64 0]) ∧ RdO w' A n c (RR q p)) := Lib.hid fun q p h1 h2 V U x hx hw => by
    have hTb := tab_ext hx
    have g := hw_run x S FL (q : Int) (p : Int) V U hw hSm hS.small
    unfold OpR at g
    rw [(hrun q p h1 h2).1, if_pos rfl, hRq] at g; exact g
  have HTO : Hid (∀ q p, q ≤ p → p ≤ FN → ∀ U A n c, Ext w U → RdO U A n c (RR q p) → Calls Tryd.prog 14 #[.slice A n c, .string (TX q)] U fun e w' => e = .returned (.tuple #[.string (TX p), .int .i64 0]) ∧ Ext U w') := Lib.hid fun q p h1 h2 U A n c hx hr => by
    have hTb := tab_ext hx
    obtain ⟨_, g2, g3, g4, g5, g6⟩ := hrun q p h1 h2
    have g := to_c A n c (RR q p) (TX q) U hr.2 hr.1 (by have := hr.1; omega) (fun s hs => by have := le_sumT (RR q p) s hs; omega) (by omega) (by have := hts q; omega)
    unfold toV at g
    rw [g5, g6] at g; exact g
  have HAL : Hid (∀ q p, q ≤ p → p ≤ FN → ∀ U A n c B m d, Ext w U → RdO U A n c (RR q p) → RdO U B m d (RR p FN) → Calls Tryd.prog 15 #[.string (TX q), .slice (some ⟨U.heap.size, 0, none⟩) 2 2] (U.alloc (.cells #[.slice A n c, .slice B m d] 37)) fun e w' => e = .returned (.tuple #[.string (TX FN), .int .i64 0]) ∧ Ext U w') := Lib.hid fun q p h1 h2 U A n c B m d hx hr hr2 => by
    have e1 := (Ext.refl U).alloc (.cells #[.slice A n c, .slice B m d] 37)
    have hTb := tab_ext (hx.trans e1)
    obtain ⟨_, g2, g3, g4, g5, g6⟩ := hrun q p h1 h2
    obtain ⟨_, k2, k3, k4, k5, k6⟩ := hrun p FN h2 (Nat.le_refl _)
    have hss := rdSS2 37 hr hr2
    have hst : sumTT [RR q p, RR p FN] = sumT (RR q p) + (sumT (RR p FN) + 0) := by simp [sumTT]
    have g := all_c _ 2 2 [RR q p, RR p FN] (TX q) _ hss (fun l hl => by rcases List.mem_cons.1 hl with rfl | hl; omega; rw [List.mem_singleton] at hl; subst hl; omega) (fun l hl s hs => by
      rcases List.mem_cons.1 hl with rfl | hl
      · have := le_sumT _ s hs; omega
      · rw [List.mem_singleton] at hl; subst hl; have := le_sumT _ s hs; omega) (by have := hts q; omega) (by omega)
    unfold allV at g
    rw [allR_of (hdq q (by omega))] at g
    have e2 : allL (TX q) [RR q p, RR p FN] = (TX FN, 0) := by
      rw [allL, if_pos g5, g6, allL, if_pos k5, k6]; rfl
    rw [e2] at g
    exact g.mono fun e w' ⟨q1, q2⟩ => ⟨q1, e1.trans q2⟩
  clear hTX hRR hRq hrun hts hdq hsm16
  clear h hls hs hfit hF hFN hS hSm hnm hnn hTT hTn hFR hlog
  go_enter Tryd.func3, Tryd.ntmps3
  go_wp2_with fail
  refine (HSH.out _ (Ext.refl _)).mono ?_; rintro e w1 ⟨rfl, hx1⟩
  have e1 : Ext w w1 := hx1
  clear hx1
  go_wp2_with fail
  refine (HFI.out _ e1).mono ?_; rintro e w2 ⟨hx2, A2, n2, k2, B2, d2, rfl, r2, q2⟩
  have e2 : Ext w w2 := e1.trans hx2
  clear hx2
  obtain ⟨x2, hx2⟩ : ∃ x, w2.heap.size = x := ⟨_, rfl⟩
  obtain ⟨W2, hW2⟩ : ∃ V, w2.alloc (.cells #[.string S, .slice A2 n2 k2, .slice B2 FN d2] 26) = V := ⟨_, rfl⟩
  have hX2 : Ext w2 W2 := by rw [← hW2]; exact (Ext.refl w2).alloc _
  have HB := Lib.hid (show LogB W2 x2 A2 n2 k2 B2 FN d2 S FR FL by rw [← hW2, ← hx2]; exact LogB.new r2 q2)
  have E2 := Lib.hid (e2.trans hX2 : Ext w W2)
  have HW2 := Lib.hid hW2; have HX2 := Lib.hid hx2
  clear hW2 hx2 hX2
  clear r2 q2
  obtain ⟨c0, c1, c2⟩ := HB.out.cells
  go_wp2_with fail
  rw [HW2.out, HX2.out]
  clear c0 c1 c2
  refine (HNW.out _ E2.out).mono ?_; rintro e w3 ⟨x, rfl, h3⟩
  have H3 : Hid (HW W2 w3 x S (FL.take 0)) := Lib.hid (by rw [List.take_zero]; exact h3)
  obtain ⟨c0, c1, c2⟩ := (HB.out.ext h3.e).cells
  clear h3
  go_wp2_with fail
  clear c0 c1 c2
  go_loopw [9] (fun iv wr => ∃ j : Nat, j ≤ FN ∧ iv = .int .i64 j ∧ Hid (HW W2 wr x S (FL.take j))) (fun iv _ => FN - (intOf iv).toNat)
  case atStart => exact ⟨0, by omega, rfl, H3⟩
  case round =>
    clear H3
    obtain ⟨j, hj, rfl, HJ⟩ := hrel
    obtain ⟨c0, c1, c2⟩ := (HB.out.ext HJ.out.e).cells
    by_cases hlt : j < FN
    · have hjl : j < FL.length := by have := HFN.out; omega
      obtain ⟨bb, off, a, kc, rfl, hbb, q00, hr00⟩ := HB.out.seg.at_ hlt hjl
      have d1 : decide (j < FN) = true := by rw [decide_eq_true_eq]; exact hlt
      have i0 : (0 : Int) ≤ (j : Int) := by omega
      have i1 : (j : Int) < (FN : Int) := by omega
      have HA := fun V (hx : Ext wr V) => HAP.out W2 V x j hjl a _ kc E2.out (HJ.out.next hx) ((hr00.ext HJ.out.e).ext hx) rfl
      obtain ⟨k, hk⟩ : ∃ k, FL[j].length = k := ⟨_, rfl⟩
      rw [hk] at q00 HA
      have HA2 := Lib.hid HA
      have q0 := ext_cell HJ.out.e q00
      have HQ := Lib.hid q00
      clear HA hk hr00 q00
      go_wp2_with fail
      refine region_T (fun V => V.cell? ⟨x2, 2, none⟩ = some (.slice (some ⟨bb, off, none⟩) FN d2) ∧ V.cell? ⟨bb, off + j, none⟩ = some (.slice a k kc)) 9 (by kernel_rfl) (⟨ext_cell (Ext.refl _).drew c2, ext_cell (Ext.refl _).drew q0⟩) (fun hHeld => ?_)
      obtain ⟨Wd, hWd⟩ : ∃ x, wr.drew = x := ⟨_, rfl⟩
      rw [hWd] at hHeld ⊢
      have hdx : Ext wr Wd := by rw [← hWd]; exact (Ext.refl _).drew
      clear hWd
      refine wpAnyT_take (i := 0) (v := ?_) rfl (by kernel_rfl) (fun _ _ _ h => h) (Or.inl ⟨by rfl, ?_⟩) (by assumption) ?_
      rotate_left
      · (intro W hSw; (try dsimp only at hSw); go_simp; (try with_reducible rfl))
      try simp only [Act.put, List.getElem_toArray, List.getElem_cons_succ, List.getElem_cons_zero, List.setIfInBounds_toArray, List.set_cons_zero, List.set_cons_succ]
      refine wpAnyT_take (i := 1) (v := ?_) rfl (by kernel_rfl) (fun _ _ _ h => h) (Or.inl ⟨by rfl, ?_⟩) (by assumption) ?_
      rotate_left
      · (intro W hSw; (try dsimp only at hSw); go_simp; (try with_reducible rfl))
      try simp only [Act.put, List.getElem_toArray, List.getElem_cons_succ, List.getElem_cons_zero, List.setIfInBounds_toArray, List.set_cons_zero, List.set_cons_succ]
      refine wpAnyT_take (i := 2) (v := ?_) rfl (by kernel_rfl) (fun _ _ _ h => h) (Or.inl ⟨by rfl, ?_⟩) (by assumption) ?_
      rotate_left
      · (intro W hSw; (try dsimp only at hSw); go_simp; (try with_reducible rfl))
      try simp only [Act.put, List.getElem_toArray, List.getElem_cons_succ, List.getElem_cons_zero, List.setIfInBounds_toArray, List.set_cons_zero, List.set_cons_succ]
      refine wpAnyT_take (i := 3) (v := ?_) rfl (by kernel_rfl) (fun _ _ _ h => h) (Or.inl ⟨by rfl, ?_⟩) (by assumption) ?_
      rotate_left
      · (intro W hSw; (try dsimp only at hSw); go_simp; (try with_reducible rfl))
      try simp only [Act.put, List.getElem_toArray, List.getElem_cons_succ, List.getElem_cons_zero, List.setIfInBounds_toArray, List.set_cons_zero, List.set_cons_succ]
      refine wpAnyT_take (i := 4) (v := ?_) rfl (by kernel_rfl) (fun _ _ _ h => h) (Or.inl ⟨by rfl, ?_⟩) (by assumption) ?_
      rotate_left
      · (intro W hSw; (try dsimp only at hSw); go_simp; (try with_reducible rfl))
      try simp only [Act.put, List.getElem_toArray, List.getElem_cons_succ, List.getElem_cons_zero, List.setIfInBounds_toArray, List.set_cons_zero, List.set_cons_succ]
      refine wpAnyT_take (i := 5) (v := ?_) rfl (by kernel_rfl) (fun _ _ _ h => h) (Or.inl ⟨by rfl, ?_⟩) (by assumption) ?_
      rotate_left
      · (intro W hSw; (try dsimp only at hSw); go_simp; (try with_reducible rfl))
      try simp only [Act.put, List.getElem_toArray, List.getElem_cons_succ, List.getElem_cons_zero, List.setIfInBounds_toArray, List.set_cons_zero, List.set_cons_succ]
      refine wpAnyT_take (i := 6) (v := ?_) rfl (by kernel_rfl) (fun _ _ _ h => h) (Or.inl ⟨by rfl, ?_⟩) (by assumption) ?_
      rotate_left
      · (intro W hSw; (try dsimp only at hSw); go_simp; (try with_reducible rfl))
      try simp only [Act.put, List.getElem_toArray, List.getElem_cons_succ, List.getElem_cons_zero, List.setIfInBounds_toArray, List.set_cons_zero, List.set_cons_succ]
      refine wpAnyT_take (i := 7) (v := ?_) rfl (by kernel_rfl) (fun _ _ _ h => h) (Or.inl ⟨by rfl, ?_⟩) (by assumption) ?_
      rotate_left
      · (intro W hSw; (try dsimp only at hSw); go_simp; (try with_reducible rfl))
      try simp only [Act.put, List.getElem_toArray, List.getElem_cons_succ, List.getElem_cons_zero, List.setIfInBounds_toArray, List.set_cons_zero, List.set_cons_succ]
      refine wpAnyT_one (i := 8) rfl (by kernel_rfl) (fun K hK => ?_)
      go_simp
      refine (HA2.out _ hdx).mono ?_; rintro e w5 ⟨rfl, h5⟩
      obtain ⟨e0, e1, e2⟩ := (HB.out.ext h5.e).cells
      refine hK.out _ _ (fun _ => ⟨e2, ext_cell h5.e HQ.out⟩) (fun hH => ?_)
      replace hHeld := hH (by decide)
      clear hK K hH
      try simp only [Act.put, List.getElem_toArray, List.getElem_cons_succ, List.getElem_cons_zero, List.setIfInBounds_toArray, List.set_cons_zero, List.set_cons_succ]
      refine wpAnyT_one (i := 9) rfl (by kernel_rfl) (fun K hK => ?_)
      go_simp
      refine hK.out _ _ (fun h => absurd rfl h) (fun _ => ?_)
      clear hK K hHeld
      try simp only [Act.put, List.getElem_toArray, List.getElem_cons_succ, List.getElem_cons_zero, List.setIfInBounds_toArray, List.set_cons_zero, List.set_cons_succ]
      refine wpAnyT_done (by kernel_rfl) ?_ _
      have H5 := Lib.hid h5
      clear h5 e0 e1 e2
      go_wp2_with fail
      go_roundw
      case rel => exact ⟨j + 1, by omega, by go_num, H5⟩
      case measure => simp [intOf]; omega
    · obtain rfl : j = FN := by omega
      have d1 : decide (j < j) = false := by rw [decide_eq_false_iff_not]; omega
      have H6 : Hid (HW W2 wr x S FL) := Lib.hid (by have g := HJ.out; rw [← HFN.out, List.take_length] at g; exact g)
      have HBr := Lib.hid HB.out
      clear HJ
      go_wp2_with fail
      clear c0 c1 c2
      go_loopw [10] (fun zv wz => ∃ q : Nat, q ≤ j + 1 ∧ zv = .int .i64 q ∧ Hid (HW W2 wz x S FL)) (fun zv _ => j + 1 - (intOf zv).toNat)
      case atStart => exact ⟨0, by omega, rfl, H6⟩
      case round =>
        clear H6 HAP HNW HSH HFI
        obtain ⟨q, hq, rfl, HZ⟩ := hrel
        by_cases hqe : q ≤ j
        · have dq : decide ((q : Int) ≤ (j : Int)) = true := by rw [decide_eq_true_eq]; omega
          have dq2 : (q : Int) ≤ (j : Int) := by omega
          have HAq := Lib.hid (HAT.out q (by omega))
          go_wp2_with fail
          refine (HLN.out _ _ _ E2.out HZ.out).mono ?_; rintro e u1 ⟨rfl, hx1⟩
          have H1 := Lib.hid (HZ.out.next hx1); clear hx1 HZ
          go_wp2_with fail
          refine (HAq.out _ _ _ E2.out H1.out).mono ?_; rintro e u2 ⟨rfl, hx2⟩
          have H2 := Lib.hid (H1.out.next hx2); clear hx2 H1
          clear dq dq2
          go_wp2_with fail
          go_loopw [13] (fun kv wk => ∃ p : Nat, q ≤ p ∧ p ≤ j + 1 ∧ kv = .int .i64 p ∧ Hid (HW W2 wk x S FL)) (fun kv _ => j + 1 - (intOf kv).toNat)
          case atStart => exact ⟨q, by omega, by omega, rfl, H2⟩
          case round =>
            clear H2
            obtain ⟨p, hqp, hp, rfl, HY⟩ := hrel
            by_cases hpe : p ≤ j
            · have dp : decide ((p : Int) ≤ (j : Int)) = true := by rw [decide_eq_true_eq]; omega
              have dp2 : (p : Int) ≤ (j : Int) := by omega
              have HAp := Lib.hid (HAT.out p (by omega))
              have HAe := Lib.hid (HAT.out j (by omega))
              have HRqp := Lib.hid (HRN.out q p hqp hpe)
              have HRpe := Lib.hid (HRN.out p j hpe (by omega))
              have HTqp := Lib.hid (HTO.out q p hqp hpe)
              have HALL := Lib.hid (HAL.out q p hqp hpe)
              generalize RR q p = X at *
              generalize RR p j = Y at *
              generalize TX q = TQ at *
              generalize TX p = TP at *
              generalize TX j = TE at *
              go_wp2_with fail
              refine (HLN.out _ _ _ E2.out HY.out).mono ?_; rintro e y1 ⟨rfl, hx1⟩
              have H1 := Lib.hid (HY.out.next hx1); clear hx1 HY
              go_wp2_with fail
              refine (HRqp.out _ _ _ E2.out H1.out).mono ?_; rintro e y2 ⟨hx2, a2, m2, k2', rfl, r2⟩
              have H2 := Lib.hid (H1.out.next hx2); have R2 := Lib.hid r2; clear hx2 r2 H1
              go_wp2_with fail
              refine (HAp.out _ _ _ E2.out H2.out).mono ?_; rintro e y3 ⟨rfl, hx3⟩
              have H3 := Lib.hid (H2.out.next hx3); replace R2 := Lib.hid (R2.out.ext hx3); clear hx3 H2
              go_wp2_with fail
              refine (HTqp.out _ _ _ _ (E2.out.trans H3.out.e) R2.out).mono ?_; rintro e y4 ⟨rfl, hx4⟩
              have H4 := Lib.hid (H3.out.next hx4); replace R2 := Lib.hid (R2.out.ext hx4); clear hx4 H3
              go_wp2_with fail
              have hrr := Ext.refl y4
              have hw4 := H4.out
              go_region_held3 (fun V => Ext y4 V ∧ HW W2 V x S FL)
                ((go_split_ands; refine ⟨?_, ?_⟩ <;> first | (exact Ext.drew ‹_›) | (exact Ext.trans ‹_› hxk) | (exact HW.next ‹_› ((Ext.refl _).drew)) | (exact HW.next ‹_› hxk) | go_keep))
                (first
                | (go_at_call 11; go_split_ands; refine (HLN.out _ _ _ E2.out ‹HW W2 _ x S FL›).mono ?_; rintro e y5 ⟨rfl, hxk⟩)
                | (go_at_call 13; go_split_ands; refine (HRpe.out _ _ _ E2.out ‹HW W2 _ x S FL›).mono ?_; rintro e y6 ⟨hxk, a6, m6, k6, rfl, r6⟩)
                | fail)
              go_split_ands
              have hE6 := ‹Ext y4 y6›
              have H6 := Lib.hid ‹HW W2 y6 x S FL›; have R6 := Lib.hid r6; replace R2 := Lib.hid (R2.out.ext hE6); clear hE6 r6 H4 hw4 hrr
              go_wp2_with fail
              refine (HALL.out _ _ _ _ _ _ _ (E2.out.trans H6.out.e) R2.out R6.out).mono ?_; rintro e y7 ⟨rfl, hx7⟩
              have H7 := Lib.hid (H6.out.next hx7); clear hx7 H6 R2 R6
              go_wp2_with fail
              refine (HLN.out _ _ _ E2.out H7.out).mono ?_; rintro e y8 ⟨rfl, hx8⟩
              have H8 := Lib.hid (H7.out.next hx8); clear hx8 H7
              go_wp2_with fail
              refine (HAe.out _ _ _ E2.out H8.out).mono ?_; rintro e y9 ⟨rfl, hx9⟩
              have H9 := Lib.hid (H8.out.next hx9); clear hx9 H8
              go_wp2_with fail
              go_roundw
              case rel => exact ⟨p + 1, by omega, by omega, by go_num, H9⟩
              case measure => simp [intOf]; omega
            · obtain rfl : p = j + 1 := by omega
              have dp : decide (((j + 1 : Nat) : Int) ≤ (j : Int)) = false := by rw [decide_eq_false_iff_not]; omega
              have dp2 : ¬ ((j : Int) + 1 ≤ (j : Int)) := by omega
              go_wp2_with fail
              refine (HLN.out _ _ _ E2.out HY.out).mono ?_; rintro e y1 ⟨rfl, hx1⟩
              have H1 := Lib.hid (HY.out.next hx1); clear hx1 HY
              go_wp2_with fail
              go_roundw
              case rel => exact ⟨q + 1, by omega, by go_num, H1⟩
              case measure => simp [intOf]; omega
        · obtain rfl : q = j + 1 := by omega
          have dq : decide (((j + 1 : Nat) : Int) ≤ (j : Int)) = false := by rw [decide_eq_false_iff_not]; omega
          have dq2 : ¬ ((j : Int) + 1 ≤ (j : Int)) := by omega
          go_wp2_with fail
          refine (HLN.out _ _ _ E2.out HZ.out).mono ?_; rintro e u1 ⟨rfl, hx1⟩
          have hz1 := HZ.out.next hx1
          have H1 := Lib.hid hz1
          clear hx1 HZ HAT HRN HTO HAL HLN
          obtain ⟨c0, c1, c2⟩ := (HB.out.ext hz1.e).cells
          go_wp2_with fail
          have hrr := Ext.refl u1
          go_region_held3 (fun V => Ext u1 V ∧ HW W2 V x S FL ∧ V.cell? ⟨x2, 0, none⟩ = some (.string S) ∧ V.cell? ⟨x2, 1, none⟩ = some (.slice A2 n2 k2) ∧ V.cell? ⟨x2, 2, none⟩ = some (.slice B2 j d2))
            ((go_split_ands; refine ⟨?_, ?_, ?_, ?_, ?_⟩ <;> first | (exact Ext.drew ‹_›) | (exact Ext.trans ‹_› hxk) | (exact HW.next ‹_› ((Ext.refl _).drew)) | (exact HW.next ‹_› hxk) | (exact ext_cell hxk ‹_›) | go_keep))
            (first
            | (go_at_call 17; go_split_ands; refine (HLG.out _ _ _ E2.out ‹HW W2 _ x S FL›).mono ?_; rintro e wL ⟨hxk, aL, nL, cL, bL, dL, rfl, rL, sL⟩)
            | (go_at_call 16; go_split_ands; refine (HMY.out _ _ _ _ _ _ (E2.out.trans (HW.e ‹HW W2 _ x S FL›)) rL sL).mono ?_; rintro e wM ⟨rfl, hxk⟩)
            | (go_at_call 18; go_split_ands; refine (HSM.out _ _ _ _ _ _ _ _ _ _ _ _ (HB.out.ext (HW.e ‹HW W2 _ x S FL›)) rL sL).mono ?_; rintro e wS ⟨rfl, hxk⟩)
            | fail)
          go_split_ands
          have hE := ‹Ext u1 wS›
          go_wp2_with fail
          go_ret
          exact ⟨rfl, (E2.out.trans H1.out.e).trans hE⟩
end Go.Proofs.YtgcaphjjigpjlaaDoor
namespace Go.Proofs.YtgcaphjjigpjlaaDoor
open Go.RowKit
set_option maxRecDepth 100000
set_option maxHeartbeats 4000000
set_option linter.unusedSimpArgs false
def HWx (w W : World) (x : Nat) (s : ByteArray) (ls : List (List Sp)) (Q : Nat → Prop) : Prop := ∃ F, HWs w W x F s ls ∧ ∀ k, Q k → ¬ F k
theorem HWx.hw {w W : World} {x : Nat} {s : ByteArray} {ls : List (List Sp)} {Q : Nat → Prop} (h : HWx w W x s ls Q) : HW w W x s ls := by obtain ⟨F, h, _⟩ := h; exact ⟨F, h⟩
theorem HWx.e {w W : World} {x : Nat} {s : ByteArray} {ls : List (List Sp)} {Q : Nat → Prop} (h : HWx w W x s ls Q) : Ext w W := h.hw.e
theorem HWx.next {w W W' : World} {x : Nat} {s : ByteArray} {ls : List (List Sp)} {Q : Nat → Prop} (h : HWx w W x s ls Q) (k : Ext W W') : HWx w W' x s ls Q := by
  obtain ⟨F, h, hq⟩ := h
  exact ⟨F, ⟨h.hp.ext k, h.ext.trans k, h.ge⟩, hq⟩
theorem HW.out {w W : World} {x : Nat} {s : ByteArray} {ls : List (List Sp)} {Q : Nat → Prop} (h : HW w W x s ls) (hQ : ∀ k, Q k → W.heap.size ≤ k) : HWx w W x s ls Q := by
  obtain ⟨F, h⟩ := h
  exact ⟨F, h, fun k hk hf => by have := hQ k hk; have := h.hp.lt k hf; omega⟩
theorem HWx.set {w W : World} {x : Nat} {s : ByteArray} {ls : List (List Sp)} {Q : Nat → Prop} (h : HWx w W x s ls Q) (p : Addr) (v : Value) (hp : Q p.block) (hw : w.heap.size ≤ p.block) : HWx w (W.setCell p v) x s ls Q := by
  obtain ⟨F, h, hq⟩ := h
  have K : Kp (fun i => i = p.block) W (W.setCell p v) := (Kp.refl _ W).set p v (.inl rfl)
  exact ⟨F, ⟨h.hp.keep K (fun i hi e => hq p.block hp (e ▸ hi)), ext_kp h.ext K (fun i hi => by rw [hi]; exact hw), h.ge⟩, hq⟩
theorem hw_appx (x : Nat) (s : ByteArray) (ls : List (List Sp)) (A : Option Addr) (n c : Nat) (l : List Sp) (w W : World) (Q : Nat → Prop) [Tab w] (h : HWx w W x s ls Q) (hQ : ∀ k, Q k → k < W.heap.size) (hs : SmH s ls) (hr : RdO W A n c l) (hn : n ≤ 1000) (hu : sumT l ≤ 400000000) :
    Calls Tryd.prog 10 #[.pointer (some ⟨x, 0, none⟩), .slice A n c] W fun e w' => e = .returned (.int .i64 (appE s ls l)) ∧ HWx w w' x s (appLs s ls l) Q ∧ W.heap.size ≤ w'.heap.size ∧ ∀ k, Q k → w'.heap[k]? = W.heap[k]? := by
  have hTb := tab_ext h.e
  obtain ⟨F, h, hq⟩ := h
  refine (appP17_c x F s ls A n c l W h.hp hs hr hn hu).mono ?_
  rintro e w' ⟨h1, h2, h3⟩
  refine ⟨h1, ⟨_, ⟨h3, ext_kp h.ext h2 h.ge, fun i hi => by rcases hi with hi | hi; exact h.ge i hi; exact Nat.le_trans h.ext.size hi.1⟩, fun k hk hg => ?_⟩, h2.size, fun k hk => h2.block k (hQ k hk) (hq k hk)⟩
  rcases hg with hg | hg
  · exact hq k hk hg
  · have := hQ k hk; omega
theorem own_any {W : World} {B : Nat} {e : TypeId} {size n : Nat} {v : Value} {xs : List Value} (h : Own W B e size v n xs) (p o : Nat) (u : Value) : ∃ xs', Own (W.setCell ⟨p, o, none⟩ u) B e size v n xs' := by
  by_cases hb : v.ownBlock = some p
  · obtain ⟨⟨h1, h2⟩, h3⟩ := h
    rcases h2 with ⟨h2, _⟩ | ⟨g, cap, cur, hv, hg, hh, hc, hm, hs, ht⟩
    · rw [h2] at hb; cases hb
    · have e1 : g = p := by rw [hv] at hb; injection hb
      subst e1
      have hsz : (cur.setIfInBounds o u).size = cap * size := by rw [Array.size_setIfInBounds]; exact hs
      refine ⟨(cur.setIfInBounds o u).toList.take (n * size), ⟨?_, .inr ⟨g, cap, cur.setIfInBounds o u, hv, hg, heap_setCell_same W g o _ _ u hh, hc, hm, hsz, rfl⟩⟩, by simpa [World.setCell] using h3⟩
      rw [List.length_take, Array.length_toList, hsz]
      exact Nat.min_eq_left (Nat.mul_le_mul_right _ hc)
  · exact ⟨xs, h.keepb (by simp [World.setCell]) fun k hk => Below.heap_setCell W ⟨p, o, none⟩ u k (fun e => hb (by rw [show p = k from e.symm]; exact hk))⟩
structure LogO (W : World) (b0 y : Nat) (A : Value) (BB : Value) (s : ByteArray) (FN : Nat) (FL : List (List Sp)) (vs : List Value) : Prop where
  box : BxT 26 W y #[.string s, A, BB]
  seg : Own W b0 37 1 BB FN vs
  row : ∀ i (hi : i < FL.length), ∃ u xs, vs[i]? = some u ∧ Own W b0 50 3 u FL[i].length xs
theorem LogO.set {W : World} {b0 y g o : Nat} {A BB : Value} {s : ByteArray} {FN : Nat} {FL : List (List Sp)} {vs : List Value} {cur : Array Value} (h : LogO W b0 y A BB s FN FL vs) (hg : W.heap[g]? = some (.cells cur 50 (0, 0))) (h1 : 50 ≠ 26) (h2 : 50 ≠ 37) (u : Value) : LogO (W.setCell ⟨g, o, none⟩ u) b0 y A BB s FN FL vs := by
  refine ⟨h.box.other ⟨g, o, none⟩ (fun e => ?_) u, own_cell_other (a := ⟨g, o, none⟩) h.seg hg h2 u, fun i hi => ?_⟩
  · have hq := h.box
    unfold BxT at hq
    exact typ_ne hg hq h1 e.symm
  · obtain ⟨v, xs, q1, q2⟩ := h.row i hi
    obtain ⟨xs', q3⟩ := own_any q2 g o u
    exact ⟨v, xs', q1, q3⟩
theorem LogO.set3 {W : World} {b0 y g o : Nat} {A BB : Value} {s : ByteArray} {FN : Nat} {FL : List (List Sp)} {vs : List Value} {cur : Array Value} (h : LogO W b0 y A BB s FN FL vs) (hg : W.heap[g]? = some (.cells cur 50 (0, 0))) (h1 : 50 ≠ 26) (h2 : 50 ≠ 37) (a b c : Value) : LogO (W.setCells g o [a, b, c]) b0 y A BB s FN FL vs := by
  have g1 := heap_setCell_same W g o _ _ a hg
  have g2 := heap_setCell_same _ g (o + 1) _ _ b g1
  exact ((h.set hg h1 h2 a).set g1 h1 h2 b).set g2 h1 h2 c
theorem HWx.set3 {w W : World} {x : Nat} {s : ByteArray} {ls : List (List Sp)} {Q : Nat → Prop} (h : HWx w W x s ls Q) {g : Nat} (o : Nat) (a b c : Value) (hp : Q g) (hw : w.heap.size ≤ g) : HWx w (W.setCells g o [a, b, c]) x s ls Q :=
  ((h.set ⟨g, o, none⟩ a hp hw).set ⟨g, o + 1, none⟩ b hp hw).set ⟨g, o + 2, none⟩ c hp hw
theorem own_cells1 {W : World} {B n c size : Nat} {e : TypeId} {a : Option Addr} {xs : List Value} (h : Own W B e size (.slice a n c) n xs) (hn : 0 < n) : ∃ g, a = some ⟨g, 0, none⟩ ∧ B ≤ g ∧ g < W.heap.size ∧ ∀ (j : Nat) (u : Value), xs[j]? = some u → W.cell? ⟨g, j, none⟩ = some u := by
  obtain ⟨g, c', hv, _, h1, h2, h3⟩ := h.cells hn
  injection hv with e1 _ _
  exact ⟨g, e1, h1, h2, h3⟩
theorem zero_cells {W : World} {B g m c : Nat} {xs : List Value} (h : Own W B 50 3 (.slice (some ⟨g, 0, none⟩) m c) m xs) {t : Nat} (ht : t < m) : (∃ a, W.cell? ⟨g, t * 3, none⟩ = some a) ∧ (∃ a, W.cell? ⟨g, t * 3 + 1, none⟩ = some a) ∧ (∃ a, W.cell? ⟨g, t * 3 + 2, none⟩ = some a) := by
  obtain ⟨g', c', hv, _, _, _, hcell⟩ := h.cells (by omega)
  injection hv with e1 _ _
  injection e1 with e1
  injection e1 with e1
  subst e1
  have hl := h.1.1
  have q : ∀ j, j < m * 3 → ∃ a, W.cell? ⟨g, j, none⟩ = some a := fun j hj => ⟨_, hcell j xs[j] (List.getElem?_eq_getElem (by omega))⟩
  exact ⟨q _ (by omega), q _ (by omega), q _ (by omega)⟩
theorem HWx.sub {w W : World} {x : Nat} {s : ByteArray} {ls : List (List Sp)} {Q Q' : Nat → Prop} (h : HWx w W x s ls Q) (hq : ∀ k, Q' k → Q k) : HWx w W x s ls Q' := by
  obtain ⟨F, h, g⟩ := h
  exact ⟨F, h, fun k hk => g k (hq k hk)⟩
theorem historyKeeps_c (s : ByteArray) (A : Option Addr) (n c : Nat) (ls : List (List Sp)) (A9 : Option Addr) (n9 k9 : Nat) (a : List Sp) (w : World) [Tab w] (hs : s.size ≤ maxLen) (h : RdSS w A n c ls) (hls : ∀ l ∈ ls, ∀ x ∈ l, x.2.2.size ≤ maxLen) (hnn : n ≤ maxLen) (hl0 : Rd w 3 (.slice A9 n9 k9) n9 (spCells a)) (hl1 : a.length = n9) (hts : ∀ x ∈ a, x.2.2.size ≤ maxLen) :
    Calls Tryd.prog 4 #[.string s, .slice A n c, .slice A9 n9 k9] w fun e w' => e = .returned (.bool true) ∧ Ext w w' := by
  obtain ⟨i, hi, hz0, hz1, hz2⟩ := info_parts info_sp5
  have hl : RdO w A9 n9 k9 a := ⟨hl1, hl0⟩
  clear hl0 hl1
  have hnm := h.1
  obtain ⟨TT, hTT⟩ : ∃ T, T = min n 8 := ⟨_, rfl⟩
  have hTn : TT ≤ n := by omega
  have hnb : n ≤ 9223372036854775807 := by unfold maxLen at hnn; omega
  have hcap : n ≤ c := by obtain ⟨_, _, ⟨_, _, _, hv, hc, _⟩, _⟩ := h; injection hv with _ _ e; omega
  have m1 : min (n : Int) 8 = (TT : Int) := by omega
  have m2 : (if (8 : Int) < (n : Int) then (8 : Int) else (n : Int)) = (TT : Int) := by split <;> omega
  have m3 : (0 : Int) ≤ (TT : Int) := by omega
  have m4 : (TT : Int) ≤ (c : Int) := by omega
  obtain ⟨S, FR, FL, hF, hfit⟩ := fitG16 s A TT c (ls.take TT) w hs (h.take hTn) (fun l hl => hls l (List.mem_of_mem_take hl))
  have HSH := Lib.hid (fun w' (hx : Ext w w') => have hTb := tab_ext hx; shown17_c w')
  have HFI := Lib.hid hfit
  have hS := hF.sm17
  have hSm := hS.smH
  obtain ⟨FN, hFN⟩ : ∃ n, FL.length = n := ⟨_, rfl⟩
  have h20 := hF.n20
  rw [hFN] at HFI h20
  have HFN := Lib.hid hFN
  have HNW : Hid (∀ V, Ext w V → Calls Tryd.prog 9 #[.string S] V fun e w' => ∃ x, e = .returned (.tuple #[.pointer (some ⟨x, 0, none⟩), .int .i64 0]) ∧ HW V w' x S []) := Lib.hid fun V hx => by
    have hTb := tab_ext hx
    exact hw_new S V V (Ext.refl V) hSm.base (new17 hS)
  have HAP : Hid (∀ V U x j (hj : j < FL.length) a k kc, Ext w V → HW V U x S (FL.take j) → Rd U 3 (.slice a k kc) k (spCells FL[j]) → FL[j].length = k → Calls Tryd.prog 10 #[.pointer (some ⟨x, 0, none⟩), .slice a k kc] U fun e w' => e = .returned (.int .i64 0) ∧ HW V w' x S (FL.take (j + 1))) := Lib.hid fun V U x j hj a k kc hx hw hr hk => by
    have hTb := tab_ext hx
    obtain ⟨g1, g2⟩ := app17 hS hj
    have hme := List.getElem_mem hj
    have g := hw_app x S (FL.take j) a k kc FL[j] V U hw (hSm.take j) ⟨hk, hr⟩ (by have := hS.len _ hme; omega) (by have := sumT_le16 _ hme; have := hS.sum; omega)
    rw [g1, g2] at g; exact g
  have hFR : FR = revL FL.length := hF.rev
  have hlog := hF.ok
  have HLG : Hid (∀ V U x, Ext w V → HW V U x S FL → Calls Tryd.prog 17 #[.pointer (some ⟨x, 0, none⟩)] U fun e w' => Ext U w' ∧ ∃ A n c B d, e = .returned (.agg #[.string S, .slice A n c, .slice B FN d]) ∧ Rd w' 1 (.slice A n c) n (nV FR) ∧ RdSS w' B FN d FL) := Lib.hid fun V U x hx hw => by
    have hTb := tab_ext hx
    refine (hw_log x S FL V U hw hSm).mono ?_
    rintro e w' ⟨g1, A, n, c, B, m, d, g2, g3, g4⟩
    obtain ⟨A', c', he, _, hss⟩ := g4.rd
    injection he with e1 e2 e3
    subst e1; subst e2; subst e3
    rw [hFN] at g2 hss
    exact ⟨g1, A, n, c, _, _, g2, by rw [hFR]; exact g3.rd, hss⟩
  have HLEN : Hid (∀ l ∈ FL, l.length ≤ 20) := Lib.hid hS.len
  have HAPX : Hid (∀ V U x j (hj : j < FL.length) a k kc Q, Ext w V → HWx V U x S (FL.take j) Q → (∀ b, Q b → b < U.heap.size) → Rd U 3 (.slice a k kc) k (spCells FL[j]) → FL[j].length = k → Calls Tryd.prog 10 #[.pointer (some ⟨x, 0, none⟩), .slice a k kc] U fun e w' => e = .returned (.int .i64 0) ∧ HWx V w' x S (FL.take (j + 1)) Q ∧ U.heap.size ≤ w'.heap.size ∧ ∀ b, Q b → w'.heap[b]? = U.heap[b]?) := Lib.hid fun V U x j hj a k kc Q hx hw hQ hr hk => by
    have hTb := tab_ext hx
    obtain ⟨g1, g2⟩ := app17 hS hj
    have hme := List.getElem_mem hj
    have g := hw_appx x S (FL.take j) a k kc FL[j] V U Q hw hQ (hSm.take j) ⟨hk, hr⟩ (by have := hS.len _ hme; omega) (by have := sumT_le16 _ hme; have := hS.sum; omega)
    rw [g1, g2] at g; exact g
  have HLO : Hid (∀ V U x, Ext w V → HW V U x S FL → Calls Tryd.prog 17 #[.pointer (some ⟨x, 0, none⟩)] U fun e w' => Ext U w' ∧ ∃ A n c B d, e = .returned (.agg #[.string S, .slice A n c, .slice B FN d]) ∧ Own w' U.heap.size 3 1 (.slice A n c) n (nV FR) ∧ OwnSS w' U.heap.size 37 50 (.slice B FN d) FL) := Lib.hid fun V U x hx hw => by
    have hTb := tab_ext hx
    refine (hw_log x S FL V U hw hSm).mono ?_
    rintro e w' ⟨g1, A, n, c, B, m, d, g2, g3, g4⟩
    obtain ⟨A', c', he, _, hss⟩ := g4.rd
    injection he with e1 e2 e3
    subst e1; subst e2; subst e3
    rw [hFN] at g2 g4
    exact ⟨g1, A, n, c, _, _, g2, by rw [hFR]; exact g3, g4⟩
  have HSM : Hid (∀ V A n c B d x A' n' c' B' d', LogB V x A' n' c' B' FN d' S FR FL → Rd V 1 (.slice A n c) n (nV FR) → RdSS V B FN d FL → Calls Tryd.prog 18 #[.agg #[.string S, .slice A n c, .slice B FN d], .agg #[.string S, .slice A' n' c', .slice B' FN d']] V fun e w' => e = .returned (.bool true) ∧ Ext V w') := Lib.hid fun V A n c B d x A' n' c' B' d' hl h1 h2 => by
    have q1 := nV_len h1
    have q2 := nV_len hl.rev
    rw [q1] at q2
    subst q2
    exact same16_c A n c B FN d A' c' B' d' S FR FL V h1 h2 hl.rev hl.seg (by rw [hFR, revL_len]; omega) hS.lens (by omega)
  have HSMX : Hid (∀ (V : World) x A c B d x' A' c' B' d', LogB V x A (FN + 2) c B (FN + 1) d S (revL (FN + 1)) (FL ++ [normL (fewL17 a)]) → LogB V x' A' (FN + 1) c' B' FN d' S FR FL → Calls Tryd.prog 18 #[.agg #[.string S, .slice A (FN + 1) c, .slice B FN d], .agg #[.string S, .slice A' (FN + 1) c', .slice B' FN d']] V fun e w' => e = .returned (.bool true) ∧ Ext V w') := Lib.hid fun V x A c B d x' A' c' B' d' hl hl' => by
    have h1 := hl.rev.take (m := FN + 1) (by omega)
    have h2 := hl.seg.take (k := FN) (by omega)
    have e1 : (nV (revL (FN + 1))).take ((FN + 1) * 1) = nV FR := by
      rw [revL_succ, nV_append, hFR, hFN, Nat.mul_one]
      exact List.take_left' (by simp [nV, revL_len])
    have e2 : (FL ++ [normL (fewL17 a)]).take FN = FL := List.take_left' hFN
    rw [e1] at h1; rw [e2] at h2
    exact same16_c A (FN + 1) c B FN d A' c' B' d' S FR FL V h1 h2 hl'.rev hl'.seg (by rw [hFR, revL_len]; omega) hS.lens (by omega)
  have NV2 : Hid (∀ {V : World} A n c, Rd V 1 (.slice A n c) n (nV FR) → n = FN + 1) := Lib.hid fun A n c h => by have := nV_len h; rw [hFR, revL_len, hFN] at this; omega
  have hfl : (fewL17 a).length ≤ 20 := by rw [fewL17_len]; omega
  have hft : sumT (fewL17 a) ≤ 20 * 60 := by
    have h1 := sumT_le (fewL17 a) 60 (fewL17_size a)
    have : (fewL17 a).length * 60 ≤ 20 * 60 := Nat.mul_le_mul_right _ hfl
    omega
  have HFEW : Hid (∀ U, Ext w U → Calls Tryd.prog 19 #[.slice A9 n9 k9] U fun e w' => Ext U w' ∧ ∃ A n c, e = .returned (.slice A n c) ∧ RdO w' A n c (fewL17 a)) := Lib.hid fun U hx => by
    refine (few17_c A9 n9 k9 a U (hl.ext hx).2 hl.1 hts).mono ?_
    rintro e w' ⟨v, g1, g2, g3⟩
    obtain ⟨A, n, c, hv, hr⟩ := rdO_own g3
    exact ⟨g2, A, n, c, by rw [g1, hv], hr⟩
  have HAPF : Hid (∀ V U x A n c, Ext w V → HW V U x S FL → RdO U A n c (fewL17 a) → Calls Tryd.prog 10 #[.pointer (some ⟨x, 0, none⟩), .slice A n c] U fun e w' => e = .returned (.int .i64 (appE S FL (fewL17 a))) ∧ HW V w' x S (appLs S FL (fewL17 a))) := Lib.hid fun V U x A n c hx hw hr => by
    have hTb := tab_ext hx
    exact hw_app x S FL A n c (fewL17 a) V U hw hSm hr (by have := hr.1; omega) (by omega)
  have HAPL : Hid (appE S FL (fewL17 a) = 0 → appLs S FL (fewL17 a) = FL ++ [normL (fewL17 a)]) := Lib.hid fun h => if_pos h
  have HLX : Hid (∀ V U x, Ext w V → HW V U x S (FL ++ [normL (fewL17 a)]) → Calls Tryd.prog 17 #[.pointer (some ⟨x, 0, none⟩)] U fun e w' => Ext U w' ∧ ∃ A c B d, e = .returned (.agg #[.string S, .slice A (FN + 2) c, .slice B (FN + 1) d]) ∧ Rd w' 1 (.slice A (FN + 2) c) (FN + 2) (nV (revL (FN + 1))) ∧ RdSS w' B (FN + 1) d (FL ++ [normL (fewL17 a)]) ∧ FN + 2 ≤ c ∧ FN + 1 ≤ d) := Lib.hid fun V U x hx hw => by
    have hTb := tab_ext hx
    have hnl := norm_len (fewL17 a)
    have hsn := sumT_norm (fewL17 a)
    have hlen : (FL ++ [normL (fewL17 a)]).length = FN + 1 := by rw [List.length_append, hFN]; rfl
    refine (hw_log x S (FL ++ [normL (fewL17 a)]) V U hw ⟨hSm.base, by omega, fun l hl => by
      rcases List.mem_append.1 hl with hl | hl
      · exact hSm.len l hl
      · rw [List.mem_singleton] at hl; subst hl; omega, by rw [sumTT_append]; have := hS.sum; simp only [sumTT, List.map_cons, List.map_nil, List.sum_cons, List.sum_nil] at *; omega⟩).mono ?_
    rintro e w' ⟨g1, A, n, c, B, m, d, g2, g3, g4⟩
    obtain ⟨A', c', he, hcd, hss⟩ := g4.rd
    injection he with e1 e2 e3
    subst e1; subst e2; subst e3
    rw [hlen] at g2 hss hcd
    have hn := nV_len g3.rd
    rw [revL_len, hlen] at hn
    subst hn
    obtain ⟨_, c2, hv, hc2⟩ := g3.len
    injection hv with _ _ e4
    subst e4
    rw [hlen] at g3
    exact ⟨g1, A, c, B, d, g2, g3.rd, hss, hc2, hcd⟩
  clear h hls hs hfit hF hFN hS hSm hnm hnn hTT hTn hFR hlog hl hts
  go_enter Tryd.func4, Tryd.ntmps4
  go_wp2_with fail
  refine (HSH.out _ (Ext.refl _)).mono ?_; rintro e w1 ⟨rfl, hx1⟩
  have e1 : Ext w w1 := hx1
  clear hx1
  go_wp2_with fail
  refine (HFI.out _ e1).mono ?_; rintro e w2 ⟨hx2, A2, n2, k2, B2, d2, rfl, r2, q2⟩
  have e2 : Ext w w2 := e1.trans hx2
  clear hx2
  obtain ⟨x2, hx2⟩ : ∃ x, w2.heap.size = x := ⟨_, rfl⟩
  obtain ⟨W2, hW2⟩ : ∃ V, w2.alloc (.cells #[.string S, .slice A2 n2 k2, .slice B2 FN d2] 26) = V := ⟨_, rfl⟩
  have hX2 : Ext w2 W2 := by rw [← hW2]; exact (Ext.refl w2).alloc _
  have HB := Lib.hid (show LogB W2 x2 A2 n2 k2 B2 FN d2 S FR FL by rw [← hW2, ← hx2]; exact LogB.new r2 q2)
  have E2 := Lib.hid (e2.trans hX2 : Ext w W2)
  have HW2 := Lib.hid hW2; have HX2 := Lib.hid hx2
  clear hW2 hx2 hX2
  clear r2 q2
  obtain ⟨c0, c1, c2⟩ := HB.out.cells
  go_wp2_with fail
  rw [HW2.out, HX2.out]
  clear c0 c1 c2
  refine (HNW.out _ E2.out).mono ?_; rintro e w3 ⟨x, rfl, h3⟩
  have H3 : Hid (HW W2 w3 x S (FL.take 0)) := Lib.hid (by rw [List.take_zero]; exact h3)
  obtain ⟨c0, c1, c2⟩ := (HB.out.ext h3.e).cells
  clear h3
  go_wp2_with fail
  clear c0 c1 c2
  go_loopw [11] (fun iv wr => ∃ j : Nat, j ≤ FN ∧ iv = .int .i64 j ∧ Hid (HW W2 wr x S (FL.take j))) (fun iv _ => FN - (intOf iv).toNat)
  case atStart => exact ⟨0, by omega, rfl, H3⟩
  case round =>
    clear H3
    obtain ⟨j, hj, rfl, HJ⟩ := hrel
    obtain ⟨c0, c1, c2⟩ := (HB.out.ext HJ.out.e).cells
    by_cases hlt : j < FN
    · have hjl : j < FL.length := by have := HFN.out; omega
      obtain ⟨bb, off, a, kc, rfl, hbb, q0, hr⟩ := (HB.out.ext HJ.out.e).seg.at_ hlt hjl
      have d1 : decide (j < FN) = true := by rw [decide_eq_true_eq]; exact hlt
      have i0 : (0 : Int) ≤ (j : Int) := by omega
      have i1 : (j : Int) < (FN : Int) := by omega
      have hk20 := HLEN.out _ (List.getElem_mem hjl)
      have b0 : Below wr.heap.size wr (wr.alloc (.cells #[] 50)) := (Below.refl _ _).alloc (Nat.le_refl _) _
      have o0 := Own.made wr wr.heap.size 50 3 0 #[] (Nat.le_refl _) (by omega) rfl
      obtain ⟨v4, w4, happ, ow4, be4⟩ := app_rd (P := Tryd.prog) 37 37 50 i _ 3 32 Tryd.underlying37 hi hz0 hz1 hz2 rfl (by omega) (by omega) b0 o0 (by omega) (hr.ext b0) (by omega) (spCells_one _)
      obtain ⟨k, hk⟩ : ∃ k, FL[j].length = k := ⟨_, rfl⟩
      rw [hk, Nat.zero_add] at ow4
      rw [hk] at happ q0 hk20
      obtain ⟨a4, k4, rfl, _⟩ := ow4.len
      have c2a := ext_cell b0 c2
      have q0a := ext_cell b0 q0
      have hxo : HWx W2 w4 x S (FL.take j) (fun b => (Value.slice a4 k k4).ownBlock = some b) := (HJ.out.out (Q := fun b => wr.heap.size ≤ b) (fun _ h => h)).next be4 |>.sub fun b hb => (ow4.lt hb).1
      have HA := HAPX.out W2 w4 x j hjl a4 k k4 (fun b => (Value.slice a4 k k4).ownBlock = some b) E2.out hxo (fun b hb => (ow4.lt hb).2) ow4.rd hk
      have HAPP := Lib.hid happ; have HA2 := Lib.hid HA; have OW4 := Lib.hid ow4; have HB4 := Lib.hid (HJ.out.e.size)
      obtain ⟨B1, hB1⟩ : ∃ B, wr.heap.size = B := ⟨_, rfl⟩
      rw [hB1] at HB4 OW4
      clear happ HA hk hr ow4 b0 o0 hxo be4 hB1
      go_wp2_with (at_builtin; refine wpList_append_run rfl rfl HAPP.out rfl rfl ?_)
      refine HA2.out.mono ?_; rintro e w5 ⟨rfl, hx5, hs5, hq5⟩
      have HX5 := Lib.hid hx5
      have OW5 : Hid (∃ xs, Own w5 B1 50 3 (.slice a4 k k4) k xs) := Lib.hid ⟨_, OW4.out.keepb hs5 hq5⟩
      clear hx5 hs5 hq5 OW4 HAPP HA2 c0 c1 c2 q0 c2a q0a
      go_wp2_with fail
      go_loopw [13] (fun tv wz => ∃ t : Nat, t ≤ k ∧ tv = .int .i64 t ∧ Hid (HWx W2 wz x S (FL.take (j + 1)) (fun b => (Value.slice a4 k k4).ownBlock = some b)) ∧ Hid (∃ xs, Own wz B1 50 3 (.slice a4 k k4) k xs)) (fun tv _ => k - (intOf tv).toNat)
      case atStart => exact ⟨0, by omega, rfl, HX5, OW5⟩
      case round =>
        clear HX5 OW5
        obtain ⟨t, ht, rfl, HXZ, OWZ⟩ := hrel
        by_cases htk : t < k
        · obtain ⟨xs, hox⟩ := OWZ.out
          obtain ⟨g, rfl, hgb, _, _⟩ := own_cells1 hox (by omega)
          obtain ⟨⟨u0, z0⟩, ⟨u1, z1⟩, ⟨u2, z2⟩⟩ := zero_cells hox htk
          have f0 := hox.free (t * 3)
          have f1 := hox.free (t * 3 + 1)
          have f2 := hox.free (t * 3 + 2)
          have dt : decide (t < k) = true := by rw [decide_eq_true_eq]; exact htk
          have t0 : (0 : Int) ≤ (t : Int) := by omega
          have t1 : (t : Int) < (k : Int) := by omega
          have HO3 := Lib.hid (hox.setCells [.int .i64 0, .int .i64 0, .string ⟨#[]⟩] (t * 3) _ _ (by show t * 3 + 3 ≤ k * 3; omega))
          have HX3 := Lib.hid (HXZ.out.set3 (t * 3) (.int .i64 0) (.int .i64 0) (.string ⟨#[]⟩) rfl (Nat.le_trans HB4.out hgb))
          clear hox OWZ HXZ hgb
          go_wp2_with fail
          clear z0 z1 z2 f0 f1 f2
          go_roundw
          case rel => exact ⟨t + 1, by omega, by go_num, HX3, Lib.hid ⟨_, HO3.out⟩⟩
          case measure => simp [intOf]; omega
        · obtain rfl : t = k := by omega
          have dt : decide (t < t) = false := by rw [decide_eq_false_iff_not]; omega
          have H5 := Lib.hid HXZ.out.hw
          clear OWZ HXZ
          go_wp2_with fail
          go_roundw
          case rel => exact ⟨j + 1, by omega, by go_num, H5⟩
          case measure => simp [intOf]; omega
    · obtain rfl : j = FN := by omega
      have d1 : decide (j < j) = false := by rw [decide_eq_false_iff_not]; omega
      have H6 : Hid (HW W2 wr x S FL) := Lib.hid (by have g := HJ.out; rw [← HFN.out, List.take_length] at g; exact g)
      have HBr := Lib.hid HB.out
      clear HJ HAPX HAP HNW HSH HFI
      go_wp2_with fail
      refine (HLO.out _ _ _ E2.out H6.out).mono ?_; rintro e w6 ⟨hx6, a6, n6, k6, b6, d6, rfl, o6, s6⟩
      obtain ⟨vs, s6a, s6b⟩ := s6
      have hx7 : Ext w6 (w6.alloc (.cells #[.string S, .slice a6 n6 k6, .slice b6 j d6] 26)) := (Ext.refl w6).alloc _
      have hLO : LogO (w6.alloc (.cells #[.string S, .slice a6 n6 k6, .slice b6 j d6] 26)) wr.heap.size w6.heap.size (.slice a6 n6 k6) (.slice b6 j d6) S j FL vs := ⟨BxT.new w6 26 _, (HFN.out ▸ s6a).ext hx7, fun i hi => by
        obtain ⟨u, g1, g2⟩ := s6b i FL[i] (List.getElem?_eq_getElem hi)
        exact ⟨u, _, g1, g2.ext hx7⟩⟩
      have hHX : HWx W2 (w6.alloc (.cells #[.string S, .slice a6 n6 k6, .slice b6 j d6] 26)) x S FL (fun b => wr.heap.size ≤ b) := ((H6.out.out (Q := fun b => wr.heap.size ≤ b) (fun _ h => h)).next hx6).next hx7
      have HRS := Lib.hid H6.out.e.size
      obtain ⟨B0, hB0⟩ : ∃ B, wr.heap.size = B := ⟨_, rfl⟩
      rw [hB0] at hLO HRS
      simp only [hB0] at hHX
      clear hB0
      obtain ⟨y, hy⟩ : ∃ y, w6.heap.size = y := ⟨_, rfl⟩
      obtain ⟨W7, hW7⟩ : ∃ V, w6.alloc (.cells #[.string S, .slice a6 n6 k6, .slice b6 j d6] 26) = V := ⟨_, rfl⟩
      rw [hy, hW7] at hLO
      rw [hW7] at hHX
      have HLO7 := Lib.hid hLO; have HHX7 := Lib.hid hHX; have HW7 := Lib.hid hW7; have HY7 := Lib.hid hy
      clear hLO hHX hW7 hy hx6 hx7 s6a s6b o6 H6 c0 c1 c2
      go_wp2_with fail
      rw [HW7.out, HY7.out]
      go_loopw [15] (fun tv wz => ∃ t : Nat, t ≤ j ∧ tv = .int .i64 t ∧ Hid (LogO wz B0 y (.slice a6 n6 k6) (.slice b6 j d6) S j FL vs) ∧ Hid (HWx W2 wz x S FL (fun b => B0 ≤ b))) (fun tv _ => j - (intOf tv).toNat)
      case atStart => exact ⟨0, by omega, rfl, HLO7, HHX7⟩
      case round =>
        clear HLO7 HHX7
        obtain ⟨t, ht, rfl, HL8, HX8⟩ := hrel
        by_cases htj : t < j
        · have htl : t < FL.length := by have := HFN.out; omega
          obtain ⟨g, rfl, _, _, hcell⟩ := own_cells1 HL8.out.seg (by omega)
          obtain ⟨u, xs0, hu, hou⟩ := HL8.out.row t htl
          obtain ⟨au, cu, rfl, _⟩ := hou.len
          have y2 : wr.cell? ⟨y, 2, none⟩ = some (.slice (some ⟨g, 0, none⟩) j d6) := HL8.out.box.cell rfl
          have y3 := hcell t _ hu
          have dt : decide (t < j) = true := by rw [decide_eq_true_eq]; exact htj
          have t0 : (0 : Int) ≤ (t : Int) := by omega
          have t1 : (t : Int) < (j : Int) := by omega
          have HU := Lib.hid hu
          have hk20 := HLEN.out _ (List.getElem_mem htl)
          obtain ⟨k, hk⟩ : ∃ k, FL[t].length = k := ⟨_, rfl⟩
          rw [hk] at hou y3 HU hk20
          have HK := Lib.hid hk
          clear hcell hou xs0 hu hk
          go_wp2_with fail
          go_loopw [16] (fun qv wq => ∃ q : Nat, q ≤ k ∧ qv = .int .i64 q ∧ Hid (LogO wq B0 y (.slice a6 n6 k6) (.slice (some ⟨g, 0, none⟩) j d6) S j FL vs) ∧ Hid (HWx W2 wq x S FL (fun b => B0 ≤ b))) (fun qv _ => k - (intOf qv).toNat)
          case atStart => exact ⟨0, by omega, rfl, HL8, HX8⟩
          case round =>
            clear HL8 HX8 y2 y3
            obtain ⟨q, hq, rfl, HL9, HX9⟩ := hrel
            obtain ⟨g9, e1, _, _, hcell⟩ := own_cells1 HL9.out.seg (by omega)
            injection e1 with e1
            injection e1 with e1
            subst e1
            have y2 : wr.cell? ⟨y, 2, none⟩ = some (.slice (some ⟨g, 0, none⟩) j d6) := HL9.out.box.cell rfl
            have y3 := hcell t _ HU.out
            clear hcell
            by_cases hqk : q < k
            · obtain ⟨u9, xs, hu, hox⟩ := HL9.out.row t htl
              rw [HU.out] at hu
              injection hu with hu
              subst hu
              rw [HK.out] at hox
              obtain ⟨g5, rfl, hgb, _, _⟩ := own_cells1 hox (by omega)
              obtain ⟨⟨u0, z0⟩, ⟨u1, z1⟩, ⟨u2, z2⟩⟩ := zero_cells hox hqk
              have f0 := hox.free (q * 3)
              have f1 := hox.free (q * 3 + 1)
              have f2 := hox.free (q * 3 + 2)
              obtain ⟨cur, hcur⟩ := hox.typ (k := g5) rfl
              have dq : decide (q < k) = true := by rw [decide_eq_true_eq]; exact hqk
              have q0 : (0 : Int) ≤ (q : Int) := by omega
              have q1 : (q : Int) < (k : Int) := by omega
              have HL3 := Lib.hid (HL9.out.set3 (o := q * 3) hcur (by decide) (by decide) (.int .i64 0) (.int .i64 0) (.string ⟨#[]⟩))
              have HX3 := Lib.hid (HX9.out.set3 (q * 3) (.int .i64 0) (.int .i64 0) (.string ⟨#[]⟩) hgb (Nat.le_trans HRS.out hgb))
              clear hox HL9 HX9 hgb hcur
              go_wp2_with fail
              clear z0 z1 z2 f0 f1 f2 y2 y3
              go_roundw
              case rel => exact ⟨q + 1, by omega, by go_num, HL3, HX3⟩
              case measure => simp [intOf]; omega
            · obtain rfl : q = k := by omega
              have dq : decide (q < q) = false := by rw [decide_eq_false_iff_not]; omega
              go_wp2_with fail
              clear y2 y3
              go_roundw
              case rel => exact ⟨t + 1, by omega, by go_num, HL9, HX9⟩
              case measure => simp [intOf]; omega
        · obtain rfl : t = j := by omega
          have dt : decide (t < t) = false := by rw [decide_eq_false_iff_not]; omega
          have y2 : wr.cell? ⟨y, 2, none⟩ = some (.slice b6 t d6) := HL8.out.box.cell rfl
          have H8 := Lib.hid HX8.out.hw
          clear HL8 HX8 HRS
          by_cases hap : appE S FL (fewL17 a) = 0
          · have HA := fun V A n k hv hr => HAPF.out W2 V x A n k E2.out hv hr
            rw [hap, HAPL.out hap] at HA
            have HA2 := Lib.hid HA
            clear HA hap
            go_wp2_with fail
            clear y2
            refine region_T (fun _ => True) 6 (by kernel_rfl) (True.intro) (fun hHeld => ?_)
            obtain ⟨Wd, hWd⟩ : ∃ x, wr.drew = x := ⟨_, rfl⟩
            rw [hWd]
            have hdx : Ext wr Wd := by rw [← hWd]; exact (Ext.refl _).drew
            clear hWd
            refine wpAnyT_take (i := 0) (v := ?_) rfl (by kernel_rfl) (fun _ _ _ h => h) (Or.inl ⟨by rfl, ?_⟩) (by assumption) ?_
            rotate_left
            · (intro W hSw; (try dsimp only at hSw); go_simp; (try with_reducible rfl))
            try simp only [Act.put, List.getElem_toArray, List.getElem_cons_succ, List.getElem_cons_zero, List.setIfInBounds_toArray, List.set_cons_zero, List.set_cons_succ]
            refine wpAnyT_take (i := 1) (v := ?_) rfl (by kernel_rfl) (fun _ _ _ h => h) (Or.inl ⟨by rfl, ?_⟩) (by assumption) ?_
            rotate_left
            · (intro W hSw; (try dsimp only at hSw); go_simp; (try with_reducible rfl))
            try simp only [Act.put, List.getElem_toArray, List.getElem_cons_succ, List.getElem_cons_zero, List.setIfInBounds_toArray, List.set_cons_zero, List.set_cons_succ]
            refine wpAnyT_take (i := 2) (v := ?_) rfl (by kernel_rfl) (fun _ _ _ h => h) (Or.inl ⟨by rfl, ?_⟩) (by assumption) ?_
            rotate_left
            · (intro W hSw; (try dsimp only at hSw); go_simp; (try with_reducible rfl))
            try simp only [Act.put, List.getElem_toArray, List.getElem_cons_succ, List.getElem_cons_zero, List.setIfInBounds_toArray, List.set_cons_zero, List.set_cons_succ]
            refine wpAnyT_take (i := 3) (v := ?_) rfl (by kernel_rfl) (fun _ _ _ h => h) (Or.inl ⟨by rfl, ?_⟩) (by assumption) ?_
            rotate_left
            · (intro W hSw; (try dsimp only at hSw); go_simp; (try with_reducible rfl))
            try simp only [Act.put, List.getElem_toArray, List.getElem_cons_succ, List.getElem_cons_zero, List.setIfInBounds_toArray, List.set_cons_zero, List.set_cons_succ]
            refine wpAnyT_one (i := 4) rfl (by kernel_rfl) (fun K hK => ?_)
            go_simp
            refine (HFEW.out _ (E2.out.trans (H8.out.next hdx).e)).mono ?_; rintro e w8 ⟨hx8, a8, n8, k8, rfl, r8⟩
            refine hK.out _ _ (fun _ => True.intro) (fun hH => ?_)
            replace hHeld := hH (by decide)
            clear hK K hH
            try simp only [Act.put, List.getElem_toArray, List.getElem_cons_succ, List.getElem_cons_zero, List.setIfInBounds_toArray, List.set_cons_zero, List.set_cons_succ]
            refine wpAnyT_one (i := 5) rfl (by kernel_rfl) (fun K hK => ?_)
            go_simp
            refine (HA2.out _ _ _ _ (H8.out.next (hdx.trans hx8)) r8).mono ?_; rintro e w9 ⟨rfl, h9⟩
            refine hK.out _ _ (fun _ => True.intro) (fun hH => ?_)
            replace hHeld := hH (by decide)
            clear hK K hH
            try simp only [Act.put, List.getElem_toArray, List.getElem_cons_succ, List.getElem_cons_zero, List.setIfInBounds_toArray, List.set_cons_zero, List.set_cons_succ]
            refine wpAnyT_one (i := 6) rfl (by kernel_rfl) (fun K hK => ?_)
            go_simp
            refine hK.out _ _ (fun h => absurd rfl h) (fun _ => ?_)
            clear hK K hHeld
            try simp only [Act.put, List.getElem_toArray, List.getElem_cons_succ, List.getElem_cons_zero, List.setIfInBounds_toArray, List.set_cons_zero, List.set_cons_succ]
            refine wpAnyT_done (by kernel_rfl) ?_ _
            have H10 := Lib.hid h9
            clear h9 HA2 r8 hx8 H8 hdx
            go_wp2_with fail
            refine (HLX.out _ _ _ E2.out H10.out).mono ?_; rintro e wA ⟨hxA, aA, cA, bA, dA, rfl, rA, sA, hcA, hdA⟩
            have hHA := H10.out.next hxA
            obtain ⟨zb, hzb⟩ : ∃ z, wA.heap.size = z := ⟨_, rfl⟩
            obtain ⟨WB, hWB⟩ : ∃ V, wA.alloc (.cells #[.string S, .slice aA (t + 2) cA, .slice bA (t + 1) dA] 26) = V := ⟨_, rfl⟩
            have eB : Ext wA WB := by rw [← hWB]; exact (Ext.refl wA).alloc _
            have lB : LogB WB zb aA (t + 2) cA bA (t + 1) dA S (revL (t + 1)) (FL ++ [normL (fewL17 a)]) := by rw [← hWB, ← hzb]; exact LogB.new rA sA
            obtain ⟨n0, n1, n2'⟩ := lB.cells
            obtain ⟨c0, c1, c2⟩ := (HB.out.ext (hHA.next eB).e).cells
            have HHB := Lib.hid (hHA.next eB); have LB := Lib.hid lB; have HWB := Lib.hid hWB; have HZB := Lib.hid hzb
            have hn2 := NV2.out _ _ _ HB.out.rev
            subst hn2
            have hwp : IntKind.i64.wrap ((t : Int) + 1) = (t : Int) + 1 := by rw [IntKind.wrap_i64]; omega
            have g1 : ((t : Int) + 1 == (t : Int) + 1) = true := by rw [beq_iff_eq]
            have g1' : (((t + 1 : Nat) : Int) == (t : Int) + 1) = true := by rw [beq_iff_eq]; omega
            have g2' : (0 : Int) ≤ ((t + 1 : Nat) : Int) := by omega
            have g3' : ((t + 1 : Nat) : Int) ≤ (cA : Int) := by omega
            have g2 : (0 : Int) ≤ (t : Int) + 1 := by omega
            have g3 : (t : Int) + 1 ≤ (cA : Int) := by omega
            have g4 : (0 : Int) ≤ (t : Int) := by omega
            have g5 : (t : Int) ≤ (dA : Int) := by omega
            clear hHA eB lB hWB hzb rA sA hxA H10 hcA hdA
            go_wp2_with fail
            rw [HWB.out, HZB.out]
            have hrr := Ext.refl WB
            go_region_held3 (fun V => Ext WB V ∧ V.cell? ⟨zb, 0, none⟩ = some (.string S) ∧ V.cell? ⟨zb, 1, none⟩ = some (.slice aA (t + 2) cA) ∧ V.cell? ⟨zb, 2, none⟩ = some (.slice bA (t + 1) dA) ∧ V.cell? ⟨x2, 0, none⟩ = some (.string S) ∧ V.cell? ⟨x2, 1, none⟩ = some (.slice A2 (t + 1) k2) ∧ V.cell? ⟨x2, 2, none⟩ = some (.slice B2 t d2))
              ((go_split_ands; refine ⟨?_, ?_, ?_, ?_, ?_, ?_, ?_⟩ <;> first | (exact Ext.drew ‹_›) | (exact Ext.trans ‹_› hxk) | (exact ext_cell hxk ‹_›) | go_keep))
              (first
              | (go_at_call 18; go_split_ands; refine (HSMX.out _ _ _ _ _ _ _ _ _ _ _ (LB.out.ext ‹Ext WB _›) (HB.out.ext (Ext.trans HHB.out.e ‹Ext WB _›))).mono ?_; rintro e wS ⟨rfl, hxk⟩)
              | fail)
            go_split_ands
            have hE := ‹Ext WB wS›
            go_wp2_with fail
            go_ret
            exact ⟨rfl, (E2.out.trans HHB.out.e).trans hE⟩
          · have t1 : (appE S FL (fewL17 a) != 0) = true := by rw [bne_iff_ne]; exact hap
            have t2 : (appE S FL (fewL17 a) == 0) = false := by rw [beq_eq_false_iff_ne]; exact hap
            have HA := fun V A n k hv hr => HAPF.out W2 V x A n k E2.out hv hr
            rw [show appLs S FL (fewL17 a) = FL from if_neg hap] at HA
            have HA2 := Lib.hid HA
            clear HA hap
            generalize appE S FL (fewL17 a) = AE at *
            go_wp2_with fail
            clear y2
            refine region_T (fun _ => True) 6 (by kernel_rfl) (True.intro) (fun hHeld => ?_)
            obtain ⟨Wd, hWd⟩ : ∃ x, wr.drew = x := ⟨_, rfl⟩
            rw [hWd]
            have hdx : Ext wr Wd := by rw [← hWd]; exact (Ext.refl _).drew
            clear hWd
            refine wpAnyT_take (i := 0) (v := ?_) rfl (by kernel_rfl) (fun _ _ _ h => h) (Or.inl ⟨by rfl, ?_⟩) (by assumption) ?_
            rotate_left
            · (intro W hSw; (try dsimp only at hSw); go_simp; (try with_reducible rfl))
            try simp only [Act.put, List.getElem_toArray, List.getElem_cons_succ, List.getElem_cons_zero, List.setIfInBounds_toArray, List.set_cons_zero, List.set_cons_succ]
            refine wpAnyT_take (i := 1) (v := ?_) rfl (by kernel_rfl) (fun _ _ _ h => h) (Or.inl ⟨by rfl, ?_⟩) (by assumption) ?_
            rotate_left
            · (intro W hSw; (try dsimp only at hSw); go_simp; (try with_reducible rfl))
            try simp only [Act.put, List.getElem_toArray, List.getElem_cons_succ, List.getElem_cons_zero, List.setIfInBounds_toArray, List.set_cons_zero, List.set_cons_succ]
            refine wpAnyT_take (i := 2) (v := ?_) rfl (by kernel_rfl) (fun _ _ _ h => h) (Or.inl ⟨by rfl, ?_⟩) (by assumption) ?_
            rotate_left
            · (intro W hSw; (try dsimp only at hSw); go_simp; (try with_reducible rfl))
            try simp only [Act.put, List.getElem_toArray, List.getElem_cons_succ, List.getElem_cons_zero, List.setIfInBounds_toArray, List.set_cons_zero, List.set_cons_succ]
            refine wpAnyT_take (i := 3) (v := ?_) rfl (by kernel_rfl) (fun _ _ _ h => h) (Or.inl ⟨by rfl, ?_⟩) (by assumption) ?_
            rotate_left
            · (intro W hSw; (try dsimp only at hSw); go_simp; (try with_reducible rfl))
            try simp only [Act.put, List.getElem_toArray, List.getElem_cons_succ, List.getElem_cons_zero, List.setIfInBounds_toArray, List.set_cons_zero, List.set_cons_succ]
            refine wpAnyT_one (i := 4) rfl (by kernel_rfl) (fun K hK => ?_)
            go_simp
            refine (HFEW.out _ (E2.out.trans (H8.out.next hdx).e)).mono ?_; rintro e w8 ⟨hx8, a8, n8, k8, rfl, r8⟩
            refine hK.out _ _ (fun _ => True.intro) (fun hH => ?_)
            replace hHeld := hH (by decide)
            clear hK K hH
            try simp only [Act.put, List.getElem_toArray, List.getElem_cons_succ, List.getElem_cons_zero, List.setIfInBounds_toArray, List.set_cons_zero, List.set_cons_succ]
            refine wpAnyT_one (i := 5) rfl (by kernel_rfl) (fun K hK => ?_)
            go_simp
            refine (HA2.out _ _ _ _ (H8.out.next (hdx.trans hx8)) r8).mono ?_; rintro e w9 ⟨rfl, h9⟩
            refine hK.out _ _ (fun _ => True.intro) (fun hH => ?_)
            replace hHeld := hH (by decide)
            clear hK K hH
            try simp only [Act.put, List.getElem_toArray, List.getElem_cons_succ, List.getElem_cons_zero, List.setIfInBounds_toArray, List.set_cons_zero, List.set_cons_succ]
            refine wpAnyT_one (i := 6) rfl (by kernel_rfl) (fun K hK => ?_)
            go_simp
            refine hK.out _ _ (fun h => absurd rfl h) (fun _ => ?_)
            clear hK K hHeld
            try simp only [Act.put, List.getElem_toArray, List.getElem_cons_succ, List.getElem_cons_zero, List.setIfInBounds_toArray, List.set_cons_zero, List.set_cons_succ]
            refine wpAnyT_done (by kernel_rfl) ?_ _
            have H10 := Lib.hid h9
            obtain ⟨c0, c1, c2⟩ := (HB.out.ext h9.e).cells
            clear h9 HA2 r8 hx8 H8 hdx
            go_wp2_with fail
            have hrr := Ext.refl w9
            go_region_held3 (fun V => Ext w9 V ∧ HW W2 V x S FL ∧ V.cell? ⟨x2, 0, none⟩ = some (.string S) ∧ V.cell? ⟨x2, 1, none⟩ = some (.slice A2 n2 k2) ∧ V.cell? ⟨x2, 2, none⟩ = some (.slice B2 t d2))
              ((go_split_ands; refine ⟨?_, ?_, ?_, ?_, ?_⟩ <;> first | (exact Ext.drew ‹_›) | (exact Ext.trans ‹_› hxk) | (exact H10.out.next ((Ext.refl _).drew)) | (exact HW.next ‹_› hxk) | (exact ext_cell hxk ‹_›) | go_keep))
              (first
              | (go_at_call 17; go_split_ands; refine (HLG.out _ _ _ E2.out ‹HW W2 _ x S FL›).mono ?_; rintro e wL ⟨hxk, aL, nL, cL, bL, dL, rfl, rL, sL⟩)
              | (go_at_call 18; go_split_ands; refine (HSM.out _ _ _ _ _ _ _ _ _ _ _ _ (HB.out.ext (HW.e ‹HW W2 _ x S FL›)) rL sL).mono ?_; rintro e wS ⟨rfl, hxk⟩)
              | fail)
            go_split_ands
            have hE := ‹Ext w9 wS›
            go_wp2_with fail
            go_ret
            exact ⟨rfl, (E2.out.trans H10.out.e).trans hE⟩
end Go.Proofs.YtgcaphjjigpjlaaDoor
namespace Go.Proofs.YtgcaphjjigpjlaaDoor
open Go.RowKit
set_option maxRecDepth 100000
set_option maxHeartbeats 4000000
set_option linter.unusedSimpArgs false
theorem historyOver_c (s : ByteArray) (A : Option Addr) (n c : Nat) (ls : List (List Sp)) (A9 : Option Addr) (n9 k9 : Nat) (a : List Sp) (w : World) [Tab w] (hs : s.size ≤ maxLen) (h : RdSS w A n c ls) (hls : ∀ l ∈ ls, ∀ x ∈ l, x.2.2.size ≤ maxLen) (hnn : n ≤ maxLen) (hl0 : Rd w 3 (.slice A9 n9 k9) n9 (spCells a)) (hl1 : a.length = n9) (hts : ∀ x ∈ a, x.2.2.size ≤ maxLen) :
    Calls Tryd.prog 5 #[.string s, .slice A n c, .slice A9 n9 k9] w fun e w' => e = .returned (.bool true) ∧ Ext w w' := by
  have hl : RdO w A9 n9 k9 a := ⟨hl1, hl0⟩
  clear hl0 hl1
  have hnm := h.1
  obtain ⟨TT, hTT⟩ : ∃ T, T = min n 8 := ⟨_, rfl⟩
  have hTn : TT ≤ n := by omega
  have hnb : n ≤ 9223372036854775807 := by unfold maxLen at hnn; omega
  have hcap : n ≤ c := by obtain ⟨_, _, ⟨_, _, _, hv, hc, _⟩, _⟩ := h; injection hv with _ _ e; omega
  have m1 : min (n : Int) 8 = (TT : Int) := by omega
  have m2 : (if (8 : Int) < (n : Int) then (8 : Int) else (n : Int)) = (TT : Int) := by split <;> omega
  have m3 : (0 : Int) ≤ (TT : Int) := by omega
  have m4 : (TT : Int) ≤ (c : Int) := by omega
  obtain ⟨S, FR, FL, hF, hfit⟩ := fitG16 s A TT c (ls.take TT) w hs (h.take hTn) (fun l hl => hls l (List.mem_of_mem_take hl))
  have HSH := Lib.hid (fun w' (hx : Ext w w') => have hTb := tab_ext hx; shown17_c w')
  have HFI := Lib.hid hfit
  have hS := hF.sm17
  have hSm := hS.smH
  obtain ⟨FN, hFN⟩ : ∃ n, FL.length = n := ⟨_, rfl⟩
  have h20 := hF.n20
  rw [hFN] at HFI h20
  have HFN := Lib.hid hFN
  have HNW : Hid (∀ V, Ext w V → Calls Tryd.prog 9 #[.string S] V fun e w' => ∃ x, e = .returned (.tuple #[.pointer (some ⟨x, 0, none⟩), .int .i64 0]) ∧ HW V w' x S []) := Lib.hid fun V hx => by
    have hTb := tab_ext hx
    exact hw_new S V V (Ext.refl V) hSm.base (new17 hS)
  have HAP : Hid (∀ V U x j (hj : j < FL.length) a k kc, Ext w V → HW V U x S (FL.take j) → Rd U 3 (.slice a k kc) k (spCells FL[j]) → FL[j].length = k → Calls Tryd.prog 10 #[.pointer (some ⟨x, 0, none⟩), .slice a k kc] U fun e w' => e = .returned (.int .i64 0) ∧ HW V w' x S (FL.take (j + 1))) := Lib.hid fun V U x j hj a k kc hx hw hr hk => by
    have hTb := tab_ext hx
    obtain ⟨g1, g2⟩ := app17 hS hj
    have hme := List.getElem_mem hj
    have g := hw_app x S (FL.take j) a k kc FL[j] V U hw (hSm.take j) ⟨hk, hr⟩ (by have := hS.len _ hme; omega) (by have := sumT_le16 _ hme; have := hS.sum; omega)
    rw [g1, g2] at g; exact g
  have HLN : Hid (∀ V U x, Ext w V → HW V U x S FL → Calls Tryd.prog 11 #[.pointer (some ⟨x, 0, none⟩)] U fun e w' => e = .returned (.int .i64 (FN : Int)) ∧ Ext U w') := Lib.hid fun V U x hx hw => by
    have hTb := tab_ext hx
    have g := hw_len x S FL V U hw hSm
    rw [hFN] at g; exact g
  obtain ⟨TX, hTX⟩ : ∃ f : Nat → ByteArray, txt17 S FL = f := ⟨_, rfl⟩
  have HAT : Hid (∀ q, q ≤ FN → ∀ V U x, Ext w V → HW V U x S FL → Calls Tryd.prog 12 #[.pointer (some ⟨x, 0, none⟩), .int .i64 (q : Int)] U fun e w' => e = .returned (.tuple #[.string (TX q), .int .i64 0]) ∧ Ext U w') := Lib.hid fun q hq V U x hx hw => by
    have hTb := tab_ext hx
    have g := hw_at x S FL (q : Int) V U hw hSm hS.small
    rw [show atH S FL (q : Int) = .tuple #[.string (TX q), .int .i64 0] by unfold atH; rw [if_neg (by omega), Int.toNat_natCast, hTX]] at g
    exact g
  have hat : ∀ q, q ≤ FN → ∃ ds, dec (bs (TX q)) = some ds ∧ cntF (bs (TX q)) = (ds.length : Int) ∧ ds.length ≤ 24080 := fun q hq => by
    obtain ⟨ds, h1, h2, h3, _⟩ := hS.at (j := q) (by omega)
    rw [hTX] at h1 h2
    exact ⟨ds, h1, h2, h3⟩
  obtain ⟨NN, hNN⟩ : ∃ f : Nat → Int, (fun q => cntF (bs (TX q))) = f := ⟨_, rfl⟩
  have hNq : ∀ q, cntF (bs (TX q)) = NN q := fun q => by rw [← hNN]
  have HCT : Hid (∀ q, q ≤ FN → ∀ w', Calls Tryd.prog 21 #[.string (TX q)] w' fun e w'' => e = .returned (.int .i64 (NN q)) ∧ Ext w' w'') := Lib.hid fun q hq w' => by
    have g := count_c (TX q) w' (by rw [← hTX]; have := txt17_size (s := S) (ls := FL) q; have := hS.txt; have := hS.sum; omega)
    rw [hNq] at g; exact g
  obtain ⟨XX, hXX⟩ : ∃ f : Nat → List Sp, (fun q => fitL a (NN q)) = f := ⟨_, rfl⟩
  have hXq : ∀ q, fitL a (NN q) = XX q := fun q => by rw [← hXX]
  have HFT : Hid (∀ q, q ≤ FN → ∀ U, Ext w U → Calls Tryd.prog 20 #[.slice A9 n9 k9, .int .i64 (NN q)] U fun e w' => Ext U w' ∧ ∃ A n c, e = .returned (.slice A n c) ∧ RdO w' A n c (XX q)) := Lib.hid fun q hq U hx => by
    obtain ⟨ds, _, g2, g3⟩ := hat q hq
    have g := fitR4_c A9 n9 k9 a (NN q) U (hl.ext hx).2 hl.1 hts (by rw [← hNq, g2]; omega) (by rw [← hNq, g2]; omega)
    rw [hXq] at g
    refine g.mono ?_
    rintro e w' ⟨v, g1, g2, g3⟩
    obtain ⟨A, n, c, hv, hr⟩ := rdO_own g3
    exact ⟨g2, A, n, c, by rw [g1, hv], hr⟩
  obtain ⟨PP, hPP⟩ : ∃ f : Nat → List Sp, (fun q => overHL FL (XX q) (q : Int)) = f := ⟨_, rfl⟩
  have hPq : ∀ q, overHL FL (XX q) ((q : Nat) : Int) = PP q := fun q => by rw [← hPP]
  have hov : ∀ q, q ≤ FN → Good (XX q) ∧ SmT (XX q) FL ∧ overH S FL (XX q) (q : Int) = 0 ∧ (PP q).length ≤ 300 := fun q hq => by
    obtain ⟨ds, g1, g2, g3⟩ := hat q hq
    have g := over17 hS a (j := q) (by omega) (ds := ds) (by rw [hTX]; exact g1)
    rw [← g2, hNq, hXq, hPq] at g; exact g
  have HPL : Hid (∀ q, q ≤ FN → (PP q).length ≤ 300) := Lib.hid fun q hq => (hov q hq).2.2.2
  have HOV : Hid (∀ q, q ≤ FN → ∀ V U x A n c, Ext w V → HW V U x S FL → RdO U A n c (XX q) → Calls Tryd.prog 22 #[.pointer (some ⟨x, 0, none⟩), .slice A n c, .int .i64 (q : Int)] U fun e w' => Ext U w' ∧ ∃ A n c, e = .returned (.tuple #[.slice A n c, .int .i64 0]) ∧ RdO w' A n c (PP q)) := Lib.hid fun q hq V U x A n c hx hw hr => by
    have hTb := tab_ext hx
    obtain ⟨_, g2, g3, _⟩ := hov q hq
    have g := hw_over x S FL A n c (XX q) (q : Int) V U hw hSm hr g2
    unfold OpR at g
    rw [g3, if_pos rfl, hPq] at g; exact g
  have HNO : Hid (∀ U A n c, RdO U A n c (XX FL.length) → Calls Tryd.prog 24 #[.slice A n c] U fun e w' => Ext U w' ∧ ∃ A n c, e = .returned (.slice A n c) ∧ RdO w' A n c (PP FL.length)) := Lib.hid fun U A n c hr => by
    obtain ⟨gX, _⟩ := hov FL.length (by omega)
    have g := of5_c A n c (XX FL.length) U hr.2 hr.1 (by have := gX.len; have := hr.1; omega) gX.okn
    rw [← over17_end (FL := FL) gX, hPq] at g
    refine g.mono ?_
    rintro e w' ⟨v, g1, g2, g3⟩
    obtain ⟨A, n, c, hv, hr⟩ := rdO_own g3
    exact ⟨g2, A, n, c, by rw [g1, hv], hr⟩
  obtain ⟨YY, hYY⟩ : ∃ f : Nat → List Sp, (fun q => overL (XX q) (FL.getD q [])) = f := ⟨_, rfl⟩
  have hYq : ∀ q (hq : q < FL.length), overL (XX q) FL[q] = YY q := fun q hq => by rw [← hYY]; simp only [List.getD_eq_getElem?_getD, List.getElem?_eq_getElem hq, Option.getD_some]
  have hst : ∀ q (hq : q < FL.length), overE (XX q) FL[q] = 0 ∧ Good FL[q] ∧ Good (YY q) ∧ SmT (YY q) FL ∧ overH S FL (YY q) ((q : Int) + 1) = 0 ∧ overHL FL (YY q) ((q : Int) + 1) = PP q := fun q hq => by
    obtain ⟨ds, g1, g2, g3⟩ := hat q (by omega)
    have g := over17_step hS a hq (ds := ds) (by rw [hTX]; exact g1)
    rw [← g2, hNq, hXq, hPq, hYq q hq] at g; exact g
  have HOF : Hid (∀ q (hq : q < FL.length) U A n c B m d, Ext w U → RdO U A n c (XX q) → RdO U B m d FL[q] → Calls Tryd.prog 25 #[.slice A n c, .slice B m d] U fun e w' => Ext U w' ∧ ∃ A n c, e = .returned (.tuple #[.slice A n c, .int .i64 0]) ∧ RdO w' A n c (YY q)) := Lib.hid fun q hq U A n c B m d hx hr hr2 => by
    have hTb := tab_ext hx
    obtain ⟨g1, g2, g3, _⟩ := hst q hq
    obtain ⟨gX, _⟩ := hov q (by omega)
    have g := overP_c A n c (XX q) B m d FL[q] U hr hr2 (by have := gX.len; have := hr.1; omega) (by have := g2.len; have := hr2.1; omega) gX.size g2.size (by have := gX.txt; have := g2.txt; omega)
    unfold OpR at g
    rw [g1, if_pos rfl, hYq q hq] at g; exact g
  have HOV2 : Hid (∀ q (_ : q < FL.length) V U x A n c, Ext w V → HW V U x S FL → RdO U A n c (YY q) → Calls Tryd.prog 22 #[.pointer (some ⟨x, 0, none⟩), .slice A n c, .int .i64 ((q : Int) + 1)] U fun e w' => Ext U w' ∧ ∃ A n c, e = .returned (.tuple #[.slice A n c, .int .i64 0]) ∧ RdO w' A n c (PP q)) := Lib.hid fun q hq V U x A n c hx hw hr => by
    have hTb := tab_ext hx
    obtain ⟨_, _, _, g4, g5, g6⟩ := hst q hq
    have g := hw_over x S FL A n c (YY q) ((q : Int) + 1) V U hw hSm hr g4
    unfold OpR at g
    rw [g5, if_pos rfl, g6] at g; exact g
  clear hTX hat hNN hNq hXX hXq hPP hPq hov hYY hYq hst
  clear h hls hs hfit hF hFN hS hSm hnm hnn hTT hTn hl hts
  go_enter Tryd.func5, Tryd.ntmps5
  go_wp2_with fail
  refine (HSH.out _ (Ext.refl _)).mono ?_; rintro e w1 ⟨rfl, hx1⟩
  have e1 : Ext w w1 := hx1
  clear hx1
  go_wp2_with fail
  refine (HFI.out _ e1).mono ?_; rintro e w2 ⟨hx2, A2, n2, k2, B2, d2, rfl, r2, q2⟩
  have e2 : Ext w w2 := e1.trans hx2
  clear hx2
  obtain ⟨x2, hx2⟩ : ∃ x, w2.heap.size = x := ⟨_, rfl⟩
  obtain ⟨W2, hW2⟩ : ∃ V, w2.alloc (.cells #[.string S, .slice A2 n2 k2, .slice B2 FN d2] 26) = V := ⟨_, rfl⟩
  have hX2 : Ext w2 W2 := by rw [← hW2]; exact (Ext.refl w2).alloc _
  have HB := Lib.hid (show LogB W2 x2 A2 n2 k2 B2 FN d2 S FR FL by rw [← hW2, ← hx2]; exact LogB.new r2 q2)
  have E2 := Lib.hid (e2.trans hX2 : Ext w W2)
  have HW2 := Lib.hid hW2; have HX2 := Lib.hid hx2
  clear hW2 hx2 hX2
  clear r2 q2
  obtain ⟨c0, c1, c2⟩ := HB.out.cells
  go_wp2_with fail
  rw [HW2.out, HX2.out]
  clear c0 c1 c2
  refine (HNW.out _ E2.out).mono ?_; rintro e w3 ⟨x, rfl, h3⟩
  have H3 : Hid (HW W2 w3 x S (FL.take 0)) := Lib.hid (by rw [List.take_zero]; exact h3)
  obtain ⟨c0, c1, c2⟩ := (HB.out.ext h3.e).cells
  clear h3
  go_wp2_with fail
  clear c0 c1 c2
  go_loopw [11] (fun iv wr => ∃ j : Nat, j ≤ FN ∧ iv = .int .i64 j ∧ Hid (HW W2 wr x S (FL.take j))) (fun iv _ => FN - (intOf iv).toNat)
  case atStart => exact ⟨0, by omega, rfl, H3⟩
  case round =>
    clear H3
    obtain ⟨j, hj, rfl, HJ⟩ := hrel
    obtain ⟨c0, c1, c2⟩ := (HB.out.ext HJ.out.e).cells
    by_cases hlt : j < FN
    · have hjl : j < FL.length := by have := HFN.out; omega
      obtain ⟨bb, off, a, kc, rfl, hbb, q00, hr00⟩ := HB.out.seg.at_ hlt hjl
      have d1 : decide (j < FN) = true := by rw [decide_eq_true_eq]; exact hlt
      have i0 : (0 : Int) ≤ (j : Int) := by omega
      have i1 : (j : Int) < (FN : Int) := by omega
      have HA := fun V (hx : Ext wr V) => HAP.out W2 V x j hjl a _ kc E2.out (HJ.out.next hx) ((hr00.ext HJ.out.e).ext hx) rfl
      obtain ⟨k, hk⟩ : ∃ k, FL[j].length = k := ⟨_, rfl⟩
      rw [hk] at q00 HA
      have HA2 := Lib.hid HA
      have q0 := ext_cell HJ.out.e q00
      have HQ := Lib.hid q00
      clear HA hk hr00 q00
      go_wp2_with fail
      refine region_T (fun V => V.cell? ⟨x2, 2, none⟩ = some (.slice (some ⟨bb, off, none⟩) FN d2) ∧ V.cell? ⟨bb, off + j, none⟩ = some (.slice a k kc)) 9 (by kernel_rfl) (⟨ext_cell (Ext.refl _).drew c2, ext_cell (Ext.refl _).drew q0⟩) (fun hHeld => ?_)
      obtain ⟨Wd, hWd⟩ : ∃ x, wr.drew = x := ⟨_, rfl⟩
      rw [hWd] at hHeld ⊢
      have hdx : Ext wr Wd := by rw [← hWd]; exact (Ext.refl _).drew
      clear hWd
      refine wpAnyT_take (i := 0) (v := ?_) rfl (by kernel_rfl) (fun _ _ _ h => h) (Or.inl ⟨by rfl, ?_⟩) (by assumption) ?_
      rotate_left
      · (intro W hSw; (try dsimp only at hSw); go_simp; (try with_reducible rfl))
      try simp only [Act.put, List.getElem_toArray, List.getElem_cons_succ, List.getElem_cons_zero, List.setIfInBounds_toArray, List.set_cons_zero, List.set_cons_succ]
      refine wpAnyT_take (i := 1) (v := ?_) rfl (by kernel_rfl) (fun _ _ _ h => h) (Or.inl ⟨by rfl, ?_⟩) (by assumption) ?_
      rotate_left
      · (intro W hSw; (try dsimp only at hSw); go_simp; (try with_reducible rfl))
      try simp only [Act.put, List.getElem_toArray, List.getElem_cons_succ, List.getElem_cons_zero, List.setIfInBounds_toArray, List.set_cons_zero, List.set_cons_succ]
      refine wpAnyT_take (i := 2) (v := ?_) rfl (by kernel_rfl) (fun _ _ _ h => h) (Or.inl ⟨by rfl, ?_⟩) (by assumption) ?_
      rotate_left
      · (intro W hSw; (try dsimp only at hSw); go_simp; (try with_reducible rfl))
      try simp only [Act.put, List.getElem_toArray, List.getElem_cons_succ, List.getElem_cons_zero, List.setIfInBounds_toArray, List.set_cons_zero, List.set_cons_succ]
      refine wpAnyT_take (i := 3) (v := ?_) rfl (by kernel_rfl) (fun _ _ _ h => h) (Or.inl ⟨by rfl, ?_⟩) (by assumption) ?_
      rotate_left
      · (intro W hSw; (try dsimp only at hSw); go_simp; (try with_reducible rfl))
      try simp only [Act.put, List.getElem_toArray, List.getElem_cons_succ, List.getElem_cons_zero, List.setIfInBounds_toArray, List.set_cons_zero, List.set_cons_succ]
      refine wpAnyT_take (i := 4) (v := ?_) rfl (by kernel_rfl) (fun _ _ _ h => h) (Or.inl ⟨by rfl, ?_⟩) (by assumption) ?_
      rotate_left
      · (intro W hSw; (try dsimp only at hSw); go_simp; (try with_reducible rfl))
      try simp only [Act.put, List.getElem_toArray, List.getElem_cons_succ, List.getElem_cons_zero, List.setIfInBounds_toArray, List.set_cons_zero, List.set_cons_succ]
      refine wpAnyT_take (i := 5) (v := ?_) rfl (by kernel_rfl) (fun _ _ _ h => h) (Or.inl ⟨by rfl, ?_⟩) (by assumption) ?_
      rotate_left
      · (intro W hSw; (try dsimp only at hSw); go_simp; (try with_reducible rfl))
      try simp only [Act.put, List.getElem_toArray, List.getElem_cons_succ, List.getElem_cons_zero, List.setIfInBounds_toArray, List.set_cons_zero, List.set_cons_succ]
      refine wpAnyT_take (i := 6) (v := ?_) rfl (by kernel_rfl) (fun _ _ _ h => h) (Or.inl ⟨by rfl, ?_⟩) (by assumption) ?_
      rotate_left
      · (intro W hSw; (try dsimp only at hSw); go_simp; (try with_reducible rfl))
      try simp only [Act.put, List.getElem_toArray, List.getElem_cons_succ, List.getElem_cons_zero, List.setIfInBounds_toArray, List.set_cons_zero, List.set_cons_succ]
      refine wpAnyT_take (i := 7) (v := ?_) rfl (by kernel_rfl) (fun _ _ _ h => h) (Or.inl ⟨by rfl, ?_⟩) (by assumption) ?_
      rotate_left
      · (intro W hSw; (try dsimp only at hSw); go_simp; (try with_reducible rfl))
      try simp only [Act.put, List.getElem_toArray, List.getElem_cons_succ, List.getElem_cons_zero, List.setIfInBounds_toArray, List.set_cons_zero, List.set_cons_succ]
      refine wpAnyT_one (i := 8) rfl (by kernel_rfl) (fun K hK => ?_)
      go_simp
      refine (HA2.out _ hdx).mono ?_; rintro e w5 ⟨rfl, h5⟩
      obtain ⟨e0, e1, e2⟩ := (HB.out.ext h5.e).cells
      refine hK.out _ _ (fun _ => ⟨e2, ext_cell h5.e HQ.out⟩) (fun hH => ?_)
      replace hHeld := hH (by decide)
      clear hK K hH
      try simp only [Act.put, List.getElem_toArray, List.getElem_cons_succ, List.getElem_cons_zero, List.setIfInBounds_toArray, List.set_cons_zero, List.set_cons_succ]
      refine wpAnyT_one (i := 9) rfl (by kernel_rfl) (fun K hK => ?_)
      go_simp
      refine hK.out _ _ (fun h => absurd rfl h) (fun _ => ?_)
      clear hK K hHeld
      try simp only [Act.put, List.getElem_toArray, List.getElem_cons_succ, List.getElem_cons_zero, List.setIfInBounds_toArray, List.set_cons_zero, List.set_cons_succ]
      refine wpAnyT_done (by kernel_rfl) ?_ _
      have H5 := Lib.hid h5
      clear h5 e0 e1 e2
      go_wp2_with fail
      go_roundw
      case rel => exact ⟨j + 1, by omega, by go_num, H5⟩
      case measure => simp [intOf]; omega
    · obtain rfl : j = FN := by omega
      have d1 : decide (j < j) = false := by rw [decide_eq_false_iff_not]; omega
      have H6 : Hid (HW W2 wr x S FL) := Lib.hid (by have g := HJ.out; rw [← HFN.out, List.take_length] at g; exact g)
      have HBr := Lib.hid HB.out
      clear HJ
      go_wp2_with fail
      clear c0 c1 c2
      have HX0 := Lib.hid HBr.out
      go_loopw [12] (fun zv wz => ∃ q : Nat, q ≤ j ∧ zv = .int .i64 q ∧ Hid (HW W2 wz x S FL)) (fun zv _ => j + 1 - (intOf zv).toNat)
      case atStart => exact ⟨0, by omega, rfl, H6⟩
      case round =>
        clear H6 HX0 HAP HNW HSH HFI
        obtain ⟨q, hq, rfl, HZ⟩ := hrel
        have dq : decide ((q : Int) ≤ (j : Int)) = true := by rw [decide_eq_true_eq]; omega
        have dq2 : (q : Int) ≤ (j : Int) := by omega
        have HAj := Lib.hid (HAT.out q (by omega))
        have HCj := Lib.hid (HCT.out q (by omega))
        have HFj := Lib.hid (HFT.out q (by omega))
        have HOj := Lib.hid (HOV.out q (by omega))
        have hP : (PP q).length ≤ 300 := HPL.out q (by omega)
        by_cases hqe : q < j
        · have hql : q < FL.length := by have := HFN.out; omega
          have dn : ((q : Int) == (j : Int)) = false := by rw [beq_eq_false_iff_ne]; omega
          have i0 : (0 : Int) ≤ (q : Int) := by omega
          have i1 : (q : Int) < (j : Int) := by omega
          have HG := Lib.hid (HOF.out q hql)
          have HO2 := Lib.hid (HOV2.out q hql)
          generalize PP q = P at *
          generalize XX q = X at *
          generalize YY q = Y at *
          generalize TX q = TQ at *
          generalize NN q = NQ at *
          go_wp2_with fail
          refine (HLN.out _ _ _ E2.out HZ.out).mono ?_; rintro e u1 ⟨rfl, hx1⟩
          have H1 := Lib.hid (HZ.out.next hx1); clear hx1 HZ
          go_wp2_with fail
          refine (HAj.out _ _ _ E2.out H1.out).mono ?_; rintro e u2 ⟨rfl, hx2⟩
          have H2 := Lib.hid (H1.out.next hx2); clear hx2 H1
          go_wp2_with fail
          refine (HCj.out _).mono ?_; rintro e u3 ⟨rfl, hx3⟩
          have H3 := Lib.hid (H2.out.next hx3); clear hx3 H2
          go_wp2_with fail
          refine (HFj.out _ (E2.out.trans H3.out.e)).mono ?_; rintro e u4 ⟨hx4, a4, n4, k4, rfl, r4⟩
          have H4 := Lib.hid (H3.out.next hx4); have R4 := Lib.hid r4; clear hx4 r4 H3
          go_wp2_with fail
          refine (HOj.out _ _ _ _ _ _ E2.out H4.out R4.out).mono ?_; rintro e u5 ⟨hx5, a5, n5, k5, rfl, r5⟩
          have H5 := Lib.hid (H4.out.next hx5); have R5 := Lib.hid r5; replace R4 := Lib.hid (R4.out.ext hx5); clear hx5 r5 H4
          go_wp2_with fail
          refine (HLN.out _ _ _ E2.out H5.out).mono ?_; rintro e u6 ⟨rfl, hx6⟩
          have H6 := Lib.hid (H5.out.next hx6); replace R4 := Lib.hid (R4.out.ext hx6); replace R5 := Lib.hid (R5.out.ext hx6); clear hx6 H5
          obtain ⟨c0, c1, c2⟩ := (HB.out.ext H6.out.e).cells
          obtain ⟨bb, off, a, kc, rfl, hbb, q0, hr⟩ := (HB.out.ext H6.out.e).seg.at_ hqe hql
          have HR := Lib.hid (show RdO u6 a FL[q].length kc FL[q] from ⟨rfl, hr⟩)
          clear hr
          obtain ⟨k, hk⟩ : ∃ k, FL[q].length = k := ⟨_, rfl⟩
          rw [hk] at q0 HR
          clear hk
          generalize FL[q] = FQ at *
          go_wp2_with fail
          refine (HG.out _ _ _ _ _ _ _ (E2.out.trans H6.out.e) R4.out HR.out).mono ?_; rintro e u7 ⟨hx7, a7, n7, k7, rfl, r7⟩
          have H7 := Lib.hid (H6.out.next hx7); have R7 := Lib.hid r7; replace R5 := Lib.hid (R5.out.ext hx7); clear hx7 r7 H6 R4 HR q0 c0 c1 c2
          go_wp2_with fail
          refine (HO2.out _ _ _ _ _ _ E2.out H7.out R7.out).mono ?_; rintro e u8 ⟨hx8, a8, n8, k8, rfl, r8⟩
          have H8 := Lib.hid (H7.out.next hx8); have R8 := Lib.hid r8; replace R5 := Lib.hid (R5.out.ext hx8); clear hx8 r8 H7 R7
          have hn5 := R5.out.1; have hn8 := R8.out.1
          rw [hn5] at hn8
          subst hn8
          have HSM := Lib.hid (fun w' (hx : Ext u8 w') => sameR4_c a5 a8 n5 k5 k8 P w' (R5.out.2.ext hx) (R8.out.2.ext hx) hn5 (by omega))
          clear hn5
          go_wp2_with fail
          refine (HSM.out _ (Ext.refl _)).mono ?_; rintro e u9 ⟨rfl, hx9⟩
          have H9 := Lib.hid (H8.out.next hx9); clear hx9 H8
          go_wp2_with fail
          go_roundw
          case rel => exact ⟨q + 1, by omega, by go_num, H9⟩
          case measure => simp [intOf]; omega
        · obtain rfl : q = j := by omega
          have dn : ((q : Int) == (q : Int)) = true := by rw [beq_iff_eq]
          have HG := Lib.hid HNO.out
          have hFq := HFN.out
          rw [hFq] at HG
          generalize PP q = P at *
          generalize XX q = X at *
          generalize TX q = TQ at *
          generalize NN q = NQ at *
          clear hFq
          go_wp2_with fail
          refine (HLN.out _ _ _ E2.out HZ.out).mono ?_; rintro e u1 ⟨rfl, hx1⟩
          have H1 := Lib.hid (HZ.out.next hx1); clear hx1 HZ
          go_wp2_with fail
          refine (HAj.out _ _ _ E2.out H1.out).mono ?_; rintro e u2 ⟨rfl, hx2⟩
          have H2 := Lib.hid (H1.out.next hx2); clear hx2 H1
          go_wp2_with fail
          refine (HCj.out _).mono ?_; rintro e u3 ⟨rfl, hx3⟩
          have H3 := Lib.hid (H2.out.next hx3); clear hx3 H2
          go_wp2_with fail
          refine (HFj.out _ (E2.out.trans H3.out.e)).mono ?_; rintro e u4 ⟨hx4, a4, n4, k4, rfl, r4⟩
          have H4 := Lib.hid (H3.out.next hx4); have R4 := Lib.hid r4; clear hx4 r4 H3
          go_wp2_with fail
          refine (HOj.out _ _ _ _ _ _ E2.out H4.out R4.out).mono ?_; rintro e u5 ⟨hx5, a5, n5, k5, rfl, r5⟩
          have H5 := Lib.hid (H4.out.next hx5); have R5 := Lib.hid r5; replace R4 := Lib.hid (R4.out.ext hx5); clear hx5 r5 H4
          go_wp2_with fail
          refine (HLN.out _ _ _ E2.out H5.out).mono ?_; rintro e u6 ⟨rfl, hx6⟩
          have H6 := Lib.hid (H5.out.next hx6); replace R4 := Lib.hid (R4.out.ext hx6); replace R5 := Lib.hid (R5.out.ext hx6); clear hx6 H5
          go_wp2_with fail
          refine (HG.out _ _ _ _ R4.out).mono ?_; rintro e u7 ⟨hx7, a7, n7, k7, rfl, r7⟩
          have H7 := Lib.hid (H6.out.next hx7); have R7 := Lib.hid r7; replace R5 := Lib.hid (R5.out.ext hx7); clear hx7 r7 H6 R4
          have hn5 := R5.out.1; have hn7 := R7.out.1
          rw [hn5] at hn7
          subst hn7
          have HSM := Lib.hid (fun w' (hx : Ext u7 w') => sameR4_c a5 a7 n5 k5 k7 P w' (R5.out.2.ext hx) (R7.out.2.ext hx) hn5 (by omega))
          clear hn5
          go_wp2_with fail
          refine (HSM.out _ (Ext.refl _)).mono ?_; rintro e u9 ⟨rfl, hx9⟩
          go_wp2_with fail
          go_ret
          exact ⟨rfl, (E2.out.trans H7.out.e).trans hx9⟩
end Go.Proofs.YtgcaphjjigpjlaaDoor
namespace Go.Proofs.YtgcaphjjigpjlaaDoor
open Go.RowKit
set_option maxRecDepth 100000
set_option maxHeartbeats 4000000
set_option linter.unusedSimpArgs false
theorem and1023 (z : Int) : ∃ X : Int, bits .and .i64 z 1023 = X ∧ 0 ≤ X ∧ X ≤ 1023 := by
  refine ⟨(((BitVec.ofInt 64 z).toNat &&& 1023 : Nat) : Int), ?_, by omega, ?_⟩
  · have hx : (BitVec.ofInt 64 z).toNat &&& 1023 < 2 ^ 10 := Nat.and_lt_two_pow _ (by decide)
    show IntKind.i64.wrap ((BitVec.ofInt 64 z &&& BitVec.ofInt 64 ((1023 : Nat) : Int)).toNat : Int) = _
    have e : (BitVec.ofInt 64 ((1023 : Nat) : Int)).toNat = 1023 := by decide
    rw [BitVec.toNat_and, e, IntKind.wrap_i64]
    omega
  · have : (BitVec.ofInt 64 z).toNat &&& 1023 ≤ 1023 := Nat.and_le_right
    omega
theorem f17_may (N : Int) (h0 : 0 ≤ N) (h1 : N ≤ 20) : (mayL [(1, N, ⟨#[]⟩)] = 0 ∧ inL [(1, N, ⟨#[]⟩)] = N ∧ outL [(1, N, ⟨#[]⟩)] ≤ 1048576) ∧ (mayL [(1, N, ⟨#[]⟩), (3, 1, ⟨#[]⟩)] = 0 ∧ inL [(1, N, ⟨#[]⟩), (3, 1, ⟨#[]⟩)] = N + 1) ∧ mayL [(1, N, ⟨#[]⟩), (0, 0, ⟨#[]⟩)] = 1 ∧ mayL [(1, N, ⟨#[]⟩), (3, 1, ⟨#[]⟩), (0, 0, ⟨#[]⟩)] = 1 := by
  obtain ⟨a, rfl⟩ := Int.eq_ofNat_of_zero_le h0
  have h : ∀ a : Fin 21, (mayL [(1, ((a.val : Nat) : Int), ⟨#[]⟩)] = 0 ∧ inL [(1, ((a.val : Nat) : Int), ⟨#[]⟩)] = ((a.val : Nat) : Int) ∧ outL [(1, ((a.val : Nat) : Int), ⟨#[]⟩)] ≤ 1048576) ∧ (mayL [(1, ((a.val : Nat) : Int), ⟨#[]⟩), (3, 1, ⟨#[]⟩)] = 0 ∧ inL [(1, ((a.val : Nat) : Int), ⟨#[]⟩), (3, 1, ⟨#[]⟩)] = ((a.val : Nat) : Int) + 1) ∧ mayL [(1, ((a.val : Nat) : Int), ⟨#[]⟩), (0, 0, ⟨#[]⟩)] = 1 ∧ mayL [(1, ((a.val : Nat) : Int), ⟨#[]⟩), (3, 1, ⟨#[]⟩), (0, 0, ⟨#[]⟩)] = 1 := by decide +kernel
  exact h ⟨a, by omega⟩
theorem f17_out {S : ByteArray} {l : List Sp} {r : Int} (hr : r ≠ 0) : overH S [] l r = 6 := by
  unfold overH; rw [if_pos (by simp; omega)]
theorem f17_in {S : ByteArray} {cs : List Nat} {l : List Sp} {E : Int} (hd : dec (bs S) = some cs) (hm : (mayL l ≠ 0 ∧ mayL l = E) ∨ (mayL l = 0 ∧ inL l ≠ (cs.length : Int) ∧ E = 5) ∨ (mayL l = 0 ∧ inL l = (cs.length : Int) ∧ cs.length ≤ 20 ∧ outL l ≤ 1048576 ∧ E = 0)) : overH S [] l 0 = E := by
  unfold overH
  rw [if_neg (by simp), show txt17 S [] (0 : Int).toNat = S from rfl, cntF_some hd]
  rcases hm with ⟨h1, h2⟩ | ⟨h1, h2, h3⟩ | ⟨h1, h2, h3, h4, h5⟩
  · rw [if_pos h1, h2]
  · rw [if_neg (by omega), if_pos h2, h3]
  · rw [if_neg (by omega), if_neg (by omega), h5]
    unfold thruE chainE
    rw [if_pos h1, if_pos (by omega)]
    rfl
theorem f17_app {S : ByteArray} {cs : List Nat} {l : List Sp} {E : Int} (hd : dec (bs S) = some cs) (hm : (mayL l ≠ 0 ∧ mayL l = E) ∨ (mayL l = 0 ∧ inL l ≠ (cs.length : Int) ∧ E = 5) ∨ (mayL l = 0 ∧ inL l = (cs.length : Int) ∧ cs.length ≤ 20 ∧ outL l ≤ 1048576 ∧ E = 0)) : appE S [] l = E := by
  unfold appE
  rw [show txt17 S [] ([] : List (List Sp)).length = S from rfl, cntF_some hd]
  rcases hm with ⟨h1, h2⟩ | ⟨h1, h2, h3⟩ | ⟨h1, h2, h3, h4, h5⟩
  · rw [if_pos h1, h2]
  · rw [if_neg (by omega), if_pos h2, h3]
  · rw [if_neg (by omega), if_neg (by omega), if_neg (by omega), h5]
theorem f17_run {S : ByteArray} {cs : List Nat} (hd : dec (bs S) = some cs) (hc : cs.length ≤ 20) : runH S [] 0 0 = 0 := by
  unfold runH
  rw [if_neg (by simp), show txt17 S [] (0 : Int).toNat = S from rfl, cntF_some hd]
  unfold chainE
  rw [if_pos (by omega)]
  rfl
theorem historyFirst_c (s : ByteArray) (b r : Int) (w : World) [Tab w] (hs : s.size ≤ maxLen) (_hb : (Lit.int .u8 b).wf = true) (_hr : (Lit.int .i64 r).wf = true) :
    Calls Tryd.prog 6 #[.string s, .int .u8 b, .int .i64 r] w fun e w' => e = .returned (.bool true) ∧ Ext w w' := by
  obtain ⟨i, hi, hz0, hz1, hz2⟩ := info_parts info_sp5
  have HSH := Lib.hid (fun w' (hx : Ext w w') => have hTb := tab_ext hx; shown17_c w')
  obtain ⟨TT, cs, hm1, hm2, hTl, hT0, hsz, HFIT, HCP, hcl, hUs, HD⟩ := cut_fit s 20 20 rfl (by omega) hs
  generalize mkS (encs cs) = S at *
  have hd := HD.out
  have HC : Hid (∀ w', Calls Tryd.prog 21 #[.string S] w' fun e w'' => e = .returned (.int .i64 (cs.length : Int)) ∧ Ext w' w'') := Lib.hid fun w' => by
    have h := count_c S w' (by omega)
    rw [cntF_some hd] at h; exact h
  have hn0 : newH S = 0 := by unfold newH; rw [if_neg (by rw [hd]; simp), cntF_some hd, if_neg (by omega)]
  have HN := Lib.hid (fun W (hx : Ext w W) => hw_new S w W hx (by omega) hn0)
  have hsm : SmH S [] := ⟨by omega, by simp, by simp, by simp [sumTT]⟩
  obtain ⟨N, hN⟩ : ∃ N : Int, (cs.length : Int) = N := ⟨_, rfl⟩
  obtain ⟨m1, m2, m3, m4⟩ := f17_may N (by omega) (by omega)
  obtain ⟨R, hR, hR0, hR1⟩ := and1023 r
  rw [hN] at HC
  clear HD HCP hn0
  by_cases b1 : bits .and .u8 b 1 = 0 <;> by_cases b2 : bits .and .u8 b 2 = 0 <;> by_cases b4 : bits .and .u8 b 4 = 0
  · have t1 : (bits .and .u8 b 1 != 0) = false := by rw [b1]; rfl
    have t2 : (bits .and .u8 b 2 != 0) = false := by rw [b2]; rfl
    have t4 : (bits .and .u8 b 4 != 0) = false := by rw [b4]; rfl
    have hm : (mayL [(1, N, ⟨#[]⟩)] ≠ 0 ∧ mayL [(1, N, ⟨#[]⟩)] = 0) ∨ (mayL [(1, N, ⟨#[]⟩)] = 0 ∧ inL [(1, N, ⟨#[]⟩)] ≠ (cs.length : Int) ∧ (0 : Int) = 5) ∨ (mayL [(1, N, ⟨#[]⟩)] = 0 ∧ inL [(1, N, ⟨#[]⟩)] = (cs.length : Int) ∧ cs.length ≤ 20 ∧ outL [(1, N, ⟨#[]⟩)] ≤ 1048576 ∧ (0 : Int) = 0) := .inr (.inr ⟨m1.1, by omega, hcl, m1.2.2, rfl⟩)
    clear m1 m2 m3 m4 b1 b2 b4
    have HO : Hid (∀ W x A n c, HW w W x S [] → RdO W A n c [(1, N, ⟨#[]⟩)] → Calls Tryd.prog 22 #[.pointer (some ⟨x, 0, none⟩), .slice A n c, .int .i64 0] W fun e w' => Ext W w' ∧ ∃ A n c, e = .returned (.tuple #[.slice A n c, .int .i64 0])) := Lib.hid fun W x A n c h hr => by
      have g := hw_over x S [] A n c [(1, N, ⟨#[]⟩)] 0 w W h hsm hr ⟨by simp [lenS], by simp [sumT]; decide, ⟨by simp [lenS], by simp [sumTT], by simp⟩⟩
      rw [show overH S [] [(1, N, ⟨#[]⟩)] 0 = 0 from f17_in hd hm ] at g
      exact g.mono fun e w' ⟨g1, A, n, c, g2, _⟩ => ⟨g1, A, n, c, g2⟩
    have HAT : Hid (∀ W x, HW w W x S [] → Calls Tryd.prog 12 #[.pointer (some ⟨x, 0, none⟩), .int .i64 0] W fun e w' => Ext W w' ∧ ∃ t, e = .returned (.tuple #[.string t, .int .i64 0])) := Lib.hid fun W x h => by
      have g := hw_at x S [] 0 w W h hsm ⟨by simp [lenS], by simp [sumTT], by simp⟩
      rw [show atH S [] 0 = .tuple #[.string (txt17 S [] 0), .int .i64 0] from if_neg (by simp)] at g
      exact g.mono fun e w' ⟨g1, g2⟩ => ⟨g2, _, g1⟩
    have HRN : Hid (∀ W x, HW w W x S [] → Calls Tryd.prog 13 #[.pointer (some ⟨x, 0, none⟩), .int .i64 0, .int .i64 0] W fun e w' => Ext W w' ∧ ∃ A n c, e = .returned (.tuple #[.slice A n c, .int .i64 0])) := Lib.hid fun W x h => by
      have g := hw_run x S [] 0 0 w W h hsm ⟨by simp [lenS], by simp [sumTT], by simp⟩
      rw [show runH S [] 0 0 = 0 from f17_run hd (by omega)] at g
      exact g.mono fun e w' ⟨g1, A, n, c, g2, _⟩ => ⟨g1, A, n, c, g2⟩
    have HAP : Hid (∀ W x A n c, HW w W x S [] → RdO W A n c [(1, N, ⟨#[]⟩)] → Calls Tryd.prog 10 #[.pointer (some ⟨x, 0, none⟩), .slice A n c] W fun e w' => e = .returned (.int .i64 0) ∧ HW w w' x S [normL [(1, N, ⟨#[]⟩)]]) := Lib.hid fun W x A n c h hr => by
      have g := hw_app x S [] A n c [(1, N, ⟨#[]⟩)] w W h hsm hr (by have := hr.1; simp at this; omega) (by simp [sumT]; decide)
      have e1 : appE S [] [(1, N, ⟨#[]⟩)] = 0 := f17_app hd hm
      rw [e1, show appLs S [] [(1, N, ⟨#[]⟩)] = [normL [(1, N, ⟨#[]⟩)]] from if_pos e1] at g
      exact g
    have HLN : Hid (∀ W x, HW w W x S [normL [(1, N, ⟨#[]⟩)]] → Calls Tryd.prog 11 #[.pointer (some ⟨x, 0, none⟩)] W fun e w' => e = .returned (.int .i64 1) ∧ Ext W w') := Lib.hid fun W x h => by
      have hb : (normL [(1, N, ⟨#[]⟩)]).length ≤ 1 := norm_len [(1, N, ⟨#[]⟩)]
      exact hw_len x S [normL [(1, N, ⟨#[]⟩)]] w W h ⟨by omega, by simp, by simp; omega, by have e := sumT_norm [(1, N, ⟨#[]⟩)]; simp only [sumTT, List.map_cons, List.map_nil, List.sum_cons, List.sum_nil]; rw [e, show sumT [(1, N, ⟨#[]⟩)] = 0 from rfl]; omega⟩
    clear hd hm hsm
    go_enter Tryd.func6, Tryd.ntmps6
    go_wp2_with fail
    refine (HSH.out _ (Ext.refl _)).mono ?_; rintro e w1 ⟨rfl, hx1⟩
    go_wp2_with fail
    refine (HFIT.out _).mono ?_; rintro e w2 ⟨rfl, hx2⟩
    have HX2 := Lib.hid (hx1.trans hx2)
    clear hx1 hx2
    go_wp2_with fail
    refine (HN.out _ HX2.out).mono ?_; rintro e w3 ⟨x, rfl, h3⟩
    have H3 := Lib.hid h3; clear h3
    go_wp2_with fail
    refine (HC.out _).mono ?_; rintro e w4 ⟨rfl, hx4⟩
    have H4 := Lib.hid (H3.out.next hx4); clear hx4 H3
    have O1 := Own.made w4 w4.heap.size 50 3 1 #[.int .i64 1, .int .i64 N, .string ⟨#[]⟩] (Nat.le_refl _) (by omega) rfl
    have B1 := (Below.refl w4.heap.size w4).alloc (Nat.le_refl _) (.cells #[.int .i64 1, .int .i64 N, .string ⟨#[]⟩] 50)
    have HR : Hid (RdO (w4.alloc (.cells #[.int .i64 1, .int .i64 N, .string ⟨#[]⟩] 50)) (some ⟨w4.heap.size, 0, none⟩) 1 1 [(1, N, ⟨#[]⟩)]) := Lib.hid ⟨rfl, O1.rd⟩
    have H5 := Lib.hid (H4.out.next B1)
    clear O1 B1
    go_wp2_with fail
    refine (HO.out _ _ _ _ _ H5.out HR.out).mono ?_; rintro e w6 ⟨hx6, A6, n6, c6, rfl⟩
    have H6 := Lib.hid (H5.out.next hx6); replace HR := Lib.hid (HR.out.ext hx6); clear hx6
    go_wp2_with fail
    refine (HAT.out _ _ H6.out).mono ?_; rintro e w7 ⟨hx7, t7, rfl⟩
    have H7 := Lib.hid (H6.out.next hx7); replace HR := Lib.hid (HR.out.ext hx7); clear hx7
    go_wp2_with fail
    refine (HRN.out _ _ H7.out).mono ?_; rintro e w8 ⟨hx8, A8, n8, c8, rfl⟩
    have H8 := Lib.hid (H7.out.next hx8); replace HR := Lib.hid (HR.out.ext hx8); clear hx8
    go_wp2_with fail
    refine (HAP.out _ _ _ _ _ H8.out HR.out).mono ?_; rintro e w9 ⟨rfl, h9⟩
    have H9 := Lib.hid h9; clear h9
    go_wp2_with fail
    refine (HLN.out _ _ H9.out).mono ?_; rintro e w10 ⟨rfl, hx10⟩
    go_wp2_with fail
    go_ret
    exact ⟨rfl, H9.out.e.trans hx10⟩
  · have t1 : (bits .and .u8 b 1 != 0) = false := by rw [b1]; rfl
    have t2 : (bits .and .u8 b 2 != 0) = false := by rw [b2]; rfl
    have t4 : (bits .and .u8 b 4 != 0) = true := by rw [bne_iff_ne]; exact b4
    have hm : (mayL [(1, N, ⟨#[]⟩)] ≠ 0 ∧ mayL [(1, N, ⟨#[]⟩)] = 0) ∨ (mayL [(1, N, ⟨#[]⟩)] = 0 ∧ inL [(1, N, ⟨#[]⟩)] ≠ (cs.length : Int) ∧ (0 : Int) = 5) ∨ (mayL [(1, N, ⟨#[]⟩)] = 0 ∧ inL [(1, N, ⟨#[]⟩)] = (cs.length : Int) ∧ cs.length ≤ 20 ∧ outL [(1, N, ⟨#[]⟩)] ≤ 1048576 ∧ (0 : Int) = 0) := .inr (.inr ⟨m1.1, by omega, hcl, m1.2.2, rfl⟩)
    clear m1 m2 m3 m4 b1 b2 b4
    by_cases hr0 : r < 0
    · have dr : decide (r < 0) = true := by rw [decide_eq_true_eq]; exact hr0
      have HO : Hid (∀ W x A n c, HW w W x S [] → RdO W A n c [(1, N, ⟨#[]⟩)] → Calls Tryd.prog 22 #[.pointer (some ⟨x, 0, none⟩), .slice A n c, .int .i64 (-1 - R)] W fun e w' => Ext W w' ∧ ∃ A n c, e = .returned (.tuple #[.slice A n c, .int .i64 6])) := Lib.hid fun W x A n c h hr => by
        have g := hw_over x S [] A n c [(1, N, ⟨#[]⟩)] (-1 - R) w W h hsm hr ⟨by simp [lenS], by simp [sumT]; decide, ⟨by simp [lenS], by simp [sumTT], by simp⟩⟩
        rw [show overH S [] [(1, N, ⟨#[]⟩)] (-1 - R) = 6 from f17_out (by omega)] at g
        exact g.mono fun e w' ⟨g1, A, n, c, g2, _⟩ => ⟨g1, A, n, c, g2⟩
      have HAT : Hid (∀ W x, HW w W x S [] → Calls Tryd.prog 12 #[.pointer (some ⟨x, 0, none⟩), .int .i64 (-1 - R)] W fun e w' => Ext W w' ∧ ∃ t, e = .returned (.tuple #[.string t, .int .i64 6])) := Lib.hid fun W x h => by
        have g := hw_at x S [] (-1 - R) w W h hsm ⟨by simp [lenS], by simp [sumTT], by simp⟩
        rw [show atH S [] (-1 - R) = .tuple #[.string ⟨#[]⟩, .int .i64 6] from if_pos (by simp; omega)] at g
        exact g.mono fun e w' ⟨g1, g2⟩ => ⟨g2, _, g1⟩
      have HRN : Hid (∀ W x, HW w W x S [] → Calls Tryd.prog 13 #[.pointer (some ⟨x, 0, none⟩), .int .i64 (-1 - R), .int .i64 0] W fun e w' => Ext W w' ∧ ∃ A n c, e = .returned (.tuple #[.slice A n c, .int .i64 6])) := Lib.hid fun W x h => by
        have g := hw_run x S [] (-1 - R) 0 w W h hsm ⟨by simp [lenS], by simp [sumTT], by simp⟩
        rw [show runH S [] (-1 - R) 0 = 6 from if_pos (by simp; omega)] at g
        exact g.mono fun e w' ⟨g1, A, n, c, g2, _⟩ => ⟨g1, A, n, c, g2⟩
      have HAP : Hid (∀ W x A n c, HW w W x S [] → RdO W A n c [(1, N, ⟨#[]⟩)] → Calls Tryd.prog 10 #[.pointer (some ⟨x, 0, none⟩), .slice A n c] W fun e w' => e = .returned (.int .i64 0) ∧ HW w w' x S [normL [(1, N, ⟨#[]⟩)]]) := Lib.hid fun W x A n c h hr => by
        have g := hw_app x S [] A n c [(1, N, ⟨#[]⟩)] w W h hsm hr (by have := hr.1; simp at this; omega) (by simp [sumT]; decide)
        have e1 : appE S [] [(1, N, ⟨#[]⟩)] = 0 := f17_app hd hm
        rw [e1, show appLs S [] [(1, N, ⟨#[]⟩)] = [normL [(1, N, ⟨#[]⟩)]] from if_pos e1] at g
        exact g
      have HLN : Hid (∀ W x, HW w W x S [normL [(1, N, ⟨#[]⟩)]] → Calls Tryd.prog 11 #[.pointer (some ⟨x, 0, none⟩)] W fun e w' => e = .returned (.int .i64 1) ∧ Ext W w') := Lib.hid fun W x h => by
        have hb : (normL [(1, N, ⟨#[]⟩)]).length ≤ 1 := norm_len [(1, N, ⟨#[]⟩)]
        exact hw_len x S [normL [(1, N, ⟨#[]⟩)]] w W h ⟨by omega, by simp, by simp; omega, by have e := sumT_norm [(1, N, ⟨#[]⟩)]; simp only [sumTT, List.map_cons, List.map_nil, List.sum_cons, List.sum_nil]; rw [e, show sumT [(1, N, ⟨#[]⟩)] = 0 from rfl]; omega⟩
      have hr1 : (((-1 - R) : Int) == 0) = false := by rw [beq_eq_false_iff_ne]; omega
      clear hd hm hsm
      go_enter Tryd.func6, Tryd.ntmps6
      go_wp2_with fail
      refine (HSH.out _ (Ext.refl _)).mono ?_; rintro e w1 ⟨rfl, hx1⟩
      go_wp2_with fail
      refine (HFIT.out _).mono ?_; rintro e w2 ⟨rfl, hx2⟩
      have HX2 := Lib.hid (hx1.trans hx2)
      clear hx1 hx2
      go_wp2_with fail
      refine (HN.out _ HX2.out).mono ?_; rintro e w3 ⟨x, rfl, h3⟩
      have H3 := Lib.hid h3; clear h3
      go_wp2_with fail
      refine (HC.out _).mono ?_; rintro e w4 ⟨rfl, hx4⟩
      have H4 := Lib.hid (H3.out.next hx4); clear hx4 H3
      have O1 := Own.made w4 w4.heap.size 50 3 1 #[.int .i64 1, .int .i64 N, .string ⟨#[]⟩] (Nat.le_refl _) (by omega) rfl
      have B1 := (Below.refl w4.heap.size w4).alloc (Nat.le_refl _) (.cells #[.int .i64 1, .int .i64 N, .string ⟨#[]⟩] 50)
      have HR : Hid (RdO (w4.alloc (.cells #[.int .i64 1, .int .i64 N, .string ⟨#[]⟩] 50)) (some ⟨w4.heap.size, 0, none⟩) 1 1 [(1, N, ⟨#[]⟩)]) := Lib.hid ⟨rfl, O1.rd⟩
      have H5 := Lib.hid (H4.out.next B1)
      clear O1 B1
      go_wp2_with fail
      refine (HO.out _ _ _ _ _ H5.out HR.out).mono ?_; rintro e w6 ⟨hx6, A6, n6, c6, rfl⟩
      have H6 := Lib.hid (H5.out.next hx6); replace HR := Lib.hid (HR.out.ext hx6); clear hx6
      go_wp2_with fail
      refine (HAT.out _ _ H6.out).mono ?_; rintro e w7 ⟨hx7, t7, rfl⟩
      have H7 := Lib.hid (H6.out.next hx7); replace HR := Lib.hid (HR.out.ext hx7); clear hx7
      go_wp2_with fail
      refine (HRN.out _ _ H7.out).mono ?_; rintro e w8 ⟨hx8, A8, n8, c8, rfl⟩
      have H8 := Lib.hid (H7.out.next hx8); replace HR := Lib.hid (HR.out.ext hx8); clear hx8
      go_wp2_with fail
      refine (HAP.out _ _ _ _ _ H8.out HR.out).mono ?_; rintro e w9 ⟨rfl, h9⟩
      have H9 := Lib.hid h9; clear h9
      go_wp2_with fail
      refine (HLN.out _ _ H9.out).mono ?_; rintro e w10 ⟨rfl, hx10⟩
      go_wp2_with fail
      go_ret
      exact ⟨rfl, H9.out.e.trans hx10⟩
    · have dr : decide (r < 0) = false := by rw [decide_eq_false_iff_not]; exact hr0
      have HO : Hid (∀ W x A n c, HW w W x S [] → RdO W A n c [(1, N, ⟨#[]⟩)] → Calls Tryd.prog 22 #[.pointer (some ⟨x, 0, none⟩), .slice A n c, .int .i64 (1 + R)] W fun e w' => Ext W w' ∧ ∃ A n c, e = .returned (.tuple #[.slice A n c, .int .i64 6])) := Lib.hid fun W x A n c h hr => by
        have g := hw_over x S [] A n c [(1, N, ⟨#[]⟩)] (1 + R) w W h hsm hr ⟨by simp [lenS], by simp [sumT]; decide, ⟨by simp [lenS], by simp [sumTT], by simp⟩⟩
        rw [show overH S [] [(1, N, ⟨#[]⟩)] (1 + R) = 6 from f17_out (by omega)] at g
        exact g.mono fun e w' ⟨g1, A, n, c, g2, _⟩ => ⟨g1, A, n, c, g2⟩
      have HAT : Hid (∀ W x, HW w W x S [] → Calls Tryd.prog 12 #[.pointer (some ⟨x, 0, none⟩), .int .i64 (1 + R)] W fun e w' => Ext W w' ∧ ∃ t, e = .returned (.tuple #[.string t, .int .i64 6])) := Lib.hid fun W x h => by
        have g := hw_at x S [] (1 + R) w W h hsm ⟨by simp [lenS], by simp [sumTT], by simp⟩
        rw [show atH S [] (1 + R) = .tuple #[.string ⟨#[]⟩, .int .i64 6] from if_pos (by simp; omega)] at g
        exact g.mono fun e w' ⟨g1, g2⟩ => ⟨g2, _, g1⟩
      have HRN : Hid (∀ W x, HW w W x S [] → Calls Tryd.prog 13 #[.pointer (some ⟨x, 0, none⟩), .int .i64 (1 + R), .int .i64 0] W fun e w' => Ext W w' ∧ ∃ A n c, e = .returned (.tuple #[.slice A n c, .int .i64 6])) := Lib.hid fun W x h => by
        have g := hw_run x S [] (1 + R) 0 w W h hsm ⟨by simp [lenS], by simp [sumTT], by simp⟩
        rw [show runH S [] (1 + R) 0 = 6 from if_pos (by simp; omega)] at g
        exact g.mono fun e w' ⟨g1, A, n, c, g2, _⟩ => ⟨g1, A, n, c, g2⟩
      have HAP : Hid (∀ W x A n c, HW w W x S [] → RdO W A n c [(1, N, ⟨#[]⟩)] → Calls Tryd.prog 10 #[.pointer (some ⟨x, 0, none⟩), .slice A n c] W fun e w' => e = .returned (.int .i64 0) ∧ HW w w' x S [normL [(1, N, ⟨#[]⟩)]]) := Lib.hid fun W x A n c h hr => by
        have g := hw_app x S [] A n c [(1, N, ⟨#[]⟩)] w W h hsm hr (by have := hr.1; simp at this; omega) (by simp [sumT]; decide)
        have e1 : appE S [] [(1, N, ⟨#[]⟩)] = 0 := f17_app hd hm
        rw [e1, show appLs S [] [(1, N, ⟨#[]⟩)] = [normL [(1, N, ⟨#[]⟩)]] from if_pos e1] at g
        exact g
      have HLN : Hid (∀ W x, HW w W x S [normL [(1, N, ⟨#[]⟩)]] → Calls Tryd.prog 11 #[.pointer (some ⟨x, 0, none⟩)] W fun e w' => e = .returned (.int .i64 1) ∧ Ext W w') := Lib.hid fun W x h => by
        have hb : (normL [(1, N, ⟨#[]⟩)]).length ≤ 1 := norm_len [(1, N, ⟨#[]⟩)]
        exact hw_len x S [normL [(1, N, ⟨#[]⟩)]] w W h ⟨by omega, by simp, by simp; omega, by have e := sumT_norm [(1, N, ⟨#[]⟩)]; simp only [sumTT, List.map_cons, List.map_nil, List.sum_cons, List.sum_nil]; rw [e, show sumT [(1, N, ⟨#[]⟩)] = 0 from rfl]; omega⟩
      have hr1 : (((1 + R) : Int) == 0) = false := by rw [beq_eq_false_iff_ne]; omega
      clear hd hm hsm
      go_enter Tryd.func6, Tryd.ntmps6
      go_wp2_with fail
      refine (HSH.out _ (Ext.refl _)).mono ?_; rintro e w1 ⟨rfl, hx1⟩
      go_wp2_with fail
      refine (HFIT.out _).mono ?_; rintro e w2 ⟨rfl, hx2⟩
      have HX2 := Lib.hid (hx1.trans hx2)
      clear hx1 hx2
      go_wp2_with fail
      refine (HN.out _ HX2.out).mono ?_; rintro e w3 ⟨x, rfl, h3⟩
      have H3 := Lib.hid h3; clear h3
      go_wp2_with fail
      refine (HC.out _).mono ?_; rintro e w4 ⟨rfl, hx4⟩
      have H4 := Lib.hid (H3.out.next hx4); clear hx4 H3
      have O1 := Own.made w4 w4.heap.size 50 3 1 #[.int .i64 1, .int .i64 N, .string ⟨#[]⟩] (Nat.le_refl _) (by omega) rfl
      have B1 := (Below.refl w4.heap.size w4).alloc (Nat.le_refl _) (.cells #[.int .i64 1, .int .i64 N, .string ⟨#[]⟩] 50)
      have HR : Hid (RdO (w4.alloc (.cells #[.int .i64 1, .int .i64 N, .string ⟨#[]⟩] 50)) (some ⟨w4.heap.size, 0, none⟩) 1 1 [(1, N, ⟨#[]⟩)]) := Lib.hid ⟨rfl, O1.rd⟩
      have H5 := Lib.hid (H4.out.next B1)
      clear O1 B1
      go_wp2_with fail
      refine (HO.out _ _ _ _ _ H5.out HR.out).mono ?_; rintro e w6 ⟨hx6, A6, n6, c6, rfl⟩
      have H6 := Lib.hid (H5.out.next hx6); replace HR := Lib.hid (HR.out.ext hx6); clear hx6
      go_wp2_with fail
      refine (HAT.out _ _ H6.out).mono ?_; rintro e w7 ⟨hx7, t7, rfl⟩
      have H7 := Lib.hid (H6.out.next hx7); replace HR := Lib.hid (HR.out.ext hx7); clear hx7
      go_wp2_with fail
      refine (HRN.out _ _ H7.out).mono ?_; rintro e w8 ⟨hx8, A8, n8, c8, rfl⟩
      have H8 := Lib.hid (H7.out.next hx8); replace HR := Lib.hid (HR.out.ext hx8); clear hx8
      go_wp2_with fail
      refine (HAP.out _ _ _ _ _ H8.out HR.out).mono ?_; rintro e w9 ⟨rfl, h9⟩
      have H9 := Lib.hid h9; clear h9
      go_wp2_with fail
      refine (HLN.out _ _ H9.out).mono ?_; rintro e w10 ⟨rfl, hx10⟩
      go_wp2_with fail
      go_ret
      exact ⟨rfl, H9.out.e.trans hx10⟩
  · have t1 : (bits .and .u8 b 1 != 0) = false := by rw [b1]; rfl
    have t2 : (bits .and .u8 b 2 != 0) = true := by rw [bne_iff_ne]; exact b2
    have t4 : (bits .and .u8 b 4 != 0) = false := by rw [b4]; rfl
    have hm : (mayL [(1, N, ⟨#[]⟩), (0, 0, ⟨#[]⟩)] ≠ 0 ∧ mayL [(1, N, ⟨#[]⟩), (0, 0, ⟨#[]⟩)] = 1) ∨ (mayL [(1, N, ⟨#[]⟩), (0, 0, ⟨#[]⟩)] = 0 ∧ inL [(1, N, ⟨#[]⟩), (0, 0, ⟨#[]⟩)] ≠ (cs.length : Int) ∧ (1 : Int) = 5) ∨ (mayL [(1, N, ⟨#[]⟩), (0, 0, ⟨#[]⟩)] = 0 ∧ inL [(1, N, ⟨#[]⟩), (0, 0, ⟨#[]⟩)] = (cs.length : Int) ∧ cs.length ≤ 20 ∧ outL [(1, N, ⟨#[]⟩), (0, 0, ⟨#[]⟩)] ≤ 1048576 ∧ (1 : Int) = 0) := .inl ⟨by omega, m3⟩
    clear m1 m2 m3 m4 b1 b2 b4
    have HO : Hid (∀ W x A n c, HW w W x S [] → RdO W A n c [(1, N, ⟨#[]⟩), (0, 0, ⟨#[]⟩)] → Calls Tryd.prog 22 #[.pointer (some ⟨x, 0, none⟩), .slice A n c, .int .i64 0] W fun e w' => Ext W w' ∧ ∃ A n c, e = .returned (.tuple #[.slice A n c, .int .i64 1])) := Lib.hid fun W x A n c h hr => by
      have g := hw_over x S [] A n c [(1, N, ⟨#[]⟩), (0, 0, ⟨#[]⟩)] 0 w W h hsm hr ⟨by simp [lenS], by simp [sumT]; decide, ⟨by simp [lenS], by simp [sumTT], by simp⟩⟩
      rw [show overH S [] [(1, N, ⟨#[]⟩), (0, 0, ⟨#[]⟩)] 0 = 1 from f17_in hd hm ] at g
      exact g.mono fun e w' ⟨g1, A, n, c, g2, _⟩ => ⟨g1, A, n, c, g2⟩
    have HAT : Hid (∀ W x, HW w W x S [] → Calls Tryd.prog 12 #[.pointer (some ⟨x, 0, none⟩), .int .i64 0] W fun e w' => Ext W w' ∧ ∃ t, e = .returned (.tuple #[.string t, .int .i64 0])) := Lib.hid fun W x h => by
      have g := hw_at x S [] 0 w W h hsm ⟨by simp [lenS], by simp [sumTT], by simp⟩
      rw [show atH S [] 0 = .tuple #[.string (txt17 S [] 0), .int .i64 0] from if_neg (by simp)] at g
      exact g.mono fun e w' ⟨g1, g2⟩ => ⟨g2, _, g1⟩
    have HRN : Hid (∀ W x, HW w W x S [] → Calls Tryd.prog 13 #[.pointer (some ⟨x, 0, none⟩), .int .i64 0, .int .i64 0] W fun e w' => Ext W w' ∧ ∃ A n c, e = .returned (.tuple #[.slice A n c, .int .i64 0])) := Lib.hid fun W x h => by
      have g := hw_run x S [] 0 0 w W h hsm ⟨by simp [lenS], by simp [sumTT], by simp⟩
      rw [show runH S [] 0 0 = 0 from f17_run hd (by omega)] at g
      exact g.mono fun e w' ⟨g1, A, n, c, g2, _⟩ => ⟨g1, A, n, c, g2⟩
    have HAP : Hid (∀ W x A n c, HW w W x S [] → RdO W A n c [(1, N, ⟨#[]⟩), (0, 0, ⟨#[]⟩)] → Calls Tryd.prog 10 #[.pointer (some ⟨x, 0, none⟩), .slice A n c] W fun e w' => e = .returned (.int .i64 1) ∧ HW w w' x S []) := Lib.hid fun W x A n c h hr => by
      have g := hw_app x S [] A n c [(1, N, ⟨#[]⟩), (0, 0, ⟨#[]⟩)] w W h hsm hr (by have := hr.1; simp at this; omega) (by simp [sumT]; decide)
      have e1 : appE S [] [(1, N, ⟨#[]⟩), (0, 0, ⟨#[]⟩)] = 1 := f17_app hd hm
      rw [e1, show appLs S [] [(1, N, ⟨#[]⟩), (0, 0, ⟨#[]⟩)] = [] from if_neg (by rw [e1]; omega)] at g
      exact g
    have HLN : Hid (∀ W x, HW w W x S [] → Calls Tryd.prog 11 #[.pointer (some ⟨x, 0, none⟩)] W fun e w' => e = .returned (.int .i64 0) ∧ Ext W w') := Lib.hid fun W x h => by
      exact hw_len x S [] w W h hsm
    clear hd hm hsm
    go_enter Tryd.func6, Tryd.ntmps6
    go_wp2_with fail
    refine (HSH.out _ (Ext.refl _)).mono ?_; rintro e w1 ⟨rfl, hx1⟩
    go_wp2_with fail
    refine (HFIT.out _).mono ?_; rintro e w2 ⟨rfl, hx2⟩
    have HX2 := Lib.hid (hx1.trans hx2)
    clear hx1 hx2
    go_wp2_with fail
    refine (HN.out _ HX2.out).mono ?_; rintro e w3 ⟨x, rfl, h3⟩
    have H3 := Lib.hid h3; clear h3
    go_wp2_with fail
    refine (HC.out _).mono ?_; rintro e w4 ⟨rfl, hx4⟩
    have H4 := Lib.hid (H3.out.next hx4); clear hx4 H3
    have O1 := Own.made w4 w4.heap.size 50 3 1 #[.int .i64 1, .int .i64 N, .string ⟨#[]⟩] (Nat.le_refl _) (by omega) rfl
    have B1 := (Below.refl w4.heap.size w4).alloc (Nat.le_refl _) (.cells #[.int .i64 1, .int .i64 N, .string ⟨#[]⟩] 50)
    obtain ⟨v0, W0, happ0, own0, bel0⟩ := app_new (P := Tryd.prog) 37 37 50 i _ 3 32 Tryd.underlying37 hi hz0 hz1 hz2 rfl (by omega) (by omega)
      B1 O1 (by omega) 1 #[.int .i64 0, .int .i64 0, .string ⟨#[]⟩] rfl (by omega) (by simp [Value.oneCell']) 50
    rw [size_alloc] at happ0
    have HP0 := Lib.hid happ0; clear happ0
    obtain ⟨a9, c9, he9, _⟩ := own0.len
    rw [he9] at own0 HP0
    have HR : Hid (RdO W0 a9 2 c9 [(1, N, ⟨#[]⟩), (0, 0, ⟨#[]⟩)]) := Lib.hid ⟨rfl, own0.rd⟩
    have H5 := Lib.hid (H4.out.next bel0)
    clear O1 B1 he9 own0 bel0
    go_wp2_with (first | (at_builtin; refine wpList_append_run rfl rfl HP0.out rfl rfl ?_))
    refine (HO.out _ _ _ _ _ H5.out HR.out).mono ?_; rintro e w6 ⟨hx6, A6, n6, c6, rfl⟩
    have H6 := Lib.hid (H5.out.next hx6); replace HR := Lib.hid (HR.out.ext hx6); clear hx6
    go_wp2_with fail
    refine (HAT.out _ _ H6.out).mono ?_; rintro e w7 ⟨hx7, t7, rfl⟩
    have H7 := Lib.hid (H6.out.next hx7); replace HR := Lib.hid (HR.out.ext hx7); clear hx7
    go_wp2_with fail
    refine (HRN.out _ _ H7.out).mono ?_; rintro e w8 ⟨hx8, A8, n8, c8, rfl⟩
    have H8 := Lib.hid (H7.out.next hx8); replace HR := Lib.hid (HR.out.ext hx8); clear hx8
    go_wp2_with fail
    refine (HAP.out _ _ _ _ _ H8.out HR.out).mono ?_; rintro e w9 ⟨rfl, h9⟩
    have H9 := Lib.hid h9; clear h9
    go_wp2_with fail
    refine (HLN.out _ _ H9.out).mono ?_; rintro e w10 ⟨rfl, hx10⟩
    go_wp2_with fail
    go_ret
    exact ⟨rfl, H9.out.e.trans hx10⟩
  · have t1 : (bits .and .u8 b 1 != 0) = false := by rw [b1]; rfl
    have t2 : (bits .and .u8 b 2 != 0) = true := by rw [bne_iff_ne]; exact b2
    have t4 : (bits .and .u8 b 4 != 0) = true := by rw [bne_iff_ne]; exact b4
    have hm : (mayL [(1, N, ⟨#[]⟩), (0, 0, ⟨#[]⟩)] ≠ 0 ∧ mayL [(1, N, ⟨#[]⟩), (0, 0, ⟨#[]⟩)] = 1) ∨ (mayL [(1, N, ⟨#[]⟩), (0, 0, ⟨#[]⟩)] = 0 ∧ inL [(1, N, ⟨#[]⟩), (0, 0, ⟨#[]⟩)] ≠ (cs.length : Int) ∧ (1 : Int) = 5) ∨ (mayL [(1, N, ⟨#[]⟩), (0, 0, ⟨#[]⟩)] = 0 ∧ inL [(1, N, ⟨#[]⟩), (0, 0, ⟨#[]⟩)] = (cs.length : Int) ∧ cs.length ≤ 20 ∧ outL [(1, N, ⟨#[]⟩), (0, 0, ⟨#[]⟩)] ≤ 1048576 ∧ (1 : Int) = 0) := .inl ⟨by omega, m3⟩
    clear m1 m2 m3 m4 b1 b2 b4
    by_cases hr0 : r < 0
    · have dr : decide (r < 0) = true := by rw [decide_eq_true_eq]; exact hr0
      have HO : Hid (∀ W x A n c, HW w W x S [] → RdO W A n c [(1, N, ⟨#[]⟩), (0, 0, ⟨#[]⟩)] → Calls Tryd.prog 22 #[.pointer (some ⟨x, 0, none⟩), .slice A n c, .int .i64 (-1 - R)] W fun e w' => Ext W w' ∧ ∃ A n c, e = .returned (.tuple #[.slice A n c, .int .i64 6])) := Lib.hid fun W x A n c h hr => by
        have g := hw_over x S [] A n c [(1, N, ⟨#[]⟩), (0, 0, ⟨#[]⟩)] (-1 - R) w W h hsm hr ⟨by simp [lenS], by simp [sumT]; decide, ⟨by simp [lenS], by simp [sumTT], by simp⟩⟩
        rw [show overH S [] [(1, N, ⟨#[]⟩), (0, 0, ⟨#[]⟩)] (-1 - R) = 6 from f17_out (by omega)] at g
        exact g.mono fun e w' ⟨g1, A, n, c, g2, _⟩ => ⟨g1, A, n, c, g2⟩
      have HAT : Hid (∀ W x, HW w W x S [] → Calls Tryd.prog 12 #[.pointer (some ⟨x, 0, none⟩), .int .i64 (-1 - R)] W fun e w' => Ext W w' ∧ ∃ t, e = .returned (.tuple #[.string t, .int .i64 6])) := Lib.hid fun W x h => by
        have g := hw_at x S [] (-1 - R) w W h hsm ⟨by simp [lenS], by simp [sumTT], by simp⟩
        rw [show atH S [] (-1 - R) = .tuple #[.string ⟨#[]⟩, .int .i64 6] from if_pos (by simp; omega)] at g
        exact g.mono fun e w' ⟨g1, g2⟩ => ⟨g2, _, g1⟩
      have HRN : Hid (∀ W x, HW w W x S [] → Calls Tryd.prog 13 #[.pointer (some ⟨x, 0, none⟩), .int .i64 (-1 - R), .int .i64 0] W fun e w' => Ext W w' ∧ ∃ A n c, e = .returned (.tuple #[.slice A n c, .int .i64 6])) := Lib.hid fun W x h => by
        have g := hw_run x S [] (-1 - R) 0 w W h hsm ⟨by simp [lenS], by simp [sumTT], by simp⟩
        rw [show runH S [] (-1 - R) 0 = 6 from if_pos (by simp; omega)] at g
        exact g.mono fun e w' ⟨g1, A, n, c, g2, _⟩ => ⟨g1, A, n, c, g2⟩
      have HAP : Hid (∀ W x A n c, HW w W x S [] → RdO W A n c [(1, N, ⟨#[]⟩), (0, 0, ⟨#[]⟩)] → Calls Tryd.prog 10 #[.pointer (some ⟨x, 0, none⟩), .slice A n c] W fun e w' => e = .returned (.int .i64 1) ∧ HW w w' x S []) := Lib.hid fun W x A n c h hr => by
        have g := hw_app x S [] A n c [(1, N, ⟨#[]⟩), (0, 0, ⟨#[]⟩)] w W h hsm hr (by have := hr.1; simp at this; omega) (by simp [sumT]; decide)
        have e1 : appE S [] [(1, N, ⟨#[]⟩), (0, 0, ⟨#[]⟩)] = 1 := f17_app hd hm
        rw [e1, show appLs S [] [(1, N, ⟨#[]⟩), (0, 0, ⟨#[]⟩)] = [] from if_neg (by rw [e1]; omega)] at g
        exact g
      have HLN : Hid (∀ W x, HW w W x S [] → Calls Tryd.prog 11 #[.pointer (some ⟨x, 0, none⟩)] W fun e w' => e = .returned (.int .i64 0) ∧ Ext W w') := Lib.hid fun W x h => by
        exact hw_len x S [] w W h hsm
      have hr1 : (((-1 - R) : Int) == 0) = false := by rw [beq_eq_false_iff_ne]; omega
      clear hd hm hsm
      go_enter Tryd.func6, Tryd.ntmps6
      go_wp2_with fail
      refine (HSH.out _ (Ext.refl _)).mono ?_; rintro e w1 ⟨rfl, hx1⟩
      go_wp2_with fail
      refine (HFIT.out _).mono ?_; rintro e w2 ⟨rfl, hx2⟩
      have HX2 := Lib.hid (hx1.trans hx2)
      clear hx1 hx2
      go_wp2_with fail
      refine (HN.out _ HX2.out).mono ?_; rintro e w3 ⟨x, rfl, h3⟩
      have H3 := Lib.hid h3; clear h3
      go_wp2_with fail
      refine (HC.out _).mono ?_; rintro e w4 ⟨rfl, hx4⟩
      have H4 := Lib.hid (H3.out.next hx4); clear hx4 H3
      have O1 := Own.made w4 w4.heap.size 50 3 1 #[.int .i64 1, .int .i64 N, .string ⟨#[]⟩] (Nat.le_refl _) (by omega) rfl
      have B1 := (Below.refl w4.heap.size w4).alloc (Nat.le_refl _) (.cells #[.int .i64 1, .int .i64 N, .string ⟨#[]⟩] 50)
      obtain ⟨v0, W0, happ0, own0, bel0⟩ := app_new (P := Tryd.prog) 37 37 50 i _ 3 32 Tryd.underlying37 hi hz0 hz1 hz2 rfl (by omega) (by omega)
        B1 O1 (by omega) 1 #[.int .i64 0, .int .i64 0, .string ⟨#[]⟩] rfl (by omega) (by simp [Value.oneCell']) 50
      rw [size_alloc] at happ0
      have HP0 := Lib.hid happ0; clear happ0
      obtain ⟨a9, c9, he9, _⟩ := own0.len
      rw [he9] at own0 HP0
      have HR : Hid (RdO W0 a9 2 c9 [(1, N, ⟨#[]⟩), (0, 0, ⟨#[]⟩)]) := Lib.hid ⟨rfl, own0.rd⟩
      have H5 := Lib.hid (H4.out.next bel0)
      clear O1 B1 he9 own0 bel0
      go_wp2_with (first | (at_builtin; refine wpList_append_run rfl rfl HP0.out rfl rfl ?_))
      refine (HO.out _ _ _ _ _ H5.out HR.out).mono ?_; rintro e w6 ⟨hx6, A6, n6, c6, rfl⟩
      have H6 := Lib.hid (H5.out.next hx6); replace HR := Lib.hid (HR.out.ext hx6); clear hx6
      go_wp2_with fail
      refine (HAT.out _ _ H6.out).mono ?_; rintro e w7 ⟨hx7, t7, rfl⟩
      have H7 := Lib.hid (H6.out.next hx7); replace HR := Lib.hid (HR.out.ext hx7); clear hx7
      go_wp2_with fail
      refine (HRN.out _ _ H7.out).mono ?_; rintro e w8 ⟨hx8, A8, n8, c8, rfl⟩
      have H8 := Lib.hid (H7.out.next hx8); replace HR := Lib.hid (HR.out.ext hx8); clear hx8
      go_wp2_with fail
      refine (HAP.out _ _ _ _ _ H8.out HR.out).mono ?_; rintro e w9 ⟨rfl, h9⟩
      have H9 := Lib.hid h9; clear h9
      go_wp2_with fail
      refine (HLN.out _ _ H9.out).mono ?_; rintro e w10 ⟨rfl, hx10⟩
      go_wp2_with fail
      go_ret
      exact ⟨rfl, H9.out.e.trans hx10⟩
    · have dr : decide (r < 0) = false := by rw [decide_eq_false_iff_not]; exact hr0
      have HO : Hid (∀ W x A n c, HW w W x S [] → RdO W A n c [(1, N, ⟨#[]⟩), (0, 0, ⟨#[]⟩)] → Calls Tryd.prog 22 #[.pointer (some ⟨x, 0, none⟩), .slice A n c, .int .i64 (1 + R)] W fun e w' => Ext W w' ∧ ∃ A n c, e = .returned (.tuple #[.slice A n c, .int .i64 6])) := Lib.hid fun W x A n c h hr => by
        have g := hw_over x S [] A n c [(1, N, ⟨#[]⟩), (0, 0, ⟨#[]⟩)] (1 + R) w W h hsm hr ⟨by simp [lenS], by simp [sumT]; decide, ⟨by simp [lenS], by simp [sumTT], by simp⟩⟩
        rw [show overH S [] [(1, N, ⟨#[]⟩), (0, 0, ⟨#[]⟩)] (1 + R) = 6 from f17_out (by omega)] at g
        exact g.mono fun e w' ⟨g1, A, n, c, g2, _⟩ => ⟨g1, A, n, c, g2⟩
      have HAT : Hid (∀ W x, HW w W x S [] → Calls Tryd.prog 12 #[.pointer (some ⟨x, 0, none⟩), .int .i64 (1 + R)] W fun e w' => Ext W w' ∧ ∃ t, e = .returned (.tuple #[.string t, .int .i64 6])) := Lib.hid fun W x h => by
        have g := hw_at x S [] (1 + R) w W h hsm ⟨by simp [lenS], by simp [sumTT], by simp⟩
        rw [show atH S [] (1 + R) = .tuple #[.string ⟨#[]⟩, .int .i64 6] from if_pos (by simp; omega)] at g
        exact g.mono fun e w' ⟨g1, g2⟩ => ⟨g2, _, g1⟩
      have HRN : Hid (∀ W x, HW w W x S [] → Calls Tryd.prog 13 #[.pointer (some ⟨x, 0, none⟩), .int .i64 (1 + R), .int .i64 0] W fun e w' => Ext W w' ∧ ∃ A n c, e = .returned (.tuple #[.slice A n c, .int .i64 6])) := Lib.hid fun W x h => by
        have g := hw_run x S [] (1 + R) 0 w W h hsm ⟨by simp [lenS], by simp [sumTT], by simp⟩
        rw [show runH S [] (1 + R) 0 = 6 from if_pos (by simp; omega)] at g
        exact g.mono fun e w' ⟨g1, A, n, c, g2, _⟩ => ⟨g1, A, n, c, g2⟩
      have HAP : Hid (∀ W x A n c, HW w W x S [] → RdO W A n c [(1, N, ⟨#[]⟩), (0, 0, ⟨#[]⟩)] → Calls Tryd.prog 10 #[.pointer (some ⟨x, 0, none⟩), .slice A n c] W fun e w' => e = .returned (.int .i64 1) ∧ HW w w' x S []) := Lib.hid fun W x A n c h hr => by
        have g := hw_app x S [] A n c [(1, N, ⟨#[]⟩), (0, 0, ⟨#[]⟩)] w W h hsm hr (by have := hr.1; simp at this; omega) (by simp [sumT]; decide)
        have e1 : appE S [] [(1, N, ⟨#[]⟩), (0, 0, ⟨#[]⟩)] = 1 := f17_app hd hm
        rw [e1, show appLs S [] [(1, N, ⟨#[]⟩), (0, 0, ⟨#[]⟩)] = [] from if_neg (by rw [e1]; omega)] at g
        exact g
      have HLN : Hid (∀ W x, HW w W x S [] → Calls Tryd.prog 11 #[.pointer (some ⟨x, 0, none⟩)] W fun e w' => e = .returned (.int .i64 0) ∧ Ext W w') := Lib.hid fun W x h => by
        exact hw_len x S [] w W h hsm
      have hr1 : (((1 + R) : Int) == 0) = false := by rw [beq_eq_false_iff_ne]; omega
      clear hd hm hsm
      go_enter Tryd.func6, Tryd.ntmps6
      go_wp2_with fail
      refine (HSH.out _ (Ext.refl _)).mono ?_; rintro e w1 ⟨rfl, hx1⟩
      go_wp2_with fail
      refine (HFIT.out _).mono ?_; rintro e w2 ⟨rfl, hx2⟩
      have HX2 := Lib.hid (hx1.trans hx2)
      clear hx1 hx2
      go_wp2_with fail
      refine (HN.out _ HX2.out).mono ?_; rintro e w3 ⟨x, rfl, h3⟩
      have H3 := Lib.hid h3; clear h3
      go_wp2_with fail
      refine (HC.out _).mono ?_; rintro e w4 ⟨rfl, hx4⟩
      have H4 := Lib.hid (H3.out.next hx4); clear hx4 H3
      have O1 := Own.made w4 w4.heap.size 50 3 1 #[.int .i64 1, .int .i64 N, .string ⟨#[]⟩] (Nat.le_refl _) (by omega) rfl
      have B1 := (Below.refl w4.heap.size w4).alloc (Nat.le_refl _) (.cells #[.int .i64 1, .int .i64 N, .string ⟨#[]⟩] 50)
      obtain ⟨v0, W0, happ0, own0, bel0⟩ := app_new (P := Tryd.prog) 37 37 50 i _ 3 32 Tryd.underlying37 hi hz0 hz1 hz2 rfl (by omega) (by omega)
        B1 O1 (by omega) 1 #[.int .i64 0, .int .i64 0, .string ⟨#[]⟩] rfl (by omega) (by simp [Value.oneCell']) 50
      rw [size_alloc] at happ0
      have HP0 := Lib.hid happ0; clear happ0
      obtain ⟨a9, c9, he9, _⟩ := own0.len
      rw [he9] at own0 HP0
      have HR : Hid (RdO W0 a9 2 c9 [(1, N, ⟨#[]⟩), (0, 0, ⟨#[]⟩)]) := Lib.hid ⟨rfl, own0.rd⟩
      have H5 := Lib.hid (H4.out.next bel0)
      clear O1 B1 he9 own0 bel0
      go_wp2_with (first | (at_builtin; refine wpList_append_run rfl rfl HP0.out rfl rfl ?_))
      refine (HO.out _ _ _ _ _ H5.out HR.out).mono ?_; rintro e w6 ⟨hx6, A6, n6, c6, rfl⟩
      have H6 := Lib.hid (H5.out.next hx6); replace HR := Lib.hid (HR.out.ext hx6); clear hx6
      go_wp2_with fail
      refine (HAT.out _ _ H6.out).mono ?_; rintro e w7 ⟨hx7, t7, rfl⟩
      have H7 := Lib.hid (H6.out.next hx7); replace HR := Lib.hid (HR.out.ext hx7); clear hx7
      go_wp2_with fail
      refine (HRN.out _ _ H7.out).mono ?_; rintro e w8 ⟨hx8, A8, n8, c8, rfl⟩
      have H8 := Lib.hid (H7.out.next hx8); replace HR := Lib.hid (HR.out.ext hx8); clear hx8
      go_wp2_with fail
      refine (HAP.out _ _ _ _ _ H8.out HR.out).mono ?_; rintro e w9 ⟨rfl, h9⟩
      have H9 := Lib.hid h9; clear h9
      go_wp2_with fail
      refine (HLN.out _ _ H9.out).mono ?_; rintro e w10 ⟨rfl, hx10⟩
      go_wp2_with fail
      go_ret
      exact ⟨rfl, H9.out.e.trans hx10⟩
  · have t1 : (bits .and .u8 b 1 != 0) = true := by rw [bne_iff_ne]; exact b1
    have t2 : (bits .and .u8 b 2 != 0) = false := by rw [b2]; rfl
    have t4 : (bits .and .u8 b 4 != 0) = false := by rw [b4]; rfl
    have hm : (mayL [(1, N, ⟨#[]⟩), (3, 1, ⟨#[]⟩)] ≠ 0 ∧ mayL [(1, N, ⟨#[]⟩), (3, 1, ⟨#[]⟩)] = 5) ∨ (mayL [(1, N, ⟨#[]⟩), (3, 1, ⟨#[]⟩)] = 0 ∧ inL [(1, N, ⟨#[]⟩), (3, 1, ⟨#[]⟩)] ≠ (cs.length : Int) ∧ (5 : Int) = 5) ∨ (mayL [(1, N, ⟨#[]⟩), (3, 1, ⟨#[]⟩)] = 0 ∧ inL [(1, N, ⟨#[]⟩), (3, 1, ⟨#[]⟩)] = (cs.length : Int) ∧ cs.length ≤ 20 ∧ outL [(1, N, ⟨#[]⟩), (3, 1, ⟨#[]⟩)] ≤ 1048576 ∧ (5 : Int) = 0) := .inr (.inl ⟨m2.1, by omega, rfl⟩)
    clear m1 m2 m3 m4 b1 b2 b4
    have HO : Hid (∀ W x A n c, HW w W x S [] → RdO W A n c [(1, N, ⟨#[]⟩), (3, 1, ⟨#[]⟩)] → Calls Tryd.prog 22 #[.pointer (some ⟨x, 0, none⟩), .slice A n c, .int .i64 0] W fun e w' => Ext W w' ∧ ∃ A n c, e = .returned (.tuple #[.slice A n c, .int .i64 5])) := Lib.hid fun W x A n c h hr => by
      have g := hw_over x S [] A n c [(1, N, ⟨#[]⟩), (3, 1, ⟨#[]⟩)] 0 w W h hsm hr ⟨by simp [lenS], by simp [sumT]; decide, ⟨by simp [lenS], by simp [sumTT], by simp⟩⟩
      rw [show overH S [] [(1, N, ⟨#[]⟩), (3, 1, ⟨#[]⟩)] 0 = 5 from f17_in hd hm ] at g
      exact g.mono fun e w' ⟨g1, A, n, c, g2, _⟩ => ⟨g1, A, n, c, g2⟩
    have HAT : Hid (∀ W x, HW w W x S [] → Calls Tryd.prog 12 #[.pointer (some ⟨x, 0, none⟩), .int .i64 0] W fun e w' => Ext W w' ∧ ∃ t, e = .returned (.tuple #[.string t, .int .i64 0])) := Lib.hid fun W x h => by
      have g := hw_at x S [] 0 w W h hsm ⟨by simp [lenS], by simp [sumTT], by simp⟩
      rw [show atH S [] 0 = .tuple #[.string (txt17 S [] 0), .int .i64 0] from if_neg (by simp)] at g
      exact g.mono fun e w' ⟨g1, g2⟩ => ⟨g2, _, g1⟩
    have HRN : Hid (∀ W x, HW w W x S [] → Calls Tryd.prog 13 #[.pointer (some ⟨x, 0, none⟩), .int .i64 0, .int .i64 0] W fun e w' => Ext W w' ∧ ∃ A n c, e = .returned (.tuple #[.slice A n c, .int .i64 0])) := Lib.hid fun W x h => by
      have g := hw_run x S [] 0 0 w W h hsm ⟨by simp [lenS], by simp [sumTT], by simp⟩
      rw [show runH S [] 0 0 = 0 from f17_run hd (by omega)] at g
      exact g.mono fun e w' ⟨g1, A, n, c, g2, _⟩ => ⟨g1, A, n, c, g2⟩
    have HAP : Hid (∀ W x A n c, HW w W x S [] → RdO W A n c [(1, N, ⟨#[]⟩), (3, 1, ⟨#[]⟩)] → Calls Tryd.prog 10 #[.pointer (some ⟨x, 0, none⟩), .slice A n c] W fun e w' => e = .returned (.int .i64 5) ∧ HW w w' x S []) := Lib.hid fun W x A n c h hr => by
      have g := hw_app x S [] A n c [(1, N, ⟨#[]⟩), (3, 1, ⟨#[]⟩)] w W h hsm hr (by have := hr.1; simp at this; omega) (by simp [sumT]; decide)
      have e1 : appE S [] [(1, N, ⟨#[]⟩), (3, 1, ⟨#[]⟩)] = 5 := f17_app hd hm
      rw [e1, show appLs S [] [(1, N, ⟨#[]⟩), (3, 1, ⟨#[]⟩)] = [] from if_neg (by rw [e1]; omega)] at g
      exact g
    have HLN : Hid (∀ W x, HW w W x S [] → Calls Tryd.prog 11 #[.pointer (some ⟨x, 0, none⟩)] W fun e w' => e = .returned (.int .i64 0) ∧ Ext W w') := Lib.hid fun W x h => by
      exact hw_len x S [] w W h hsm
    clear hd hm hsm
    go_enter Tryd.func6, Tryd.ntmps6
    go_wp2_with fail
    refine (HSH.out _ (Ext.refl _)).mono ?_; rintro e w1 ⟨rfl, hx1⟩
    go_wp2_with fail
    refine (HFIT.out _).mono ?_; rintro e w2 ⟨rfl, hx2⟩
    have HX2 := Lib.hid (hx1.trans hx2)
    clear hx1 hx2
    go_wp2_with fail
    refine (HN.out _ HX2.out).mono ?_; rintro e w3 ⟨x, rfl, h3⟩
    have H3 := Lib.hid h3; clear h3
    go_wp2_with fail
    refine (HC.out _).mono ?_; rintro e w4 ⟨rfl, hx4⟩
    have H4 := Lib.hid (H3.out.next hx4); clear hx4 H3
    have O1 := Own.made w4 w4.heap.size 50 3 1 #[.int .i64 1, .int .i64 N, .string ⟨#[]⟩] (Nat.le_refl _) (by omega) rfl
    have B1 := (Below.refl w4.heap.size w4).alloc (Nat.le_refl _) (.cells #[.int .i64 1, .int .i64 N, .string ⟨#[]⟩] 50)
    obtain ⟨v0, W0, happ0, own0, bel0⟩ := app_new (P := Tryd.prog) 37 37 50 i _ 3 32 Tryd.underlying37 hi hz0 hz1 hz2 rfl (by omega) (by omega)
      B1 O1 (by omega) 1 #[.int .i64 3, .int .i64 1, .string ⟨#[]⟩] rfl (by omega) (by simp [Value.oneCell']) 50
    rw [size_alloc] at happ0
    have HP0 := Lib.hid happ0; clear happ0
    obtain ⟨a9, c9, he9, _⟩ := own0.len
    rw [he9] at own0 HP0
    have HR : Hid (RdO W0 a9 2 c9 [(1, N, ⟨#[]⟩), (3, 1, ⟨#[]⟩)]) := Lib.hid ⟨rfl, own0.rd⟩
    have H5 := Lib.hid (H4.out.next bel0)
    clear O1 B1 he9 own0 bel0
    go_wp2_with (first | (at_builtin; refine wpList_append_run rfl rfl HP0.out rfl rfl ?_))
    refine (HO.out _ _ _ _ _ H5.out HR.out).mono ?_; rintro e w6 ⟨hx6, A6, n6, c6, rfl⟩
    have H6 := Lib.hid (H5.out.next hx6); replace HR := Lib.hid (HR.out.ext hx6); clear hx6
    go_wp2_with fail
    refine (HAT.out _ _ H6.out).mono ?_; rintro e w7 ⟨hx7, t7, rfl⟩
    have H7 := Lib.hid (H6.out.next hx7); replace HR := Lib.hid (HR.out.ext hx7); clear hx7
    go_wp2_with fail
    refine (HRN.out _ _ H7.out).mono ?_; rintro e w8 ⟨hx8, A8, n8, c8, rfl⟩
    have H8 := Lib.hid (H7.out.next hx8); replace HR := Lib.hid (HR.out.ext hx8); clear hx8
    go_wp2_with fail
    refine (HAP.out _ _ _ _ _ H8.out HR.out).mono ?_; rintro e w9 ⟨rfl, h9⟩
    have H9 := Lib.hid h9; clear h9
    go_wp2_with fail
    refine (HLN.out _ _ H9.out).mono ?_; rintro e w10 ⟨rfl, hx10⟩
    go_wp2_with fail
    go_ret
    exact ⟨rfl, H9.out.e.trans hx10⟩
  · have t1 : (bits .and .u8 b 1 != 0) = true := by rw [bne_iff_ne]; exact b1
    have t2 : (bits .and .u8 b 2 != 0) = false := by rw [b2]; rfl
    have t4 : (bits .and .u8 b 4 != 0) = true := by rw [bne_iff_ne]; exact b4
    have hm : (mayL [(1, N, ⟨#[]⟩), (3, 1, ⟨#[]⟩)] ≠ 0 ∧ mayL [(1, N, ⟨#[]⟩), (3, 1, ⟨#[]⟩)] = 5) ∨ (mayL [(1, N, ⟨#[]⟩), (3, 1, ⟨#[]⟩)] = 0 ∧ inL [(1, N, ⟨#[]⟩), (3, 1, ⟨#[]⟩)] ≠ (cs.length : Int) ∧ (5 : Int) = 5) ∨ (mayL [(1, N, ⟨#[]⟩), (3, 1, ⟨#[]⟩)] = 0 ∧ inL [(1, N, ⟨#[]⟩), (3, 1, ⟨#[]⟩)] = (cs.length : Int) ∧ cs.length ≤ 20 ∧ outL [(1, N, ⟨#[]⟩), (3, 1, ⟨#[]⟩)] ≤ 1048576 ∧ (5 : Int) = 0) := .inr (.inl ⟨m2.1, by omega, rfl⟩)
    clear m1 m2 m3 m4 b1 b2 b4
    by_cases hr0 : r < 0
    · have dr : decide (r < 0) = true := by rw [decide_eq_true_eq]; exact hr0
      have HO : Hid (∀ W x A n c, HW w W x S [] → RdO W A n c [(1, N, ⟨#[]⟩), (3, 1, ⟨#[]⟩)] → Calls Tryd.prog 22 #[.pointer (some ⟨x, 0, none⟩), .slice A n c, .int .i64 (-1 - R)] W fun e w' => Ext W w' ∧ ∃ A n c, e = .returned (.tuple #[.slice A n c, .int .i64 6])) := Lib.hid fun W x A n c h hr => by
        have g := hw_over x S [] A n c [(1, N, ⟨#[]⟩), (3, 1, ⟨#[]⟩)] (-1 - R) w W h hsm hr ⟨by simp [lenS], by simp [sumT]; decide, ⟨by simp [lenS], by simp [sumTT], by simp⟩⟩
        rw [show overH S [] [(1, N, ⟨#[]⟩), (3, 1, ⟨#[]⟩)] (-1 - R) = 6 from f17_out (by omega)] at g
        exact g.mono fun e w' ⟨g1, A, n, c, g2, _⟩ => ⟨g1, A, n, c, g2⟩
      have HAT : Hid (∀ W x, HW w W x S [] → Calls Tryd.prog 12 #[.pointer (some ⟨x, 0, none⟩), .int .i64 (-1 - R)] W fun e w' => Ext W w' ∧ ∃ t, e = .returned (.tuple #[.string t, .int .i64 6])) := Lib.hid fun W x h => by
        have g := hw_at x S [] (-1 - R) w W h hsm ⟨by simp [lenS], by simp [sumTT], by simp⟩
        rw [show atH S [] (-1 - R) = .tuple #[.string ⟨#[]⟩, .int .i64 6] from if_pos (by simp; omega)] at g
        exact g.mono fun e w' ⟨g1, g2⟩ => ⟨g2, _, g1⟩
      have HRN : Hid (∀ W x, HW w W x S [] → Calls Tryd.prog 13 #[.pointer (some ⟨x, 0, none⟩), .int .i64 (-1 - R), .int .i64 0] W fun e w' => Ext W w' ∧ ∃ A n c, e = .returned (.tuple #[.slice A n c, .int .i64 6])) := Lib.hid fun W x h => by
        have g := hw_run x S [] (-1 - R) 0 w W h hsm ⟨by simp [lenS], by simp [sumTT], by simp⟩
        rw [show runH S [] (-1 - R) 0 = 6 from if_pos (by simp; omega)] at g
        exact g.mono fun e w' ⟨g1, A, n, c, g2, _⟩ => ⟨g1, A, n, c, g2⟩
      have HAP : Hid (∀ W x A n c, HW w W x S [] → RdO W A n c [(1, N, ⟨#[]⟩), (3, 1, ⟨#[]⟩)] → Calls Tryd.prog 10 #[.pointer (some ⟨x, 0, none⟩), .slice A n c] W fun e w' => e = .returned (.int .i64 5) ∧ HW w w' x S []) := Lib.hid fun W x A n c h hr => by
        have g := hw_app x S [] A n c [(1, N, ⟨#[]⟩), (3, 1, ⟨#[]⟩)] w W h hsm hr (by have := hr.1; simp at this; omega) (by simp [sumT]; decide)
        have e1 : appE S [] [(1, N, ⟨#[]⟩), (3, 1, ⟨#[]⟩)] = 5 := f17_app hd hm
        rw [e1, show appLs S [] [(1, N, ⟨#[]⟩), (3, 1, ⟨#[]⟩)] = [] from if_neg (by rw [e1]; omega)] at g
        exact g
      have HLN : Hid (∀ W x, HW w W x S [] → Calls Tryd.prog 11 #[.pointer (some ⟨x, 0, none⟩)] W fun e w' => e = .returned (.int .i64 0) ∧ Ext W w') := Lib.hid fun W x h => by
        exact hw_len x S [] w W h hsm
      have hr1 : (((-1 - R) : Int) == 0) = false := by rw [beq_eq_false_iff_ne]; omega
      clear hd hm hsm
      go_enter Tryd.func6, Tryd.ntmps6
      go_wp2_with fail
      refine (HSH.out _ (Ext.refl _)).mono ?_; rintro e w1 ⟨rfl, hx1⟩
      go_wp2_with fail
      refine (HFIT.out _).mono ?_; rintro e w2 ⟨rfl, hx2⟩
      have HX2 := Lib.hid (hx1.trans hx2)
      clear hx1 hx2
      go_wp2_with fail
      refine (HN.out _ HX2.out).mono ?_; rintro e w3 ⟨x, rfl, h3⟩
      have H3 := Lib.hid h3; clear h3
      go_wp2_with fail
      refine (HC.out _).mono ?_; rintro e w4 ⟨rfl, hx4⟩
      have H4 := Lib.hid (H3.out.next hx4); clear hx4 H3
      have O1 := Own.made w4 w4.heap.size 50 3 1 #[.int .i64 1, .int .i64 N, .string ⟨#[]⟩] (Nat.le_refl _) (by omega) rfl
      have B1 := (Below.refl w4.heap.size w4).alloc (Nat.le_refl _) (.cells #[.int .i64 1, .int .i64 N, .string ⟨#[]⟩] 50)
      obtain ⟨v0, W0, happ0, own0, bel0⟩ := app_new (P := Tryd.prog) 37 37 50 i _ 3 32 Tryd.underlying37 hi hz0 hz1 hz2 rfl (by omega) (by omega)
        B1 O1 (by omega) 1 #[.int .i64 3, .int .i64 1, .string ⟨#[]⟩] rfl (by omega) (by simp [Value.oneCell']) 50
      rw [size_alloc] at happ0
      have HP0 := Lib.hid happ0; clear happ0
      obtain ⟨a9, c9, he9, _⟩ := own0.len
      rw [he9] at own0 HP0
      have HR : Hid (RdO W0 a9 2 c9 [(1, N, ⟨#[]⟩), (3, 1, ⟨#[]⟩)]) := Lib.hid ⟨rfl, own0.rd⟩
      have H5 := Lib.hid (H4.out.next bel0)
      clear O1 B1 he9 own0 bel0
      go_wp2_with (first | (at_builtin; refine wpList_append_run rfl rfl HP0.out rfl rfl ?_))
      refine (HO.out _ _ _ _ _ H5.out HR.out).mono ?_; rintro e w6 ⟨hx6, A6, n6, c6, rfl⟩
      have H6 := Lib.hid (H5.out.next hx6); replace HR := Lib.hid (HR.out.ext hx6); clear hx6
      go_wp2_with fail
      refine (HAT.out _ _ H6.out).mono ?_; rintro e w7 ⟨hx7, t7, rfl⟩
      have H7 := Lib.hid (H6.out.next hx7); replace HR := Lib.hid (HR.out.ext hx7); clear hx7
      go_wp2_with fail
      refine (HRN.out _ _ H7.out).mono ?_; rintro e w8 ⟨hx8, A8, n8, c8, rfl⟩
      have H8 := Lib.hid (H7.out.next hx8); replace HR := Lib.hid (HR.out.ext hx8); clear hx8
      go_wp2_with fail
      refine (HAP.out _ _ _ _ _ H8.out HR.out).mono ?_; rintro e w9 ⟨rfl, h9⟩
      have H9 := Lib.hid h9; clear h9
      go_wp2_with fail
      refine (HLN.out _ _ H9.out).mono ?_; rintro e w10 ⟨rfl, hx10⟩
      go_wp2_with fail
      go_ret
      exact ⟨rfl, H9.out.e.trans hx10⟩
    · have dr : decide (r < 0) = false := by rw [decide_eq_false_iff_not]; exact hr0
      have HO : Hid (∀ W x A n c, HW w W x S [] → RdO W A n c [(1, N, ⟨#[]⟩), (3, 1, ⟨#[]⟩)] → Calls Tryd.prog 22 #[.pointer (some ⟨x, 0, none⟩), .slice A n c, .int .i64 (1 + R)] W fun e w' => Ext W w' ∧ ∃ A n c, e = .returned (.tuple #[.slice A n c, .int .i64 6])) := Lib.hid fun W x A n c h hr => by
        have g := hw_over x S [] A n c [(1, N, ⟨#[]⟩), (3, 1, ⟨#[]⟩)] (1 + R) w W h hsm hr ⟨by simp [lenS], by simp [sumT]; decide, ⟨by simp [lenS], by simp [sumTT], by simp⟩⟩
        rw [show overH S [] [(1, N, ⟨#[]⟩), (3, 1, ⟨#[]⟩)] (1 + R) = 6 from f17_out (by omega)] at g
        exact g.mono fun e w' ⟨g1, A, n, c, g2, _⟩ => ⟨g1, A, n, c, g2⟩
      have HAT : Hid (∀ W x, HW w W x S [] → Calls Tryd.prog 12 #[.pointer (some ⟨x, 0, none⟩), .int .i64 (1 + R)] W fun e w' => Ext W w' ∧ ∃ t, e = .returned (.tuple #[.string t, .int .i64 6])) := Lib.hid fun W x h => by
        have g := hw_at x S [] (1 + R) w W h hsm ⟨by simp [lenS], by simp [sumTT], by simp⟩
        rw [show atH S [] (1 + R) = .tuple #[.string ⟨#[]⟩, .int .i64 6] from if_pos (by simp; omega)] at g
        exact g.mono fun e w' ⟨g1, g2⟩ => ⟨g2, _, g1⟩
      have HRN : Hid (∀ W x, HW w W x S [] → Calls Tryd.prog 13 #[.pointer (some ⟨x, 0, none⟩), .int .i64 (1 + R), .int .i64 0] W fun e w' => Ext W w' ∧ ∃ A n c, e = .returned (.tuple #[.slice A n c, .int .i64 6])) := Lib.hid fun W x h => by
        have g := hw_run x S [] (1 + R) 0 w W h hsm ⟨by simp [lenS], by simp [sumTT], by simp⟩
        rw [show runH S [] (1 + R) 0 = 6 from if_pos (by simp; omega)] at g
        exact g.mono fun e w' ⟨g1, A, n, c, g2, _⟩ => ⟨g1, A, n, c, g2⟩
      have HAP : Hid (∀ W x A n c, HW w W x S [] → RdO W A n c [(1, N, ⟨#[]⟩), (3, 1, ⟨#[]⟩)] → Calls Tryd.prog 10 #[.pointer (some ⟨x, 0, none⟩), .slice A n c] W fun e w' => e = .returned (.int .i64 5) ∧ HW w w' x S []) := Lib.hid fun W x A n c h hr => by
        have g := hw_app x S [] A n c [(1, N, ⟨#[]⟩), (3, 1, ⟨#[]⟩)] w W h hsm hr (by have := hr.1; simp at this; omega) (by simp [sumT]; decide)
        have e1 : appE S [] [(1, N, ⟨#[]⟩), (3, 1, ⟨#[]⟩)] = 5 := f17_app hd hm
        rw [e1, show appLs S [] [(1, N, ⟨#[]⟩), (3, 1, ⟨#[]⟩)] = [] from if_neg (by rw [e1]; omega)] at g
        exact g
      have HLN : Hid (∀ W x, HW w W x S [] → Calls Tryd.prog 11 #[.pointer (some ⟨x, 0, none⟩)] W fun e w' => e = .returned (.int .i64 0) ∧ Ext W w') := Lib.hid fun W x h => by
        exact hw_len x S [] w W h hsm
      have hr1 : (((1 + R) : Int) == 0) = false := by rw [beq_eq_false_iff_ne]; omega
      clear hd hm hsm
      go_enter Tryd.func6, Tryd.ntmps6
      go_wp2_with fail
      refine (HSH.out _ (Ext.refl _)).mono ?_; rintro e w1 ⟨rfl, hx1⟩
      go_wp2_with fail
      refine (HFIT.out _).mono ?_; rintro e w2 ⟨rfl, hx2⟩
      have HX2 := Lib.hid (hx1.trans hx2)
      clear hx1 hx2
      go_wp2_with fail
      refine (HN.out _ HX2.out).mono ?_; rintro e w3 ⟨x, rfl, h3⟩
      have H3 := Lib.hid h3; clear h3
      go_wp2_with fail
      refine (HC.out _).mono ?_; rintro e w4 ⟨rfl, hx4⟩
      have H4 := Lib.hid (H3.out.next hx4); clear hx4 H3
      have O1 := Own.made w4 w4.heap.size 50 3 1 #[.int .i64 1, .int .i64 N, .string ⟨#[]⟩] (Nat.le_refl _) (by omega) rfl
      have B1 := (Below.refl w4.heap.size w4).alloc (Nat.le_refl _) (.cells #[.int .i64 1, .int .i64 N, .string ⟨#[]⟩] 50)
      obtain ⟨v0, W0, happ0, own0, bel0⟩ := app_new (P := Tryd.prog) 37 37 50 i _ 3 32 Tryd.underlying37 hi hz0 hz1 hz2 rfl (by omega) (by omega)
        B1 O1 (by omega) 1 #[.int .i64 3, .int .i64 1, .string ⟨#[]⟩] rfl (by omega) (by simp [Value.oneCell']) 50
      rw [size_alloc] at happ0
      have HP0 := Lib.hid happ0; clear happ0
      obtain ⟨a9, c9, he9, _⟩ := own0.len
      rw [he9] at own0 HP0
      have HR : Hid (RdO W0 a9 2 c9 [(1, N, ⟨#[]⟩), (3, 1, ⟨#[]⟩)]) := Lib.hid ⟨rfl, own0.rd⟩
      have H5 := Lib.hid (H4.out.next bel0)
      clear O1 B1 he9 own0 bel0
      go_wp2_with (first | (at_builtin; refine wpList_append_run rfl rfl HP0.out rfl rfl ?_))
      refine (HO.out _ _ _ _ _ H5.out HR.out).mono ?_; rintro e w6 ⟨hx6, A6, n6, c6, rfl⟩
      have H6 := Lib.hid (H5.out.next hx6); replace HR := Lib.hid (HR.out.ext hx6); clear hx6
      go_wp2_with fail
      refine (HAT.out _ _ H6.out).mono ?_; rintro e w7 ⟨hx7, t7, rfl⟩
      have H7 := Lib.hid (H6.out.next hx7); replace HR := Lib.hid (HR.out.ext hx7); clear hx7
      go_wp2_with fail
      refine (HRN.out _ _ H7.out).mono ?_; rintro e w8 ⟨hx8, A8, n8, c8, rfl⟩
      have H8 := Lib.hid (H7.out.next hx8); replace HR := Lib.hid (HR.out.ext hx8); clear hx8
      go_wp2_with fail
      refine (HAP.out _ _ _ _ _ H8.out HR.out).mono ?_; rintro e w9 ⟨rfl, h9⟩
      have H9 := Lib.hid h9; clear h9
      go_wp2_with fail
      refine (HLN.out _ _ H9.out).mono ?_; rintro e w10 ⟨rfl, hx10⟩
      go_wp2_with fail
      go_ret
      exact ⟨rfl, H9.out.e.trans hx10⟩
  · have t1 : (bits .and .u8 b 1 != 0) = true := by rw [bne_iff_ne]; exact b1
    have t2 : (bits .and .u8 b 2 != 0) = true := by rw [bne_iff_ne]; exact b2
    have t4 : (bits .and .u8 b 4 != 0) = false := by rw [b4]; rfl
    have hm : (mayL [(1, N, ⟨#[]⟩), (3, 1, ⟨#[]⟩), (0, 0, ⟨#[]⟩)] ≠ 0 ∧ mayL [(1, N, ⟨#[]⟩), (3, 1, ⟨#[]⟩), (0, 0, ⟨#[]⟩)] = 1) ∨ (mayL [(1, N, ⟨#[]⟩), (3, 1, ⟨#[]⟩), (0, 0, ⟨#[]⟩)] = 0 ∧ inL [(1, N, ⟨#[]⟩), (3, 1, ⟨#[]⟩), (0, 0, ⟨#[]⟩)] ≠ (cs.length : Int) ∧ (1 : Int) = 5) ∨ (mayL [(1, N, ⟨#[]⟩), (3, 1, ⟨#[]⟩), (0, 0, ⟨#[]⟩)] = 0 ∧ inL [(1, N, ⟨#[]⟩), (3, 1, ⟨#[]⟩), (0, 0, ⟨#[]⟩)] = (cs.length : Int) ∧ cs.length ≤ 20 ∧ outL [(1, N, ⟨#[]⟩), (3, 1, ⟨#[]⟩), (0, 0, ⟨#[]⟩)] ≤ 1048576 ∧ (1 : Int) = 0) := .inl ⟨by omega, m4⟩
    clear m1 m2 m3 m4 b1 b2 b4
    have HO : Hid (∀ W x A n c, HW w W x S [] → RdO W A n c [(1, N, ⟨#[]⟩), (3, 1, ⟨#[]⟩), (0, 0, ⟨#[]⟩)] → Calls Tryd.prog 22 #[.pointer (some ⟨x, 0, none⟩), .slice A n c, .int .i64 0] W fun e w' => Ext W w' ∧ ∃ A n c, e = .returned (.tuple #[.slice A n c, .int .i64 1])) := Lib.hid fun W x A n c h hr => by
      have g := hw_over x S [] A n c [(1, N, ⟨#[]⟩), (3, 1, ⟨#[]⟩), (0, 0, ⟨#[]⟩)] 0 w W h hsm hr ⟨by simp [lenS], by simp [sumT]; decide, ⟨by simp [lenS], by simp [sumTT], by simp⟩⟩
      rw [show overH S [] [(1, N, ⟨#[]⟩), (3, 1, ⟨#[]⟩), (0, 0, ⟨#[]⟩)] 0 = 1 from f17_in hd hm ] at g
      exact g.mono fun e w' ⟨g1, A, n, c, g2, _⟩ => ⟨g1, A, n, c, g2⟩
    have HAT : Hid (∀ W x, HW w W x S [] → Calls Tryd.prog 12 #[.pointer (some ⟨x, 0, none⟩), .int .i64 0] W fun e w' => Ext W w' ∧ ∃ t, e = .returned (.tuple #[.string t, .int .i64 0])) := Lib.hid fun W x h => by
      have g := hw_at x S [] 0 w W h hsm ⟨by simp [lenS], by simp [sumTT], by simp⟩
      rw [show atH S [] 0 = .tuple #[.string (txt17 S [] 0), .int .i64 0] from if_neg (by simp)] at g
      exact g.mono fun e w' ⟨g1, g2⟩ => ⟨g2, _, g1⟩
    have HRN : Hid (∀ W x, HW w W x S [] → Calls Tryd.prog 13 #[.pointer (some ⟨x, 0, none⟩), .int .i64 0, .int .i64 0] W fun e w' => Ext W w' ∧ ∃ A n c, e = .returned (.tuple #[.slice A n c, .int .i64 0])) := Lib.hid fun W x h => by
      have g := hw_run x S [] 0 0 w W h hsm ⟨by simp [lenS], by simp [sumTT], by simp⟩
      rw [show runH S [] 0 0 = 0 from f17_run hd (by omega)] at g
      exact g.mono fun e w' ⟨g1, A, n, c, g2, _⟩ => ⟨g1, A, n, c, g2⟩
    have HAP : Hid (∀ W x A n c, HW w W x S [] → RdO W A n c [(1, N, ⟨#[]⟩), (3, 1, ⟨#[]⟩), (0, 0, ⟨#[]⟩)] → Calls Tryd.prog 10 #[.pointer (some ⟨x, 0, none⟩), .slice A n c] W fun e w' => e = .returned (.int .i64 1) ∧ HW w w' x S []) := Lib.hid fun W x A n c h hr => by
      have g := hw_app x S [] A n c [(1, N, ⟨#[]⟩), (3, 1, ⟨#[]⟩), (0, 0, ⟨#[]⟩)] w W h hsm hr (by have := hr.1; simp at this; omega) (by simp [sumT]; decide)
      have e1 : appE S [] [(1, N, ⟨#[]⟩), (3, 1, ⟨#[]⟩), (0, 0, ⟨#[]⟩)] = 1 := f17_app hd hm
      rw [e1, show appLs S [] [(1, N, ⟨#[]⟩), (3, 1, ⟨#[]⟩), (0, 0, ⟨#[]⟩)] = [] from if_neg (by rw [e1]; omega)] at g
      exact g
    have HLN : Hid (∀ W x, HW w W x S [] → Calls Tryd.prog 11 #[.pointer (some ⟨x, 0, none⟩)] W fun e w' => e = .returned (.int .i64 0) ∧ Ext W w') := Lib.hid fun W x h => by
      exact hw_len x S [] w W h hsm
    clear hd hm hsm
    go_enter Tryd.func6, Tryd.ntmps6
    go_wp2_with fail
    refine (HSH.out _ (Ext.refl _)).mono ?_; rintro e w1 ⟨rfl, hx1⟩
    go_wp2_with fail
    refine (HFIT.out _).mono ?_; rintro e w2 ⟨rfl, hx2⟩
    have HX2 := Lib.hid (hx1.trans hx2)
    clear hx1 hx2
    go_wp2_with fail
    refine (HN.out _ HX2.out).mono ?_; rintro e w3 ⟨x, rfl, h3⟩
    have H3 := Lib.hid h3; clear h3
    go_wp2_with fail
    refine (HC.out _).mono ?_; rintro e w4 ⟨rfl, hx4⟩
    have H4 := Lib.hid (H3.out.next hx4); clear hx4 H3
    have O1 := Own.made w4 w4.heap.size 50 3 1 #[.int .i64 1, .int .i64 N, .string ⟨#[]⟩] (Nat.le_refl _) (by omega) rfl
    have B1 := (Below.refl w4.heap.size w4).alloc (Nat.le_refl _) (.cells #[.int .i64 1, .int .i64 N, .string ⟨#[]⟩] 50)
    obtain ⟨v0, W0, happ0, own0, bel0⟩ := app_new (P := Tryd.prog) 37 37 50 i _ 3 32 Tryd.underlying37 hi hz0 hz1 hz2 rfl (by omega) (by omega)
      B1 O1 (by omega) 1 #[.int .i64 3, .int .i64 1, .string ⟨#[]⟩] rfl (by omega) (by simp [Value.oneCell']) 50
    rw [size_alloc] at happ0
    have HP0 := Lib.hid happ0; clear happ0
    obtain ⟨v1, W1, happ1, own1, bel1⟩ := app_new (P := Tryd.prog) 37 37 50 i _ 3 32 Tryd.underlying37 hi hz0 hz1 hz2 rfl (by omega) (by omega)
      bel0 own0 (by omega) 1 #[.int .i64 0, .int .i64 0, .string ⟨#[]⟩] rfl (by omega) (by simp [Value.oneCell']) 50
    have HP1 := Lib.hid happ1; clear happ1
    obtain ⟨a9, c9, he9, _⟩ := own1.len
    rw [he9] at own1 HP1
    have HR : Hid (RdO W1 a9 3 c9 [(1, N, ⟨#[]⟩), (3, 1, ⟨#[]⟩), (0, 0, ⟨#[]⟩)]) := Lib.hid ⟨rfl, own1.rd⟩
    have H5 := Lib.hid (H4.out.next bel1)
    clear O1 B1 he9 own0 bel0 own1 bel1
    go_wp2_with (first | (at_builtin; refine wpList_append_run rfl rfl HP0.out rfl rfl ?_) | (at_builtin; refine wpList_append_run rfl rfl HP1.out rfl rfl ?_))
    refine (HO.out _ _ _ _ _ H5.out HR.out).mono ?_; rintro e w6 ⟨hx6, A6, n6, c6, rfl⟩
    have H6 := Lib.hid (H5.out.next hx6); replace HR := Lib.hid (HR.out.ext hx6); clear hx6
    go_wp2_with fail
    refine (HAT.out _ _ H6.out).mono ?_; rintro e w7 ⟨hx7, t7, rfl⟩
    have H7 := Lib.hid (H6.out.next hx7); replace HR := Lib.hid (HR.out.ext hx7); clear hx7
    go_wp2_with fail
    refine (HRN.out _ _ H7.out).mono ?_; rintro e w8 ⟨hx8, A8, n8, c8, rfl⟩
    have H8 := Lib.hid (H7.out.next hx8); replace HR := Lib.hid (HR.out.ext hx8); clear hx8
    go_wp2_with fail
    refine (HAP.out _ _ _ _ _ H8.out HR.out).mono ?_; rintro e w9 ⟨rfl, h9⟩
    have H9 := Lib.hid h9; clear h9
    go_wp2_with fail
    refine (HLN.out _ _ H9.out).mono ?_; rintro e w10 ⟨rfl, hx10⟩
    go_wp2_with fail
    go_ret
    exact ⟨rfl, H9.out.e.trans hx10⟩
  · have t1 : (bits .and .u8 b 1 != 0) = true := by rw [bne_iff_ne]; exact b1
    have t2 : (bits .and .u8 b 2 != 0) = true := by rw [bne_iff_ne]; exact b2
    have t4 : (bits .and .u8 b 4 != 0) = true := by rw [bne_iff_ne]; exact b4
    have hm : (mayL [(1, N, ⟨#[]⟩), (3, 1, ⟨#[]⟩), (0, 0, ⟨#[]⟩)] ≠ 0 ∧ mayL [(1, N, ⟨#[]⟩), (3, 1, ⟨#[]⟩), (0, 0, ⟨#[]⟩)] = 1) ∨ (mayL [(1, N, ⟨#[]⟩), (3, 1, ⟨#[]⟩), (0, 0, ⟨#[]⟩)] = 0 ∧ inL [(1, N, ⟨#[]⟩), (3, 1, ⟨#[]⟩), (0, 0, ⟨#[]⟩)] ≠ (cs.length : Int) ∧ (1 : Int) = 5) ∨ (mayL [(1, N, ⟨#[]⟩), (3, 1, ⟨#[]⟩), (0, 0, ⟨#[]⟩)] = 0 ∧ inL [(1, N, ⟨#[]⟩), (3, 1, ⟨#[]⟩), (0, 0, ⟨#[]⟩)] = (cs.length : Int) ∧ cs.length ≤ 20 ∧ outL [(1, N, ⟨#[]⟩), (3, 1, ⟨#[]⟩), (0, 0, ⟨#[]⟩)] ≤ 1048576 ∧ (1 : Int) = 0) := .inl ⟨by omega, m4⟩
    clear m1 m2 m3 m4 b1 b2 b4
    by_cases hr0 : r < 0
    · have dr : decide (r < 0) = true := by rw [decide_eq_true_eq]; exact hr0
      have HO : Hid (∀ W x A n c, HW w W x S [] → RdO W A n c [(1, N, ⟨#[]⟩), (3, 1, ⟨#[]⟩), (0, 0, ⟨#[]⟩)] → Calls Tryd.prog 22 #[.pointer (some ⟨x, 0, none⟩), .slice A n c, .int .i64 (-1 - R)] W fun e w' => Ext W w' ∧ ∃ A n c, e = .returned (.tuple #[.slice A n c, .int .i64 6])) := Lib.hid fun W x A n c h hr => by
        have g := hw_over x S [] A n c [(1, N, ⟨#[]⟩), (3, 1, ⟨#[]⟩), (0, 0, ⟨#[]⟩)] (-1 - R) w W h hsm hr ⟨by simp [lenS], by simp [sumT]; decide, ⟨by simp [lenS], by simp [sumTT], by simp⟩⟩
        rw [show overH S [] [(1, N, ⟨#[]⟩), (3, 1, ⟨#[]⟩), (0, 0, ⟨#[]⟩)] (-1 - R) = 6 from f17_out (by omega)] at g
        exact g.mono fun e w' ⟨g1, A, n, c, g2, _⟩ => ⟨g1, A, n, c, g2⟩
      have HAT : Hid (∀ W x, HW w W x S [] → Calls Tryd.prog 12 #[.pointer (some ⟨x, 0, none⟩), .int .i64 (-1 - R)] W fun e w' => Ext W w' ∧ ∃ t, e = .returned (.tuple #[.string t, .int .i64 6])) := Lib.hid fun W x h => by
        have g := hw_at x S [] (-1 - R) w W h hsm ⟨by simp [lenS], by simp [sumTT], by simp⟩
        rw [show atH S [] (-1 - R) = .tuple #[.string ⟨#[]⟩, .int .i64 6] from if_pos (by simp; omega)] at g
        exact g.mono fun e w' ⟨g1, g2⟩ => ⟨g2, _, g1⟩
      have HRN : Hid (∀ W x, HW w W x S [] → Calls Tryd.prog 13 #[.pointer (some ⟨x, 0, none⟩), .int .i64 (-1 - R), .int .i64 0] W fun e w' => Ext W w' ∧ ∃ A n c, e = .returned (.tuple #[.slice A n c, .int .i64 6])) := Lib.hid fun W x h => by
        have g := hw_run x S [] (-1 - R) 0 w W h hsm ⟨by simp [lenS], by simp [sumTT], by simp⟩
        rw [show runH S [] (-1 - R) 0 = 6 from if_pos (by simp; omega)] at g
        exact g.mono fun e w' ⟨g1, A, n, c, g2, _⟩ => ⟨g1, A, n, c, g2⟩
      have HAP : Hid (∀ W x A n c, HW w W x S [] → RdO W A n c [(1, N, ⟨#[]⟩), (3, 1, ⟨#[]⟩), (0, 0, ⟨#[]⟩)] → Calls Tryd.prog 10 #[.pointer (some ⟨x, 0, none⟩), .slice A n c] W fun e w' => e = .returned (.int .i64 1) ∧ HW w w' x S []) := Lib.hid fun W x A n c h hr => by
        have g := hw_app x S [] A n c [(1, N, ⟨#[]⟩), (3, 1, ⟨#[]⟩), (0, 0, ⟨#[]⟩)] w W h hsm hr (by have := hr.1; simp at this; omega) (by simp [sumT]; decide)
        have e1 : appE S [] [(1, N, ⟨#[]⟩), (3, 1, ⟨#[]⟩), (0, 0, ⟨#[]⟩)] = 1 := f17_app hd hm
        rw [e1, show appLs S [] [(1, N, ⟨#[]⟩), (3, 1, ⟨#[]⟩), (0, 0, ⟨#[]⟩)] = [] from if_neg (by rw [e1]; omega)] at g
        exact g
      have HLN : Hid (∀ W x, HW w W x S [] → Calls Tryd.prog 11 #[.pointer (some ⟨x, 0, none⟩)] W fun e w' => e = .returned (.int .i64 0) ∧ Ext W w') := Lib.hid fun W x h => by
        exact hw_len x S [] w W h hsm
      have hr1 : (((-1 - R) : Int) == 0) = false := by rw [beq_eq_false_iff_ne]; omega
      clear hd hm hsm
      go_enter Tryd.func6, Tryd.ntmps6
      go_wp2_with fail
      refine (HSH.out _ (Ext.refl _)).mono ?_; rintro e w1 ⟨rfl, hx1⟩
      go_wp2_with fail
      refine (HFIT.out _).mono ?_; rintro e w2 ⟨rfl, hx2⟩
      have HX2 := Lib.hid (hx1.trans hx2)
      clear hx1 hx2
      go_wp2_with fail
      refine (HN.out _ HX2.out).mono ?_; rintro e w3 ⟨x, rfl, h3⟩
      have H3 := Lib.hid h3; clear h3
      go_wp2_with fail
      refine (HC.out _).mono ?_; rintro e w4 ⟨rfl, hx4⟩
      have H4 := Lib.hid (H3.out.next hx4); clear hx4 H3
      have O1 := Own.made w4 w4.heap.size 50 3 1 #[.int .i64 1, .int .i64 N, .string ⟨#[]⟩] (Nat.le_refl _) (by omega) rfl
      have B1 := (Below.refl w4.heap.size w4).alloc (Nat.le_refl _) (.cells #[.int .i64 1, .int .i64 N, .string ⟨#[]⟩] 50)
      obtain ⟨v0, W0, happ0, own0, bel0⟩ := app_new (P := Tryd.prog) 37 37 50 i _ 3 32 Tryd.underlying37 hi hz0 hz1 hz2 rfl (by omega) (by omega)
        B1 O1 (by omega) 1 #[.int .i64 3, .int .i64 1, .string ⟨#[]⟩] rfl (by omega) (by simp [Value.oneCell']) 50
      rw [size_alloc] at happ0
      have HP0 := Lib.hid happ0; clear happ0
      obtain ⟨v1, W1, happ1, own1, bel1⟩ := app_new (P := Tryd.prog) 37 37 50 i _ 3 32 Tryd.underlying37 hi hz0 hz1 hz2 rfl (by omega) (by omega)
        bel0 own0 (by omega) 1 #[.int .i64 0, .int .i64 0, .string ⟨#[]⟩] rfl (by omega) (by simp [Value.oneCell']) 50
      have HP1 := Lib.hid happ1; clear happ1
      obtain ⟨a9, c9, he9, _⟩ := own1.len
      rw [he9] at own1 HP1
      have HR : Hid (RdO W1 a9 3 c9 [(1, N, ⟨#[]⟩), (3, 1, ⟨#[]⟩), (0, 0, ⟨#[]⟩)]) := Lib.hid ⟨rfl, own1.rd⟩
      have H5 := Lib.hid (H4.out.next bel1)
      clear O1 B1 he9 own0 bel0 own1 bel1
      go_wp2_with (first | (at_builtin; refine wpList_append_run rfl rfl HP0.out rfl rfl ?_) | (at_builtin; refine wpList_append_run rfl rfl HP1.out rfl rfl ?_))
      refine (HO.out _ _ _ _ _ H5.out HR.out).mono ?_; rintro e w6 ⟨hx6, A6, n6, c6, rfl⟩
      have H6 := Lib.hid (H5.out.next hx6); replace HR := Lib.hid (HR.out.ext hx6); clear hx6
      go_wp2_with fail
      refine (HAT.out _ _ H6.out).mono ?_; rintro e w7 ⟨hx7, t7, rfl⟩
      have H7 := Lib.hid (H6.out.next hx7); replace HR := Lib.hid (HR.out.ext hx7); clear hx7
      go_wp2_with fail
      refine (HRN.out _ _ H7.out).mono ?_; rintro e w8 ⟨hx8, A8, n8, c8, rfl⟩
      have H8 := Lib.hid (H7.out.next hx8); replace HR := Lib.hid (HR.out.ext hx8); clear hx8
      go_wp2_with fail
      refine (HAP.out _ _ _ _ _ H8.out HR.out).mono ?_; rintro e w9 ⟨rfl, h9⟩
      have H9 := Lib.hid h9; clear h9
      go_wp2_with fail
      refine (HLN.out _ _ H9.out).mono ?_; rintro e w10 ⟨rfl, hx10⟩
      go_wp2_with fail
      go_ret
      exact ⟨rfl, H9.out.e.trans hx10⟩
    · have dr : decide (r < 0) = false := by rw [decide_eq_false_iff_not]; exact hr0
      have HO : Hid (∀ W x A n c, HW w W x S [] → RdO W A n c [(1, N, ⟨#[]⟩), (3, 1, ⟨#[]⟩), (0, 0, ⟨#[]⟩)] → Calls Tryd.prog 22 #[.pointer (some ⟨x, 0, none⟩), .slice A n c, .int .i64 (1 + R)] W fun e w' => Ext W w' ∧ ∃ A n c, e = .returned (.tuple #[.slice A n c, .int .i64 6])) := Lib.hid fun W x A n c h hr => by
        have g := hw_over x S [] A n c [(1, N, ⟨#[]⟩), (3, 1, ⟨#[]⟩), (0, 0, ⟨#[]⟩)] (1 + R) w W h hsm hr ⟨by simp [lenS], by simp [sumT]; decide, ⟨by simp [lenS], by simp [sumTT], by simp⟩⟩
        rw [show overH S [] [(1, N, ⟨#[]⟩), (3, 1, ⟨#[]⟩), (0, 0, ⟨#[]⟩)] (1 + R) = 6 from f17_out (by omega)] at g
        exact g.mono fun e w' ⟨g1, A, n, c, g2, _⟩ => ⟨g1, A, n, c, g2⟩
      have HAT : Hid (∀ W x, HW w W x S [] → Calls Tryd.prog 12 #[.pointer (some ⟨x, 0, none⟩), .int .i64 (1 + R)] W fun e w' => Ext W w' ∧ ∃ t, e = .returned (.tuple #[.string t, .int .i64 6])) := Lib.hid fun W x h => by
        have g := hw_at x S [] (1 + R) w W h hsm ⟨by simp [lenS], by simp [sumTT], by simp⟩
        rw [show atH S [] (1 + R) = .tuple #[.string ⟨#[]⟩, .int .i64 6] from if_pos (by simp; omega)] at g
        exact g.mono fun e w' ⟨g1, g2⟩ => ⟨g2, _, g1⟩
      have HRN : Hid (∀ W x, HW w W x S [] → Calls Tryd.prog 13 #[.pointer (some ⟨x, 0, none⟩), .int .i64 (1 + R), .int .i64 0] W fun e w' => Ext W w' ∧ ∃ A n c, e = .returned (.tuple #[.slice A n c, .int .i64 6])) := Lib.hid fun W x h => by
        have g := hw_run x S [] (1 + R) 0 w W h hsm ⟨by simp [lenS], by simp [sumTT], by simp⟩
        rw [show runH S [] (1 + R) 0 = 6 from if_pos (by simp; omega)] at g
        exact g.mono fun e w' ⟨g1, A, n, c, g2, _⟩ => ⟨g1, A, n, c, g2⟩
      have HAP : Hid (∀ W x A n c, HW w W x S [] → RdO W A n c [(1, N, ⟨#[]⟩), (3, 1, ⟨#[]⟩), (0, 0, ⟨#[]⟩)] → Calls Tryd.prog 10 #[.pointer (some ⟨x, 0, none⟩), .slice A n c] W fun e w' => e = .returned (.int .i64 1) ∧ HW w w' x S []) := Lib.hid fun W x A n c h hr => by
        have g := hw_app x S [] A n c [(1, N, ⟨#[]⟩), (3, 1, ⟨#[]⟩), (0, 0, ⟨#[]⟩)] w W h hsm hr (by have := hr.1; simp at this; omega) (by simp [sumT]; decide)
        have e1 : appE S [] [(1, N, ⟨#[]⟩), (3, 1, ⟨#[]⟩), (0, 0, ⟨#[]⟩)] = 1 := f17_app hd hm
        rw [e1, show appLs S [] [(1, N, ⟨#[]⟩), (3, 1, ⟨#[]⟩), (0, 0, ⟨#[]⟩)] = [] from if_neg (by rw [e1]; omega)] at g
        exact g
      have HLN : Hid (∀ W x, HW w W x S [] → Calls Tryd.prog 11 #[.pointer (some ⟨x, 0, none⟩)] W fun e w' => e = .returned (.int .i64 0) ∧ Ext W w') := Lib.hid fun W x h => by
        exact hw_len x S [] w W h hsm
      have hr1 : (((1 + R) : Int) == 0) = false := by rw [beq_eq_false_iff_ne]; omega
      clear hd hm hsm
      go_enter Tryd.func6, Tryd.ntmps6
      go_wp2_with fail
      refine (HSH.out _ (Ext.refl _)).mono ?_; rintro e w1 ⟨rfl, hx1⟩
      go_wp2_with fail
      refine (HFIT.out _).mono ?_; rintro e w2 ⟨rfl, hx2⟩
      have HX2 := Lib.hid (hx1.trans hx2)
      clear hx1 hx2
      go_wp2_with fail
      refine (HN.out _ HX2.out).mono ?_; rintro e w3 ⟨x, rfl, h3⟩
      have H3 := Lib.hid h3; clear h3
      go_wp2_with fail
      refine (HC.out _).mono ?_; rintro e w4 ⟨rfl, hx4⟩
      have H4 := Lib.hid (H3.out.next hx4); clear hx4 H3
      have O1 := Own.made w4 w4.heap.size 50 3 1 #[.int .i64 1, .int .i64 N, .string ⟨#[]⟩] (Nat.le_refl _) (by omega) rfl
      have B1 := (Below.refl w4.heap.size w4).alloc (Nat.le_refl _) (.cells #[.int .i64 1, .int .i64 N, .string ⟨#[]⟩] 50)
      obtain ⟨v0, W0, happ0, own0, bel0⟩ := app_new (P := Tryd.prog) 37 37 50 i _ 3 32 Tryd.underlying37 hi hz0 hz1 hz2 rfl (by omega) (by omega)
        B1 O1 (by omega) 1 #[.int .i64 3, .int .i64 1, .string ⟨#[]⟩] rfl (by omega) (by simp [Value.oneCell']) 50
      rw [size_alloc] at happ0
      have HP0 := Lib.hid happ0; clear happ0
      obtain ⟨v1, W1, happ1, own1, bel1⟩ := app_new (P := Tryd.prog) 37 37 50 i _ 3 32 Tryd.underlying37 hi hz0 hz1 hz2 rfl (by omega) (by omega)
        bel0 own0 (by omega) 1 #[.int .i64 0, .int .i64 0, .string ⟨#[]⟩] rfl (by omega) (by simp [Value.oneCell']) 50
      have HP1 := Lib.hid happ1; clear happ1
      obtain ⟨a9, c9, he9, _⟩ := own1.len
      rw [he9] at own1 HP1
      have HR : Hid (RdO W1 a9 3 c9 [(1, N, ⟨#[]⟩), (3, 1, ⟨#[]⟩), (0, 0, ⟨#[]⟩)]) := Lib.hid ⟨rfl, own1.rd⟩
      have H5 := Lib.hid (H4.out.next bel1)
      clear O1 B1 he9 own0 bel0 own1 bel1
      go_wp2_with (first | (at_builtin; refine wpList_append_run rfl rfl HP0.out rfl rfl ?_) | (at_builtin; refine wpList_append_run rfl rfl HP1.out rfl rfl ?_))
      refine (HO.out _ _ _ _ _ H5.out HR.out).mono ?_; rintro e w6 ⟨hx6, A6, n6, c6, rfl⟩
      have H6 := Lib.hid (H5.out.next hx6); replace HR := Lib.hid (HR.out.ext hx6); clear hx6
      go_wp2_with fail
      refine (HAT.out _ _ H6.out).mono ?_; rintro e w7 ⟨hx7, t7, rfl⟩
      have H7 := Lib.hid (H6.out.next hx7); replace HR := Lib.hid (HR.out.ext hx7); clear hx7
      go_wp2_with fail
      refine (HRN.out _ _ H7.out).mono ?_; rintro e w8 ⟨hx8, A8, n8, c8, rfl⟩
      have H8 := Lib.hid (H7.out.next hx8); replace HR := Lib.hid (HR.out.ext hx8); clear hx8
      go_wp2_with fail
      refine (HAP.out _ _ _ _ _ H8.out HR.out).mono ?_; rintro e w9 ⟨rfl, h9⟩
      have H9 := Lib.hid h9; clear h9
      go_wp2_with fail
      refine (HLN.out _ _ H9.out).mono ?_; rintro e w10 ⟨rfl, hx10⟩
      go_wp2_with fail
      go_ret
      exact ⟨rfl, H9.out.e.trans hx10⟩
end Go.Proofs.YtgcaphjjigpjlaaDoor
