/- Packed: M17b H17b C17 C17b. -/
import Derived.ArgAppend
import Derived.BigQuiet
import Derived.BigRegion
import Derived.ChangeAlike
import Derived.ChangeOld
import Derived.Deep.Cut
import Derived.Deep.CutRange
import Derived.Deep.DrawnRows
import Derived.Deep.MidRow
import Derived.Deep.QuietTactic
import Derived.Deep.RegionHeld3
import Derived.Deep.RegionWith
import Derived.Deep.Slices
import Derived.Deep.Upon
import Derived.Laws.AppendOwnNone
import Derived.Laws.BytesArg
import Derived.Laws.IdiomCopy
import Derived.Laws.MakeOwn
import Derived.Laws.ResultCell
import Derived.Laws.Rows
import Derived.Lib.AppendStr
import Derived.Lib.Builder
import Derived.Lib.DecodeN
import Derived.Lib.Hide
import Derived.Lib.Strings
import Derived.Lib.UnsafeStr
import Derived.LoopIn
import Derived.LoopNIn
import Derived.OpenShut
import Derived.OwnWalkIn
import Derived.ProofKit
import Derived.RangeFuncBound
import Derived.RangeFuncCalls
import Derived.RangeFuncLeaves
import Derived.RangeFuncNested
import Derived.RegionTactic
import Derived.ScopeJumps
import Derived.Shelf.Abstract
import Derived.Shelf.RegionOpen
import Derived.ShutString
import Derived.Sort.CutIn
import Derived.StillTail
import Derived.StillTailTactics
import Derived.TacticsInMore
import Derived.Test.YtgcaphjjigpjlaaGreatDoorProg
import Derived.Test.YtgcaphjjigpjlaaGreatDoorShelf
import Derived.WalkKit
import Derived.WalkLawsBesides
import Derived.WalkMore
import Derived.WalkSpells
import Derived.Test.YtgcaphjjigpjlaaGreatDoorQ00
import Derived.Test.YtgcaphjjigpjlaaGreatDoorQ01
import Derived.Test.YtgcaphjjigpjlaaGreatDoorQ02
import Derived.Test.YtgcaphjjigpjlaaGreatDoorQ03
import Derived.Test.YtgcaphjjigpjlaaGreatDoorQ04
import Derived.Test.YtgcaphjjigpjlaaGreatDoorQ05
import Derived.Test.YtgcaphjjigpjlaaGreatDoorQ06
import Derived.Test.YtgcaphjjigpjlaaGreatDoorQ07
import Derived.Test.YtgcaphjjigpjlaaGreatDoorQ08
import Derived.Test.YtgcaphjjigpjlaaGreatDoorQ09
import Derived.Test.YtgcaphjjigpjlaaGreatDoorQ10
import Derived.Test.YtgcaphjjigpjlaaGreatDoorQ11
import Derived.Test.YtgcaphjjigpjlaaGreatDoorQ12
import Derived.Test.YtgcaphjjigpjlaaGreatDoorQ13
import Derived.Test.YtgcaphjjigpjlaaGreatDoorQ14
import Derived.Test.YtgcaphjjigpjlaaGreatDoorQ15
import Derived.Test.YtgcaphjjigpjlaaGreatDoorQ16
import Derived.Test.YtgcaphjjigpjlaaGreatDoorQ17
namespace Go.Proofs.YtgcaphjjigpjlaaGreatDoor
open Go.RowKit
set_option maxRecDepth 100000
set_option maxHeartbeats 4000000
set_option linter.unusedSimpArgs false
def overH (s : ByteArray) (ls : List (List Sp)) (a : List Sp) (r : Int) : Int :=
  if r < 0 ∨ (ls.length : Int) < r then 6 else if mayL a ≠ 0 then mayL a else if inL a ≠ cntF (bs (txt17 s ls r.toNat)) then 5 else thruE a (ls.drop r.toNat)
def overHL (ls : List (List Sp)) (a : List Sp) (r : Int) : List Sp := thruL a (ls.drop r.toNat)
def runH (s : ByteArray) (ls : List (List Sp)) (r t : Int) : Int :=
  if r < 0 ∨ t < r ∨ (ls.length : Int) < t then 6 else chainE (cntF (bs (txt17 s ls r.toNat))) ((ls.take t.toNat).drop r.toNat)
def runHL (s : ByteArray) (ls : List (List Sp)) (r t : Int) : List Sp := fuseL (cntF (bs (txt17 s ls r.toNat))) ((ls.take t.toNat).drop r.toNat)
def atH (s : ByteArray) (ls : List (List Sp)) (r : Int) : Value := if r < 0 ∨ (ls.length : Int) < r then .tuple #[.string ⟨#[]⟩, .int .i64 6] else .tuple #[.string (txt17 s ls r.toNat), .int .i64 0]
def newH (s : ByteArray) : Int := if dec (bs s) = none then 3 else if 1048576 < cntF (bs s) then 4 else 0
def NewR (H : World → Nat → (Nat → Prop) → ByteArray → List (List Sp) → Prop) (w : World) (s : ByteArray) (e : Ending) (w' : World) : Prop :=
  Ext w w' ∧ (newH s ≠ 0 → e = .returned (.tuple #[.pointer none, .int .i64 (newH s)])) ∧ (newH s = 0 → ∃ x F, e = .returned (.tuple #[.pointer (some ⟨x, 0, none⟩), .int .i64 0]) ∧ H w' x F s [] ∧ ∀ k, F k → w.heap.size ≤ k)
def AppR (H : World → Nat → (Nat → Prop) → ByteArray → List (List Sp) → Prop) (w : World) (x : Nat) (F : Nat → Prop) (s : ByteArray) (ls : List (List Sp)) (l : List Sp) (e : Ending) (w' : World) : Prop :=
  e = .returned (.int .i64 (appE s ls l)) ∧ Kp F w w' ∧ H w' x (Gr F w w') s (appLs s ls l)
def LogR (w : World) (s : ByteArray) (ls : List (List Sp)) (e : Ending) (w' : World) : Prop :=
  Ext w w' ∧ ∃ A n c B m d, e = .returned (.agg #[.string s, .slice A n c, .slice B m d]) ∧ Own w' w.heap.size 3 1 (.slice A n c) n (nV (revL ls.length)) ∧ OwnSS w' w.heap.size 23 60 (.slice B m d) ls
end Go.Proofs.YtgcaphjjigpjlaaGreatDoor
namespace Go.Proofs.YtgcaphjjigpjlaaGreatDoor
open Go.RowKit
set_option maxRecDepth 100000
set_option maxHeartbeats 4000000
set_option linter.unusedSimpArgs false
theorem rdO_kp {F : Nat → Prop} {w W' : World} {A : Option Addr} {n c : Nat} {l : List Sp} (h : RdO w A n c l) (k : Kp F w W') (hA : ∀ b off, A = some ⟨b, off, none⟩ → ¬ F b) : RdO W' A n c l := by
  obtain ⟨hl, h1, A', c', hv, hc, h2⟩ := h
  refine ⟨hl, h1, A', c', hv, hc, fun hn => ?_⟩
  obtain ⟨b, off, hA', hb, hcell⟩ := h2 hn
  injection hv with e1 e2 e3
  subst e1
  refine ⟨b, off, hA', Nat.lt_of_lt_of_le hb k.size, fun j u hu => ?_⟩
  rw [World.cell?_of_block (a := ⟨b, off + j, none⟩) (k.block b hb (hA b off hA'))]
  exact hcell j u hu
theorem push17 {P : Program} {i : TypeInfo} {z : Value} {tSS tS : TypeId} (hu : P.underlying tSS = some (.slice tS)) (hi : P.info? tS = some i) (hz : i.zero = some z) (hsize : i.size = 1) (hby : i.bytes = 24) (hzs : z.cells.size = 1)
    {w1 : World} {lv : Value} {n : Nat} {vs : List Value} (hro : Own w1 0 tS 1 lv n vs) (hn : n ≤ 1000) (u : Value) (h1 : u.oneCell' = true) :
    ∃ v' w', (Builtin.append_ #[tSS, tSS] tSS #[lv, .slice (some ⟨w1.heap.size, 0, none⟩) 1 1]).run P (w1.alloc (.cells #[u] tS)) = .ok v' w' ∧ (Own w' 0 tS 1 v' (n + 1) (vs ++ [u]) ∧ Below 0 w1 w' ∧ (∀ k, k < w1.heap.size → lv.ownBlock ≠ some k → w'.heap[k]? = w1.heap[k]?) ∧ w1.heap.size ≤ w'.heap.size ∧ (∀ k, v'.ownBlock = some k → lv.ownBlock = some k ∨ w1.heap.size ≤ k)) := by
  obtain ⟨v', w', happ, g1, g2, g3, g4, g5⟩ := app_newg (P := P) tSS tSS tS i z 1 24 hu hi hz hsize hby hzs (by omega) (by omega) hro (by omega) 1 #[u] rfl (by omega) (by simp [h1]) tS
  exact ⟨v', w', happ, g1, g2 (Below.refl 0 w1), g3, g4, g5⟩
theorem opR_err {w w' : World} {E : Int} {L : List Sp} (hx : Ext w w') (hE : E ≠ 0) : OpR w E L (.returned (.tuple #[.slice none 0 0, .int .i64 E])) w' := ⟨hx, none, 0, 0, rfl, by rw [if_neg hE]; exact ⟨rfl, Rd.nil _ _⟩⟩
theorem kp_app {F : Nat → Prop} {w W' : World} {v : Value} (hb : Below 0 w W') (hk : ∀ k, k < w.heap.size → v.ownBlock ≠ some k → W'.heap[k]? = w.heap[k]?) (hF : ∀ k, v.ownBlock = some k → F k) : Kp F w W' :=
  ⟨hb.os, hb.tape, hb.output, hb.size, fun k hk2 hn => hk k hk2 fun e => hn (hF k e)⟩
end Go.Proofs.YtgcaphjjigpjlaaGreatDoor
namespace Go.Proofs.YtgcaphjjigpjlaaGreatDoor
open Go.RowKit
set_option maxRecDepth 100000
set_option maxHeartbeats 4000000
set_option linter.unusedSimpArgs false
def HRef17 (W : World) (x : Nat) (F : Nat → Prop) (s : ByteArray) (ls : List (List Sp)) : Prop := (∃ tv lv, HS 40 W x F tv lv (txts17 s ls) ls) ∧ Hok s ls
theorem HRef17.keep {W W' : World} {x : Nat} {F S : Nat → Prop} {s : ByteArray} {ls : List (List Sp)} (h : HRef17 W x F s ls) (k : Kp S W W') (hd : ∀ i, F i → ¬ S i) : HRef17 W' x F s ls := by
  obtain ⟨⟨tv, lv, h⟩, h2⟩ := h
  exact ⟨⟨tv, lv, h.keep k hd⟩, h2⟩
theorem HRef17.lt {W : World} {x : Nat} {F : Nat → Prop} {s : ByteArray} {ls : List (List Sp)} (h : HRef17 W x F s ls) : ∀ k, F k → k < W.heap.size := by
  obtain ⟨⟨tv, lv, h⟩, _⟩ := h
  exact h.lt
theorem HRef17.ok {W : World} {x : Nat} {F : Nat → Prop} {s : ByteArray} {ls : List (List Sp)} (h : HRef17 W x F s ls) : Hok s ls := h.2
theorem HRef17.ext {W W' : World} {x : Nat} {F : Nat → Prop} {s : ByteArray} {ls : List (List Sp)} (h : HRef17 W x F s ls) (k : Ext W W') : HRef17 W' x F s ls := h.keep (Kp.of_ext (fun _ => False) k) fun _ _ hq => hq
theorem HRef17.more {W : World} {x : Nat} {F F' : Nat → Prop} {s : ByteArray} {ls : List (List Sp)} (h : HRef17 W x F s ls) (hF : ∀ k, F k → F' k) (hl : ∀ k, F' k → k < W.heap.size) : HRef17 W x F' s ls := by
  obtain ⟨⟨tv, lv, h⟩, h2⟩ := h
  exact ⟨⟨tv, lv, h.more hF hl⟩, h2⟩
theorem newR17_c (s : ByteArray) (w : World) (hs : s.size ≤ 1000000) : Calls Tryz.prog 7 #[.string s] w (NewR HRef17 w s) := by
  have HV := Lib.hid (fun w' => validR_c s w' (by omega))
  have HC := Lib.hid (fun w' => countR_c s w' (by omega))
  unfold NewR
  by_cases hd : dec (bs s) = none
  · have hn : newH s = 3 := if_pos hd
    rw [hn]
    rw [hd] at HV
    clear hd hn HC
    go_enter Tryz.func7, Tryz.ntmps7
    go_wp2_with fail
    refine (HV.out _).mono ?_; rintro e w1 ⟨rfl, hx1⟩
    go_wp2_with fail
    go_ret2
    exact ⟨hx1, fun _ => rfl, fun h => absurd h (by omega)⟩
  · have hv : (dec (bs s)).isSome = true := by
      cases h : dec (bs s) with
      | none => exact absurd h hd
      | some _ => rfl
    rw [hv] at HV
    by_cases h4 : 1048576 < cntF (bs s)
    · have hn : newH s = 4 := by unfold newH; rw [if_neg hd, if_pos h4]
      rw [hn]
      clear hd hv hn
      generalize cntF (bs s) = K at *
      go_enter Tryz.func7, Tryz.ntmps7
      go_wp2_with fail
      refine (HV.out _).mono ?_; rintro e w1 ⟨rfl, hx1⟩
      go_wp2_with fail
      refine (HC.out _).mono ?_; rintro e w2 ⟨rfl, hx2⟩
      go_wp2_with fail
      go_ret2
      exact ⟨hx1.trans hx2, fun _ => rfl, fun h => absurd h (by omega)⟩
    · have hn : newH s = 0 := by unfold newH; rw [if_neg hd, if_neg h4]
      rw [hn]
      obtain ⟨cs, hcs⟩ := Option.ne_none_iff_exists'.1 hd
      have hok : Hok s [] := ⟨cs, hcs, by rw [cntF_some hcs] at h4; omega, rfl⟩
      have HOK := Lib.hid hok
      clear hd hv hn hcs hok
      generalize cntF (bs s) = K at *
      go_enter Tryz.func7, Tryz.ntmps7
      go_wp2_with fail
      refine (HV.out _).mono ?_; rintro e w1 ⟨rfl, hx1⟩
      go_wp2_with fail
      refine (HC.out _).mono ?_; rintro e w2 ⟨rfl, hx2⟩
      have HX := Lib.hid (hx1.trans hx2)
      clear hx1 hx2
      go_wp2_with fail
      go_ret2
      have e1 : Ext w2 (w2.alloc (.cells #[.string s] 9)) := (Ext.refl w2).alloc _
      have e2 : Ext (w2.alloc (.cells #[.string s] 9)) ((w2.alloc (.cells #[.string s] 9)).alloc (.cells #[.slice (some ⟨w2.heap.size, 0, none⟩) 1 1, .slice none 0 0] 40)) := (Ext.refl _).alloc _
      have hb := BxT.new (w2.alloc (.cells #[.string s] 9)) 40 #[.slice (some ⟨w2.heap.size, 0, none⟩) 1 1, .slice none 0 0]
      rw [size_alloc] at hb
      have ho := (Own.made w2 0 9 1 1 #[.string s] (Nat.zero_le _) (by omega) rfl).ext e2
      refine ⟨(HX.out.trans e1).trans e2, fun h => absurd rfl h, fun _ => ⟨w2.heap.size + 1, fun k => w2.heap.size ≤ k ∧ k < w2.heap.size + 2, rfl, ⟨⟨_, _, hb, ho, ⟨[], Own.nil _ _ _ _ (Nat.zero_le _), fun i l hl => by simp at hl⟩, ⟨by omega, by omega⟩, fun k hk => ?_, fun k hk => (by cases hk), fun k hk => ?_⟩, HOK.out⟩, fun k hk => Nat.le_trans HX.out.size hk.1⟩⟩
      · injection hk with hk
        subst hk
        exact ⟨Nat.le_refl _, (by show w2.heap.size < w2.heap.size + 2; omega)⟩
      · rw [size_alloc, size_alloc]; omega
theorem atR17_c (x : Nat) (F : Nat → Prop) (s : ByteArray) (ls : List (List Sp)) (r : Int) (w : World) (h : HRef17 w x F s ls) (hs : SmH s ls) : Calls Tryz.prog 17 #[.pointer (some ⟨x, 0, none⟩), .int .i64 r] w fun e w' => e = .returned (atH s ls r) ∧ Ext w w' := by
  obtain ⟨⟨tv, lv, hh⟩, _⟩ := h
  obtain ⟨A2, d, rfl, hnd, _⟩ := hh.rd
  obtain ⟨a1, c1, rfl, _⟩ := hh.tx.len
  have hlen := txts17_len s ls
  have y0 : w.cell? ⟨x, 0, none⟩ = some (.slice a1 (txts17 s ls).length c1) := hh.box.cell rfl
  have y1 : w.cell? ⟨x, 1, none⟩ = some (.slice A2 ls.length d) := hh.box.cell rfl
  have hT := hh.tx
  rw [hlen] at y0 hT
  have hn := hs.num
  by_cases hr : r < 0 ∨ (ls.length : Int) < r
  · have hR : atH s ls r = .tuple #[.string ⟨#[]⟩, .int .i64 6] := if_pos hr
    rw [hR]
    clear hR hh hT hlen
    generalize ls.length = n at *
    have hr2 : r < 0 ∨ (0 ≤ r ∧ (n : Int) < r) := by omega
    clear hr
    rcases hr2 with hi2 | ⟨hi2, hi3⟩
    · have d1 : decide (r < 0) = true := by rw [decide_eq_true_eq]; exact hi2
      go_enter Tryz.func17, Tryz.ntmps17
      go_wp2_with fail
      go_ret2
      exact ⟨rfl, Ext.refl _⟩
    · have d1 : decide (r < 0) = false := by rw [decide_eq_false_iff_not]; omega
      have d2 : decide ((n : Int) < r) = true := by rw [decide_eq_true_eq]; exact hi3
      go_enter Tryz.func17, Tryz.ntmps17
      go_wp2_with fail
      go_ret2
      exact ⟨rfl, Ext.refl _⟩
  · have hi0 : 0 ≤ r := by omega
    obtain ⟨j, rfl⟩ := Int.eq_ofNat_of_zero_le hi0
    have hR : atH s ls (j : Int) = .tuple #[.string (txt17 s ls j), .int .i64 0] := by unfold atH; rw [if_neg hr, Int.toNat_natCast]
    rw [hR]
    obtain ⟨g, c', hv, _, _, _, hcell⟩ := hT.cells (by omega)
    injection hv with q1 _ _
    subst q1
    have y3 := hcell j _ (txts17_at s ls (by omega))
    have hjn : j ≤ ls.length := by omega
    clear hR hh hT hlen hcell hi0 hr
    generalize txt17 s ls j = TJ at *
    generalize ls.length = n at *
    have d1 : decide ((j : Int) < 0) = false := by rw [decide_eq_false_iff_not]; omega
    have d2 : decide ((n : Int) < (j : Int)) = false := by rw [decide_eq_false_iff_not]; omega
    have g0 : (0 : Int) ≤ (j : Int) := by omega
    have g1 : (j : Int) < (n : Int) + 1 := by omega
    have g2 : (j : Int) < ((n + 1 : Nat) : Int) := by omega
    go_enter Tryz.func17, Tryz.ntmps17
    go_wp2_with fail
    go_ret2
    exact ⟨rfl, Ext.refl _⟩
theorem overR17_c (x : Nat) (F : Nat → Prop) (s : ByteArray) (ls : List (List Sp)) (A : Option Addr) (n c : Nat) (a : List Sp) (r : Int) (w : World) (h : HRef17 w x F s ls) (hs : SmH s ls) (hr : RdO w A n c a) (hS : SmT a ls) : Calls Tryz.prog 15 #[.pointer (some ⟨x, 0, none⟩), .slice A n c, .int .i64 r] w (OpR w (overH s ls a r) (overHL ls a r)) := by
  have HAT := Lib.hid (atR17_c x F s ls r w h hs)
  have hal := hS.len
  have hn1 := hr.1
  have HMA := Lib.hid (fun w' (hx : Ext w w') => mayR4_c A n c a w' (hr.ext hx).2 hr.1 (by omega) hS.each)
  have HIN := Lib.hid (fun w' (hx : Ext w w') => inR4_c A n c a w' (hr.ext hx).2 hr.1 (by omega))
  by_cases hrr : r < 0 ∨ (ls.length : Int) < r
  · have hE : overH s ls a r = 6 := if_pos hrr
    rw [hE]
    rw [show atH s ls r = .tuple #[.string ⟨#[]⟩, .int .i64 6] from if_pos hrr] at HAT
    clear hE hrr h hr hS hs HMA HIN hal hn1
    go_enter Tryz.func15, Tryz.ntmps15
    go_wp2_with fail
    refine HAT.out.mono ?_; rintro e w1 ⟨rfl, hx1⟩
    go_wp2_with fail
    go_ret2
    exact opR_err hx1 (by omega)
  · have hi0 : 0 ≤ r := by omega
    obtain ⟨j, rfl⟩ := Int.eq_ofNat_of_zero_le hi0
    rw [show atH s ls (j : Int) = .tuple #[.string (txt17 s ls j), .int .i64 0] by unfold atH; rw [if_neg hrr, Int.toNat_natCast]] at HAT
    by_cases hma : mayL a = 0
    · rw [hma] at HMA
      obtain ⟨hall, in0, in1⟩ := mayL_all hma (by omega)
      have hwi : wrap64 (inL a) = inL a := by unfold wrap64; omega
      rw [hwi] at HIN
      obtain ⟨ds, k1, k2, _⟩ := h.ok.txt hs.len (j := j) (by omega) hs.num
      have HCN := Lib.hid (fun w' => countR_c (txt17 s ls j) w' (by have := txt17_size (s := s) (ls := ls) j; have := hs.base; have := hs.sum; omega))
      by_cases hin : inL a = cntF (bs (txt17 s ls j))
      · have hE : overH s ls a (j : Int) = thruE a (ls.drop j) := by unfold overH; rw [if_neg hrr, if_neg (by omega), Int.toNat_natCast, if_neg (by omega)]
        have hL : overHL ls a (j : Int) = thruL a (ls.drop j) := by unfold overHL; rw [Int.toNat_natCast]
        rw [hE, hL]
        obtain ⟨⟨tv, lv, hh⟩, _⟩ := h
        obtain ⟨A2, d, rfl, hnd, hrss⟩ := hh.rd
        have y1 : w.cell? ⟨x, 1, none⟩ = some (.slice A2 ls.length d) := hh.box.cell rfl
        have hfr := hrss.from (k := j) (by omega)
        obtain ⟨AR, hAR⟩ : ∃ X : Option Addr, (if d = j then A2 else Option.map (fun x => x.add j) A2) = X := ⟨_, rfl⟩
        rw [hAR] at hfr
        have hb1 := lenS_take ls j
        have hS2 : SmT a (ls.drop j) := ⟨by omega, hS.txt, ⟨by have := hS.row.len; omega, by have := hS.row.txt; omega, by have := hS.row.num; rw [List.length_drop]; omega⟩⟩
        have HTH := Lib.hid (fun w' (hx : Ext w w') => thruR_c A n c a _ _ _ (ls.drop j) w' (hr.ext hx) (hfr.ext hx) hS2)
        have hjn : j ≤ ls.length := by omega
        have hsn := hs.num
        unfold OpR at HTH ⊢
        rw [← hin] at HCN
        clear hE hL hh hrss hfr hS2 hr hS hs hma hall hwi k1 k2 hrr hi0 hb1 hin
        generalize inL a = IN at *
        generalize txt17 s ls j = TJ at *
        generalize (if thruE a (ls.drop j) = 0 then thruL a (ls.drop j) else []) = RW at *
        generalize thruE a (ls.drop j) = TE at *
        generalize ls.length = m at *
        have g0 : (0 : Int) ≤ (j : Int) := by omega
        have g1 : (j : Int) ≤ (m : Int) := by omega
        have HQ1 : Hid (∀ V, Ext w V → V.cell? ⟨x, 1, none⟩ = some (.slice A2 m d)) := Lib.hid fun V hx => ext_cell hx y1
        clear y1
        go_enter Tryz.func15, Tryz.ntmps15
        go_wp2_with fail
        refine HAT.out.mono ?_; rintro e w1 ⟨rfl, hx1⟩
        go_wp2_with fail
        refine (HMA.out _ hx1).mono ?_; rintro e w2 ⟨rfl, hx2⟩
        have hx12 := hx1.trans hx2
        go_wp2_with fail
        refine (HIN.out _ hx12).mono ?_; rintro e w3 ⟨rfl, hx3⟩
        have hx13 := hx12.trans hx3
        go_wp2_with fail
        refine (HCN.out _).mono ?_; rintro e w4 ⟨rfl, hx4⟩
        have hx14 := hx13.trans hx4
        have y1 := HQ1.out _ hx14
        go_wp2_with fail
        refine (HTH.out _ hx14).mono ?_; rintro e w5 ⟨hx5, A5, n5, c5, rfl, r5⟩
        have R5 := Lib.hid r5
        clear r5
        go_wp2_with fail
        go_ret2
        exact ⟨hx14.trans hx5, _, _, _, rfl, R5.out⟩
      · have hE : overH s ls a (j : Int) = 5 := by unfold overH; rw [if_neg hrr, if_neg (by omega), Int.toNat_natCast, if_pos hin]
        rw [hE]
        have t1 : (inL a != cntF (bs (txt17 s ls j))) = true := by rw [bne_iff_ne]; exact hin
        have t2 : (inL a == cntF (bs (txt17 s ls j))) = false := by rw [beq_eq_false_iff_ne]; exact hin
        clear hE h hr hS hs hma hall hwi k1 k2 hrr hi0 hin in0 in1
        generalize cntF (bs (txt17 s ls j)) = NJ at *
        generalize inL a = IN at *
        generalize txt17 s ls j = TJ at *
        go_enter Tryz.func15, Tryz.ntmps15
        go_wp2_with fail
        refine HAT.out.mono ?_; rintro e w1 ⟨rfl, hx1⟩
        go_wp2_with fail
        refine (HMA.out _ hx1).mono ?_; rintro e w2 ⟨rfl, hx2⟩
        have hx12 := hx1.trans hx2
        go_wp2_with fail
        refine (HIN.out _ hx12).mono ?_; rintro e w3 ⟨rfl, hx3⟩
        have hx13 := hx12.trans hx3
        go_wp2_with fail
        refine (HCN.out _).mono ?_; rintro e w4 ⟨rfl, hx4⟩
        go_wp2_with fail
        go_ret2
        exact opR_err (hx13.trans hx4) (by omega)
    · have hE : overH s ls a (j : Int) = mayL a := by unfold overH; rw [if_neg hrr, if_pos hma]
      rw [hE]
      have t1 : (mayL a != 0) = true := by rw [bne_iff_ne]; exact hma
      have t2 : (mayL a == 0) = false := by rw [beq_eq_false_iff_ne]; exact hma
      have HMN := Lib.hid hma
      clear hE h hr hS hs hrr hi0 hma
      generalize mayL a = ME at *
      generalize txt17 s ls j = TJ at *
      go_enter Tryz.func15, Tryz.ntmps15
      go_wp2_with fail
      refine HAT.out.mono ?_; rintro e w1 ⟨rfl, hx1⟩
      go_wp2_with fail
      refine (HMA.out _ hx1).mono ?_; rintro e w2 ⟨rfl, hx2⟩
      go_wp2_with fail
      go_ret2
      exact opR_err (hx1.trans hx2) HMN.out
theorem runR17_c (x : Nat) (F : Nat → Prop) (s : ByteArray) (ls : List (List Sp)) (r t : Int) (w : World) (h : HRef17 w x F s ls) (hs : SmH s ls) (hS : Small ls) : Calls Tryz.prog 19 #[.pointer (some ⟨x, 0, none⟩), .int .i64 r, .int .i64 t] w (OpR w (runH s ls r t) (runHL s ls r t)) := by
  have hok := h.ok
  obtain ⟨⟨tv, lv, hh⟩, _⟩ := h
  obtain ⟨A2, d, rfl, hnd, hrss⟩ := hh.rd
  obtain ⟨a1, c1, rfl, _⟩ := hh.tx.len
  have hlen := txts17_len s ls
  have y0 : w.cell? ⟨x, 0, none⟩ = some (.slice a1 (txts17 s ls).length c1) := hh.box.cell rfl
  have y1 : w.cell? ⟨x, 1, none⟩ = some (.slice A2 ls.length d) := hh.box.cell rfl
  have hT := hh.tx
  rw [hlen] at y0 hT
  have hsn := hs.num
  by_cases hrr : r < 0 ∨ t < r ∨ (ls.length : Int) < t
  · have hE : runH s ls r t = 6 := if_pos hrr
    rw [hE]
    clear hE hh hT hlen hrss hok hs hS
    generalize ls.length = n at *
    have hr2 : r < 0 ∨ (0 ≤ r ∧ t < r) ∨ (0 ≤ r ∧ r ≤ t ∧ (n : Int) < t) := by omega
    clear hrr
    rcases hr2 with h1 | ⟨h1, h2⟩ | ⟨h1, h2, h3⟩
    · have d1 : decide (r < 0) = true := by rw [decide_eq_true_eq]; exact h1
      go_enter Tryz.func19, Tryz.ntmps19
      go_wp2_with fail
      go_ret2
      exact opR_err (Ext.refl _) (by omega)
    · have d1 : decide (r < 0) = false := by rw [decide_eq_false_iff_not]; omega
      have d2 : decide (t < r) = true := by rw [decide_eq_true_eq]; exact h2
      go_enter Tryz.func19, Tryz.ntmps19
      go_wp2_with fail
      go_ret2
      exact opR_err (Ext.refl _) (by omega)
    · have d1 : decide (r < 0) = false := by rw [decide_eq_false_iff_not]; omega
      have d2 : decide (t < r) = false := by rw [decide_eq_false_iff_not]; omega
      have d3 : decide ((n : Int) < t) = true := by rw [decide_eq_true_eq]; exact h3
      go_enter Tryz.func19, Tryz.ntmps19
      go_wp2_with fail
      go_ret2
      exact opR_err (Ext.refl _) (by omega)
  · obtain ⟨j, rfl⟩ := Int.eq_ofNat_of_zero_le (by omega : 0 ≤ r)
    obtain ⟨q, rfl⟩ := Int.eq_ofNat_of_zero_le (by omega : 0 ≤ t)
    obtain ⟨g, c', hv, _, _, _, hcell⟩ := hT.cells (by omega)
    injection hv with q1 _ _
    subst q1
    have y3 := hcell j _ (txts17_at s ls (by omega))
    have hE : runH s ls (j : Int) (q : Int) = chainE (cntF (bs (txt17 s ls j))) ((ls.take q).drop j) := by unfold runH; rw [if_neg hrr, Int.toNat_natCast, Int.toNat_natCast]
    have hL : runHL s ls (j : Int) (q : Int) = fuseL (cntF (bs (txt17 s ls j))) ((ls.take q).drop j) := by unfold runHL; rw [Int.toNat_natCast, Int.toNat_natCast]
    rw [hE, hL]
    have HCN := Lib.hid (fun w' => countR_c (txt17 s ls j) w' (by have := txt17_size (s := s) (ls := ls) j; have := hs.base; have := hs.sum; omega))
    have hfr := (hrss.take (k := q) (by omega)).from (k := j) (by omega)
    obtain ⟨AR, hAR⟩ : ∃ X : Option Addr, (if d = j then A2 else Option.map (fun x => x.add j) A2) = X := ⟨_, rfl⟩
    rw [hAR] at hfr
    have hb1 := lenS_take ls q
    have hb2 := lenS_take (ls.take q) j
    have hS2 : Small ((ls.take q).drop j) := ⟨by have := hS.len; omega, by have := hS.txt; omega, by have := hS.num; rw [List.length_drop, List.length_take]; omega⟩
    have HFU := Lib.hid (fun w' (hx : Ext w w') => ofR10_c _ _ _ ((ls.take q).drop j) (cntF (bs (txt17 s ls j))) w' (hfr.ext hx) hS2)
    have hjq : j ≤ q := by omega
    have hqn : q ≤ ls.length := by omega
    unfold OpR at HFU ⊢
    clear hE hL hh hrss hfr hS2 hs hS hrr hb1 hb2 hT hlen hcell hok
    generalize (if chainE (cntF (bs (txt17 s ls j))) ((ls.take q).drop j) = 0 then fuseL (cntF (bs (txt17 s ls j))) ((ls.take q).drop j) else []) = RW at *
    generalize chainE (cntF (bs (txt17 s ls j))) ((ls.take q).drop j) = TE at *
    generalize cntF (bs (txt17 s ls j)) = NJ at *
    generalize txt17 s ls j = TJ at *
    generalize ls.length = n at *
    have d1 : decide ((j : Int) < 0) = false := by rw [decide_eq_false_iff_not]; omega
    have d2 : decide ((q : Int) < (j : Int)) = false := by rw [decide_eq_false_iff_not]; omega
    have d3 : decide ((n : Int) < (q : Int)) = false := by rw [decide_eq_false_iff_not]; omega
    have g0 : (0 : Int) ≤ (j : Int) := by omega
    have g1 : (j : Int) < (n : Int) + 1 := by omega
    have g2 : (j : Int) < ((n + 1 : Nat) : Int) := by omega
    have g3 : (j : Int) ≤ (q : Int) := by omega
    have g4 : (q : Int) ≤ (d : Int) := by omega
    have g5 : (0 : Int) ≤ (q : Int) := by omega
    go_enter Tryz.func19, Tryz.ntmps19
    go_wp2_with fail
    have hrr := Ext.refl w
    go_region_held3 (fun V => Ext w V ∧ V.cell? ⟨x, 0, none⟩ = some (.slice (some ⟨g, 0, none⟩) (n + 1) c1) ∧ V.cell? ⟨x, 1, none⟩ = some (.slice A2 n d) ∧ V.cell? ⟨g, j, none⟩ = some (.string TJ))
      ((go_split_ands; refine ⟨?_, ?_, ?_, ?_⟩ <;> first | (exact Ext.drew ‹_›) | (exact Ext.trans ‹_› hxk) | (exact ext_cell hxk ‹_›) | go_keep))
      (first
      | (go_at_call 27; go_split_ands; refine (HCN.out _).mono ?_; rintro e u1 ⟨rfl, hxk⟩)
      | (go_at_call 42; go_split_ands; refine (HFU.out _ ‹Ext w _›).mono ?_; rintro e u2 ⟨hxk, A5, n5, c5, rfl, r5⟩)
      | fail)
    go_split_ands
    have hE := ‹Ext w u2›
    have R5 := Lib.hid r5
    clear r5
    go_wp2_with fail
    go_ret2
    exact ⟨hE, _, _, _, rfl, R5.out⟩
theorem app17_err {w w' : World} {x : Nat} {F : Nat → Prop} {s : ByteArray} {ls : List (List Sp)} {l : List Sp} {Z : Int} (h : HRef17 w x F s ls) (hx : Ext w w') (hE : appE s ls l = Z) (hz : Z ≠ 0) : AppR HRef17 w x F s ls l (.returned (.int .i64 Z)) w' := by
  refine ⟨by rw [hE], Kp.of_ext F hx, ?_⟩
  rw [show appLs s ls l = ls from if_neg (by rw [hE]; exact hz)]
  exact (h.ext hx).more (fun k hk => .inl hk) fun k hk => by
    rcases hk with hk | hk
    · exact Nat.lt_of_lt_of_le (h.lt k hk) hx.size
    · exact hk.2
theorem appR17_c (x : Nat) (F : Nat → Prop) (s : ByteArray) (ls : List (List Sp)) (A : Option Addr) (n c : Nat) (l : List Sp) (w : World) (h : HRef17 w x F s ls) (hs : SmH s ls) (hr : RdO w A n c l) (hA : ∀ b off, A = some ⟨b, off, none⟩ → ¬ F b) (hn : n ≤ 1000) (hu : sumT l ≤ 400000000) :
    Calls Tryz.prog 12 #[.pointer (some ⟨x, 0, none⟩), .slice A n c] w (AppR HRef17 w x F s ls l) := by
  have hl := hr.1
  have hts : ∀ u ∈ l, u.2.2.size ≤ 1000000000 := fun u hu2 => by have := le_sumT l u hu2; omega
  have HMA := Lib.hid (fun w' (hx : Ext w w') => mayR4_c A n c l w' (hr.ext hx).2 hl (by omega) hts)
  have HIN := Lib.hid (fun w' (hx : Ext w w') => inR4_c A n c l w' (hr.ext hx).2 hl (by omega))
  have HOU := Lib.hid (fun w' (hx : Ext w w') => outR4_c A n c l w' (hr.ext hx).2 hl (by omega) hts)
  have HH := Lib.hid h
  by_cases hma : mayL l = 0
  · rw [hma] at HMA
    obtain ⟨hall, in0, in1⟩ := mayL_all hma (by omega)
    have hok : ∀ x ∈ l, OkW x := fun x hx => okW_of_may (hall x hx)
    obtain ⟨ou0, ou1⟩ := outL_le l hok
    have hwi : wrap64 (inL l) = inL l := by unfold wrap64; omega
    have hwo : wrap64 (outL l) = outL l := by unfold wrap64; omega
    rw [hwi] at HIN; rw [hwo] at HOU
    have hsn := hs.num
    have hts2 := txt17_size (s := s) (ls := ls) ls.length
    have hsb := hs.base; have hss := hs.sum
    have HCN := Lib.hid (fun w' => countR_c (txt17 s ls ls.length) w' (by omega))
    have HTO := Lib.hid (fun w' (hx : Ext w w') => toR_c A n c l (txt17 s ls ls.length) w' (hr.ext hx).2 hl (by omega) hts (by omega) (by omega))
    have hNOK : Ok l := ⟨fun u hu2 => (hok u hu2).nonneg, by have := okW_N l hok; omega, by omega⟩
    have HOF := Lib.hid (fun w' (hx : RdO w' A n c l) => ofR5_c A n c l w' hx.2 hl (by omega) hNOK)
    have HRD := Lib.hid hr
    have HAW := Lib.hid hA
    have hok2 := h.ok
    have hap := fun e => hok_app (l := l) hok2 hs.len (by omega) e
    have hAL : appE s ls l = 0 → appLs s ls l = ls ++ [normL l] := fun e => if_pos e
    have hT : (∃ g a1 c1, ∃ tv lv, HS 40 w x F tv lv (txts17 s ls) ls ∧ tv = .slice (some ⟨g, 0, none⟩) (ls.length + 1) c1 ∧ w.cell? ⟨g, ls.length, none⟩ = some (.string (txt17 s ls ls.length)) ∧ a1 = g) := by
      obtain ⟨⟨tv, lv, hh⟩, _⟩ := h
      have ht := hh.tx
      rw [txts17_len] at ht
      obtain ⟨g, c', hv, _, _, _, hcell⟩ := ht.cells (by omega)
      exact ⟨g, g, c', tv, lv, hh, hv, hcell _ _ (txts17_at s ls (Nat.le_refl _)), rfl⟩
    obtain ⟨g, _, c1, tv, lv, hh, hv, z3, _⟩ := hT
    subst hv
    have z0 : w.cell? ⟨x, 0, none⟩ = some (.slice (some ⟨g, 0, none⟩) (ls.length + 1) c1) := hh.box.cell rfl
    have HHS := Lib.hid hh
    have hwm : IntKind.i64.wrap (((ls.length : Int) + 1) - 1) = (ls.length : Int) := by rw [IntKind.wrap_i64]; omega
    have hwm2 : IntKind.i64.wrap ((((ls.length + 1 : Nat)) : Int) - 1) = (ls.length : Int) := by rw [IntKind.wrap_i64]; omega
    have b0 : (0 : Int) ≤ (ls.length : Int) := by omega
    have b1 : (ls.length : Int) < (ls.length : Int) + 1 := by omega
    have b2 : (ls.length : Int) < ((ls.length + 1 : Nat) : Int) := by omega
    have hcn0 : 0 ≤ (ls.length) := Nat.zero_le _
    by_cases hin : inL l = cntF (bs (txt17 s ls ls.length))
    · by_cases hou : 1048576 < outL l
      · have HE : Hid (appE s ls l = 4) := Lib.hid (by unfold appE; rw [if_neg (by omega), if_neg (by omega), if_pos hou])
        have HNZ : Hid ((4 : Int) ≠ 0) := Lib.hid (by omega)
        rw [← hin] at HCN
        clear hh hap hAL hok2 hNOK hok hall hwi hwo hr hs hts hma HOF HTO h hin hcn0 hl
        generalize inL l = IN at *
        generalize outL l = OU at *
        generalize txt17 s ls ls.length = TL at *
        generalize ls.length = m at *
        go_enter Tryz.func12, Tryz.ntmps12
        go_wp2_with fail
        refine (HMA.out _ (Ext.refl _)).mono ?_; rintro e w1 ⟨rfl, hx1⟩
        have y0 := ext_cell hx1 z0
        have y3 := ext_cell hx1 z3
        go_wp2_with fail
        go_quiet (fail)
        obtain ⟨wd, hwd⟩ : ∃ V, w1.drewN nq = V := ⟨_, rfl⟩
        have hx1d : Ext w wd := by rw [← hwd]; exact hx1.drewN nq
        rw [hwd]
        clear hwd y0 y3 hx1
        go_wp2_with fail
        refine (HIN.out _ hx1d).mono ?_; rintro e w2 ⟨rfl, hx2⟩
        have hx12 := hx1d.trans hx2
        go_wp2_with fail
        refine (HCN.out _).mono ?_; rintro e w3 ⟨rfl, hx3⟩
        have hx13 := hx12.trans hx3
        go_wp2_with fail
        refine (HOU.out _ hx13).mono ?_; rintro e w4 ⟨rfl, hx4⟩
        have hx14 := hx13.trans hx4
        go_wp2_with fail
        go_ret
        exact app17_err HH.out hx14 HE.out HNZ.out
      · have hE : appE s ls l = 0 := by unfold appE; rw [if_neg (by omega), if_neg (by omega), if_neg hou]
        obtain ⟨p1, p2, p3⟩ := hap hE
        have HAPE : Hid (appE s ls l = 0 ∧ appLs s ls l = ls ++ [normL l] ∧ Hok s (ls ++ [normL l]) ∧ txts17 s (ls ++ [normL l]) = txts17 s ls ++ [toS l (txt17 s ls ls.length)]) := Lib.hid ⟨hE, hAL hE, p1, p2⟩
        unfold toV at HTO
        rw [p3] at HTO
        rw [← hin] at HCN
        obtain ⟨i, hi, hz0, hz1, hz2⟩ := info_parts info_str
        obtain ⟨ii, hi', hz0', hz1', hz2'⟩ := info_parts info_ss
        have HLE : Hid ((txts17 s ls).length = ls.length + 1) := Lib.hid (txts17_len s ls)
        clear hh hap hAL hok2 hNOK hok hall hwi hwo hr hs hts hma h hin hcn0 hE p1 p2 p3 hl
        generalize toS l (txt17 s ls ls.length) = TN at *
        generalize inL l = IN at *
        generalize outL l = OU at *
        generalize txt17 s ls ls.length = TL at *
        obtain ⟨m, hm⟩ : ∃ m, ls.length = m := ⟨_, rfl⟩
        rw [hm] at HLE z0 z3 hwm hwm2 b0 b1 b2 hsn HHS
        have HM := Lib.hid hm
        clear hm
        go_enter Tryz.func12, Tryz.ntmps12
        go_wp2_with fail
        refine (HMA.out _ (Ext.refl _)).mono ?_; rintro e w1 ⟨rfl, hx1⟩
        have y0 := ext_cell hx1 z0
        have y3 := ext_cell hx1 z3
        go_wp2_with fail
        go_quiet (fail)
        obtain ⟨wd, hwd⟩ : ∃ V, w1.drewN nq = V := ⟨_, rfl⟩
        have hx1d : Ext w wd := by rw [← hwd]; exact hx1.drewN nq
        rw [hwd]
        clear hwd y0 y3 hx1
        go_wp2_with fail
        refine (HIN.out _ hx1d).mono ?_; rintro e w2 ⟨rfl, hx2⟩
        have hx12 := hx1d.trans hx2
        go_wp2_with fail
        refine (HCN.out _).mono ?_; rintro e w3 ⟨rfl, hx3⟩
        have hx13 := hx12.trans hx3
        go_wp2_with fail
        refine (HOU.out _ hx13).mono ?_; rintro e w4 ⟨rfl, hx4⟩
        have hx14 := hx13.trans hx4
        go_wp2_with fail
        refine (HTO.out _ hx14).mono ?_; rintro e w5 ⟨rfl, hx5⟩
        have hx15 := hx14.trans hx5
        have h5 := HHS.out.ext hx15
        have t5 := h5.tx
        rw [HLE.out] at t5
        obtain ⟨v2, W6, happ, hown2, hbel2, hkp2, hsz2, hwh2⟩ := app_newg (P := Tryz.prog) 38 38 9 i _ 1 16 Tryz.underlying38 hi hz0 hz1 hz2 rfl (by omega) (by omega)
          t5 (by omega) 1 #[.string TN] rfl (by omega) (by simp [Value.oneCell']) 9
        have hts5 : Own W6 0 9 1 v2 ((txts17 s ls).length + 1) (strV (txts17 s ls ++ [TN])) := by
          rw [HLE.out]
          have e : strV (txts17 s ls ++ [TN]) = strV (txts17 s ls) ++ [.string TN] := by unfold strV; rw [List.map_append]; rfl
          rw [e]; exact hown2
        have hx5x : W6.heap[x]? = w5.heap[x]? := hkp2 x h5.box.lt fun hq => by
          obtain ⟨cur2, hc⟩ := t5.typ hq
          exact typ_ne h5.box hc (by decide) rfl
        have hb6 : BxT 40 W6 x #[.slice (some ⟨g, 0, none⟩) (m + 1) c1, lv] := hx5x.trans h5.box
        have y0 : w5.cell? ⟨x, 0, none⟩ = some (.slice (some ⟨g, 0, none⟩) (m + 1) c1) := h5.box.cell rfl
        have y6 : W6.cell? ⟨x, 0, none⟩ = some (.slice (some ⟨g, 0, none⟩) (m + 1) c1) := hb6.cell rfl
        have f6 := hb6.frozen 0
        have K6 : Kp F w5 (W6.setCell ⟨x, 0, none⟩ v2) := (kp_app (hbel2 (Below.refl 0 w5)) hkp2 h5.ft).set ⟨x, 0, none⟩ v2 (.inl h5.fx)
        have h6 := h5.text (by decide) (by decide) (by decide) (by decide) (by decide) hts5 hkp2 hsz2 hwh2
        obtain ⟨a6, c6, rfl, _⟩ := hown2.len
        have HAP := Lib.hid happ; have H6 := Lib.hid h6; have HK6 := Lib.hid ((Kp.of_ext F hx15).trans K6); have HX15 := Lib.hid hx15
        clear happ hown2 hbel2 hkp2 hsz2 hwh2 hts5 hx5x hb6 K6 h6 h5 t5 hx14 hx13 hx12 hx1d hx2 hx3 hx4 hx5
        go_wp2_with (at_builtin; refine wpList_append_run rfl rfl HAP.out rfl rfl ?_)
        obtain ⟨W7, hW7⟩ : ∃ V, W6.setCell ⟨x, 0, none⟩ (.slice a6 (m + 1 + 1) c6) = V := ⟨_, rfl⟩
        have hG7 : ∀ k, Gr F w5 W6 k → Gr F w W7 k := fun k hk => by
          rcases hk with hk | hk
          · exact .inl hk
          · exact .inr ⟨Nat.le_trans HX15.out.size hk.1, by rw [← hW7]; simpa [World.setCell] using hk.2⟩
        rw [hW7] at H6 HK6 ⊢
        clear hW7 y0 y6 f6 HAP
        have h7 : HS 40 W7 x (Gr F w W7) (.slice a6 (m + 1 + 1) c6) lv (txts17 s ls ++ [TN]) ls := H6.out.more hG7 fun k hk => by
          rcases hk with hk | hk
          · exact Nat.lt_of_lt_of_le (HHS.out.lt k hk) HK6.out.size
          · exact hk.2
        obtain ⟨al, dl, rfl, _⟩ := h7.rd
        have HFL := Lib.hid HHS.out.fl; have HFX := Lib.hid HHS.out.fx
        have y1 : W7.cell? ⟨x, 1, none⟩ = some (.slice al ls.length dl) := h7.box.cell rfl
        have H7 := Lib.hid h7
        have HOF7 := Lib.hid (fun V (hx : Ext W7 V) => HOF.out V ((rdO_kp HRD.out HK6.out HAW.out).ext hx))
        clear h7 hG7 H6
        refine region_T (fun V => V.cell? ⟨x, 1, none⟩ = some (.slice al ls.length dl)) 11 (by kernel_rfl) (ext_cell (Ext.refl _).drew y1) (fun hHeld => ?_)
        obtain ⟨Wd, hWd⟩ : ∃ x, W7.drew = x := ⟨_, rfl⟩
        rw [hWd] at hHeld ⊢
        have hdx : Ext W7 Wd := by rw [← hWd]; exact (Ext.refl _).drew
        clear hWd
        refine wpAnyT_take (i := 0) (v := ?_) rfl (by kernel_rfl) (fun _ _ _ h => h) (Or.inl ⟨by rfl, ?_⟩) (by assumption) ?_
        rotate_left
        · (intro W hSw; (try dsimp only at hSw); go_simp; (try with_reducible rfl))
        try simp only [Act.put, List.getElem_toArray, List.getElem_cons_succ, List.getElem_cons_zero, List.setIfInBounds_toArray, List.set_cons_zero, List.set_cons_succ]
        refine wpAnyT_take (i := 1) (v := ?_) rfl (by kernel_rfl) (fun _ _ _ h => h) (Or.inl ⟨by rfl, ?_⟩) (by assumption) ?_
        rotate_left
        · (intro W hSw; (try dsimp only at hSw); go_simp; (try with_reducible rfl))
        try simp only [Act.put, List.getElem_toArray, List.getElem_cons_succ, List.getElem_cons_zero, List.setIfInBounds_toArray, List.set_cons_zero, List.set_cons_succ]
        refine wpAnyT_take (i := 2) (v := ?_) rfl (by kernel_rfl) (fun _ _ _ h => h) (Or.inl ⟨by rfl, ?_⟩) (by assumption) ?_
        rotate_left
        · (intro W hSw; (try dsimp only at hSw); go_simp; (try with_reducible rfl))
        try simp only [Act.put, List.getElem_toArray, List.getElem_cons_succ, List.getElem_cons_zero, List.setIfInBounds_toArray, List.set_cons_zero, List.set_cons_succ]
        refine wpAnyT_take (i := 3) (v := ?_) rfl (by kernel_rfl) (fun _ _ _ h => h) (Or.inl ⟨by rfl, ?_⟩) (by assumption) ?_
        rotate_left
        · (intro W hSw; (try dsimp only at hSw); go_simp; (try with_reducible rfl))
        try simp only [Act.put, List.getElem_toArray, List.getElem_cons_succ, List.getElem_cons_zero, List.setIfInBounds_toArray, List.set_cons_zero, List.set_cons_succ]
        refine wpAnyT_take (i := 4) (v := ?_) rfl (by kernel_rfl) (fun _ _ _ h => h) (Or.inl ⟨by rfl, ?_⟩) (by assumption) ?_
        rotate_left
        · (intro W hSw; (try dsimp only at hSw); go_simp; (try with_reducible rfl))
        try simp only [Act.put, List.getElem_toArray, List.getElem_cons_succ, List.getElem_cons_zero, List.setIfInBounds_toArray, List.set_cons_zero, List.set_cons_succ]
        refine wpAnyT_take (i := 5) (v := ?_) rfl (by kernel_rfl) (fun _ _ _ h => h) (Or.inl ⟨by rfl, ?_⟩) (by assumption) ?_
        rotate_left
        · (intro W hSw; (try dsimp only at hSw); go_simp; (try with_reducible rfl))
        try simp only [Act.put, List.getElem_toArray, List.getElem_cons_succ, List.getElem_cons_zero, List.setIfInBounds_toArray, List.set_cons_zero, List.set_cons_succ]
        refine wpAnyT_one (i := 6) rfl (by kernel_rfl) (fun K hK => ?_)
        go_simp
        refine (HOF7.out _ hdx).mono ?_; rintro e w8 ⟨v8, rfl, hx8, own8⟩
        obtain ⟨a8, c8, rfl, _⟩ := own8.len
        have hd8 := hdx.trans hx8
        refine hK.out _ _ (fun _ => ext_cell hd8 y1) (fun hH => ?_)
        replace hHeld := hH (by decide)
        clear hK K hH
        try simp only [Act.put, List.getElem_toArray, List.getElem_cons_succ, List.getElem_cons_zero, List.setIfInBounds_toArray, List.set_cons_zero, List.set_cons_succ]
        refine wpAnyT_one (i := 7) rfl (by kernel_rfl) (fun K hK => ?_)
        go_simp
        refine hK.out _ _ (fun _ => ext_cell (hd8.alloc _) y1) (fun hH => ?_)
        replace hHeld := hH (by decide)
        clear hK K hH
        try simp only [Act.put, List.getElem_toArray, List.getElem_cons_succ, List.getElem_cons_zero, List.setIfInBounds_toArray, List.set_cons_zero, List.set_cons_succ]
        refine wpAnyT_one (i := 8) rfl (by kernel_rfl) (fun K hK => ?_)
        obtain ⟨nF, hnF⟩ : ∃ nF, (normL l).length = nF := ⟨_, rfl⟩
        rw [hnF] at own8 ⊢
        have h8 : HS 40 w8 x (Gr F w w8) (.slice a6 (m + 1 + 1) c6) (.slice al ls.length dl) (txts17 s ls ++ [TN]) ls := (H7.out.ext hd8).more (fun k hk => by
          rcases hk with hk | hk
          · exact .inl hk
          · exact .inr ⟨hk.1, Nat.lt_of_lt_of_le hk.2 hd8.size⟩) fun k hk => by
          rcases hk with hk | hk
          · exact Nat.lt_of_lt_of_le (HHS.out.lt k hk) (Nat.le_trans HK6.out.size hd8.size)
          · exact hk.2
        obtain ⟨vs8, hro8, hrow8⟩ := h8.ro
        have HPU := Lib.hid (push17 (P := Tryz.prog) Tryz.underlying22 hi' hz0' hz1' hz2' rfl hro8 (by rw [HM.out]; omega) (.slice a8 nF c8) rfl)
        refine step_append_ex (by rfl) _ _ _ (by rfl) (by rfl) (by rfl) HPU.out ?_
        rintro v9 W9 ⟨ow9, be9, kp9, sz9, wh9⟩
        obtain ⟨a9, c9, rfl, _⟩ := ow9.len
        have hx9 : W9.heap[x]? = w8.heap[x]? := kp9 x h8.box.lt fun hq => by
          obtain ⟨cur2, hc⟩ := hro8.typ hq
          exact typ_ne h8.box hc (by decide) rfl
        have hb9 : BxT 40 W9 x #[.slice a6 (m + 1 + 1) c6, .slice al ls.length dl] := hx9.trans h8.box
        have y9 : W9.cell? ⟨x, 1, none⟩ = some (.slice al ls.length dl) := hb9.cell rfl
        have f9 := hb9.frozen 1
        refine hK.out _ _ (fun _ => y9) (fun hH => ?_)
        replace hHeld := hH (by decide)
        clear hK K hH
        try simp only [Act.put, List.getElem_toArray, List.getElem_cons_succ, List.getElem_cons_zero, List.setIfInBounds_toArray, List.set_cons_zero, List.set_cons_succ]
        refine wpAnyT_take (i := 9) (v := ?_) rfl (by kernel_rfl) (fun _ _ _ h => h) (Or.inl ⟨by rfl, ?_⟩) (by assumption) ?_
        rotate_left
        · (intro W hSw; (try dsimp only at hSw); go_simp; (try with_reducible rfl))
        try simp only [Act.put, List.getElem_toArray, List.getElem_cons_succ, List.getElem_cons_zero, List.setIfInBounds_toArray, List.set_cons_zero, List.set_cons_succ]
        refine wpAnyT_take (i := 10) (v := ?_) rfl (by kernel_rfl) (fun _ _ _ h => h) (Or.inl ⟨by rfl, ?_⟩) (by assumption) ?_
        rotate_left
        · (intro W hSw; (try dsimp only at hSw); go_simp; (try with_reducible rfl))
        try simp only [Act.put, List.getElem_toArray, List.getElem_cons_succ, List.getElem_cons_zero, List.setIfInBounds_toArray, List.set_cons_zero, List.set_cons_succ]
        refine wpAnyT_one (i := 11) rfl (by kernel_rfl) (fun K hK => ?_)
        go_simp
        refine hK.out _ _ (fun h => absurd rfl h) (fun _ => ?_)
        clear hK K hHeld
        try simp only [Act.put, List.getElem_toArray, List.getElem_cons_succ, List.getElem_cons_zero, List.setIfInBounds_toArray, List.set_cons_zero, List.set_cons_succ]
        refine wpAnyT_done (by kernel_rfl) ?_ _
        have h10 := h8.row (by decide) (by decide) (by decide) (by decide) (by decide) hro8 hrow8 (l := normL l) (by rw [hnF]; exact own8) (fun k hk => .inr ⟨Nat.le_trans HK6.out.size (Nat.le_trans hdx.size (own8.lt hk).1), (own8.lt hk).2⟩) ow9 kp9 sz9 wh9
        have K10 : Kp F w (W9.setCell ⟨x, 1, none⟩ (.slice a9 (ls.length + 1) c9)) := (HK6.out.trans (Kp.of_ext F hd8)).trans ((kp_app be9 kp9 HFL.out).set ⟨x, 1, none⟩ (.slice a9 (ls.length + 1) c9) (.inl HFX.out))
        have H10 := Lib.hid h10; have HK10 := Lib.hid K10; have HLT := Lib.hid HHS.out.lt; have HS9 := Lib.hid sz9; have HS8 := Lib.hid (Nat.le_trans HK6.out.size hd8.size)
        clear h10 K10 h8 hro8 hrow8 own8 ow9 be9 kp9 sz9 wh9 hx9 hb9 y9 f9 y1 hx8 hd8 HPU
        go_wp2_with fail
        go_ret
        obtain ⟨q1, q2, q3, q4⟩ := HAPE.out
        refine ⟨by rw [q1]; rfl, HK10.out, ?_⟩
        rw [q2]
        refine ⟨?_, q3⟩
        rw [q4]
        refine ⟨_, _, H10.out.more (fun k hk => ?_) fun k hk => ?_⟩
        · rcases hk with hk | hk
          · rcases hk with hk | hk
            · exact .inl hk
            · exact .inr ⟨hk.1, by have := HS9.out; simp only [World.setCell, Array.size_setIfInBounds, Array.size_modify]; omega⟩
          · exact .inr ⟨Nat.le_trans HS8.out hk.1, by simpa [World.setCell] using hk.2⟩
        · rcases hk with hk | hk
          · exact Nat.lt_of_lt_of_le (HLT.out k hk) HK10.out.size
          · exact hk.2
    · have HE : Hid (appE s ls l = 5) := Lib.hid (by unfold appE; rw [if_neg (by omega), if_pos hin])
      have HNZ : Hid ((5 : Int) ≠ 0) := Lib.hid (by omega)
      have t1 : (inL l != cntF (bs (txt17 s ls ls.length))) = true := by rw [bne_iff_ne]; exact hin
      have t2 : (inL l == cntF (bs (txt17 s ls ls.length))) = false := by rw [beq_eq_false_iff_ne]; exact hin
      clear hh hap hAL hok2 hNOK hok hall hwi hwo hr hs hts hma HOF HTO h hin hcn0 hl
      generalize cntF (bs (txt17 s ls ls.length)) = NJ at *
      generalize inL l = IN at *
      generalize outL l = OU at *
      generalize txt17 s ls ls.length = TL at *
      generalize ls.length = m at *
      go_enter Tryz.func12, Tryz.ntmps12
      go_wp2_with fail
      refine (HMA.out _ (Ext.refl _)).mono ?_; rintro e w1 ⟨rfl, hx1⟩
      have y0 := ext_cell hx1 z0
      have y3 := ext_cell hx1 z3
      go_wp2_with fail
      go_quiet (fail)
      obtain ⟨wd, hwd⟩ : ∃ V, w1.drewN nq = V := ⟨_, rfl⟩
      have hx1d : Ext w wd := by rw [← hwd]; exact hx1.drewN nq
      rw [hwd]
      clear hwd y0 y3 hx1
      go_wp2_with fail
      refine (HIN.out _ hx1d).mono ?_; rintro e w2 ⟨rfl, hx2⟩
      have hx12 := hx1d.trans hx2
      go_wp2_with fail
      refine (HCN.out _).mono ?_; rintro e w3 ⟨rfl, hx3⟩
      have hx13 := hx12.trans hx3
      go_wp2_with fail
      go_ret
      exact app17_err HH.out hx13 HE.out HNZ.out
  · have HE : Hid (appE s ls l = mayL l) := Lib.hid (by unfold appE; rw [if_pos hma])
    have HNZ := Lib.hid hma
    have t1 : (mayL l != 0) = true := by rw [bne_iff_ne]; exact hma
    have t2 : (mayL l == 0) = false := by rw [beq_eq_false_iff_ne]; exact hma
    clear h hr hs hts hma HIN HOU hl
    generalize mayL l = ME at *
    go_enter Tryz.func12, Tryz.ntmps12
    go_wp2_with fail
    refine (HMA.out _ (Ext.refl _)).mono ?_; rintro e w1 ⟨rfl, hx1⟩
    go_wp2_with fail
    go_ret
    exact app17_err HH.out hx1 HE.out HNZ.out
end Go.Proofs.YtgcaphjjigpjlaaGreatDoor
namespace Go.Proofs.YtgcaphjjigpjlaaGreatDoor
open Go.RowKit
set_option maxRecDepth 100000
set_option maxHeartbeats 4000000
set_option linter.unusedSimpArgs false
theorem logR17_c (x : Nat) (F : Nat → Prop) (s : ByteArray) (ls : List (List Sp)) (w : World) (h : HRef17 w x F s ls) (hs : SmH s ls) : Calls Tryz.prog 23 #[.pointer (some ⟨x, 0, none⟩)] w (LogR w s ls) := by
  obtain ⟨i, hi, hz0, hz1, hz2⟩ := info_parts info_sp5
  obtain ⟨ii, hi', hz0', hz1', hz2'⟩ := info_parts info_ss
  obtain ⟨ij, hj', hy0', hy1', hy2'⟩ := info_parts info_int
  obtain ⟨⟨tv, lv, hh⟩, _⟩ := h
  obtain ⟨al, dl, rfl, hnd, hrss⟩ := hh.rd
  have hT := hh.tx
  rw [txts17_len] at hT
  obtain ⟨g, c', rfl, _, _, _, hcell⟩ := hT.cells (by omega)
  have z3 := hcell 0 _ (txts17_at s ls (Nat.zero_le _))
  rw [show txt17 s ls 0 = s by unfold txt17; rw [List.take_zero]; rfl] at z3
  have y0 : w.cell? ⟨x, 0, none⟩ = some (.slice (some ⟨g, 0, none⟩) (ls.length + 1) c') := hh.box.cell rfl
  have y1 : w.cell? ⟨x, 1, none⟩ = some (.slice al ls.length dl) := hh.box.cell rfl
  have hxl := hh.box.lt
  have hsn := hs.num
  obtain ⟨n, hn⟩ : ∃ n, ls.length = n := ⟨_, rfl⟩
  have HL := Lib.hid hn
  unfold LogR
  rw [hn] at y0 y1 hsn hrss ⊢
  have HRS := Lib.hid hrss; have HLE := Lib.hid hs.len
  have HY1 : Hid (∀ V, Ext w V → V.cell? ⟨x, 1, none⟩ = some (.slice al n dl)) := Lib.hid fun V hx => ext_cell hx y1
  obtain ⟨W0, hW0⟩ : ∃ V, w.alloc (.cells #[.string ⟨#[]⟩, .slice none 0 0, .slice none 0 0] 56) = V := ⟨_, rfl⟩
  obtain ⟨z, hz⟩ : ∃ z, w.heap.size = z := ⟨_, rfl⟩
  have hX0 : Ext w W0 := by rw [← hW0]; exact (Ext.refl w).alloc _
  have hRB : BxT 56 W0 z #[.string ⟨#[]⟩, .slice none 0 0, .slice none 0 0] := by rw [← hW0, ← hz]; exact BxT.new w 56 _
  have p0 := ext_cell ((Ext.refl w).alloc (.cells #[.string ⟨#[]⟩, .slice none 0 0, .slice none 0 0] 56)) y0
  have p3 := ext_cell ((Ext.refl w).alloc (.cells #[.string ⟨#[]⟩, .slice none 0 0, .slice none 0 0] 56)) z3
  obtain ⟨W2, hW2⟩ : ∃ V, W0.alloc (.cells #[.int .i64 0] 3) = V := ⟨_, rfl⟩
  have hX2 : Ext W0 W2 := by rw [← hW2]; exact (Ext.refl W0).alloc _
  have hR2 : Own W2 w.heap.size 3 1 (.slice (some ⟨W0.heap.size, 0, none⟩) 1 1) 1 (nV (revL 0)) := by rw [← hW2]; exact Own.made W0 w.heap.size 3 1 1 #[.int .i64 0] hX0.size (by omega) rfl
  obtain ⟨r0, hr0⟩ : ∃ r, W0.heap.size = r := ⟨_, rfl⟩
  rw [hr0] at hR2
  have hr1 : r0 = z + 1 := by rw [← hr0, ← hW0, size_alloc, hz]
  obtain ⟨y, hy⟩ : ∃ y, W2.heap.size = y := ⟨_, rfl⟩
  obtain ⟨W3, hW3⟩ : ∃ V, W2.alloc (.cells #[.string s, .slice (some ⟨r0, 0, none⟩) 1 1, .slice none 0 0] 56) = V := ⟨_, rfl⟩
  have hX3 : Ext W2 W3 := by rw [← hW3]; exact (Ext.refl W2).alloc _
  have hBX : BxT 56 W3 y #[.string s, .slice (some ⟨r0, 0, none⟩) 1 1, .slice none 0 0] := by rw [← hW3, ← hy]; exact BxT.new W2 56 _
  have hx03 : Ext w W3 := (hX0.trans hX2).trans hX3
  have hye : r0 + 1 = y := by rw [← hy, ← hW2, size_alloc, hr0]
  have hzr : z + 1 = r0 := hr1.symm
  have HYE := Lib.hid hye; have HZR := Lib.hid hzr
  have HST0 : Hid (FitSt w W3 W3 z y s 0 (ls.take 0) (.slice (some ⟨r0, 0, none⟩) 1 1) (.slice none 0 0)) := Lib.hid
    ⟨by omega, by omega, hBX.lt, hx03, hRB.ext (hX2.trans hX3), hBX, hR2.ext hX3, ⟨[], Own.nil _ _ _ _ (Nat.le_refl _), fun i l hl => by simp at hl⟩, hx03, Keep2.refl _ _ _⟩
  have HW0 := Lib.hid hW0; have HZ := Lib.hid hz; have HW2 := Lib.hid hW2; have HW3 := Lib.hid hW3; have HR0 := Lib.hid hr0; have HY := Lib.hid hy
  have HXW : Hid (x < w.heap.size) := Lib.hid hxl
  clear hh hT hcell hrss hRB hBX hR2 hX2 hX3 hW0 hz hW2 hW3 hr0 hy hye hr1 hzr y0 y1 z3 hn hs hxl
  go_enter Tryz.func23, Tryz.ntmps23
  go_wp2_with fail
  rw [HW0.out, HZ.out, HZR.out, HW2.out, HYE.out, HW3.out]
  obtain ⟨WQ, hWQ⟩ : ∃ V, W3 = V := ⟨_, rfl⟩
  rw [hWQ] at HST0 HW3 ⊢
  clear hWQ
  go_loopw [4] (fun iv wr => ∃ (j : Nat) (vr vs : Value), j ≤ n ∧ iv = .int .i64 j ∧ Hid (FitSt w WQ wr z y s j (ls.take j) vr vs)) (fun iv _ => n - (intOf iv).toNat)
  case atStart => exact ⟨0, _, _, by omega, rfl, HST0⟩
  case round =>
    clear HST0 p0 p3
    obtain ⟨j, vr, vs, hj, rfl, HST⟩ := hrel
    obtain ⟨ra, rc, rfl, _⟩ := HST.out.rev.len
    have c0 : wr.cell? ⟨y, 0, none⟩ = some (.string s) := HST.out.box.cell rfl
    have c1 : wr.cell? ⟨y, 1, none⟩ = some (.slice ra (j + 1) rc) := HST.out.box.cell rfl
    have c2 : wr.cell? ⟨y, 2, none⟩ = some vs := HST.out.box.cell rfl
    have y1 := HY1.out _ HST.out.ext
    by_cases hlt : j < n
    · have dn : decide (j < n) = true := by rw [decide_eq_true_eq]; exact hlt
      have hjl : j < ls.length := by have := HL.out; omega
      have HTK : Hid (ls.take (j + 1) = ls.take j ++ [ls[j]]) := Lib.hid (by rw [List.take_add_one, List.getElem?_eq_getElem hjl]; rfl)
      have hsl : (ls.take j).length ≤ 1000 := by rw [List.length_take]; omega
      obtain ⟨bb, off, a2, kc2, rfl, hbb, q00, hr00⟩ := HRS.out.at_ hlt hjl
      have i0 : (0 : Int) ≤ (j : Int) := by omega
      have i1 : (j : Int) < (n : Int) := by omega
      have hlen := HLE.out _ (List.getElem_mem hjl)
      obtain ⟨RW, hRW⟩ : ∃ l, ls[j] = l := ⟨_, rfl⟩
      rw [hRW] at q00 hr00 hlen HTK
      obtain ⟨k, hk⟩ : ∃ k, RW.length = k := ⟨_, rfl⟩
      rw [hk] at q00 hr00 hlen
      have HRL := Lib.hid hk
      obtain ⟨SG, hSG⟩ : ∃ X, ls.take j = X := ⟨_, rfl⟩
      rw [hSG] at HST HTK hsl
      clear hSG hRW hk
      obtain ⟨v', w', happ, hown', hbel', hoth⟩ := app_newo (P := Tryz.prog) 54 54 3 ij _ 1 8 Tryz.underlying54 hj' hy0' hy1' hy2' rfl (by omega) (by omega)
        HST.out.ext HST.out.rev (by omega) 1 #[.int .i64 ((j : Int) + 1)] rfl (by omega) (by simp [Value.oneCell']) 3
      obtain ⟨va, vc, rfl, _⟩ := hown'.len
      have HAP := Lib.hid happ
      have HS2 := Lib.hid (HST.out.number hown' hbel' hoth)
      have hb1 : BxT 56 w' y #[.string s, .slice ra (j + 1) rc, vs] := hoth.2 y _ _ _ (by decide) HST.out.box
      have d1 : w'.cell? ⟨y, 1, none⟩ = some (.slice ra (j + 1) rc) := hb1.cell rfl
      have f1 := hb1.frozen 1
      clear happ hown' hbel' hoth hb1
      go_wp2_with (at_builtin; refine wpList_append_run rfl rfl HAP.out rfl rfl ?_)
      obtain ⟨W3, hW3⟩ : ∃ V, w'.setCell ⟨y, 1, none⟩ (.slice va (j + 1 + 1) vc) = V := ⟨_, rfl⟩
      rw [hW3] at HS2 ⊢
      clear hW3 d1 f1 HAP c0 c1 c2 y1 HST
      have HST2 := HS2
      obtain ⟨sa, sc, rfl, _⟩ := HST2.out.sgs.rd
      have g2 : W3.cell? ⟨y, 2, none⟩ = some (.slice sa SG.length sc) := HST2.out.box.cell rfl
      have gx := HY1.out _ HST2.out.ext
      have q0 := ext_cell (HST2.out.ext) q00
      have f2 := HST2.out.box.frozen 2
      have HRW := Lib.hid (hr00.ext HST2.out.ext)
      have HXQ : Hid (x < WQ.heap.size) := Lib.hid (Nat.lt_of_lt_of_le HXW.out HST2.out.h0.size)
      clear HS2 q00 hr00
      refine region_T (fun V => V.cell? ⟨y, 2, none⟩ = some (.slice sa SG.length sc) ∧ V.cell? ⟨x, 1, none⟩ = some (.slice (some ⟨bb, off, none⟩) n dl) ∧ V.cell? ⟨bb, off + j, none⟩ = some (.slice a2 k kc2)) 14 (by kernel_rfl) (⟨ext_cell (Ext.refl _).drew g2, ext_cell (Ext.refl _).drew gx, ext_cell (Ext.refl _).drew q0⟩) (fun hHeld => ?_)
      obtain ⟨Wd, hWd⟩ : ∃ x, W3.drew = x := ⟨_, rfl⟩
      rw [hWd] at hHeld ⊢
      have hdx : Ext W3 Wd := by rw [← hWd]; exact (Ext.refl _).drew
      clear hWd
      refine wpAnyT_take (i := 0) (v := ?_) rfl (by kernel_rfl) (fun _ _ _ h => h) (Or.inl ⟨by rfl, ?_⟩) (by assumption) ?_
      rotate_left
      · (intro W hSw; (try dsimp only at hSw); go_simp; (try with_reducible rfl))
      try simp only [Act.put, List.getElem_toArray, List.getElem_cons_succ, List.getElem_cons_zero, List.setIfInBounds_toArray, List.set_cons_zero, List.set_cons_succ]
      refine wpAnyT_take (i := 1) (v := ?_) rfl (by kernel_rfl) (fun _ _ _ h => h) (Or.inl ⟨by rfl, ?_⟩) (by assumption) ?_
      rotate_left
      · (intro W hSw; (try dsimp only at hSw); go_simp; (try with_reducible rfl))
      try simp only [Act.put, List.getElem_toArray, List.getElem_cons_succ, List.getElem_cons_zero, List.setIfInBounds_toArray, List.set_cons_zero, List.set_cons_succ]
      refine wpAnyT_take (i := 3) (v := ?_) rfl (by kernel_rfl) (fun _ _ _ h => h) (Or.inl ⟨by rfl, ?_⟩) (by assumption) ?_
      rotate_left
      · (intro W hSw; (try dsimp only at hSw); go_simp; (try with_reducible rfl))
      try simp only [Act.put, List.getElem_toArray, List.getElem_cons_succ, List.getElem_cons_zero, List.setIfInBounds_toArray, List.set_cons_zero, List.set_cons_succ]
      refine wpAnyT_take (i := 4) (v := ?_) rfl (by kernel_rfl) (fun _ _ _ h => h) (Or.inl ⟨by rfl, ?_⟩) (by assumption) ?_
      rotate_left
      · (intro W hSw; (try dsimp only at hSw); go_simp; (try with_reducible rfl))
      try simp only [Act.put, List.getElem_toArray, List.getElem_cons_succ, List.getElem_cons_zero, List.setIfInBounds_toArray, List.set_cons_zero, List.set_cons_succ]
      refine wpAnyT_take (i := 5) (v := ?_) rfl (by kernel_rfl) (fun _ _ _ h => h) (Or.inl ⟨by rfl, ?_⟩) (by assumption) ?_
      rotate_left
      · (intro W hSw; (try dsimp only at hSw); go_simp; (try with_reducible rfl))
      try simp only [Act.put, List.getElem_toArray, List.getElem_cons_succ, List.getElem_cons_zero, List.setIfInBounds_toArray, List.set_cons_zero, List.set_cons_succ]
      refine wpAnyT_take (i := 6) (v := ?_) rfl (by kernel_rfl) (fun _ _ _ h => h) (Or.inl ⟨by rfl, ?_⟩) (by assumption) ?_
      rotate_left
      · (intro W hSw; (try dsimp only at hSw); go_simp; (try with_reducible rfl))
      try simp only [Act.put, List.getElem_toArray, List.getElem_cons_succ, List.getElem_cons_zero, List.setIfInBounds_toArray, List.set_cons_zero, List.set_cons_succ]
      refine wpAnyT_take (i := 7) (v := ?_) rfl (by kernel_rfl) (fun _ _ _ h => h) (Or.inl ⟨by rfl, ?_⟩) (by assumption) ?_
      rotate_left
      · (intro W hSw; (try dsimp only at hSw); go_simp; (try with_reducible rfl))
      try simp only [Act.put, List.getElem_toArray, List.getElem_cons_succ, List.getElem_cons_zero, List.setIfInBounds_toArray, List.set_cons_zero, List.set_cons_succ]
      refine wpAnyT_take (i := 8) (v := ?_) rfl (by kernel_rfl) (fun _ _ _ h => h) (Or.inl ⟨by rfl, ?_⟩) (by assumption) ?_
      rotate_left
      · (intro W hSw; (try dsimp only at hSw); go_simp; (try with_reducible rfl))
      try simp only [Act.put, List.getElem_toArray, List.getElem_cons_succ, List.getElem_cons_zero, List.setIfInBounds_toArray, List.set_cons_zero, List.set_cons_succ]
      refine wpAnyT_take (i := 9) (v := ?_) rfl (by kernel_rfl) (fun _ _ _ h => h) (Or.inl ⟨by rfl, ?_⟩) (by assumption) ?_
      rotate_left
      · (intro W hSw; (try dsimp only at hSw); go_simp; (try with_reducible rfl))
      try simp only [Act.put, List.getElem_toArray, List.getElem_cons_succ, List.getElem_cons_zero, List.setIfInBounds_toArray, List.set_cons_zero, List.set_cons_succ]
      refine wpAnyT_one (i := 2) rfl (by kernel_rfl) (fun K hK => ?_)
      go_simp
      refine hK.out _ _ (fun _ => ⟨ext_cell (hdx.alloc _) g2, ext_cell (hdx.alloc _) gx, ext_cell (hdx.alloc _) q0⟩) (fun hH => ?_)
      replace hHeld := hH (by decide)
      clear hK K hH
      try simp only [Act.put, List.getElem_toArray, List.getElem_cons_succ, List.getElem_cons_zero, List.setIfInBounds_toArray, List.set_cons_zero, List.set_cons_succ]
      refine wpAnyT_one (i := 10) rfl (by kernel_rfl) (fun K hK => ?_)
      have b0 : Below Wd.heap.size Wd (Wd.alloc (.cells #[] 60)) := (Below.refl _ _).alloc (Nat.le_refl _) _
      have o0 := Own.made Wd Wd.heap.size 60 3 0 #[] (Nat.le_refl _) (by omega) rfl
      obtain ⟨v4, w4, happ, ow4, be4⟩ := app_rd (P := Tryz.prog) 23 23 60 i _ 3 32 Tryz.underlying23 hi hz0 hz1 hz2 rfl (by omega) (by omega) b0 o0 (by omega) (HRW.out.ext (hdx.trans b0)) (by omega) (spCells_one _)
      rw [Nat.zero_add] at ow4
      obtain ⟨a4, k4, rfl, _⟩ := ow4.len
      have HPA : Hid (∃ v' w', (Builtin.append_ #[23, 23] 23 #[.slice (some ⟨Wd.heap.size, 0, none⟩) 0 0, .slice a2 k kc2]).run Tryz.prog (Wd.alloc (.cells #[] 60)) = .ok v' w' ∧ (v' = .slice a4 k k4 ∧ w' = w4)) := Lib.hid ⟨_, _, happ, rfl, rfl⟩
      refine step_append_ex (by rfl) _ _ _ (by rfl) (by rfl) (by rfl) HPA.out ?_
      rintro v5 w5 ⟨rfl, rfl⟩
      have hd4 : Ext W3 w5 := hdx.trans be4
      refine hK.out _ _ (fun _ => ⟨ext_cell hd4 g2, ext_cell hd4 gx, ext_cell hd4 q0⟩) (fun hH => ?_)
      replace hHeld := hH (by decide)
      clear hK K hH
      try simp only [Act.put, List.getElem_toArray, List.getElem_cons_succ, List.getElem_cons_zero, List.setIfInBounds_toArray, List.set_cons_zero, List.set_cons_succ]
      refine wpAnyT_one (i := 11) rfl (by kernel_rfl) (fun K hK => ?_)
      go_simp
      refine hK.out _ _ (fun _ => ⟨ext_cell (hd4.alloc _) g2, ext_cell (hd4.alloc _) gx, ext_cell (hd4.alloc _) q0⟩) (fun hH => ?_)
      replace hHeld := hH (by decide)
      clear hK K hH
      try simp only [Act.put, List.getElem_toArray, List.getElem_cons_succ, List.getElem_cons_zero, List.setIfInBounds_toArray, List.set_cons_zero, List.set_cons_succ]
      refine wpAnyT_one (i := 12) rfl (by kernel_rfl) (fun K hK => ?_)
      have hBq : WQ.heap.size ≤ Wd.heap.size := Nat.le_trans HST2.out.keep.1 hdx.size
      have HPU := Lib.hid (fit_push (P := Tryz.prog) Tryz.underlying22 hi' hz0' hz1' hz2' rfl (by decide) HST2.out.sgs hd4 hsl ow4 hBq HRL.out (Below.mono hd4 HST2.out.keep.1))
      refine step_append_ex (by rfl) _ _ _ (by rfl) (by rfl) (by rfl) HPU.out ?_
      rintro v6 w6 ⟨hss6, hbel6, hoth6⟩
      obtain ⟨va6, vc6, rfl, _⟩ := hss6.rd
      have hf6 : w6.frozen? ⟨y, 2, none⟩ = false := (hbel6.frozen (p := ⟨y, 2, none⟩) HST2.out.hq).trans f2
      have hc6 : w6.cell? ⟨y, 2, none⟩ = some (.slice sa SG.length sc) := (hbel6.cell (p := ⟨y, 2, none⟩) HST2.out.hq).trans g2
      have hx6 : w6.cell? ⟨x, 1, none⟩ = some (.slice (some ⟨bb, off, none⟩) n dl) := (hbel6.cell (p := ⟨x, 1, none⟩) HXQ.out).trans gx
      have hq6 : w6.cell? ⟨bb, off + j, none⟩ = some (.slice a2 k kc2) := (hbel6.cell (p := ⟨bb, off + j, none⟩) (Nat.lt_of_lt_of_le hbb HST2.out.h0.size)).trans q0
      refine hK.out _ _ (fun _ => ⟨hc6, hx6, hq6⟩) (fun hH => ?_)
      replace hHeld := hH (by decide)
      clear hK K hH
      try simp only [Act.put, List.getElem_toArray, List.getElem_cons_succ, List.getElem_cons_zero, List.setIfInBounds_toArray, List.set_cons_zero, List.set_cons_succ]
      refine wpAnyT_take (i := 13) (v := ?_) rfl (by kernel_rfl) (fun _ _ _ h => h) (Or.inl ⟨by rfl, ?_⟩) (by assumption) ?_
      rotate_left
      · (intro W hSw; (try dsimp only at hSw); go_simp; (try with_reducible rfl))
      try simp only [Act.put, List.getElem_toArray, List.getElem_cons_succ, List.getElem_cons_zero, List.setIfInBounds_toArray, List.set_cons_zero, List.set_cons_succ]
      refine wpAnyT_one (i := 14) rfl (by kernel_rfl) (fun K hK => ?_)
      go_simp
      refine hK.out _ _ (fun h => absurd rfl h) (fun _ => ?_)
      clear hK K hHeld
      try simp only [Act.put, List.getElem_toArray, List.getElem_cons_succ, List.getElem_cons_zero, List.setIfInBounds_toArray, List.set_cons_zero, List.set_cons_succ]
      refine wpAnyT_done (by kernel_rfl) ?_ _
      have hs3 := HST2.out.segment hd4 hss6 hbel6 hoth6
      rw [List.length_append, List.length_singleton, ← HTK.out] at hs3
      have HS3 := Lib.hid hs3
      clear hs3
      go_wp2_with fail
      go_roundw
      case rel => exact ⟨j + 1, _, _, by omega, by go_num, HS3⟩
      case measure => simp [intOf]; omega
    · obtain rfl : j = n := by omega
      have dn : decide (j < j) = false := by rw [decide_eq_false_iff_not]; omega
      have hst := HST.out
      rw [show ls.take j = ls by rw [← HL.out]; exact List.take_length] at hst
      have k0 : wr.cell? ⟨z, 0, none⟩ = some (.string ⟨#[]⟩) := hst.rb.cell rfl
      have k1 : wr.cell? ⟨z, 1, none⟩ = some (.slice none 0 0) := hst.rb.cell rfl
      have k2 : wr.cell? ⟨z, 2, none⟩ = some (.slice none 0 0) := hst.rb.cell rfl
      have f0 := hst.rb.frozen 0; have f1 := hst.rb.frozen 1; have f2 := hst.rb.frozen 2
      have HSF := Lib.hid hst
      clear hst HST
      obtain ⟨sa, sc, rfl, _⟩ := HSF.out.sgs.slice (n := j) HL.out
      go_wp2_with fail
      refine bodyPost_ret (results_cell_row rfl _ _ z _ _ (0, 0) _ rfl (((HSF.out.rb.set 0 (.string s)).set 1 (.slice ra (j + 1) rc)).set 2 (.slice sa j sc)) Tryz.underlying56 rfl (by kernel_rfl)) rfl ?_
      have hst := HSF.out
      have r1 := hst.rb.set 0 (.string s); have r2 := r1.set 1 (.slice ra (j + 1) rc)
      have o1 := own_cell_other (a := ⟨z, 0, none⟩) hst.rev hst.rb (by decide) (.string s)
      have o2 := own_cell_other (a := ⟨z, 1, none⟩) o1 r1 (by decide) (.slice ra (j + 1) rc)
      have o3 := own_cell_other (a := ⟨z, 2, none⟩) o2 r2 (by decide) (.slice sa j sc)
      have s1 := hst.sgs.cell_other (a := ⟨z, 0, none⟩) hst.rb (by decide) (by decide) (.string s)
      have s2 := s1.cell_other (a := ⟨z, 1, none⟩) r1 (by decide) (by decide) (.slice ra (j + 1) rc)
      have s3 := s2.cell_other (a := ⟨z, 2, none⟩) r2 (by decide) (by decide) (.slice sa j sc)
      have hss := s3.more hst.h0.size
      exact ⟨((hst.ext.setCell (p := ⟨z, 0, none⟩) hst.hz _).setCell (p := ⟨z, 1, none⟩) hst.hz _).setCell (p := ⟨z, 2, none⟩) hst.hz _, ra, j + 1, rc, _, _, _, rfl, o3, hss⟩
end Go.Proofs.YtgcaphjjigpjlaaGreatDoor
