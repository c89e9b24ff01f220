/- Packed: P10 L10c. -/
import Derived.ArgAppend
import Derived.BigQuiet
import Derived.BigRegion
import Derived.ChangeAlike
import Derived.ChangeOld
import Derived.Deep.Cut
import Derived.Deep.CutRange
import Derived.Deep.DrawnRows
import Derived.Deep.MidRow
import Derived.Deep.QuietTactic
import Derived.Deep.RegionHeld3
import Derived.Deep.RegionWith
import Derived.Deep.Slices
import Derived.Deep.Upon
import Derived.Laws.AppendOwnNone
import Derived.Laws.BytesArg
import Derived.Laws.IdiomCopy
import Derived.Laws.MakeOwn
import Derived.Laws.ResultCell
import Derived.Laws.Rows
import Derived.Lib.AppendStr
import Derived.Lib.AppendZerosOnto
import Derived.Lib.Builder
import Derived.Lib.DecodeN
import Derived.Lib.Hide
import Derived.Lib.Strings
import Derived.Lib.UnsafeStr
import Derived.LoopIn
import Derived.LoopNIn
import Derived.OpenShut
import Derived.OwnWalkIn
import Derived.ProofKit
import Derived.RangeFuncBound
import Derived.RangeFuncCalls
import Derived.RangeFuncLeaves
import Derived.RangeFuncNested
import Derived.RegionTactic
import Derived.Shelf.Abstract
import Derived.Shelf.RegionOpen
import Derived.ShutString
import Derived.Sort.CutIn
import Derived.StillTail
import Derived.StillTailTactics
import Derived.TacticsInMore
import Derived.Test.YtgcaphjjigpjlaaGreatDoorProg
import Derived.Test.YtgcaphjjigpjlaaGreatDoorShelf
import Derived.WalkKit
import Derived.WalkLawsBesides
import Derived.WalkSpells
import Derived.Test.YtgcaphjjigpjlaaGreatDoorQ00
import Derived.Test.YtgcaphjjigpjlaaGreatDoorQ01
import Derived.Test.YtgcaphjjigpjlaaGreatDoorQ02
import Derived.Test.YtgcaphjjigpjlaaGreatDoorQ03
import Derived.Test.YtgcaphjjigpjlaaGreatDoorQ04
import Derived.Test.YtgcaphjjigpjlaaGreatDoorQ05
import Derived.Test.YtgcaphjjigpjlaaGreatDoorQ06
import Derived.Test.YtgcaphjjigpjlaaGreatDoorQ07
import Derived.Test.YtgcaphjjigpjlaaGreatDoorQ08
import Derived.Test.YtgcaphjjigpjlaaGreatDoorQ09
import Derived.Test.YtgcaphjjigpjlaaGreatDoorQ10
import Derived.Test.YtgcaphjjigpjlaaGreatDoorQ11
import Derived.Test.YtgcaphjjigpjlaaGreatDoorQ12
import Derived.Test.YtgcaphjjigpjlaaGreatDoorQ13
import Derived.Test.YtgcaphjjigpjlaaGreatDoorQ15
import Derived.Test.YtgcaphjjigpjlaaGreatDoorQ16
import Derived.Test.YtgcaphjjigpjlaaGreatDoorQ17
namespace Go.Proofs.YtgcaphjjigpjlaaGreatDoor
open Go.RowKit
set_option maxRecDepth 100000
set_option maxHeartbeats 4000000
theorem chain10_c (A : Option Addr) (n c : Nat) (ls : List (List Sp)) (m : Int) (w : World) [Tab w] (h : RdSS w A n c ls) (hq : ∀ l ∈ ls, l.length ≤ 1000) (hT : sumTT ls ≤ 400000000) (hn1 : n ≤ 1000000) :
    Calls Tryz.prog 67 #[.int .i64 m, .slice A n c] w fun e w' => e = .returned (.tuple #[.int .i64 (chainN m ls), .int .i64 (chainE m ls)]) ∧ Ext w w' := by
  have HK := Lib.hid (keep4_c m w)
  have HM : Hid (∀ (l : List Sp) a k c' w', Ext w w' → l ∈ ls → l.length = k → Rd w' 3 (.slice a k c') k (spCells l) → _) := Lib.hid fun l a k c' w' hx hl hk hr => have hTb := tab_ext hx; may4_c a k c' l w' hr hk (by have := hq l hl; omega) (fun s hs => by have := le_sumT l s hs; have := (le_lenS l hl).2; omega)
  have HI : Hid (∀ (l : List Sp) a k c' w', Ext w w' → l ∈ ls → l.length = k → Rd w' 3 (.slice a k c') k (spCells l) → _) := Lib.hid fun l a k c' w' hx hl hk hr => have hTb := tab_ext hx; in4_c a k c' l w' hr hk (by have := hq l hl; omega)
  have HO : Hid (∀ (l : List Sp) a k c' w', Ext w w' → l ∈ ls → l.length = k → Rd w' 3 (.slice a k c') k (spCells l) → _) := Lib.hid fun l a k c' w' hx hl hk hr => have hTb := tab_ext hx; out4_c a k c' l w' hr hk (by have := hq l hl; omega) (fun s hs => by have := le_sumT l s hs; have := (le_lenS l hl).2; omega)
  have HB : Hid (∀ l ∈ ls, mayL l = 0 → 0 ≤ inL l ∧ inL l ≤ 1048576 ∧ wrap64 (inL l) = inL l ∧ wrap64 (outL l) = outL l) := Lib.hid fun l hl hm => by
    obtain ⟨o1, o2, o3⟩ := may_okW hm (hq l hl)
    have := outL_le l o1
    have := (le_lenS l hl).2
    refine ⟨o2, o3, ?_, ?_⟩ <;> unfold wrap64 <;> omega
  have hln := h.1
  have H := Lib.hid h; have HLN := Lib.hid hln
  by_cases hm : 0 ≤ m ∧ m ≤ 1048576
  · have hE : chainE m ls = chE m (ls.drop 0) ∧ chN m ls = chN m (ls.drop 0) := by rw [List.drop_zero]; exact ⟨by unfold chainE; rw [if_pos hm], rfl⟩
    have HE := Lib.hid hE
    clear h hln hq hT hE
    go_enter Tryz.func67, Tryz.ntmps67
    go_wp2_with fail
    refine HK.out.mono ?_; rintro e w1 ⟨hx1, ⟨hk, _⟩ | ⟨_, _, v, rfl, _⟩⟩
    · omega
    go_wp2_with fail
    go_loopw [0, 21] (fun y z wr => ∃ (j : Nat) (x : Int), j ≤ n ∧ z = .int .i64 j ∧ y = .int .i64 x ∧ (chainE m ls = chE x (ls.drop j) ∧ chN m ls = chN x (ls.drop j)) ∧ Ext w wr) (fun _ z _ => n - (intOf z).toNat)
    case atStart => exact ⟨0, m, by omega, rfl, rfl, HE.out, hx1⟩
    case round =>
      clear HE
      obtain ⟨j, x, hj, rfl, rfl, he, hxr⟩ := hrel
      have htr := tab_ext hxr
      have HE := Lib.hid he
      clear he
      by_cases hlt : j < n
      · have hjl : j < ls.length := by have := HLN.out; omega
        obtain ⟨b, off, a, kc, rfl, hb, q0, hr⟩ := (H.out.ext hxr).at_ hlt hjl
        have dn : decide (j < n) = true := by rw [decide_eq_true_eq]; exact hlt
        have i0 : (0 : Int) ≤ (j : Int) := by omega
        have i1 : (j : Int) < (n : Int) := by omega
        obtain ⟨d1, d2⟩ := chE_drop (n := x) hjl
        have hmem := List.getElem_mem hjl
        have CM := Lib.hid (fun w' hx => HM.out ls[j] a _ kc w' (hxr.trans hx) hmem rfl (hr.ext hx))
        have CI := Lib.hid (fun w' hx => HI.out ls[j] a _ kc w' (hxr.trans hx) hmem rfl (hr.ext hx))
        have CO := Lib.hid (fun w' hx => HO.out ls[j] a _ kc w' (hxr.trans hx) hmem rfl (hr.ext hx))
        have hB := HB.out ls[j] hmem
        obtain ⟨k, hk⟩ : ∃ k, ls[j].length = k := ⟨_, rfl⟩
        rw [hk] at q0 CM CI CO
        clear hk hr hmem
        generalize ls[j] = l at *
        by_cases hml : mayL l = 0
        · obtain ⟨b0, b1, b2, b3⟩ := hB hml
          rw [hml] at CM; rw [b2] at CI; rw [b3] at CO
          rw [if_pos hml] at d1
          clear hB hml b2 b3
          by_cases hi : inL l = x
          · rw [if_pos hi] at d1
            have HE2 : Hid (chainE m ls = chE (outL l) (ls.drop (j + 1)) ∧ chN m ls = chN (outL l) (ls.drop (j + 1))) := Lib.hid ⟨by rw [HE.out.1, d1], by rw [HE.out.2, d2]⟩
            have t1 : (inL l != x) = false := by rw [hi]; simp
            have t2 : (inL l == x) = true := by rw [beq_iff_eq]; exact hi
            clear d1 d2 hi
            generalize inL l = il at *
            generalize outL l = ol at *
            go_wp2_with fail
            refine (CM.out _ (Ext.refl _)).mono ?_; rintro e w2 ⟨rfl, hx2⟩; have ht2 := tab_ext hx2
            go_wp2_with fail
            refine (CI.out _ hx2).mono ?_; rintro e w3 ⟨rfl, hx3⟩; have ht3 := tab_ext hx3
            go_wp2_with fail
            refine (CO.out _ (hx2.trans hx3)).mono ?_; rintro e w4 ⟨rfl, hx4⟩; have ht4 := tab_ext hx4
            go_wp2_with fail
            go_roundw
            case rel => exact ⟨j + 1, ol, by omega, by go_num, rfl, HE2.out, hxr.trans ((hx2.trans hx3).trans hx4)⟩
            case measure => simp [intOf]; omega
          · rw [if_neg hi] at d1
            have HR : Hid (chainE m ls = 5 ∧ chainN m ls = 0) := Lib.hid (by
              have e : chainE m ls = 5 := by rw [HE.out.1, d1]
              exact ⟨e, by unfold chainN; rw [e]; rfl⟩)
            have t1 : (inL l != x) = true := by rw [bne_iff_ne]; exact hi
            have t2 : (inL l == x) = false := by rw [beq_eq_false_iff_ne]; exact hi
            clear d1 d2 hi
            generalize inL l = il at *
            go_wp2_with fail
            refine (CM.out _ (Ext.refl _)).mono ?_; rintro e w2 ⟨rfl, hx2⟩; have ht2 := tab_ext hx2
            go_wp2_with fail
            refine (CI.out _ hx2).mono ?_; rintro e w3 ⟨rfl, hx3⟩; have ht3 := tab_ext hx3
            go_wp2_with fail
            go_ret2
            rw [HR.out.1, HR.out.2]
            exact ⟨rfl, hxr.trans (hx2.trans hx3)⟩
        · rw [if_neg hml] at d1
          have HR : Hid (chainE m ls = mayL l ∧ chainN m ls = 0) := Lib.hid (by
            have e : chainE m ls = mayL l := by rw [HE.out.1, d1]
            exact ⟨e, by unfold chainN; rw [e, if_neg hml]⟩)
          have t1 : (mayL l != 0) = true := by rw [bne_iff_ne]; exact hml
          have t2 : (mayL l == 0) = false := by rw [beq_eq_false_iff_ne]; exact hml
          clear d1 d2 hml hB
          generalize mayL l = ml at *
          go_wp2_with fail
          refine (CM.out _ (Ext.refl _)).mono ?_; rintro e w2 ⟨rfl, hx2⟩; have ht2 := tab_ext hx2
          go_wp2_with fail
          go_ret2
          rw [HR.out.1, HR.out.2]
          exact ⟨rfl, hxr.trans hx2⟩
      · obtain rfl : j = n := by omega
        have hall : ls.drop j = [] := List.drop_eq_nil_of_le (by have := HLN.out; omega)
        have HR : Hid (chainE m ls = 0 ∧ chainN m ls = x) := Lib.hid (by
          have h1 := HE.out
          rw [hall] at h1
          have e : chainE m ls = 0 := h1.1
          exact ⟨e, by unfold chainN; rw [if_pos e, h1.2]; rfl⟩)
        have dn : decide (j < j) = false := by rw [decide_eq_false_iff_not]; omega
        clear hall hlt hj
        go_wp2_with fail
        go_ret2
        rw [HR.out.1, HR.out.2]
        exact ⟨rfl, hxr⟩
  · have HR : Hid (chainE m ls = 2 ∧ chainN m ls = 0) := Lib.hid (by
      have e : chainE m ls = 2 := by unfold chainE; rw [if_neg hm]
      exact ⟨e, by unfold chainN; rw [e]; rfl⟩)
    clear h hln hq hT HM HI HO HB
    go_enter Tryz.func67, Tryz.ntmps67
    go_wp2_with fail
    refine HK.out.mono ?_; rintro e w1 ⟨hx1, ⟨_, rfl⟩ | ⟨h0, h1, _⟩⟩
    · go_wp2_with fail
      go_ret2
      rw [HR.out.1, HR.out.2]
      exact ⟨rfl, hx1⟩
    · exact absurd ⟨h0, h1⟩ hm
theorem grow10_c (k : Nat) (h0 : 0 < k) (h1 : k ≤ 1000000) (w : World) :
    Calls Tryz.prog 88 #[.slice none 0 0, .int .i64 k] w fun e w' => ∃ v, e = .returned v ∧ Ext w w' ∧ Own w' w.heap.size 23 1 v 0 [] := by
  obtain ⟨i, hi, hz0, hz1, hz2⟩ := info_parts info_ss
  have hb : k * i.bytes ≤ 24000000 := by rw [hz2]; omega
  obtain ⟨G, hG⟩ : ∃ G, G = grownCap w k 0 23 := ⟨_, rfl⟩
  have hGn : k ≤ G := by rw [hG]; exact grownCap_ge w _ _ _
  have hGm : G ≤ maxLen := by rw [hG]; exact grownCap_le_maxLen w k 0 _ (by unfold maxLen; omega)
  have hrz : ∀ ty, (Builtin.append_ #[22, 3] ty #[.slice none 0 0, .int .i64 (k : Int)]).run Tryz.prog w =
      .ok (.slice (some ⟨w.heap.size, 0, none⟩) k G) (w.drew.alloc (.cells (#[] ++ Builtin.zeroCells (Value.slice none 0 0).cells k ++ Builtin.zeroCells (Value.slice none 0 0).cells (G - k)) 23)) := fun ty => by
    have h := Lib.run_append_grow_zeros w 22 3 ty 23 i (.slice none 0 0) .i64 .i64 Tryz.underlying22 Tryz.underlying3 hi hz0 none 0 0 [] (run_firstCells_none w.drew i.size 0 0 0) k h0 (by rw [hz1]; omega) (by omega) (by omega) (by omega) (growslice_fits (by omega) (by rw [Nat.zero_add]; omega))
    rw [Nat.zero_add] at h
    rw [← hG] at h
    exact h
  have HOWN : Hid (Own (w.drew.alloc (.cells (#[] ++ Builtin.zeroCells (Value.slice none 0 0).cells k ++ Builtin.zeroCells (Value.slice none 0 0).cells (G - k)) 23)) w.heap.size 23 1 (.slice (some ⟨w.heap.size, 0, none⟩) 0 G) 0 []) := Lib.hid (by
    refine ⟨⟨rfl, .inr ⟨w.heap.size, G, _, rfl, Nat.le_refl _, heap_alloc_new w.drew _, Nat.zero_le _, hGm, ?_, by simp⟩⟩, by simp⟩
    have hz1 : (Value.slice none 0 0).cells.size = 1 := rfl
    simp only [Array.size_append, size_zeroCells, hz1, List.size_toArray, List.length_nil]
    omega)
  have HX := Lib.hid ((Ext.refl w).drew.alloc (.cells (#[] ++ Builtin.zeroCells (Value.slice none 0 0).cells k ++ Builtin.zeroCells (Value.slice none 0 0).cells (G - k)) 23))
  have hG63 : G ≤ 9223372036854775807 := by unfold maxLen at hGm; omega
  have HRZ := Lib.hid hrz
  have h63 : ¬ ((k : Int) < 0) := by omega
  have h64 : (0 : Int) < (k : Int) := by omega
  clear hi hz0 hz1 hz2 hb hG hrz hGm
  generalize (#[] ++ Builtin.zeroCells (Value.slice none 0 0).cells k ++ Builtin.zeroCells (Value.slice none 0 0).cells (G - k)) = Z at *
  go_enter Tryz.func88, Tryz.ntmps88
  go_wp2_with (at_builtin; refine Lib.wpList_append_run _ rfl _ _ _ _ rfl _ _ rfl rfl _ _ (HRZ.out _) ?_)
  all_goals
    go_ret
    exact ⟨_, rfl, HX.out, HOWN.out⟩
theorem concat10_c (b0 : Nat) (A1 : Option Addr) (n1 c1 : Nat) (A : Option Addr) (n c : Nat) (v1 vs : List Value) (w : World) (q0 : w.cell? ⟨b0, 0, none⟩ = some (.slice A1 n1 c1)) (q1 : w.cell? ⟨b0, 1, none⟩ = some (.slice A n c))
    (h1 : Rd w 1 (.slice A1 n1 c1) n1 v1) (h : Rd w 1 (.slice A n c) n vs) (ho1 : ∀ u ∈ v1, u.oneCell' = true) (ho : ∀ u ∈ vs, u.oneCell' = true) (hn1 : 0 < n1) (hn1' : n1 ≤ 1000) (hn : n ≤ 500000) :
    Calls Tryz.prog 70 #[.slice (some ⟨b0, 0, none⟩) 2 2] w fun e w' => ∃ v, e = .returned v ∧ Ext w w' ∧ Own w' w.heap.size 23 1 v (n1 + n) (v1 ++ vs) := by
  obtain ⟨i, hi, hz0, hz1, hz2⟩ := info_parts info_ss
  have HG : Hid (∀ w', _) := Lib.hid fun w' => grow10_c (n1 + n) (by omega) (by omega) w'
  have H1 := Lib.hid h1; have H := Lib.hid h; have HO1 := Lib.hid ho1; have HO := Lib.hid ho
  have Q0 : Hid (∀ w', Ext w w' → w'.cell? ⟨b0, 0, none⟩ = some (.slice A1 n1 c1)) := Lib.hid fun w' hx => ext_cell hx q0
  have Q1 : Hid (∀ w', Ext w w' → w'.cell? ⟨b0, 1, none⟩ = some (.slice A n c)) := Lib.hid fun w' hx => ext_cell hx q1
  have hI : Hid (Tryz.prog.info? 23 = some i ∧ i.zero = some (.slice none 0 0) ∧ i.size = 1 ∧ i.bytes = 24) := Lib.hid ⟨hi, hz0, hz1, hz2⟩
  clear h1 h ho1 ho hi hz0 hz1 hz2
  go_enter Tryz.func70, Tryz.ntmps70
  go_wp2_with fail
  go_loop [3, 11] (fun x z => ∃ j s : Nat, z = .int .i64 j ∧ x = .int .i64 s ∧ ((j = 0 ∧ s = 0) ∨ (j = 1 ∧ s = n1) ∨ (j = 2 ∧ s = n1 + n))) (fun _ z => 2 - (intOf z).toNat)
  case atStart => exact ⟨0, 0, rfl, rfl, .inl ⟨rfl, rfl⟩⟩
  case round =>
    obtain ⟨j, s, rfl, rfl, ⟨rfl, rfl⟩ | ⟨rfl, rfl⟩ | ⟨rfl, rfl⟩⟩ := hrel
    · go_wp2_with fail
      go_round
      case rel => exact ⟨1, n1, by go_num, by go_num, .inr (.inl ⟨rfl, rfl⟩)⟩
      case measure => simp [intOf]
    · go_wp2_with fail
      go_round
      case rel => exact ⟨2, s + n, by go_num, by go_num, .inr (.inr ⟨rfl, rfl⟩)⟩
      case measure => simp [intOf]
    · go_wp2_with fail
      refine (HG.out _).mono ?_; rintro e w1 ⟨v0, rfl, hx1, own0⟩
      have OWN0 := Lib.hid own0
      have HX1 := Lib.hid hx1
      clear own0 hx1
      go_wp2_with fail
      go_loopw [6, 27] (fun o z wr => ∃ j m : Nat, ∃ xs, z = .int .i64 j ∧ Own wr w.heap.size 23 1 o m xs ∧ Ext w wr ∧ ((j = 0 ∧ m = 0 ∧ xs = []) ∨ (j = 1 ∧ m = n1 ∧ xs = v1) ∨ (j = 2 ∧ m = n1 + n ∧ xs = v1 ++ vs))) (fun _ z _ => 2 - (intOf z).toNat)
      case atStart => exact ⟨0, 0, [], rfl, OWN0.out, HX1.out, .inl ⟨rfl, rfl, rfl⟩⟩
      case round =>
        obtain ⟨j, m, xs, rfl, own, hxr, ⟨rfl, rfl, rfl⟩ | ⟨rfl, rfl, rfl⟩ | ⟨rfl, rfl, rfl⟩⟩ := hrel
        · have p0 := Q0.out _ hxr
          obtain ⟨v', w', happ, hown', hbel'⟩ := app_rd (P := Tryz.prog) 22 22 23 i _ 1 24 Tryz.underlying22 hI.out.1 hI.out.2.1 hI.out.2.2.1 hI.out.2.2.2 rfl (by omega) (by omega)
            hxr own (by omega) (H1.out.ext hxr) (by omega) HO1.out
          have HAP := Lib.hid happ
          rw [Nat.zero_add, List.nil_append] at hown'
          have HOWN := Lib.hid hown'
          have HBEL := Lib.hid hbel'
          clear happ hown' hbel' own
          go_wp2_with (at_builtin; refine wpList_append_run rfl rfl HAP.out rfl rfl ?_)
          go_roundw
          case rel => exact ⟨1, n1, v1, by go_num, HOWN.out, HBEL.out, .inr (.inl ⟨rfl, rfl, rfl⟩)⟩
          case measure => simp [intOf]
        · have p0 := Q1.out _ hxr
          obtain ⟨v', w', happ, hown', hbel'⟩ := app_rd (P := Tryz.prog) 22 22 23 i _ 1 24 Tryz.underlying22 hI.out.1 hI.out.2.1 hI.out.2.2.1 hI.out.2.2.2 rfl (by omega) (by omega)
            hxr own (by omega) (H.out.ext hxr) (by omega) HO.out
          have HAP := Lib.hid happ
          have HOWN := Lib.hid hown'
          have HBEL := Lib.hid hbel'
          clear happ hown' hbel' own
          go_wp2_with (at_builtin; refine wpList_append_run rfl rfl HAP.out rfl rfl ?_)
          go_roundw
          case rel => exact ⟨2, _, _, by go_num, HOWN.out, HBEL.out, .inr (.inr ⟨rfl, rfl, rfl⟩)⟩
          case measure => simp [intOf]
        · have OWN := Lib.hid own
          clear own
          go_wp2_with fail
          go_ret
          exact ⟨_, rfl, hxr, OWN.out⟩
theorem both10_c (A : Option Addr) (q c : Nat) (a : List Sp) (B : Option Addr) (q' c' : Nat) (b : List Sp) (w : World) [Tab w] (h : RdO w A q c a) (h' : RdO w B q' c' b) (hq : q ≤ 1000) (hq' : q' ≤ 1000)
    (hta : ∀ s ∈ a, s.2.2.size ≤ 1000000000) (htb : ∀ s ∈ b, s.2.2.size ≤ 1000000000) (hT : sumT a + sumT b ≤ 900000000) (hE : compE a b = 0) :
    Calls Tryz.prog 71 #[.slice A q c, .slice B q' c'] w (TellsL w (compL a b)) := by
  have HC := Lib.hid (comp9_c A q c a B q' c' b w h h' hq hq' hta htb hT)
  rw [hE] at HC
  clear h h' hta htb hT hE
  generalize compL a b = CL at *
  go_enter Tryz.func71, Tryz.ntmps71
  go_wp2_with fail
  refine HC.out.mono ?_; rintro e w1 ⟨hx1, a1, n1, c1, rfl, r1⟩
  rw [if_pos rfl] at r1
  go_wp2_with fail
  go_ret
  exact ⟨hx1, a1, n1, c1, rfl, r1⟩
def OneR (w : World) (n : Int) (ls : List (List Sp)) (m : Int) (e : Ending) (w' : World) : Prop :=
  Ext w w' ∧ ∃ A q c L, e = .returned (.slice A q c) ∧ RdO w' A q c L ∧ Seg n ls m L ∧ (ls = [L] ∨ isN L)
theorem seg_fit {n k m : Int} {a b : List (List Sp)} {X Y : List Sp} (hls : lenS a + lenS b ≤ 900 ∧ sumTT a + sumTT b ≤ 400000000) (hX : Seg n a k X) (hY : Seg k b m Y) (hn : n ≤ 1048576) (hk : k ≤ 1048576) (h0 : 0 ≤ n) (h0' : 0 ≤ k) :
    X.length ≤ 1000 ∧ Y.length ≤ 1000 ∧ (∀ s ∈ X, s.2.2.size ≤ 1000000000) ∧ (∀ s ∈ Y, s.2.2.size ≤ 1000000000) ∧ sumT X + sumT Y ≤ 900000000 ∧ compE X Y = 0 := by
  have h1 := hX.len; have h2 := hX.txt; have h3 := hY.len; have h4 := hY.txt
  have i1 := hX.inb; have i2 := hY.inb; have i3 := hX.out
  refine ⟨by omega, by omega, fun s hs => by have := le_sumT _ s hs; omega, fun s hs => by have := le_sumT _ s hs; omega, by omega, ?_⟩
  unfold compE
  rw [if_pos (okW_mayL _ hX.ok (by omega)).1, if_pos (okW_mayL _ hY.ok (by omega)).1, if_pos (by omega)]
theorem thru_head {ls : List (List Sp)} {n m : Int} (h : Thru n ls m) (hne : 0 < ls.length) : n ≤ 1048576 := by
  cases ls with
  | nil => simp at hne
  | cons l r => exact h.2.2.2.1
theorem one10_c (N : Nat) : ∀ (A : Option Addr) (n c : Nat) (ls : List (List Sp)) (k m : Int) (w : World) [Tab w], n ≤ N → 0 < n → RdSS w A n c ls → Thru k ls m → Sm ls →
    Calls Tryz.prog 69 #[.slice A n c, .func (.func 71) #[] #[]] w (OneR w k ls m) := by
  induction N with
  | zero => intro A n c ls k m w _ hN h0; omega
  | succ N ih =>
    intro A n c ls k m w _ hN h0 h hth hS
    have hln := h.1
    have hnum := hS.num
    by_cases hn1 : n = 1
    · subst hn1
      match ls, hln, h, hth with
      | [l], _, h, hth =>
      obtain ⟨b, off, a, kc, rfl, hb, p0, hr⟩ := h.at_ (i := 0) (by omega) (by simp)
      have hr' : RdO w a l.length kc l := ⟨rfl, hr⟩
      have p0' : w.cell? ⟨b, off, none⟩ = some (.slice a l.length kc) := p0
      have HS := Lib.hid (seg_one hth)
      have HR := Lib.hid hr'
      clear h hth hr hr' hS p0 ih
      obtain ⟨q, hq⟩ : ∃ q, l.length = q := ⟨_, rfl⟩
      rw [hq] at p0' HR
      clear hq
      go_enter Tryz.func69, Tryz.ntmps69
      go_wp2_with fail
      go_ret
      exact ⟨Ext.refl _, a, q, kc, l, rfl, HR.out, HS.out, .inl rfl⟩
    · obtain ⟨b, o, rfl, hb, hc⟩ := h.addr h0
      obtain ⟨hf, hhf⟩ : ∃ hf, n / 2 = hf := ⟨_, rfl⟩
      have f1 : 0 < hf := by omega
      have f2 : hf < n := by omega
      have f3 : 0 < n - hf := by omega
      obtain ⟨j, t1, t2⟩ := thru_take hth hf
      have e1 := lenS_take ls hf
      have l1 : (ls.take hf).length = hf := by rw [List.length_take]; omega
      have l2 : (ls.drop hf).length = n - hf := by rw [List.length_drop]; omega
      have S1 : Sm (ls.take hf) := ⟨by have := hS.len; omega, by have := hS.txt; omega, by omega⟩
      have S2 : Sm (ls.drop hf) := ⟨by have := hS.len; omega, by have := hS.txt; omega, by omega⟩
      have H1 : Hid (∀ w', Ext w w' → Calls Tryz.prog 69 #[.slice (some ⟨b, o, none⟩) hf c, .func (.func 71) #[] #[]] w' (OneR w' k (ls.take hf) j)) :=
        Lib.hid fun w' hx => have hTb := tab_ext hx; ih _ _ _ _ _ _ _ (by omega) f1 ((h.ext hx).take (by omega)) t1 S1
      have H2 : Hid (∀ w', Ext w w' → Calls Tryz.prog 69 #[.slice (some ⟨b, o + hf, none⟩) (n - hf) (c - hf), .func (.func 71) #[] #[]] w' (OneR w' j (ls.drop hf) m)) :=
        Lib.hid fun w' hx => have hTb := tab_ext hx; ih _ _ _ _ _ _ _ (by omega) f3 ((h.ext hx).drop f2) t2 S2
      have hk1 := thru_head hth (by omega)
      have hj1 := thru_head t2 (by omega)
      have H3 : Hid (∀ w' (A1 A2 : Option Addr) (q1 c1 q2 c2 : Nat) (X Y : List Sp), Ext w w' → RdO w' A1 q1 c1 X → RdO w' A2 q2 c2 Y → Seg k (ls.take hf) j X → Seg j (ls.drop hf) m Y → Calls Tryz.prog 71 #[.slice A1 q1 c1, .slice A2 q2 c2] w' (TellsL w' (compL X Y))) :=
        Lib.hid fun w' A1 A2 q1 c1 q2 c2 X Y hx r1 r2 s1 s2 => have hTb := tab_ext hx; by
          obtain ⟨a1, a2, a3, a4, a5, a6⟩ := seg_fit ⟨by have := hS.len; omega, by have := hS.txt; omega⟩ s1 s2 hk1 hj1 hth.pos t2.pos
          exact both10_c A1 q1 c1 X A2 q2 c2 Y w' r1 r2 (by have := r1.1; omega) (by have := r2.1; omega) a3 a4 a5 a6
      have H4 : Hid (∀ X Y : List Sp, Seg k (ls.take hf) j X → Seg j (ls.drop hf) m Y → Seg k ls m (compL X Y) ∧ isN (compL X Y)) := Lib.hid fun X Y s1 s2 => by
        have g := seg_comp t1 t2 s1 s2 hk1
        rw [List.take_append_drop] at g
        exact g
      have d1 : ((n : Int) == 1) = false := by rw [beq_eq_false_iff_ne]; omega
      have d2 : (n : Int).tdiv 2 = (hf : Int) := by rw [Int.tdiv_eq_ediv_of_nonneg (by omega)]; omega
      have d3 : (n : Int) / 2 = (hf : Int) := by omega
      have g1 : (0 : Int) ≤ (hf : Int) := by omega
      have g2 : (hf : Int) ≤ (n : Int) := by omega
      have g3 : (hf : Int) ≤ (c : Int) := by omega
      have g4 : (n : Int) ≤ (c : Int) := by omega
      have g9 : (hf : Int) ≤ 100001 := by omega
      have g6 : hf ≤ c := by omega
      have g7 : n ≤ c := by omega
      have g8 : hf ≤ n := by omega
      have g5 : ¬ c = hf := by omega
      obtain ⟨n2, hn2⟩ : ∃ n2, n - hf = n2 := ⟨_, rfl⟩
      obtain ⟨c2, hc2⟩ : ∃ c2, c - hf = c2 := ⟨_, rfl⟩
      rw [hn2, hc2] at H2
      clear h hth hS S1 S2 t1 t2 hln hnum e1 l1 l2 ih hhf hn1
      go_enter Tryz.func69, Tryz.ntmps69
      go_wp2_with fail
      have hrr := Ext.refl w
      go_region_held3 (fun W => Ext w W ∧ True)
        ((go_split_ands; refine ⟨?_, trivial⟩ <;> first | (exact Ext.drew ‹_›) | (exact Ext.trans ‹_› hxk) | go_keep))
        (first
        | (go_at_call_of 69 c; go_split_ands; refine (H1.out _ ‹Ext w _›).mono ?_; rintro e wA ⟨hxk, a1, q1, k1, X, rfl, r1, s1, _⟩)
        | (go_at_call_of 69 n2; go_split_ands; refine (H2.out _ ‹Ext w _›).mono ?_; rintro e wB ⟨hxk, a2, q2, k2, Y, rfl, r2, s2, _⟩)
        | (go_at_call 71; go_split_ands; refine (H3.out _ a1 a2 q1 k1 q2 k2 X Y ‹Ext w _› (r1.ext hxk) r2 s1 s2).mono ?_; rintro e wC ⟨hxk, a3, q3, k3, rfl, r3⟩)
        | fail)
      go_split_ands
      go_wp2_with fail
      go_ret
      obtain ⟨z1, z2⟩ := H4.out X Y s1 s2
      exact ⟨by assumption, a3, q3, k3, _, rfl, r3, z1, .inr z2⟩
theorem rdSS_cons {w : World} {A a : Option Addr} {n c q k : Nat} {X : List Sp} {vs : List Value} {ls : List (List Sp)} (hv : Rd w 1 (.slice A (1 + n) c) (1 + n) ([.slice a q k] ++ vs)) (r0 : RdO w a q k X)
    (hvs : ∀ (i : Nat) (l : List Sp), ls[i]? = some l → ∃ a k, vs[i]? = some (.slice a l.length k) ∧ Rd w 3 (.slice a l.length k) l.length (spCells l)) (hl : ls.length = n) : RdSS w A (1 + n) c (X :: ls) := by
  refine ⟨by rw [List.length_cons]; omega, _, hv, fun i l h => ?_⟩
  cases i with
  | zero =>
    rw [List.getElem?_cons_zero] at h
    injection h with h
    subst h
    obtain ⟨rfl, hr⟩ := r0
    exact ⟨a, k, rfl, hr⟩
  | succ i =>
    rw [List.getElem?_cons_succ] at h
    obtain ⟨a', k', g1, g2⟩ := hvs i l h
    exact ⟨a', k', by simpa using g1, g2⟩
theorem rdSS_one {w : World} {n : Nat} {vs : List Value} {ls : List (List Sp)} (hlen : vs.length = n * 1) (hl : ls.length = n)
    (hvs : ∀ (i : Nat) (l : List Sp), ls[i]? = some l → ∃ a k, vs[i]? = some (.slice a l.length k) ∧ Rd w 3 (.slice a l.length k) l.length (spCells l)) : ∀ u ∈ vs, u.oneCell' = true := by
  intro u hu
  obtain ⟨i, hi, rfl⟩ := List.mem_iff_getElem.1 hu
  have hil : i < ls.length := by omega
  obtain ⟨a, k, g1, _⟩ := hvs i _ (List.getElem?_eq_getElem hil)
  rw [List.getElem?_eq_getElem hi] at g1
  injection g1 with g1
  rw [g1]
  rfl
theorem of10_c (A : Option Addr) (n c : Nat) (ls : List (List Sp)) (m : Int) (w : World) [Tab w] (h : RdSS w A n c ls) (hS : Small ls) :
    Calls Tryz.prog 40 #[.int .i64 m, .slice A n c] w (OpR w (chainE m ls) (fuseL m ls)) := by
  have HC := Lib.hid (chain10_c A n c ls m w h hS.each hS.txt (by have := h.1; have := hS.num; omega))
  have HK : Hid (∀ w', Calls Tryz.prog 68 #[.int .i64 m] w' (KeepR w' m)) := Lib.hid fun w' => keep4_c m w'
  have hln := h.1
  have hnum := hS.num
  by_cases he : chainE m ls = 0
  · obtain ⟨hm, hth⟩ := chain_thru he hS.each
    have HF : Hid (fuseL m ls = spT (fR m ls)) := Lib.hid (thru_chainE hth hm.2).2.2
    obtain ⟨hth2, hfr⟩ := thru_keep hth hm.2
    have hk1 := keepL_len m
    have hSm : Sm (keepL m :: ls) := ⟨by rw [lenS_cons]; have := hS.len; omega, by
      rw [sumTT_cons]; have := hS.txt
      have e : sumT (keepL m) = 0 := by unfold keepL; split <;> rfl
      omega, by rw [List.length_cons]; omega⟩
    have H1 : Hid (∀ (A' : Option Addr) (c' : Nat) w', Ext w w' → RdSS w' A' (1 + n) c' (keepL m :: ls) → Calls Tryz.prog 69 #[.slice A' (1 + n) c', .func (.func 71) #[] #[]] w' (OneR w' m (keepL m :: ls) (chN m ls))) :=
      Lib.hid fun A' c' w' hx hr => have hTb := tab_ext hx; one10_c (1 + n) A' (1 + n) c' _ _ _ w' (by omega) (by omega) hr hth2 hSm
    have HFIN : Hid (∀ L, Seg m (keepL m :: ls) (chN m ls) L → (keepL m :: ls = [L] ∨ isN L) → L = spT (fR m ls)) := Lib.hid fun L hs hor => by
      rcases hor with hor | hor
      · injection hor with e1 e2
        rw [e2, fR_nil m hm.1, e1]
      · rw [seg_isN hs hor, hfr]
    have hm0 := hm.1
    have hm1 := hm.2
    obtain ⟨hl1, vs, hv, hvs⟩ := h
    have hvl := hv.1
    have HO := Lib.hid (rdSS_one hvl hln hvs)
    have HV := Lib.hid hv; have HVS := Lib.hid hvs
    rw [he] at HC
    rw [he]
    clear hth he hm hth2 hfr hS hSm hv hvs
    generalize chainN m ls = cn at *
    generalize chN m ls = cm at *
    go_enter Tryz.func40, Tryz.ntmps40
    go_wp2_with fail
    refine HC.out.mono ?_; rintro e w1 ⟨rfl, hx1⟩
    go_wp2_with fail
    refine (HK.out w1).mono ?_; rintro e w2 ⟨hx2, ⟨hk, _⟩ | ⟨_, _, v, rfl, hr2⟩⟩
    · omega
    obtain ⟨a0, q0, c0, rfl, r0⟩ := rdO_rd hr2
    have e2 := hx1.trans hx2
    obtain ⟨B0, hB0⟩ : ∃ B0, w2.heap.size = B0 := ⟨_, rfl⟩
    have e3 := (Ext.refl w2).alloc (.cells #[.slice a0 q0 c0] 23)
    have e4 := e3.alloc (.cells #[.slice (some ⟨B0, 0, none⟩) 1 1, .slice A n c] 22)
    have hsz : (w2.alloc (.cells #[.slice a0 q0 c0] 23)).heap.size = B0 + 1 := by rw [size_alloc, hB0]
    have hbx := BoxG.made (w2.alloc (.cells #[.slice a0 q0 c0] 23)) #[.slice (some ⟨B0, 0, none⟩) 1 1, .slice A n c] 22
    rw [hsz] at hbx
    have hrm := rd_made w2 _ B0 hB0 #[.slice a0 q0 c0] 23 ((Ext.refl _).alloc (.cells #[.slice (some ⟨B0, 0, none⟩) 1 1, .slice A n c] 22)) (size := 1) (n := 1) rfl (by omega)
    have HCAT := Lib.hid (concat10_c (B0 + 1) (some ⟨B0, 0, none⟩) 1 1 A n c [.slice a0 q0 c0] vs _ (hbx.2 0 _ rfl) (hbx.2 1 _ rfl) hrm (HV.out.ext (e2.trans e4)) (by intro u hu; rw [List.mem_singleton] at hu; subst hu; rfl) HO.out (by omega) (by omega) (by omega))
    have R0 := Lib.hid r0
    have E2 := Lib.hid e2
    have E4 := Lib.hid e4
    clear hr2 r0 hbx hrm e2 e3 e4 hx1 hx2
    go_wp2_with fail
    rw [hB0] at *
    refine HCAT.out.mono ?_; rintro e w5 ⟨v5, rfl, hx5, own5⟩
    obtain ⟨a5, c5, rfl, _⟩ := own5.len
    have r5 := rdSS_cons own5.rd (R0.out.ext (E4.out.trans hx5)) (fun i l hl => by
      obtain ⟨a, k, g1, g2⟩ := HVS.out i l hl
      exact ⟨a, k, g1, g2.ext ((E2.out.trans E4.out).trans hx5)⟩) hln
    have R5 := Lib.hid r5
    have E5 := Lib.hid ((E2.out.trans E4.out).trans hx5)
    clear own5 r5 hx5
    go_wp2_with fail
    refine (H1.out _ _ _ E5.out R5.out).mono ?_; rintro e w6 ⟨hx6, a6, q6, c6, L, rfl, r6, s6, n6⟩
    have hL := HFIN.out L s6 n6
    have RL : Hid (RdO w6 a6 q6 c6 (fuseL m ls)) := Lib.hid (by rw [HF.out, ← hL]; exact r6)
    clear r6 s6 n6 hL
    go_wp2_with fail
    go_ret2
    exact ⟨E5.out.trans hx6, a6, q6, c6, rfl, by rw [if_pos rfl]; exact RL.out⟩
  · have HN := Lib.hid he
    have t1 : (chainE m ls != 0) = true := by rw [bne_iff_ne]; exact he
    have t2 : (chainE m ls == 0) = false := by rw [beq_eq_false_iff_ne]; exact he
    clear h hln hS he HK hnum
    generalize chainN m ls = cn at *
    generalize chainE m ls = ce at *
    go_enter Tryz.func40, Tryz.ntmps40
    go_wp2_with fail
    refine HC.out.mono ?_; rintro e w1 ⟨rfl, hx1⟩
    go_wp2_with fail
    go_ret2
    refine ⟨hx1, none, 0, 0, rfl, ?_⟩
    rw [if_neg HN.out]; exact ⟨rfl, Rd.nil _ _⟩
end Go.Proofs.YtgcaphjjigpjlaaGreatDoor
namespace Go.Proofs.YtgcaphjjigpjlaaGreatDoor
open Go.RowKit
set_option maxRecDepth 100000
set_option maxHeartbeats 4000000
theorem toE10 {X : List Sp} (hok : ∀ s ∈ X, OkW s) (cs : List Nat) (hcp : ∀ c ∈ cs, IsCp c) (hl : (cs.length : Int) = inL X) (hb : inL X ≤ 1048576) : toE X (mkS (encs cs)) = 0 ∧ toS X (mkS (encs cs)) = mkS (encs (apT (tok X) cs)) := by
  have hd : dec (bs (mkS (encs cs))) = some cs := by rw [bs_mkS]; exact dec_encs hcp
  have hE : toE X (mkS (encs cs)) = 0 := by unfold toE; rw [if_pos (okW_mayL X hok hb).1, hd]; exact if_pos hl
  refine ⟨hE, ?_⟩
  unfold toS
  rw [hE, if_pos rfl, hd]
  rfl
theorem all_fR {ls : List (List Sp)} {n m : Int} (h : Thru n ls m) (cs : List Nat) (hcp : ∀ c ∈ cs, IsCp c) (hl : (cs.length : Int) = n) : allL (mkS (encs cs)) ls = (mkS (encs (apT (fR n ls) cs)), 0) ∧ ((apT (fR n ls) cs).length : Int) = m ∧ ∀ c ∈ apT (fR n ls) cs, IsCp c := by
  induction ls generalizing n cs with
  | nil =>
    obtain ⟨rfl, h0⟩ := h
    have e : apT (fR n []) cs = cs := by
      show apT (List.replicate n.toNat Tok.keep) cs = cs
      rw [apT_keep, List.take_of_length_le (by omega)]
    rw [e]
    exact ⟨rfl, hl, hcp⟩
  | cons l r ih =>
    obtain ⟨h1, h2, h3, h4, h5⟩ := h
    obtain ⟨t1, t2⟩ := toE10 h1 cs hcp (by omega) (by omega)
    have tl := tin_ok l h1
    have hap := apT_length (tok l) cs (by omega)
    have hcp2 := apT_cp (tok l) cs (tok_okT l h1) hcp
    obtain ⟨g1, g2, g3⟩ := ih h5 (apT (tok l) cs) hcp2 (by omega)
    have t3 := fR_len h5
    have e : apT (fR n (l :: r)) cs = apT (fR (outL l) r) (apT (tok l) cs) := by
      show apT (compT (tok l) (fR (outL l) r)) cs = _
      exact apT_comp _ _ _ _ (Nat.le_refl _) (by omega) (by omega)
    rw [e]
    refine ⟨?_, g2, g3⟩
    rw [allL, if_pos t1, t2]
    exact g1
end Go.Proofs.YtgcaphjjigpjlaaGreatDoor
namespace Go.Proofs.YtgcaphjjigpjlaaGreatDoor
open Go.RowKit
set_option maxRecDepth 100000
set_option maxHeartbeats 4000000
theorem RdSS.zero {w w' : World} {A : Option Addr} {n c : Nat} {ls : List (List Sp)} (_h : RdSS w A n c ls) (B : Option Addr) (d : Nat) : RdSS w' B 0 d [] :=
  ⟨rfl, [], ⟨rfl, B, d, rfl, Nat.zero_le _, fun h => absurd h (Nat.lt_irrefl 0)⟩, fun i l hl => by cases hl⟩
theorem RdSS.behind {w : World} {b o n c : Nat} {ls : List (List Sp)} (h : RdSS w (some ⟨b, o, none⟩) n c ls) {k : Nat} (hk : k ≤ n) (hc : n ≤ c) : RdSS w (if c = k then some ⟨b, o, none⟩ else some ⟨b, o + k, none⟩) (n - k) (c - k) (ls.drop k) := by
  have hl := h.1
  by_cases hkn : k = n
  · subst hkn
    rw [Nat.sub_self, List.drop_of_length_le (by omega)]
    exact h.zero _ _
  · rw [if_neg (by omega)]
    exact h.drop (by omega)
end Go.Proofs.YtgcaphjjigpjlaaGreatDoor
namespace Go.Proofs.YtgcaphjjigpjlaaGreatDoor
open Go.RowKit
set_option maxRecDepth 100000
set_option maxHeartbeats 4000000
set_option linter.unusedSimpArgs false
end Go.Proofs.YtgcaphjjigpjlaaGreatDoor
