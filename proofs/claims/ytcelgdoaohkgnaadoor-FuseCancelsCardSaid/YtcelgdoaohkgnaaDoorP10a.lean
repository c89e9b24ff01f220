/- Layer 10, the program: Chain, both, slices.Grow, slices.Concat. -/
import Derived.Test.YtcelgdoaohkgnaaDoorMk
import Derived.Lib.AppendZerosOnto
namespace Go.Proofs.YtcelgdoaohkgnaaDoor
open Go.RowKit
set_option maxRecDepth 100000
set_option maxHeartbeats 4000000
theorem chain10_c (A : Option Addr) (n c : Nat) (ls : List (List Sp)) (m : Int) (w : World) [Tab w] (h : RdSS w A n c ls) (hq : ∀ l ∈ ls, l.length ≤ 1000) (hT : sumTT ls ≤ 400000000) (hn1 : n ≤ 1000000) :
    Calls Tryd.prog 23 #[.int .i64 m, .slice A n c] w fun e w' => e = .returned (.tuple #[.int .i64 (chainN m ls), .int .i64 (chainE m ls)]) ∧ Ext w w' := by
  have HK := Lib.hid (keep4_c m w)
  have HM : Hid (∀ (l : List Sp) a k c' w', Ext w w' → l ∈ ls → l.length = k → Rd w' 3 (.slice a k c') k (spCells l) → _) := Lib.hid fun l a k c' w' hx hl hk hr => have hTb := tab_ext hx; may4_c a k c' l w' hr hk (by have := hq l hl; omega) (fun s hs => by have := le_sumT l s hs; have := (le_lenS l hl).2; omega)
  have HI : Hid (∀ (l : List Sp) a k c' w', Ext w w' → l ∈ ls → l.length = k → Rd w' 3 (.slice a k c') k (spCells l) → _) := Lib.hid fun l a k c' w' hx hl hk hr => have hTb := tab_ext hx; in4_c a k c' l w' hr hk (by have := hq l hl; omega)
  have HO : Hid (∀ (l : List Sp) a k c' w', Ext w w' → l ∈ ls → l.length = k → Rd w' 3 (.slice a k c') k (spCells l) → _) := Lib.hid fun l a k c' w' hx hl hk hr => have hTb := tab_ext hx; out4_c a k c' l w' hr hk (by have := hq l hl; omega) (fun s hs => by have := le_sumT l s hs; have := (le_lenS l hl).2; omega)
  have HB : Hid (∀ l ∈ ls, mayL l = 0 → 0 ≤ inL l ∧ inL l ≤ 1048576 ∧ wrap64 (inL l) = inL l ∧ wrap64 (outL l) = outL l) := Lib.hid fun l hl hm => by
    obtain ⟨o1, o2, o3⟩ := may_okW hm (hq l hl)
    have := outL_le l o1
    have := (le_lenS l hl).2
    refine ⟨o2, o3, ?_, ?_⟩ <;> unfold wrap64 <;> omega
  have hln := h.1
  have H := Lib.hid h; have HLN := Lib.hid hln
  by_cases hm : 0 ≤ m ∧ m ≤ 1048576
  · have hE : chainE m ls = chE m (ls.drop 0) ∧ chN m ls = chN m (ls.drop 0) := by rw [List.drop_zero]; exact ⟨by unfold chainE; rw [if_pos hm], rfl⟩
    have HE := Lib.hid hE
    clear h hln hq hT hE
    go_enter Tryd.func23, Tryd.ntmps23
    go_wp2_with fail
    refine HK.out.mono ?_; rintro e w1 ⟨hx1, ⟨hk, _⟩ | ⟨_, _, v, rfl, _⟩⟩
    · omega
    go_wp2_with fail
    go_loopw [0, 21] (fun y z wr => ∃ (j : Nat) (x : Int), j ≤ n ∧ z = .int .i64 j ∧ y = .int .i64 x ∧ (chainE m ls = chE x (ls.drop j) ∧ chN m ls = chN x (ls.drop j)) ∧ Ext w wr) (fun _ z _ => n - (intOf z).toNat)
    case atStart => exact ⟨0, m, by omega, rfl, rfl, HE.out, hx1⟩
    case round =>
      clear HE
      obtain ⟨j, x, hj, rfl, rfl, he, hxr⟩ := hrel
      have htr := tab_ext hxr
      have HE := Lib.hid he
      clear he
      by_cases hlt : j < n
      · have hjl : j < ls.length := by have := HLN.out; omega
        obtain ⟨b, off, a, kc, rfl, hb, q0, hr⟩ := (H.out.ext hxr).at_ hlt hjl
        have dn : decide (j < n) = true := by rw [decide_eq_true_eq]; exact hlt
        have i0 : (0 : Int) ≤ (j : Int) := by omega
        have i1 : (j : Int) < (n : Int) := by omega
        obtain ⟨d1, d2⟩ := chE_drop (n := x) hjl
        have hmem := List.getElem_mem hjl
        have CM := Lib.hid (fun w' hx => HM.out ls[j] a _ kc w' (hxr.trans hx) hmem rfl (hr.ext hx))
        have CI := Lib.hid (fun w' hx => HI.out ls[j] a _ kc w' (hxr.trans hx) hmem rfl (hr.ext hx))
        have CO := Lib.hid (fun w' hx => HO.out ls[j] a _ kc w' (hxr.trans hx) hmem rfl (hr.ext hx))
        have hB := HB.out ls[j] hmem
        obtain ⟨k, hk⟩ : ∃ k, ls[j].length = k := ⟨_, rfl⟩
        rw [hk] at q0 CM CI CO
        clear hk hr hmem
        generalize ls[j] = l at *
        by_cases hml : mayL l = 0
        · obtain ⟨b0, b1, b2, b3⟩ := hB hml
          rw [hml] at CM; rw [b2] at CI; rw [b3] at CO
          rw [if_pos hml] at d1
          clear hB hml b2 b3
          by_cases hi : inL l = x
          · rw [if_pos hi] at d1
            have HE2 : Hid (chainE m ls = chE (outL l) (ls.drop (j + 1)) ∧ chN m ls = chN (outL l) (ls.drop (j + 1))) := Lib.hid ⟨by rw [HE.out.1, d1], by rw [HE.out.2, d2]⟩
            have t1 : (inL l != x) = false := by rw [hi]; simp
            have t2 : (inL l == x) = true := by rw [beq_iff_eq]; exact hi
            clear d1 d2 hi
            generalize inL l = il at *
            generalize outL l = ol at *
            go_wp2_with fail
            refine (CM.out _ (Ext.refl _)).mono ?_; rintro e w2 ⟨rfl, hx2⟩; have ht2 := tab_ext hx2
            go_wp2_with fail
            refine (CI.out _ hx2).mono ?_; rintro e w3 ⟨rfl, hx3⟩; have ht3 := tab_ext hx3
            go_wp2_with fail
            refine (CO.out _ (hx2.trans hx3)).mono ?_; rintro e w4 ⟨rfl, hx4⟩; have ht4 := tab_ext hx4
            go_wp2_with fail
            go_roundw
            case rel => exact ⟨j + 1, ol, by omega, by go_num, rfl, HE2.out, hxr.trans ((hx2.trans hx3).trans hx4)⟩
            case measure => simp [intOf]; omega
          · rw [if_neg hi] at d1
            have HR : Hid (chainE m ls = 5 ∧ chainN m ls = 0) := Lib.hid (by
              have e : chainE m ls = 5 := by rw [HE.out.1, d1]
              exact ⟨e, by unfold chainN; rw [e]; rfl⟩)
            have t1 : (inL l != x) = true := by rw [bne_iff_ne]; exact hi
            have t2 : (inL l == x) = false := by rw [beq_eq_false_iff_ne]; exact hi
            clear d1 d2 hi
            generalize inL l = il at *
            go_wp2_with fail
            refine (CM.out _ (Ext.refl _)).mono ?_; rintro e w2 ⟨rfl, hx2⟩; have ht2 := tab_ext hx2
            go_wp2_with fail
            refine (CI.out _ hx2).mono ?_; rintro e w3 ⟨rfl, hx3⟩; have ht3 := tab_ext hx3
            go_wp2_with fail
            go_ret2
            rw [HR.out.1, HR.out.2]
            exact ⟨rfl, hxr.trans (hx2.trans hx3)⟩
        · rw [if_neg hml] at d1
          have HR : Hid (chainE m ls = mayL l ∧ chainN m ls = 0) := Lib.hid (by
            have e : chainE m ls = mayL l := by rw [HE.out.1, d1]
            exact ⟨e, by unfold chainN; rw [e, if_neg hml]⟩)
          have t1 : (mayL l != 0) = true := by rw [bne_iff_ne]; exact hml
          have t2 : (mayL l == 0) = false := by rw [beq_eq_false_iff_ne]; exact hml
          clear d1 d2 hml hB
          generalize mayL l = ml at *
          go_wp2_with fail
          refine (CM.out _ (Ext.refl _)).mono ?_; rintro e w2 ⟨rfl, hx2⟩; have ht2 := tab_ext hx2
          go_wp2_with fail
          go_ret2
          rw [HR.out.1, HR.out.2]
          exact ⟨rfl, hxr.trans hx2⟩
      · obtain rfl : j = n := by omega
        have hall : ls.drop j = [] := List.drop_eq_nil_of_le (by have := HLN.out; omega)
        have HR : Hid (chainE m ls = 0 ∧ chainN m ls = x) := Lib.hid (by
          have h1 := HE.out
          rw [hall] at h1
          have e : chainE m ls = 0 := h1.1
          exact ⟨e, by unfold chainN; rw [if_pos e, h1.2]; rfl⟩)
        have dn : decide (j < j) = false := by rw [decide_eq_false_iff_not]; omega
        clear hall hlt hj
        go_wp2_with fail
        go_ret2
        rw [HR.out.1, HR.out.2]
        exact ⟨rfl, hxr⟩
  · have HR : Hid (chainE m ls = 2 ∧ chainN m ls = 0) := Lib.hid (by
      have e : chainE m ls = 2 := by unfold chainE; rw [if_neg hm]
      exact ⟨e, by unfold chainN; rw [e]; rfl⟩)
    clear h hln hq hT HM HI HO HB
    go_enter Tryd.func23, Tryd.ntmps23
    go_wp2_with fail
    refine HK.out.mono ?_; rintro e w1 ⟨hx1, ⟨_, rfl⟩ | ⟨h0, h1, _⟩⟩
    · go_wp2_with fail
      go_ret2
      rw [HR.out.1, HR.out.2]
      exact ⟨rfl, hx1⟩
    · exact absurd ⟨h0, h1⟩ hm
theorem grow10_c (k : Nat) (h0 : 0 < k) (h1 : k ≤ 1000000) (w : World) :
    Calls Tryd.prog 78 #[.slice none 0 0, .int .i64 k] w fun e w' => ∃ v, e = .returned v ∧ Ext w w' ∧ Own w' w.heap.size 22 1 v 0 [] := by
  obtain ⟨i, hi, hz0, hz1, hz2⟩ := info_parts info_ss
  have hb : k * i.bytes ≤ 24000000 := by rw [hz2]; omega
  obtain ⟨G, hG⟩ : ∃ G, G = grownCap w k 0 22 := ⟨_, rfl⟩
  have hGn : k ≤ G := by rw [hG]; exact grownCap_ge w _ _ _
  have hGm : G ≤ maxLen := by rw [hG]; exact grownCap_le_maxLen w k 0 _ (by unfold maxLen; omega)
  have hrz : ∀ ty, (Builtin.append_ #[42, 3] ty #[.slice none 0 0, .int .i64 (k : Int)]).run Tryd.prog w =
      .ok (.slice (some ⟨w.heap.size, 0, none⟩) k G) (w.drew.alloc (.cells (#[] ++ Builtin.zeroCells (Value.slice none 0 0).cells k ++ Builtin.zeroCells (Value.slice none 0 0).cells (G - k)) 22)) := fun ty => by
    have h := Lib.run_append_grow_zeros w 42 3 ty 22 i (.slice none 0 0) .i64 .i64 Tryd.underlying42 Tryd.underlying3 hi hz0 none 0 0 [] (run_firstCells_none w.drew i.size 0 0 0) k h0 (by rw [hz1]; omega) (by omega) (by omega) (by omega) (growslice_fits (by omega) (by rw [Nat.zero_add]; omega))
    rw [Nat.zero_add] at h
    rw [← hG] at h
    exact h
  have HOWN : Hid (Own (w.drew.alloc (.cells (#[] ++ Builtin.zeroCells (Value.slice none 0 0).cells k ++ Builtin.zeroCells (Value.slice none 0 0).cells (G - k)) 22)) w.heap.size 22 1 (.slice (some ⟨w.heap.size, 0, none⟩) 0 G) 0 []) := Lib.hid (by
    refine ⟨⟨rfl, .inr ⟨w.heap.size, G, _, rfl, Nat.le_refl _, heap_alloc_new w.drew _, Nat.zero_le _, hGm, ?_, by simp⟩⟩, by simp⟩
    have hz1 : (Value.slice none 0 0).cells.size = 1 := rfl
    simp only [Array.size_append, size_zeroCells, hz1, List.size_toArray, List.length_nil]
    omega)
  have HX := Lib.hid ((Ext.refl w).drew.alloc (.cells (#[] ++ Builtin.zeroCells (Value.slice none 0 0).cells k ++ Builtin.zeroCells (Value.slice none 0 0).cells (G - k)) 22))
  have hG63 : G ≤ 9223372036854775807 := by unfold maxLen at hGm; omega
  have HRZ := Lib.hid hrz
  have h63 : ¬ ((k : Int) < 0) := by omega
  have h64 : (0 : Int) < (k : Int) := by omega
  clear hi hz0 hz1 hz2 hb hG hrz hGm
  generalize (#[] ++ Builtin.zeroCells (Value.slice none 0 0).cells k ++ Builtin.zeroCells (Value.slice none 0 0).cells (G - k)) = Z at *
  go_enter Tryd.func78, Tryd.ntmps78
  go_wp2_with (at_builtin; refine Lib.wpList_append_run _ rfl _ _ _ _ rfl _ _ rfl rfl _ _ (HRZ.out _) ?_)
  all_goals
    go_ret
    exact ⟨_, rfl, HX.out, HOWN.out⟩
theorem concat10_c (b0 : Nat) (A1 : Option Addr) (n1 c1 : Nat) (A : Option Addr) (n c : Nat) (v1 vs : List Value) (w : World) (q0 : w.cell? ⟨b0, 0, none⟩ = some (.slice A1 n1 c1)) (q1 : w.cell? ⟨b0, 1, none⟩ = some (.slice A n c))
    (h1 : Rd w 1 (.slice A1 n1 c1) n1 v1) (h : Rd w 1 (.slice A n c) n vs) (ho1 : ∀ u ∈ v1, u.oneCell' = true) (ho : ∀ u ∈ vs, u.oneCell' = true) (hn1 : 0 < n1) (hn1' : n1 ≤ 1000) (hn : n ≤ 500000) :
    Calls Tryd.prog 51 #[.slice (some ⟨b0, 0, none⟩) 2 2] w fun e w' => ∃ v, e = .returned v ∧ Ext w w' ∧ Own w' w.heap.size 22 1 v (n1 + n) (v1 ++ vs) := by
  obtain ⟨i, hi, hz0, hz1, hz2⟩ := info_parts info_ss
  have HG : Hid (∀ w', _) := Lib.hid fun w' => grow10_c (n1 + n) (by omega) (by omega) w'
  have H1 := Lib.hid h1; have H := Lib.hid h; have HO1 := Lib.hid ho1; have HO := Lib.hid ho
  have Q0 : Hid (∀ w', Ext w w' → w'.cell? ⟨b0, 0, none⟩ = some (.slice A1 n1 c1)) := Lib.hid fun w' hx => ext_cell hx q0
  have Q1 : Hid (∀ w', Ext w w' → w'.cell? ⟨b0, 1, none⟩ = some (.slice A n c)) := Lib.hid fun w' hx => ext_cell hx q1
  have hI : Hid (Tryd.prog.info? 22 = some i ∧ i.zero = some (.slice none 0 0) ∧ i.size = 1 ∧ i.bytes = 24) := Lib.hid ⟨hi, hz0, hz1, hz2⟩
  clear h1 h ho1 ho hi hz0 hz1 hz2
  go_enter Tryd.func51, Tryd.ntmps51
  go_wp2_with fail
  go_loop [3, 11] (fun x z => ∃ j s : Nat, z = .int .i64 j ∧ x = .int .i64 s ∧ ((j = 0 ∧ s = 0) ∨ (j = 1 ∧ s = n1) ∨ (j = 2 ∧ s = n1 + n))) (fun _ z => 2 - (intOf z).toNat)
  case atStart => exact ⟨0, 0, rfl, rfl, .inl ⟨rfl, rfl⟩⟩
  case round =>
    obtain ⟨j, s, rfl, rfl, ⟨rfl, rfl⟩ | ⟨rfl, rfl⟩ | ⟨rfl, rfl⟩⟩ := hrel
    · go_wp2_with fail
      go_round
      case rel => exact ⟨1, n1, by go_num, by go_num, .inr (.inl ⟨rfl, rfl⟩)⟩
      case measure => simp [intOf]
    · go_wp2_with fail
      go_round
      case rel => exact ⟨2, s + n, by go_num, by go_num, .inr (.inr ⟨rfl, rfl⟩)⟩
      case measure => simp [intOf]
    · go_wp2_with fail
      refine (HG.out _).mono ?_; rintro e w1 ⟨v0, rfl, hx1, own0⟩
      have OWN0 := Lib.hid own0
      have HX1 := Lib.hid hx1
      clear own0 hx1
      go_wp2_with fail
      go_loopw [6, 27] (fun o z wr => ∃ j m : Nat, ∃ xs, z = .int .i64 j ∧ Own wr w.heap.size 22 1 o m xs ∧ Ext w wr ∧ ((j = 0 ∧ m = 0 ∧ xs = []) ∨ (j = 1 ∧ m = n1 ∧ xs = v1) ∨ (j = 2 ∧ m = n1 + n ∧ xs = v1 ++ vs))) (fun _ z _ => 2 - (intOf z).toNat)
      case atStart => exact ⟨0, 0, [], rfl, OWN0.out, HX1.out, .inl ⟨rfl, rfl, rfl⟩⟩
      case round =>
        obtain ⟨j, m, xs, rfl, own, hxr, ⟨rfl, rfl, rfl⟩ | ⟨rfl, rfl, rfl⟩ | ⟨rfl, rfl, rfl⟩⟩ := hrel
        · have p0 := Q0.out _ hxr
          obtain ⟨v', w', happ, hown', hbel'⟩ := app_rd (P := Tryd.prog) 42 42 22 i _ 1 24 Tryd.underlying42 hI.out.1 hI.out.2.1 hI.out.2.2.1 hI.out.2.2.2 rfl (by omega) (by omega)
            hxr own (by omega) (H1.out.ext hxr) (by omega) HO1.out
          have HAP := Lib.hid happ
          rw [Nat.zero_add, List.nil_append] at hown'
          have HOWN := Lib.hid hown'
          have HBEL := Lib.hid hbel'
          clear happ hown' hbel' own
          go_wp2_with (at_builtin; refine wpList_append_run rfl rfl HAP.out rfl rfl ?_)
          go_roundw
          case rel => exact ⟨1, n1, v1, by go_num, HOWN.out, HBEL.out, .inr (.inl ⟨rfl, rfl, rfl⟩)⟩
          case measure => simp [intOf]
        · have p0 := Q1.out _ hxr
          obtain ⟨v', w', happ, hown', hbel'⟩ := app_rd (P := Tryd.prog) 42 42 22 i _ 1 24 Tryd.underlying42 hI.out.1 hI.out.2.1 hI.out.2.2.1 hI.out.2.2.2 rfl (by omega) (by omega)
            hxr own (by omega) (H.out.ext hxr) (by omega) HO.out
          have HAP := Lib.hid happ
          have HOWN := Lib.hid hown'
          have HBEL := Lib.hid hbel'
          clear happ hown' hbel' own
          go_wp2_with (at_builtin; refine wpList_append_run rfl rfl HAP.out rfl rfl ?_)
          go_roundw
          case rel => exact ⟨2, _, _, by go_num, HOWN.out, HBEL.out, .inr (.inr ⟨rfl, rfl, rfl⟩)⟩
          case measure => simp [intOf]
        · have OWN := Lib.hid own
          clear own
          go_wp2_with fail
          go_ret
          exact ⟨_, rfl, hxr, OWN.out⟩
theorem both10_c (A : Option Addr) (q c : Nat) (a : List Sp) (B : Option Addr) (q' c' : Nat) (b : List Sp) (w : World) [Tab w] (h : RdO w A q c a) (h' : RdO w B q' c' b) (hq : q ≤ 1000) (hq' : q' ≤ 1000)
    (hta : ∀ s ∈ a, s.2.2.size ≤ 1000000000) (htb : ∀ s ∈ b, s.2.2.size ≤ 1000000000) (hT : sumT a + sumT b ≤ 900000000) (hE : compE a b = 0) :
    Calls Tryd.prog 52 #[.slice A q c, .slice B q' c'] w (TellsL w (compL a b)) := by
  have HC := Lib.hid (comp9_c A q c a B q' c' b w h h' hq hq' hta htb hT)
  rw [hE] at HC
  clear h h' hta htb hT hE
  generalize compL a b = CL at *
  go_enter Tryd.func52, Tryd.ntmps52
  go_wp2_with fail
  refine HC.out.mono ?_; rintro e w1 ⟨hx1, a1, n1, c1, rfl, r1⟩
  rw [if_pos rfl] at r1
  go_wp2_with fail
  go_ret
  exact ⟨hx1, a1, n1, c1, rfl, r1⟩
end Go.Proofs.YtcelgdoaohkgnaaDoor
