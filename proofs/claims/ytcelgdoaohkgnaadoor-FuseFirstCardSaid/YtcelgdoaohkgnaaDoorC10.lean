/- Layer 10, the reference: Chain, Of. -/
import Derived.Test.YtcelgdoaohkgnaaDoorMk
import Derived.Test.YtcelgdoaohkgnaaDoorC9b
namespace Go.Proofs.YtcelgdoaohkgnaaDoor
open Go.RowKit
set_option maxRecDepth 100000
set_option maxHeartbeats 4000000
theorem chainR10_c (A : Option Addr) (n c : Nat) (ls : List (List Sp)) (m : Int) (w : World) (h : RdSS w A n c ls) (hq : ∀ l ∈ ls, l.length ≤ 1000) (hT : sumTT ls ≤ 400000000) (hn1 : n ≤ 1000000) :
    Calls Tryd.prog 24 #[.int .i64 m, .slice A n c] w fun e w' => e = .returned (.tuple #[.int .i64 (chainN m ls), .int .i64 (chainE m ls)]) ∧ Ext w w' := by
  have HK := Lib.hid (keepR4_c m w)
  have HM : Hid (∀ (l : List Sp) a k c' w', Ext w w' → l ∈ ls → l.length = k → Rd w' 3 (.slice a k c') k (spCells l) → _) := Lib.hid fun l a k c' w' hx hl hk hr => mayR4_c a k c' l w' hr hk (by have := hq l hl; omega) (fun s hs => by have := le_sumT l s hs; have := (le_lenS l hl).2; omega)
  have HI : Hid (∀ (l : List Sp) a k c' w', Ext w w' → l ∈ ls → l.length = k → Rd w' 3 (.slice a k c') k (spCells l) → _) := Lib.hid fun l a k c' w' hx hl hk hr => inR4_c a k c' l w' hr hk (by have := hq l hl; omega)
  have HO : Hid (∀ (l : List Sp) a k c' w', Ext w w' → l ∈ ls → l.length = k → Rd w' 3 (.slice a k c') k (spCells l) → _) := Lib.hid fun l a k c' w' hx hl hk hr => outR4_c a k c' l w' hr hk (by have := hq l hl; omega) (fun s hs => by have := le_sumT l s hs; have := (le_lenS l hl).2; omega)
  have HB : Hid (∀ l ∈ ls, mayL l = 0 → 0 ≤ inL l ∧ inL l ≤ 1048576 ∧ wrap64 (inL l) = inL l ∧ wrap64 (outL l) = outL l) := Lib.hid fun l hl hm => by
    obtain ⟨o1, o2, o3⟩ := may_okW hm (hq l hl)
    have := outL_le l o1
    have := (le_lenS l hl).2
    refine ⟨o2, o3, ?_, ?_⟩ <;> unfold wrap64 <;> omega
  have hln := h.1
  have H := Lib.hid h; have HLN := Lib.hid hln
  by_cases hm : 0 ≤ m ∧ m ≤ 1048576
  · have hE : chainE m ls = chE m (ls.drop 0) ∧ chN m ls = chN m (ls.drop 0) := by rw [List.drop_zero]; exact ⟨by unfold chainE; rw [if_pos hm], rfl⟩
    have HE := Lib.hid hE
    clear h hln hq hT hE
    go_enter Tryd.func24, Tryd.ntmps24
    go_wp2_with fail
    refine HK.out.mono ?_; rintro e w1 ⟨hx1, ⟨hk, _⟩ | ⟨_, _, v, rfl, _⟩⟩
    · omega
    go_wp2_with fail
    go_loopw [0, 8] (fun y z wr => ∃ (j : Nat) (x : Int), j ≤ n ∧ z = .int .i64 j ∧ y = .int .i64 x ∧ (chainE m ls = chE x (ls.drop j) ∧ chN m ls = chN x (ls.drop j)) ∧ Ext w wr) (fun _ z _ => n - (intOf z).toNat)
    case atStart => exact ⟨0, m, by omega, rfl, rfl, HE.out, hx1⟩
    case round =>
      clear HE
      obtain ⟨j, x, hj, rfl, rfl, he, hxr⟩ := hrel
      skip
      have HE := Lib.hid he
      clear he
      by_cases hlt : j < n
      · have hjl : j < ls.length := by have := HLN.out; omega
        obtain ⟨b, off, a, kc, rfl, hb, q0, hr⟩ := (H.out.ext hxr).at_ hlt hjl
        have dn : decide (j < n) = true := by rw [decide_eq_true_eq]; exact hlt
        have i0 : (0 : Int) ≤ (j : Int) := by omega
        have i1 : (j : Int) < (n : Int) := by omega
        obtain ⟨d1, d2⟩ := chE_drop (n := x) hjl
        have hmem := List.getElem_mem hjl
        have CM := Lib.hid (fun w' hx => HM.out ls[j] a _ kc w' (hxr.trans hx) hmem rfl (hr.ext hx))
        have CI := Lib.hid (fun w' hx => HI.out ls[j] a _ kc w' (hxr.trans hx) hmem rfl (hr.ext hx))
        have CO := Lib.hid (fun w' hx => HO.out ls[j] a _ kc w' (hxr.trans hx) hmem rfl (hr.ext hx))
        have hB := HB.out ls[j] hmem
        obtain ⟨k, hk⟩ : ∃ k, ls[j].length = k := ⟨_, rfl⟩
        rw [hk] at q0 CM CI CO
        clear hk hr hmem
        generalize ls[j] = l at *
        by_cases hml : mayL l = 0
        · obtain ⟨b0, b1, b2, b3⟩ := hB hml
          rw [hml] at CM; rw [b2] at CI; rw [b3] at CO
          rw [if_pos hml] at d1
          clear hB hml b2 b3
          by_cases hi : inL l = x
          · rw [if_pos hi] at d1
            have HE2 : Hid (chainE m ls = chE (outL l) (ls.drop (j + 1)) ∧ chN m ls = chN (outL l) (ls.drop (j + 1))) := Lib.hid ⟨by rw [HE.out.1, d1], by rw [HE.out.2, d2]⟩
            have t1 : (inL l != x) = false := by rw [hi]; simp
            have t2 : (inL l == x) = true := by rw [beq_iff_eq]; exact hi
            clear d1 d2 hi
            generalize inL l = il at *
            generalize outL l = ol at *
            go_wp2_with fail
            refine (CM.out _ (Ext.refl _)).mono ?_; rintro e w2 ⟨rfl, hx2⟩; have p2 := ext_cell hx2 q0
            go_wp2_with fail
            refine (CI.out _ hx2).mono ?_; rintro e w3 ⟨rfl, hx3⟩; have p3 := ext_cell hx3 p2
            go_wp2_with fail
            refine (CO.out _ (hx2.trans hx3)).mono ?_; rintro e w4 ⟨rfl, hx4⟩; have p4 := ext_cell hx4 p3
            go_wp2_with fail
            go_roundw
            case rel => exact ⟨j + 1, ol, by omega, by go_num, rfl, HE2.out, hxr.trans ((hx2.trans hx3).trans hx4)⟩
            case measure => simp [intOf]; omega
          · rw [if_neg hi] at d1
            have HR : Hid (chainE m ls = 5 ∧ chainN m ls = 0) := Lib.hid (by
              have e : chainE m ls = 5 := by rw [HE.out.1, d1]
              exact ⟨e, by unfold chainN; rw [e]; rfl⟩)
            have t1 : (inL l != x) = true := by rw [bne_iff_ne]; exact hi
            have t2 : (inL l == x) = false := by rw [beq_eq_false_iff_ne]; exact hi
            clear d1 d2 hi
            generalize inL l = il at *
            go_wp2_with fail
            refine (CM.out _ (Ext.refl _)).mono ?_; rintro e w2 ⟨rfl, hx2⟩; have p2 := ext_cell hx2 q0
            go_wp2_with fail
            refine (CI.out _ hx2).mono ?_; rintro e w3 ⟨rfl, hx3⟩; have p3 := ext_cell hx3 p2
            go_wp2_with fail
            go_ret2
            rw [HR.out.1, HR.out.2]
            exact ⟨rfl, hxr.trans (hx2.trans hx3)⟩
        · rw [if_neg hml] at d1
          have HR : Hid (chainE m ls = mayL l ∧ chainN m ls = 0) := Lib.hid (by
            have e : chainE m ls = mayL l := by rw [HE.out.1, d1]
            exact ⟨e, by unfold chainN; rw [e, if_neg hml]⟩)
          have t1 : (mayL l != 0) = true := by rw [bne_iff_ne]; exact hml
          have t2 : (mayL l == 0) = false := by rw [beq_eq_false_iff_ne]; exact hml
          clear d1 d2 hml hB
          generalize mayL l = ml at *
          go_wp2_with fail
          refine (CM.out _ (Ext.refl _)).mono ?_; rintro e w2 ⟨rfl, hx2⟩; have p2 := ext_cell hx2 q0
          go_wp2_with fail
          go_ret2
          rw [HR.out.1, HR.out.2]
          exact ⟨rfl, hxr.trans hx2⟩
      · obtain rfl : j = n := by omega
        have hall : ls.drop j = [] := List.drop_eq_nil_of_le (by have := HLN.out; omega)
        have HR : Hid (chainE m ls = 0 ∧ chainN m ls = x) := Lib.hid (by
          have h1 := HE.out
          rw [hall] at h1
          have e : chainE m ls = 0 := h1.1
          exact ⟨e, by unfold chainN; rw [if_pos e, h1.2]; rfl⟩)
        have dn : decide (j < j) = false := by rw [decide_eq_false_iff_not]; omega
        clear hall hlt hj
        go_wp2_with fail
        go_ret2
        rw [HR.out.1, HR.out.2]
        exact ⟨rfl, hxr⟩
  · have HR : Hid (chainE m ls = 2 ∧ chainN m ls = 0) := Lib.hid (by
      have e : chainE m ls = 2 := by unfold chainE; rw [if_neg hm]
      exact ⟨e, by unfold chainN; rw [e]; rfl⟩)
    clear h hln hq hT HM HI HO HB
    go_enter Tryd.func24, Tryd.ntmps24
    go_wp2_with fail
    refine HK.out.mono ?_; rintro e w1 ⟨hx1, ⟨_, rfl⟩ | ⟨h0, h1, _⟩⟩
    · go_wp2_with fail
      go_ret2
      rw [HR.out.1, HR.out.2]
      exact ⟨rfl, hx1⟩
    · exact absurd ⟨h0, h1⟩ hm
theorem ofR10_c (A : Option Addr) (n c : Nat) (ls : List (List Sp)) (m : Int) (w : World) (h : RdSS w A n c ls) (hS : Small ls) :
    Calls Tryd.prog 22 #[.int .i64 m, .slice A n c] w (OpR w (chainE m ls) (fuseL m ls)) := by
  have HC := Lib.hid (chainR10_c A n c ls m w h hS.each hS.txt (by have := h.1; have := hS.num; omega))
  have HK : Hid (∀ w', Calls Tryd.prog 53 #[.int .i64 m] w' (KeepR w' m)) := Lib.hid fun w' => keepR4_c m w'
  have hln := h.1
  have hn1 : n ≤ 100000 := by have := hS.num; omega
  have H := Lib.hid h; have HLN := Lib.hid hln
  by_cases he : chainE m ls = 0
  · obtain ⟨hm, hth⟩ := chain_thru he hS.each
    have hST := fun j (hj : j < ls.length) => step10 hth hm.2 hS hj
    have HST := Lib.hid hST
    have HF : Hid (fuseL m ls = spT (fR m ls)) := Lib.hid (thru_chainE hth hm.2).2.2
    have H0 : Hid (keepL m = spT (fR m (ls.take 0))) := Lib.hid (by rw [List.take_zero]; exact (fR_nil m hm.1).symm)
    rw [he] at HC
    have hm0 := hm.1
    have hm1 := hm.2
    rw [he]
    clear h hln hS hth hST he hm
    generalize chainN m ls = cn at *
    go_enter Tryd.func22, Tryd.ntmps22
    go_wp2_with fail
    refine HC.out.mono ?_; rintro e w1 ⟨rfl, hx1⟩
    go_wp2_with fail
    refine (HK.out w1).mono ?_; rintro e w2 ⟨hx2, ⟨hk, _⟩ | ⟨_, _, v, rfl, hr2⟩⟩
    · omega
    obtain ⟨a0, q0, c0, rfl, r0⟩ := rdO_rd hr2
    have R0 := Lib.hid r0
    have hx12 := hx1.trans hx2
    clear hr2 r0
    go_wp2_with fail
    go_loopw [8, 10] (fun y z wr => ∃ (j : Nat) (a : Option Addr) (q k : Nat), j ≤ n ∧ z = .int .i64 j ∧ y = .slice a q k ∧ RdO wr a q k (spT (fR m (ls.take j))) ∧ Ext w wr) (fun _ z _ => n - (intOf z).toNat)
    case atStart => exact ⟨0, a0, q0, c0, by omega, rfl, rfl, by rw [← H0.out]; exact R0.out, hx12⟩
    case round =>
      clear R0
      obtain ⟨j, a0, q0, c0, hj, rfl, rfl, r0, hxr⟩ := hrel
      by_cases hlt : j < n
      · have hjl : j < ls.length := by have := HLN.out; omega
        obtain ⟨b, off, a, kc, rfl, hb, q0', hr⟩ := (H.out.ext hxr).at_ hlt hjl
        have dn : decide (j < n) = true := by rw [decide_eq_true_eq]; exact hlt
        have i0 : (0 : Int) ≤ (j : Int) := by omega
        have i1 : (j : Int) < (n : Int) := by omega
        obtain ⟨s1, s2, s3, s4, s5, s6, s7⟩ := HST.out j hjl
        have hq0 := r0.1
        have CC := Lib.hid (compR9_c a0 q0 c0 _ a _ kc ls[j] wr r0 ⟨rfl, hr⟩ (by omega) s2 s3 s4 s5)
        rw [s6, s7] at CC
        obtain ⟨k, hk⟩ : ∃ k, ls[j].length = k := ⟨_, rfl⟩
        rw [hk] at q0' CC
        clear hk hr r0 s1 s2 s3 s4 s5 s6 s7 hq0
        go_wp2_with fail
        refine CC.out.mono ?_; rintro e w3 ⟨hx3, a3, q3, c3, rfl, r3⟩
        rw [if_pos rfl] at r3
        have R3 := Lib.hid r3
        clear r3
        go_wp2_with fail
        go_roundw
        case rel => exact ⟨j + 1, a3, q3, c3, by omega, by go_num, rfl, R3.out, hxr.trans hx3⟩
        case measure => simp [intOf]; omega
      · obtain rfl : j = n := by omega
        have hall : ls.take j = ls := by rw [← HLN.out]; exact List.take_length
        rw [hall] at r0
        have R0 := Lib.hid r0
        have dn : decide (j < j) = false := by rw [decide_eq_false_iff_not]; omega
        clear hall hlt hj r0
        go_wp2_with fail
        go_ret2
        exact ⟨hxr, a0, q0, c0, rfl, by rw [if_pos rfl, HF.out]; exact R0.out⟩
  · have HN := Lib.hid he
    have t1 : (chainE m ls != 0) = true := by rw [bne_iff_ne]; exact he
    have t2 : (chainE m ls == 0) = false := by rw [beq_eq_false_iff_ne]; exact he
    clear h hln hS he HK
    generalize chainN m ls = cn at *
    generalize chainE m ls = ce at *
    go_enter Tryd.func22, Tryd.ntmps22
    go_wp2_with fail
    refine HC.out.mono ?_; rintro e w1 ⟨rfl, hx1⟩
    go_wp2_with fail
    go_ret2
    refine ⟨hx1, none, 0, 0, rfl, ?_⟩
    rw [if_neg HN.out]; exact ⟨rfl, Rd.nil _ _⟩
end Go.Proofs.YtcelgdoaohkgnaaDoor
