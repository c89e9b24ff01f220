/- Layer 10, FuseParts. -/
import Derived.Test.YtcelgdoaohkgnaaDoorL10b
namespace Go.Proofs.YtcelgdoaohkgnaaDoor
open Go.RowKit
set_option maxRecDepth 100000
set_option maxHeartbeats 4000000
theorem RdSS.zero {w w' : World} {A : Option Addr} {n c : Nat} {ls : List (List Sp)} (_h : RdSS w A n c ls) (B : Option Addr) (d : Nat) : RdSS w' B 0 d [] :=
  ⟨rfl, [], ⟨rfl, B, d, rfl, Nat.zero_le _, fun h => absurd h (Nat.lt_irrefl 0)⟩, fun i l hl => by cases hl⟩
theorem RdSS.behind {w : World} {b o n c : Nat} {ls : List (List Sp)} (h : RdSS w (some ⟨b, o, none⟩) n c ls) {k : Nat} (hk : k ≤ n) (hc : n ≤ c) : RdSS w (if c = k then some ⟨b, o, none⟩ else some ⟨b, o + k, none⟩) (n - k) (c - k) (ls.drop k) := by
  have hl := h.1
  by_cases hkn : k = n
  · subst hkn
    rw [Nat.sub_self, List.drop_of_length_le (by omega)]
    exact h.zero _ _
  · rw [if_neg (by omega)]
    exact h.drop (by omega)
/-- What a function answers that makes a row of operations of its own. -/
def TellsC (w : World) (N : Nat) (L : List (List Sp)) (e : Ending) (w' : World) : Prop := Ext w w' ∧ ∃ A c, e = .returned (.slice A N c) ∧ RdSS w' A N c L ∧ ((A = none ∧ N = 0 ∧ c = 0) ∨ ∃ g, A = some ⟨g, 0, none⟩ ∧ N ≤ c)
theorem chainRC {A : Option Addr} {q c : Nat} {ls : List (List Sp)} {M : Int} {N : Nat} {w' : World} (h : RdSS w' A q c ls) (hs : ∀ l ∈ ls, ∀ s ∈ l, s.2.2.size ≤ maxLen) (h0 : 0 ≤ M) (h1 : M ≤ 1000) (hN : (chainL (ls.take 20) M).length = N) :
    Calls Tryd.prog 25 #[.slice A q c, .int .i64 M] w' (TellsC w' N (chainL (ls.take 20) M)) := by
  subst hN
  refine (chainR4_c A q c ls M w' h hs h0 h1).mono ?_
  rintro e w'' ⟨v, rfl, hx, ho⟩
  have ho2 := ho
  obtain ⟨vs, h1, _⟩ := ho2
  obtain ⟨A', c', rfl, hc, hr⟩ := ho.rd
  refine ⟨hx, A', c', rfl, hr, ?_⟩
  rcases h1.1.2 with ⟨hv, he⟩ | ⟨g, cap, cur, hv, _, _, hnc, _⟩
  · injection hv with e1 e2 e3
    exact .inl ⟨e1, e2, e3⟩
  · injection hv with e1 e2 e3
    exact .inr ⟨g, e1, hc⟩
/-- A chain cut at a place, each part made one. -/
theorem parts10 {CW : List (List Sp)} {M k : Int} (h260 : lenS CW ≤ 260) (ht : sumTT CW ≤ 6240) (hn : CW.length ≤ 20) (h : Thru M CW k) (h1 : M ≤ 1000) (K : Nat) :
    ∃ k1, Thru M (CW.take K) k1 ∧ Thru k1 (CW.drop K) k ∧ 0 ≤ k1 ∧ k1 ≤ 100000 ∧ Small (CW.take K) ∧ Small (CW.drop K) ∧ Good (spT (fR M (CW.take K))) ∧ outL (spT (fR M (CW.take K))) = k1 ∧
    Thru M [spT (fR M (CW.take K)), spT (fR k1 (CW.drop K))] k ∧ Small [spT (fR M (CW.take K)), spT (fR k1 (CW.drop K))] ∧ fR M [spT (fR M (CW.take K)), spT (fR k1 (CW.drop K))] = fR M CW := by
  obtain ⟨k1, t1, t2⟩ := thru_take h K
  have e1 := lenS_take CW K
  obtain ⟨a1, a2, a3, a4, a5, a6, a7⟩ := fR_small t1 (by omega)
  have hb := outL_le _ a1
  have l1 : (CW.take K).length ≤ 20 := by rw [List.length_take]; omega
  have l2 : (CW.drop K).length ≤ 20 := by rw [List.length_drop]; omega
  have hk1 : 0 ≤ k1 ∧ k1 ≤ 100000 := by omega
  obtain ⟨b1, b2, b3, b4, b5, b6, b7⟩ := fR_small t2 (by omega)
  have hlen : lenS [spT (fR M (CW.take K)), spT (fR k1 (CW.drop K))] = (spT (fR M (CW.take K))).length + ((spT (fR k1 (CW.drop K))).length + 0) := by rw [lenS_cons, lenS_cons]; rfl
  have htxt : sumTT [spT (fR M (CW.take K)), spT (fR k1 (CW.drop K))] = sumT (spT (fR M (CW.take K))) + (sumT (spT (fR k1 (CW.drop K))) + 0) := by rw [sumTT_cons, sumTT_cons]; rfl
  have hpos : 0 ≤ k := by
    have t := fR_len t2; omega
  refine ⟨k1, t1, t2, hk1.1, hk1.2, ⟨by omega, by omega, by omega⟩, ⟨by omega, by omega, by omega⟩, ⟨a1, by omega, by omega, by omega⟩, a5, ⟨a1, a4, h.pos, by omega, ?_⟩, ⟨by omega, by omega, by simp⟩, ?_⟩
  · rw [a5]
    exact ⟨b1, b4, hk1.1, by omega, by omega, by omega⟩
  · show compT (tok (spT (fR M (CW.take K)))) (fR (outL (spT (fR M (CW.take K)))) [spT (fR k1 (CW.drop K))]) = _
    have e : fR (outL (spT (fR M (CW.take K)))) [spT (fR k1 (CW.drop K))] = fR k1 (CW.drop K) := by
      rw [a5]
      have g := fR_one b1
      rw [b4, b2] at g
      exact g
    rw [e, a2, ← fR_append t1 t2, List.take_append_drop]
theorem fuseParts_c (A0 : Option Addr) (q0 c0 : Nat) (ls : List (List Sp)) (m at_ : Int) (w : World) [Tab w] (h0 : RdSS w A0 q0 c0 ls) (hls : ∀ l ∈ ls, ∀ s ∈ l, s.2.2.size ≤ maxLen) (hm : (Lit.int .u8 m).wf = true) (ha : (Lit.int .u8 at_).wf = true) :
    Calls Tryd.prog 6 #[.slice A0 q0 c0, .int .u8 m, .int .u8 at_] w fun e w' => e = .returned (.bool true) ∧ Below w.heap.size w w' := by
  obtain ⟨n0, n1⟩ := bounds_u8 hm
  obtain ⟨o0, o1⟩ := bounds_u8 ha
  obtain ⟨M, hM, hM0, hM1⟩ : ∃ M : Int, m % 64 = M ∧ 0 ≤ M ∧ M ≤ 63 := ⟨m % 64, rfl, by omega, by omega⟩
  obtain ⟨k, SW, TW, lW, tW, nW⟩ := made_chain ls M hM0 (by omega)
  obtain ⟨N, hN⟩ : ∃ N, (chainL (ls.take 20) M).length = N := ⟨_, rfl⟩
  have HW : Hid (∀ w', Ext w w' → Calls Tryd.prog 25 #[.slice A0 q0 c0, .int .i64 M] w' (TellsC w' N (chainL (ls.take 20) M))) := Lib.hid fun w' hx => chainRC (h0.ext hx) hls hM0 (by omega) hN
  obtain ⟨K, hK, hKN⟩ : ∃ K : Nat, at_ % ((N : Int) + 1) = (K : Int) ∧ K ≤ N := by
    have h1 := Int.emod_nonneg at_ (show ((N : Int) + 1) ≠ 0 by omega)
    have h2 := Int.emod_lt_of_pos at_ (show (0 : Int) < (N : Int) + 1 by omega)
    exact ⟨(at_ % ((N : Int) + 1)).toNat, by omega, by omega⟩
  have hK2 : at_.tmod ((N : Int) + 1) = (K : Int) := by rw [Int.tmod_eq_emod_of_nonneg o0]; exact hK
  obtain ⟨k1, t1, t2, p0, p1, S1, S2, GA, oA, t3, S3, heq⟩ := parts10 lW tW nW TW (by omega) K
  have hN20 : N ≤ 20 := by omega
  have OW : Hid (∀ A c w', Ext w w' → RdSS w' A N c (chainL (ls.take 20) M) → Calls Tryd.prog 20 #[.int .i64 M, .slice A N c] w' (TellsE w' (spT (fR M (chainL (ls.take 20) M))))) := Lib.hid fun A c w' hx hr => fuseG SW TW (by omega) hx hr
  have OA : Hid (∀ A c w', Ext w w' → RdSS w' A K c ((chainL (ls.take 20) M).take K) → Calls Tryd.prog 20 #[.int .i64 M, .slice A K c] w' (TellsE w' (spT (fR M ((chainL (ls.take 20) M).take K))))) := Lib.hid fun A c w' hx hr => fuseG S1 t1 (by omega) hx hr
  have OB : Hid (∀ A n c w', Ext w w' → RdSS w' A n c ((chainL (ls.take 20) M).drop K) → Calls Tryd.prog 20 #[.int .i64 k1, .slice A n c] w' (TellsE w' (spT (fR k1 ((chainL (ls.take 20) M).drop K))))) := Lib.hid fun A n c w' hx hr => fuseG S2 t2 (by omega) hx hr
  have OC : Hid (∀ A n c w', Ext w w' → RdSS w' A n c [spT (fR M ((chainL (ls.take 20) M).take K)), spT (fR k1 ((chainL (ls.take 20) M).drop K))] → Calls Tryd.prog 20 #[.int .i64 M, .slice A n c] w' (TellsE w' (spT (fR M (chainL (ls.take 20) M))))) := Lib.hid fun A n c w' hx hr => by
    have h := fuseG S3 t3 (by omega) hx hr
    rw [heq] at h
    exact h
  have CO : Hid (∀ A n c w', Ext w w' → RdO w' A n c (spT (fR M ((chainL (ls.take 20) M).take K))) → Calls Tryd.prog 12 #[.slice A n c] w' fun e w'' => e = .returned (.int .i64 k1) ∧ Ext w' w'') := Lib.hid fun A n c w' hx hr => by
    have h := outG GA hx hr
    rw [oA] at h
    exact h
  have LW : Hid ((spT (fR M (chainL (ls.take 20) M))).length ≤ 300) := Lib.hid (by
    have := (fR_small TW (by omega)).2.2.2.2.2.1
    omega)
  clear SW TW lW tW nW t1 t2 S1 S2 GA oA t3 S3 heq h0 hls hm ha hN
  generalize spT (fR k1 ((chainL (ls.take 20) M).drop K)) = B at *
  generalize spT (fR M ((chainL (ls.take 20) M).take K)) = A at *
  generalize spT (fR M (chainL (ls.take 20) M)) = Y at *
  generalize chainL (ls.take 20) M = CW at *
  go_enter Tryd.func6, Tryd.ntmps6
  go_wp2_with fail
  refine (shown10_c _).mono ?_; rintro e w1 ⟨rfl, hx1⟩
  have e1 : Ext w w1 := hx1
  clear hx1
  go_wp2_with fail
  refine (HW.out _ e1).mono ?_; rintro e w2 ⟨hx2, aW, cW, rfl, rW, hAW⟩
  have e2 : Ext w w2 := e1.trans hx2
  have RW := Lib.hid rW
  clear hx2 rW
  have hKi : (0 : Int) ≤ (K : Int) := by omega
  have hKn : (K : Int) ≤ (N : Int) := by omega
  rcases hAW with ⟨rfl, hz, rfl⟩ | ⟨g, rfl, hc⟩
  · subst hz
    obtain rfl : K = 0 := by omega
    go_wp2_with fail
    refine (OW.out _ _ _ e2 RW.out).mono ?_; rintro e w3 ⟨hx3, aX, nX, cX, rfl, rX⟩
    have e3 : Ext w w3 := e2.trans hx3
    replace RW := Lib.hid (RW.out.ext hx3)
    have RX := Lib.hid rX
    clear hx3 rX
    have RT := Lib.hid (RW.out.take hKN)
    go_wp2_with fail
    refine (OA.out _ _ _ e3 RT.out).mono ?_; rintro e w4 ⟨hx4, aA, nA, cA, rfl, rA⟩
    have e4 : Ext w w4 := e3.trans hx4
    replace RW := Lib.hid (RW.out.ext hx4)
    replace RX := Lib.hid (RX.out.ext hx4)
    replace RT := Lib.hid (RT.out.ext hx4)
    have RA := Lib.hid rA
    clear hx4 rA
    clear RT
    have RD := Lib.hid (RW.out.zero (w' := w4) none 0)
    rw [show ([] : List (List Sp)) = CW.drop 0 by rw [List.drop_zero]; exact (List.eq_nil_of_length_eq_zero RW.out.1).symm] at RD
    go_wp2_with fail
    have hrr := Ext.refl w4
    go_region_held3 (fun W => Ext w4 W ∧ True)
      ((go_split_ands; refine ⟨?_, ?_⟩ <;> first | (exact True.intro) | (exact Ext.drew ‹_›) | (exact Ext.trans ‹_› hxk) | (exact ext_cell hxk ‹_›) | go_keep))
      (first
      | (go_at_call 12; go_split_ands; refine (CO.out _ _ _ _ (e4.trans ‹Ext w4 _›) (RA.out.ext ‹Ext w4 _›)).mono ?_; rintro e wO ⟨rfl, hxk⟩)
      | (go_at_call 20; go_split_ands; refine (OB.out _ _ _ _ (e4.trans ‹Ext w4 _›) (RD.out.ext ‹Ext w4 _›)).mono ?_; rintro e wF ⟨hxk, aB, nB, cB, rfl, rB⟩))
    go_split_ands
    have hx5 : Ext w4 wF := by first | assumption | exact Ext.trans ‹Ext w4 _› hxk
    have e5 : Ext w wF := e4.trans hx5
    replace RW := Lib.hid (RW.out.ext hx5)
    replace RX := Lib.hid (RX.out.ext hx5)
    replace RA := Lib.hid (RA.out.ext hx5)
    replace RD := Lib.hid (RD.out.ext hx5)
    have RB := Lib.hid rB
    clear rB
    clear RD
    have RSS := Lib.hid (rdSS2 22 RA.out RB.out)
    replace RW := Lib.hid (RW.out.ext ((Ext.refl wF).alloc (.cells #[.slice aA nA cA, .slice aB nB cB] 22)))
    replace RX := Lib.hid (RX.out.ext ((Ext.refl wF).alloc (.cells #[.slice aA nA cA, .slice aB nB cB] 22)))
    replace RA := Lib.hid (RA.out.ext ((Ext.refl wF).alloc (.cells #[.slice aA nA cA, .slice aB nB cB] 22)))
    replace RB := Lib.hid (RB.out.ext ((Ext.refl wF).alloc (.cells #[.slice aA nA cA, .slice aB nB cB] 22)))
    have e6 : Ext w (wF.alloc (.cells #[.slice aA nA cA, .slice aB nB cB] 22)) := e5.alloc _
    go_wp2_with fail
    refine (OC.out _ _ _ _ e6 RSS.out).mono ?_; rintro e w7 ⟨hx7, aZ, nZ, cZ, rfl, rZ⟩
    have e7 : Ext w w7 := e6.trans hx7
    replace RW := Lib.hid (RW.out.ext hx7)
    replace RX := Lib.hid (RX.out.ext hx7)
    replace RA := Lib.hid (RA.out.ext hx7)
    replace RB := Lib.hid (RB.out.ext hx7)
    have RZ := Lib.hid rZ
    clear hx7 rZ
    go_wp2_with fail
    refine (sameTrueG rfl LW.out RX.out RZ.out).mono ?_; rintro e w8 ⟨rfl, hx8⟩
    have e8 : Ext w w8 := e7.trans hx8
    replace RW := Lib.hid (RW.out.ext hx8)
    replace RX := Lib.hid (RX.out.ext hx8)
    replace RA := Lib.hid (RA.out.ext hx8)
    replace RB := Lib.hid (RB.out.ext hx8)
    replace RZ := Lib.hid (RZ.out.ext hx8)
    clear hx8
    go_wp2_with fail
    go_ret
    exact ⟨rfl, e8⟩
  · have hKc : (K : Int) ≤ (cW : Int) := by omega
    have hNc : (N : Int) ≤ (cW : Int) := by omega
    have hKc' : K ≤ cW := by omega
    rcases (by omega : ¬ cW = K ∨ (cW = K ∧ N = K)) with hne | ⟨rfl, rfl⟩
    · skip
      go_wp2_with fail
      refine (OW.out _ _ _ e2 RW.out).mono ?_; rintro e w3 ⟨hx3, aX, nX, cX, rfl, rX⟩
      have e3 : Ext w w3 := e2.trans hx3
      replace RW := Lib.hid (RW.out.ext hx3)
      have RX := Lib.hid rX
      clear hx3 rX
      have RT := Lib.hid (RW.out.take hKN)
      go_wp2_with fail
      refine (OA.out _ _ _ e3 RT.out).mono ?_; rintro e w4 ⟨hx4, aA, nA, cA, rfl, rA⟩
      have e4 : Ext w w4 := e3.trans hx4
      replace RW := Lib.hid (RW.out.ext hx4)
      replace RX := Lib.hid (RX.out.ext hx4)
      replace RT := Lib.hid (RT.out.ext hx4)
      have RA := Lib.hid rA
      clear hx4 rA
      clear RT
      have RD := Lib.hid (RW.out.behind hKN hc)
      rw [if_neg hne, Nat.zero_add] at RD
      go_wp2_with fail
      have hrr := Ext.refl w4
      go_region_held3 (fun W => Ext w4 W ∧ True)
        ((go_split_ands; refine ⟨?_, ?_⟩ <;> first | (exact True.intro) | (exact Ext.drew ‹_›) | (exact Ext.trans ‹_› hxk) | (exact ext_cell hxk ‹_›) | go_keep))
        (first
        | (go_at_call 12; go_split_ands; refine (CO.out _ _ _ _ (e4.trans ‹Ext w4 _›) (RA.out.ext ‹Ext w4 _›)).mono ?_; rintro e wO ⟨rfl, hxk⟩)
        | (go_at_call 20; go_split_ands; refine (OB.out _ _ _ _ (e4.trans ‹Ext w4 _›) (RD.out.ext ‹Ext w4 _›)).mono ?_; rintro e wF ⟨hxk, aB, nB, cB, rfl, rB⟩))
      go_split_ands
      have hx5 : Ext w4 wF := by first | assumption | exact Ext.trans ‹Ext w4 _› hxk
      have e5 : Ext w wF := e4.trans hx5
      replace RW := Lib.hid (RW.out.ext hx5)
      replace RX := Lib.hid (RX.out.ext hx5)
      replace RA := Lib.hid (RA.out.ext hx5)
      replace RD := Lib.hid (RD.out.ext hx5)
      have RB := Lib.hid rB
      clear rB
      clear RD
      have RSS := Lib.hid (rdSS2 22 RA.out RB.out)
      replace RW := Lib.hid (RW.out.ext ((Ext.refl wF).alloc (.cells #[.slice aA nA cA, .slice aB nB cB] 22)))
      replace RX := Lib.hid (RX.out.ext ((Ext.refl wF).alloc (.cells #[.slice aA nA cA, .slice aB nB cB] 22)))
      replace RA := Lib.hid (RA.out.ext ((Ext.refl wF).alloc (.cells #[.slice aA nA cA, .slice aB nB cB] 22)))
      replace RB := Lib.hid (RB.out.ext ((Ext.refl wF).alloc (.cells #[.slice aA nA cA, .slice aB nB cB] 22)))
      have e6 : Ext w (wF.alloc (.cells #[.slice aA nA cA, .slice aB nB cB] 22)) := e5.alloc _
      go_wp2_with fail
      refine (OC.out _ _ _ _ e6 RSS.out).mono ?_; rintro e w7 ⟨hx7, aZ, nZ, cZ, rfl, rZ⟩
      have e7 : Ext w w7 := e6.trans hx7
      replace RW := Lib.hid (RW.out.ext hx7)
      replace RX := Lib.hid (RX.out.ext hx7)
      replace RA := Lib.hid (RA.out.ext hx7)
      replace RB := Lib.hid (RB.out.ext hx7)
      have RZ := Lib.hid rZ
      clear hx7 rZ
      go_wp2_with fail
      refine (sameTrueG rfl LW.out RX.out RZ.out).mono ?_; rintro e w8 ⟨rfl, hx8⟩
      have e8 : Ext w w8 := e7.trans hx8
      replace RW := Lib.hid (RW.out.ext hx8)
      replace RX := Lib.hid (RX.out.ext hx8)
      replace RA := Lib.hid (RA.out.ext hx8)
      replace RB := Lib.hid (RB.out.ext hx8)
      replace RZ := Lib.hid (RZ.out.ext hx8)
      clear hx8
      go_wp2_with fail
      go_ret
      exact ⟨rfl, e8⟩
    · skip
      go_wp2_with fail
      refine (OW.out _ _ _ e2 RW.out).mono ?_; rintro e w3 ⟨hx3, aX, nX, cX, rfl, rX⟩
      have e3 : Ext w w3 := e2.trans hx3
      replace RW := Lib.hid (RW.out.ext hx3)
      have RX := Lib.hid rX
      clear hx3 rX
      have RT := Lib.hid (RW.out.take hKN)
      go_wp2_with fail
      refine (OA.out _ _ _ e3 RT.out).mono ?_; rintro e w4 ⟨hx4, aA, nA, cA, rfl, rA⟩
      have e4 : Ext w w4 := e3.trans hx4
      replace RW := Lib.hid (RW.out.ext hx4)
      replace RX := Lib.hid (RX.out.ext hx4)
      replace RT := Lib.hid (RT.out.ext hx4)
      have RA := Lib.hid rA
      clear hx4 rA
      clear RT
      have RD := Lib.hid (RW.out.behind hKN hc)
      rw [if_pos rfl, Nat.sub_self] at RD
      go_wp2_with fail
      have hrr := Ext.refl w4
      go_region_held3 (fun W => Ext w4 W ∧ True)
        ((go_split_ands; refine ⟨?_, ?_⟩ <;> first | (exact True.intro) | (exact Ext.drew ‹_›) | (exact Ext.trans ‹_› hxk) | (exact ext_cell hxk ‹_›) | go_keep))
        (first
        | (go_at_call 12; go_split_ands; refine (CO.out _ _ _ _ (e4.trans ‹Ext w4 _›) (RA.out.ext ‹Ext w4 _›)).mono ?_; rintro e wO ⟨rfl, hxk⟩)
        | (go_at_call 20; go_split_ands; refine (OB.out _ _ _ _ (e4.trans ‹Ext w4 _›) (RD.out.ext ‹Ext w4 _›)).mono ?_; rintro e wF ⟨hxk, aB, nB, cB, rfl, rB⟩))
      go_split_ands
      have hx5 : Ext w4 wF := by first | assumption | exact Ext.trans ‹Ext w4 _› hxk
      have e5 : Ext w wF := e4.trans hx5
      replace RW := Lib.hid (RW.out.ext hx5)
      replace RX := Lib.hid (RX.out.ext hx5)
      replace RA := Lib.hid (RA.out.ext hx5)
      replace RD := Lib.hid (RD.out.ext hx5)
      have RB := Lib.hid rB
      clear rB
      clear RD
      have RSS := Lib.hid (rdSS2 22 RA.out RB.out)
      replace RW := Lib.hid (RW.out.ext ((Ext.refl wF).alloc (.cells #[.slice aA nA cA, .slice aB nB cB] 22)))
      replace RX := Lib.hid (RX.out.ext ((Ext.refl wF).alloc (.cells #[.slice aA nA cA, .slice aB nB cB] 22)))
      replace RA := Lib.hid (RA.out.ext ((Ext.refl wF).alloc (.cells #[.slice aA nA cA, .slice aB nB cB] 22)))
      replace RB := Lib.hid (RB.out.ext ((Ext.refl wF).alloc (.cells #[.slice aA nA cA, .slice aB nB cB] 22)))
      have e6 : Ext w (wF.alloc (.cells #[.slice aA nA cA, .slice aB nB cB] 22)) := e5.alloc _
      go_wp2_with fail
      refine (OC.out _ _ _ _ e6 RSS.out).mono ?_; rintro e w7 ⟨hx7, aZ, nZ, cZ, rfl, rZ⟩
      have e7 : Ext w w7 := e6.trans hx7
      replace RW := Lib.hid (RW.out.ext hx7)
      replace RX := Lib.hid (RX.out.ext hx7)
      replace RA := Lib.hid (RA.out.ext hx7)
      replace RB := Lib.hid (RB.out.ext hx7)
      have RZ := Lib.hid rZ
      clear hx7 rZ
      go_wp2_with fail
      refine (sameTrueG rfl LW.out RX.out RZ.out).mono ?_; rintro e w8 ⟨rfl, hx8⟩
      have e8 : Ext w w8 := e7.trans hx8
      replace RW := Lib.hid (RW.out.ext hx8)
      replace RX := Lib.hid (RX.out.ext hx8)
      replace RA := Lib.hid (RA.out.ext hx8)
      replace RB := Lib.hid (RB.out.ext hx8)
      replace RZ := Lib.hid (RZ.out.ext hx8)
      clear hx8
      go_wp2_with fail
      go_ret
      exact ⟨rfl, e8⟩
end Go.Proofs.YtcelgdoaohkgnaaDoor
