/- Layer 13, ThroughSteps. -/
import Derived.Test.YtfjiookndleaeaaDoorL13a
import Derived.Test.YtfjiookndleaeaaDoorL10c
namespace Go.Proofs.YtfjiookndleaeaaDoor
open Go.RowKit
set_option maxRecDepth 100000
set_option maxHeartbeats 4000000
/-- One operation ahead of a row of operations. -/
theorem rows_ahead {w : World} {aW : Option Addr} {nW cW : Nat} {CW : List (List Sp)} (h : RdSS w aW nW cW CW) (hn : nW ≤ 1000) (v : Int) :
    ∃ u1 x1 aO cO, (Builtin.append_ #[23, 23] 23 #[.slice (some ⟨w.heap.size + 1, 0, none⟩) 1 1, .slice aW nW cW]).run Tryd.prog ((w.alloc (.cells #[.int .i64 1, .int .i64 v, .string ⟨#[]⟩] 48)).alloc (.cells #[.slice (some ⟨w.heap.size, 0, none⟩) 1 1] 22)) = .ok u1 x1 ∧
      u1 = .slice aO (1 + nW) cO ∧ RdSS x1 aO (1 + nW) cO ([[(1, v, ⟨#[]⟩)]] ++ CW) ∧ Ext w x1 := by
  obtain ⟨i, hi, hz0, hz1, hz2⟩ := info_parts info_ss
  obtain ⟨hl, vs, hvs, hel⟩ := h
  have EL : El w vs CW := ⟨by have := hvs.1; omega, hel⟩
  have ew := (Ext.refl w).alloc (.cells #[.int .i64 1, .int .i64 v, .string ⟨#[]⟩] 48)
  have r1 := rdO_made w #[.int .i64 1, .int .i64 v, .string ⟨#[]⟩] 48 (n := 1) (l := [(1, v, ⟨#[]⟩)]) rfl rfl rfl (by decide)
  generalize hW1 : w.alloc (.cells #[.int .i64 1, .int .i64 v, .string ⟨#[]⟩] 48) = W1 at *
  have hs : W1.heap.size = w.heap.size + 1 := by rw [← hW1, size_alloc]
  have bel0 : Below W1.heap.size W1 (W1.alloc (.cells #[.slice (some ⟨w.heap.size, 0, none⟩) 1 1] 22)) := (Below.refl _ _).alloc (Nat.le_refl _) _
  have own0 : Own (W1.alloc (.cells #[.slice (some ⟨w.heap.size, 0, none⟩) 1 1] 22)) W1.heap.size 22 1 (.slice (some ⟨W1.heap.size, 0, none⟩) 1 1) 1 [.slice (some ⟨w.heap.size, 0, none⟩) 1 1] := Own.made W1 W1.heap.size 22 1 1 #[.slice (some ⟨w.heap.size, 0, none⟩) 1 1] (Nat.le_refl _) (by omega) rfl
  obtain ⟨u1, x1, ha1, ow1, be1⟩ := app_rd (P := Tryd.prog) 23 23 22 i _ 1 24 Tryd.underlying23 hi hz0 hz1 hz2 rfl (by omega) (by omega) bel0 own0 (by omega) ((hvs.ext ew).ext bel0) (by omega) EL.cells
  obtain ⟨aO, cO, rfl, _⟩ := ow1.len
  rw [hs] at ha1
  exact ⟨_, x1, aO, cO, ha1, rfl, ((El.one (r1.ext be1)).app ((EL.ext ew).ext be1)).rd ow1.rd, ew.trans be1⟩
theorem inL_one13 (v : Int) (t : ByteArray) : inL [((1 : Int), v, t)] = v := by
  simp [inL, inS]
theorem err13 {X : List Sp} (gX : Good X) {CW : List (List Sp)} (h260 : lenS CW ≤ 260) (ht : sumTT CW ≤ 6240) (hn : CW.length ≤ 20) (hl : X.length ≤ 20) (hi : inL X ≤ 63) :
    SmT X ([[(1, inL X + 1, ⟨#[]⟩)]] ++ CW) ∧ thruE X ([[(1, inL X + 1, ⟨#[]⟩)]] ++ CW) = 5 ∧ SmT X [[(0, 0, ⟨#[]⟩)]] ∧ thruE X [[(0, 0, ⟨#[]⟩)]] = 1 := by
  have h0 := gX.in0
  have htx := gX.txt
  have e1 : lenS [[((1 : Int), inL X + 1, (⟨#[]⟩ : ByteArray))]] = 1 := by simp [lenS]
  have e2 : sumTT [[((1 : Int), inL X + 1, (⟨#[]⟩ : ByteArray))]] = 0 := rfl
  have e3 : lenS [[((0 : Int), (0 : Int), (⟨#[]⟩ : ByteArray))]] = 1 := by simp [lenS]
  have e4 : sumTT [[((0 : Int), (0 : Int), (⟨#[]⟩ : ByteArray))]] = 0 := rfl
  have hk := okW_mayL [((1 : Int), inL X + 1, (⟨#[]⟩ : ByteArray))] (fun s hs => by rw [List.mem_singleton] at hs; subst hs; exact .inr ⟨.inl rfl, by simp only; omega, rfl⟩) (by rw [inL_one13]; omega)
  have hin : inL [((1 : Int), inL X + 1, (⟨#[]⟩ : ByteArray))] = inL X + 1 := inL_one13 _ _
  refine ⟨⟨by rw [lenS_append]; omega, by omega, ⟨by rw [lenS_append]; omega, by rw [sumTT_append]; omega, by simp only [List.length_append, List.length_cons, List.length_nil]; omega⟩⟩, ?_, ⟨by omega, by omega, ⟨by omega, by omega, by simp⟩⟩, ?_⟩
  · unfold thruE chainE
    rw [if_pos gX.may, if_pos ⟨h0, by omega⟩]
    show chE (inL X) ([((1 : Int), inL X + 1, (⟨#[]⟩ : ByteArray))] :: CW) = 5
    unfold chE
    rw [if_pos hk.1, hin, if_neg (by omega)]
  · unfold thruE chainE
    rw [if_pos gX.may, if_pos ⟨h0, by omega⟩]
    unfold chE
    have hm0 : mayL [((0 : Int), (0 : Int), (⟨#[]⟩ : ByteArray))] = 1 := by decide +kernel
    rw [hm0, if_neg (by decide)]
/-- Through the beginning, and then through the end. -/
theorem steps13 {X : List Sp} (gX : Good X) {CW : List (List Sp)} {k : Int} (hT : Thru (inL X) CW k) (h260 : lenS CW ≤ 260) (ht : sumTT CW ≤ 6240) (hn : CW.length ≤ 20) (hl : X.length ≤ 20) (hi : inL X ≤ 63) (K : Nat) :
    SmT X (CW.take K) ∧ (∃ k1, Thru (inL X) (CW.take K) k1) ∧ Good (thruL X (CW.take K)) ∧ SmT (thruL X (CW.take K)) (CW.drop K) ∧ Thru (inL (thruL X (CW.take K))) (CW.drop K) k ∧ thruL (thruL X (CW.take K)) (CW.drop K) = thruL X CW := by
  obtain ⟨k1, t1, t2⟩ := thru_take hT K
  obtain ⟨b1, b2, b3, b4, b5⟩ := thruL_len gX t1
  obtain ⟨s1, s2, s3, s4, s5, s6, s7⟩ := fR_small t1 (by omega)
  have hout := outL_le _ s1
  have hlt := lenS_take CW K
  have htx := gX.txt
  have l1 : (CW.take K).length ≤ 20 := by rw [List.length_take]; omega
  have l2 : (CW.drop K).length ≤ 20 := by rw [List.length_drop]; omega
  obtain ⟨f1, f2⟩ := fR_len t1
  obtain ⟨g1, g2⟩ := fR_len t2
  have htn := gX.tin
  refine ⟨⟨by omega, by omega, ⟨by omega, by omega, by omega⟩⟩, ⟨k1, t1⟩, ⟨b3, by omega, by omega, by omega⟩, ⟨by omega, by omega, ⟨by omega, by omega, by omega⟩⟩, by rw [b5]; exact t2, ?_⟩
  unfold thruL at b4 b5 ⊢
  rw [b4, b5, ← over_one _ _ _ _ (Nat.le_refl _) (by omega) (by omega), ← fR_append t1 t2, List.take_append_drop]
theorem throughSteps_c (A0 : Option Addr) (q0 c0 : Nat) (l0 : List Sp) (A1 : Option Addr) (q1 c1 : Nat) (ls : List (List Sp)) (z : List Int) (w : World) [Tab w] (h0 : Rd w 3 (.slice A0 q0 c0) q0 (spCells l0)) (hl0 : l0.length = q0) (hls0 : ∀ s ∈ l0, s.2.2.size ≤ maxLen) (h1 : RdSS w A1 q1 c1 ls) (hls : ∀ l ∈ ls, ∀ s ∈ l, s.2.2.size ≤ maxLen) (hz : z.length = 2) (hw : ∀ x ∈ z, (Lit.int .u8 x).wf = true) :
    Calls Tryd.prog 7 #[.slice A0 q0 c0, .slice A1 q1 c1, .agg (z.map (Value.int .u8)).toArray] w fun e w' => e = .returned (.bool true) ∧ Below w.heap.size w w' := by
  match z, hz with
  | [z0, z1], _ =>
    obtain ⟨n0, n1⟩ := bounds_u8 (hw z0 (by simp))
    obtain ⟨o0, o1⟩ := bounds_u8 (hw z1 (by simp))
    obtain ⟨M, hM, hM0, hM1⟩ : ∃ M : Int, z0 % 64 = M ∧ 0 ≤ M ∧ M ≤ 63 := ⟨z0 % 64, rfl, by omega, by omega⟩
    have HFX : Hid (∀ w', Ext w w' → Calls Tryd.prog 9 #[.slice A0 q0 c0, .int .i64 M] w' (TellsL w' (fitL l0 M))) := Lib.hid fun w' hx => fitG A0 q0 c0 l0 M h0 hl0 hls0 hM0 (by omega) hx
    obtain ⟨N, hN⟩ : ∃ N, (chainL (ls.take 20) M).length = N := ⟨_, rfl⟩
    have HW : Hid (∀ w', Ext w w' → Calls Tryd.prog 10 #[.slice A1 q1 c1, .int .i64 M] w' (TellsC w' N (chainL (ls.take 20) M))) := Lib.hid fun w' hx => chainRC (h1.ext hx) hls hM0 (by omega) hN
    obtain ⟨K, hK, hKN⟩ : ∃ K : Nat, z1 % ((N : Int) + 1) = (K : Int) ∧ K ≤ N := by
      have h1 := Int.emod_nonneg z1 (show ((N : Int) + 1) ≠ 0 by omega)
      have h2 := Int.emod_lt_of_pos z1 (show (0 : Int) < (N : Int) + 1 by omega)
      exact ⟨(z1 % ((N : Int) + 1)).toNat, by omega, by omega⟩
    have hK2 : z1.tmod ((N : Int) + 1) = (K : Int) := by rw [Int.tmod_eq_emod_of_nonneg o0]; exact hK
    obtain ⟨gX, iX, oX0, oX1, lX, tX⟩ := good_fit l0 M hM0 (by omega)
    obtain ⟨k, SW, TW, lW, tW, nW⟩ := made_chain ls M hM0 (by omega)
    have hN20 : N ≤ 20 := by omega
    have SX := smT_of gX SW (by omega)
    have TX : Thru (inL (fitL l0 M)) (chainL (ls.take 20) M) k := by rw [iX]; exact TW
    obtain ⟨st1, ⟨k1, st2⟩, gY, st3, st4, st5⟩ := steps13 gX TX lW tW nW (by omega) (by omega) K
    obtain ⟨er1, er2, er3, er4⟩ := err13 gX lW tW nW (by omega) (by omega)
    rw [iX] at er1 er2
    have OC : Hid (∀ A n c B d w', Ext w w' → RdO w' A n c (fitL l0 M) → RdSS w' B N d (chainL (ls.take 20) M) → Calls Tryd.prog 11 #[.slice A n c, .slice B N d] w' (TellsE w' (thruL (fitL l0 M) (chainL (ls.take 20) M)))) := Lib.hid fun A n c B d w' hx hX hr => thruG gX SX TX hx hX hr
    have OA : Hid (∀ A n c B d w', Ext w w' → RdO w' A n c (fitL l0 M) → RdSS w' B K d ((chainL (ls.take 20) M).take K) → Calls Tryd.prog 11 #[.slice A n c, .slice B K d] w' (TellsE w' (thruL (fitL l0 M) ((chainL (ls.take 20) M).take K)))) := Lib.hid fun A n c B d w' hx hX hr => thruG gX st1 st2 hx hX hr
    have OB : Hid (∀ A n c B m d w', Ext w w' → RdO w' A n c (thruL (fitL l0 M) ((chainL (ls.take 20) M).take K)) → RdSS w' B m d ((chainL (ls.take 20) M).drop K) → Calls Tryd.prog 11 #[.slice A n c, .slice B m d] w' (TellsE w' (thruL (fitL l0 M) (chainL (ls.take 20) M)))) := Lib.hid fun A n c B m d w' hx hX hr => by
      have h := thruG gY st3 st4 hx hX hr
      rw [st5] at h; exact h
    have OH : Hid (∀ A n c B m d w', Ext w w' → RdO w' A n c (fitL l0 M) → RdSS w' B m d ([[(1, M + 1, ⟨#[]⟩)]] ++ chainL (ls.take 20) M) → Calls Tryd.prog 11 #[.slice A n c, .slice B m d] w' (TellsX w' 5 [])) := Lib.hid fun A n c B m d w' hx hX hr => have hTb := tab_ext hx; by
      refine (thruP_c A n c _ B m d _ w' hX hr er1).mono ?_
      rintro e w'' ⟨hx, A', n', c', rfl, hr⟩
      rw [er2, if_neg (by decide)] at hr
      rw [er2]
      exact ⟨hx, A', n', c', rfl, hr⟩
    have OI : Hid (∀ A n c B m d w', Ext w w' → RdO w' A n c (fitL l0 M) → RdSS w' B m d [[(0, 0, ⟨#[]⟩)]] → Calls Tryd.prog 13 #[.slice A n c, .slice B m d] w' (TellsX w' 1 [])) := Lib.hid fun A n c B m d w' hx hX hr => have hTb := tab_ext hx; by
      refine (patP_c A n c _ B m d _ w' hX hr er3).mono ?_
      rintro e w'' ⟨hx, A', n', c', rfl, hr⟩
      rw [er4, if_neg (by decide)] at hr
      rw [er4]
      exact ⟨hx, A', n', c', rfl, hr⟩
    have LO : Hid ((thruL (fitL l0 M) (chainL (ls.take 20) M)).length ≤ 300) := Lib.hid (by have := (thruL_len gX TX).1; omega)
    clear SW TW lW tW nW h0 hl0 hls0 h1 hls hw hN hK gX iX oX0 oX1 lX tX SX TX st1 st2 gY st3 st4 st5 er1 er2 er3 er4
    generalize thruL (fitL l0 M) (chainL (ls.take 20) M) = L1 at *
    generalize thruL (fitL l0 M) ((chainL (ls.take 20) M).take K) = A at *
    generalize fitL l0 M = X at *
    generalize chainL (ls.take 20) M = CW at *
    go_enter Tryd.func7, Tryd.ntmps7
    have ZBX := Lib.hid (BoxG.made w #[.int .u8 z0, .int .u8 z1] 39)
    have e1 : Ext w (w.alloc (.cells #[.int .u8 z0, .int .u8 z1] 39)) := (Ext.refl _).alloc _
    go_wp2_with fail
    refine (shown13_c _).mono ?_; rintro e w2 ⟨rfl, hx2⟩
    have e2 : Ext w w2 := e1.trans hx2
    replace ZBX := Lib.hid (ZBX.out.ext hx2)
    clear hx2
    have y0 := ZBX.out.2 0 _ rfl
    go_wp2_with fail
    refine (HFX.out _ e2).mono ?_; rintro e w3 ⟨hx3, aX, nX, cX, rfl, rX⟩
    have e3 : Ext w w3 := e2.trans hx3
    replace ZBX := Lib.hid (ZBX.out.ext hx3)
    have RX := Lib.hid rX
    clear hx3 rX
    go_wp2_with fail
    refine (HW.out _ e3).mono ?_; rintro e w4 ⟨hx4, aW, cW, rfl, rW, hAW⟩
    have e4 : Ext w w4 := e3.trans hx4
    replace ZBX := Lib.hid (ZBX.out.ext hx4)
    replace RX := Lib.hid (RX.out.ext hx4)
    have RW := Lib.hid rW
    clear hx4 rW
    have y1 := ZBX.out.2 1 _ rfl
    clear y0
    clear ZBX
    have hKi : (0 : Int) ≤ (K : Int) := by omega
    have hKn : (K : Int) ≤ (N : Int) := by omega
    rcases hAW with ⟨rfl, hz, rfl⟩ | ⟨g, rfl, hc⟩
    · subst hz
      obtain rfl : K = 0 := by omega
      go_wp2_with fail
      refine (OC.out _ _ _ _ _ _ e4 RX.out RW.out).mono ?_; rintro e w5 ⟨hx5, aC, nC, cC, rfl, rC⟩
      have e5 : Ext w w5 := e4.trans hx5
      replace RX := Lib.hid (RX.out.ext hx5)
      replace RW := Lib.hid (RW.out.ext hx5)
      have RC := Lib.hid rC
      clear hx5 rC
      clear y1
      have RT := Lib.hid (RW.out.take hKN)
      go_wp2_with fail
      refine (OA.out _ _ _ _ _ _ e5 RX.out RT.out).mono ?_; rintro e w6 ⟨hx6, aA, nA, cA, rfl, rA⟩
      have e6 : Ext w w6 := e5.trans hx6
      replace RX := Lib.hid (RX.out.ext hx6)
      replace RW := Lib.hid (RW.out.ext hx6)
      replace RC := Lib.hid (RC.out.ext hx6)
      replace RT := Lib.hid (RT.out.ext hx6)
      have RA := Lib.hid rA
      clear hx6 rA
      clear RT
      have RD := Lib.hid (RW.out.zero (w' := w6) none 0)
      rw [show ([] : List (List Sp)) = CW.drop 0 by rw [List.drop_zero]; exact (List.eq_nil_of_length_eq_zero RW.out.1).symm] at RD
      go_wp2_with fail
      refine (OB.out _ _ _ _ _ _ _ e6 RA.out RD.out).mono ?_; rintro e w7 ⟨hx7, aB, nB, cB, rfl, rB⟩
      have e7 : Ext w w7 := e6.trans hx7
      replace RX := Lib.hid (RX.out.ext hx7)
      replace RW := Lib.hid (RW.out.ext hx7)
      replace RC := Lib.hid (RC.out.ext hx7)
      replace RA := Lib.hid (RA.out.ext hx7)
      replace RD := Lib.hid (RD.out.ext hx7)
      have RB := Lib.hid rB
      clear hx7 rB
      clear RD RA
      obtain ⟨u1, x1, aO, cO, ha1, rfl, rO, ex1⟩ := rows_ahead RW.out (by omega) (M + 1)
      have HA1 := Lib.hid ha1; have RO := Lib.hid rO
      replace RX := Lib.hid (RX.out.ext ex1)
      replace RW := Lib.hid (RW.out.ext ex1)
      replace RC := Lib.hid (RC.out.ext ex1)
      replace RB := Lib.hid (RB.out.ext ex1)
      have e90 : Ext w x1 := e7.trans ex1
      clear ha1 rO ex1
      go_wp2_with (at_builtin; refine wpList_append_run rfl rfl HA1.out rfl rfl ?_)
      refine (OH.out _ _ _ _ _ _ _ e90 RX.out RO.out).mono ?_; rintro e w8 ⟨hx8, aH, nH, cH, rfl, rH⟩
      have e8 : Ext w w8 := e90.trans hx8
      replace RX := Lib.hid (RX.out.ext hx8)
      replace RW := Lib.hid (RW.out.ext hx8)
      replace RC := Lib.hid (RC.out.ext hx8)
      replace RB := Lib.hid (RB.out.ext hx8)
      replace RO := Lib.hid (RO.out.ext hx8)
      have RH := Lib.hid rH
      clear hx8 rH
      clear RO RH
      have RZ := Lib.hid (rdO_made w8 #[.int .i64 0, .int .i64 0, .string ⟨#[]⟩] 48 (n := 1) (l := [(0, 0, ⟨#[]⟩)]) rfl rfl rfl (by decide))
      replace RX := Lib.hid (RX.out.ext ((Ext.refl w8).alloc (.cells #[.int .i64 0, .int .i64 0, .string ⟨#[]⟩] 48)))
      replace RW := Lib.hid (RW.out.ext ((Ext.refl w8).alloc (.cells #[.int .i64 0, .int .i64 0, .string ⟨#[]⟩] 48)))
      replace RC := Lib.hid (RC.out.ext ((Ext.refl w8).alloc (.cells #[.int .i64 0, .int .i64 0, .string ⟨#[]⟩] 48)))
      replace RB := Lib.hid (RB.out.ext ((Ext.refl w8).alloc (.cells #[.int .i64 0, .int .i64 0, .string ⟨#[]⟩] 48)))
      have e9 : Ext w (w8.alloc (.cells #[.int .i64 0, .int .i64 0, .string ⟨#[]⟩] 48)) := e8.alloc _
      have RZS := Lib.hid (rdSS1 22 RZ.out)
      replace RX := Lib.hid (RX.out.ext ((Ext.refl (w8.alloc (.cells #[.int .i64 0, .int .i64 0, .string ⟨#[]⟩] 48))).alloc (.cells #[.slice (some ⟨w8.heap.size, 0, none⟩) 1 1] 22)))
      replace RW := Lib.hid (RW.out.ext ((Ext.refl (w8.alloc (.cells #[.int .i64 0, .int .i64 0, .string ⟨#[]⟩] 48))).alloc (.cells #[.slice (some ⟨w8.heap.size, 0, none⟩) 1 1] 22)))
      replace RC := Lib.hid (RC.out.ext ((Ext.refl (w8.alloc (.cells #[.int .i64 0, .int .i64 0, .string ⟨#[]⟩] 48))).alloc (.cells #[.slice (some ⟨w8.heap.size, 0, none⟩) 1 1] 22)))
      replace RB := Lib.hid (RB.out.ext ((Ext.refl (w8.alloc (.cells #[.int .i64 0, .int .i64 0, .string ⟨#[]⟩] 48))).alloc (.cells #[.slice (some ⟨w8.heap.size, 0, none⟩) 1 1] 22)))
      replace RZ := Lib.hid (RZ.out.ext ((Ext.refl (w8.alloc (.cells #[.int .i64 0, .int .i64 0, .string ⟨#[]⟩] 48))).alloc (.cells #[.slice (some ⟨w8.heap.size, 0, none⟩) 1 1] 22)))
      have e10 : Ext w ((w8.alloc (.cells #[.int .i64 0, .int .i64 0, .string ⟨#[]⟩] 48)).alloc (.cells #[.slice (some ⟨w8.heap.size, 0, none⟩) 1 1] 22)) := e9.alloc _
      rw [size_alloc] at RZS
      go_wp2_with fail
      refine (OI.out _ _ _ _ _ _ _ e10 RX.out RZS.out).mono ?_; rintro e w11 ⟨hx11, aI, nI, cI, rfl, rI⟩
      have e11 : Ext w w11 := e10.trans hx11
      replace RX := Lib.hid (RX.out.ext hx11)
      replace RW := Lib.hid (RW.out.ext hx11)
      replace RC := Lib.hid (RC.out.ext hx11)
      replace RB := Lib.hid (RB.out.ext hx11)
      replace RZ := Lib.hid (RZ.out.ext hx11)
      replace RZS := Lib.hid (RZS.out.ext hx11)
      have RI := Lib.hid rI
      clear hx11 rI
      go_wp2_with fail
      refine (sameTrueG rfl LO.out RC.out RB.out).mono ?_; rintro e w12 ⟨rfl, hx12⟩
      have e12 : Ext w w12 := e11.trans hx12
      replace RX := Lib.hid (RX.out.ext hx12)
      replace RW := Lib.hid (RW.out.ext hx12)
      replace RC := Lib.hid (RC.out.ext hx12)
      replace RB := Lib.hid (RB.out.ext hx12)
      replace RZ := Lib.hid (RZ.out.ext hx12)
      replace RZS := Lib.hid (RZS.out.ext hx12)
      replace RI := Lib.hid (RI.out.ext hx12)
      clear hx12
      go_wp2_with fail
      go_ret
      exact ⟨rfl, e12⟩
    · have hKc : (K : Int) ≤ (cW : Int) := by omega
      have hNc : (N : Int) ≤ (cW : Int) := by omega
      have hKc' : K ≤ cW := by omega
      rcases (by omega : ¬ cW = K ∨ (cW = K ∧ N = K)) with hne | ⟨rfl, rfl⟩
      · skip
        go_wp2_with fail
        refine (OC.out _ _ _ _ _ _ e4 RX.out RW.out).mono ?_; rintro e w5 ⟨hx5, aC, nC, cC, rfl, rC⟩
        have e5 : Ext w w5 := e4.trans hx5
        replace RX := Lib.hid (RX.out.ext hx5)
        replace RW := Lib.hid (RW.out.ext hx5)
        have RC := Lib.hid rC
        clear hx5 rC
        clear y1
        have RT := Lib.hid (RW.out.take hKN)
        go_wp2_with fail
        refine (OA.out _ _ _ _ _ _ e5 RX.out RT.out).mono ?_; rintro e w6 ⟨hx6, aA, nA, cA, rfl, rA⟩
        have e6 : Ext w w6 := e5.trans hx6
        replace RX := Lib.hid (RX.out.ext hx6)
        replace RW := Lib.hid (RW.out.ext hx6)
        replace RC := Lib.hid (RC.out.ext hx6)
        replace RT := Lib.hid (RT.out.ext hx6)
        have RA := Lib.hid rA
        clear hx6 rA
        clear RT
        have RD := Lib.hid (RW.out.behind hKN hc)
        rw [if_neg hne, Nat.zero_add] at RD
        go_wp2_with fail
        refine (OB.out _ _ _ _ _ _ _ e6 RA.out RD.out).mono ?_; rintro e w7 ⟨hx7, aB, nB, cB, rfl, rB⟩
        have e7 : Ext w w7 := e6.trans hx7
        replace RX := Lib.hid (RX.out.ext hx7)
        replace RW := Lib.hid (RW.out.ext hx7)
        replace RC := Lib.hid (RC.out.ext hx7)
        replace RA := Lib.hid (RA.out.ext hx7)
        replace RD := Lib.hid (RD.out.ext hx7)
        have RB := Lib.hid rB
        clear hx7 rB
        clear RD RA
        obtain ⟨u1, x1, aO, cO, ha1, rfl, rO, ex1⟩ := rows_ahead RW.out (by omega) (M + 1)
        have HA1 := Lib.hid ha1; have RO := Lib.hid rO
        replace RX := Lib.hid (RX.out.ext ex1)
        replace RW := Lib.hid (RW.out.ext ex1)
        replace RC := Lib.hid (RC.out.ext ex1)
        replace RB := Lib.hid (RB.out.ext ex1)
        have e90 : Ext w x1 := e7.trans ex1
        clear ha1 rO ex1
        go_wp2_with (at_builtin; refine wpList_append_run rfl rfl HA1.out rfl rfl ?_)
        refine (OH.out _ _ _ _ _ _ _ e90 RX.out RO.out).mono ?_; rintro e w8 ⟨hx8, aH, nH, cH, rfl, rH⟩
        have e8 : Ext w w8 := e90.trans hx8
        replace RX := Lib.hid (RX.out.ext hx8)
        replace RW := Lib.hid (RW.out.ext hx8)
        replace RC := Lib.hid (RC.out.ext hx8)
        replace RB := Lib.hid (RB.out.ext hx8)
        replace RO := Lib.hid (RO.out.ext hx8)
        have RH := Lib.hid rH
        clear hx8 rH
        clear RO RH
        have RZ := Lib.hid (rdO_made w8 #[.int .i64 0, .int .i64 0, .string ⟨#[]⟩] 48 (n := 1) (l := [(0, 0, ⟨#[]⟩)]) rfl rfl rfl (by decide))
        replace RX := Lib.hid (RX.out.ext ((Ext.refl w8).alloc (.cells #[.int .i64 0, .int .i64 0, .string ⟨#[]⟩] 48)))
        replace RW := Lib.hid (RW.out.ext ((Ext.refl w8).alloc (.cells #[.int .i64 0, .int .i64 0, .string ⟨#[]⟩] 48)))
        replace RC := Lib.hid (RC.out.ext ((Ext.refl w8).alloc (.cells #[.int .i64 0, .int .i64 0, .string ⟨#[]⟩] 48)))
        replace RB := Lib.hid (RB.out.ext ((Ext.refl w8).alloc (.cells #[.int .i64 0, .int .i64 0, .string ⟨#[]⟩] 48)))
        have e9 : Ext w (w8.alloc (.cells #[.int .i64 0, .int .i64 0, .string ⟨#[]⟩] 48)) := e8.alloc _
        have RZS := Lib.hid (rdSS1 22 RZ.out)
        replace RX := Lib.hid (RX.out.ext ((Ext.refl (w8.alloc (.cells #[.int .i64 0, .int .i64 0, .string ⟨#[]⟩] 48))).alloc (.cells #[.slice (some ⟨w8.heap.size, 0, none⟩) 1 1] 22)))
        replace RW := Lib.hid (RW.out.ext ((Ext.refl (w8.alloc (.cells #[.int .i64 0, .int .i64 0, .string ⟨#[]⟩] 48))).alloc (.cells #[.slice (some ⟨w8.heap.size, 0, none⟩) 1 1] 22)))
        replace RC := Lib.hid (RC.out.ext ((Ext.refl (w8.alloc (.cells #[.int .i64 0, .int .i64 0, .string ⟨#[]⟩] 48))).alloc (.cells #[.slice (some ⟨w8.heap.size, 0, none⟩) 1 1] 22)))
        replace RB := Lib.hid (RB.out.ext ((Ext.refl (w8.alloc (.cells #[.int .i64 0, .int .i64 0, .string ⟨#[]⟩] 48))).alloc (.cells #[.slice (some ⟨w8.heap.size, 0, none⟩) 1 1] 22)))
        replace RZ := Lib.hid (RZ.out.ext ((Ext.refl (w8.alloc (.cells #[.int .i64 0, .int .i64 0, .string ⟨#[]⟩] 48))).alloc (.cells #[.slice (some ⟨w8.heap.size, 0, none⟩) 1 1] 22)))
        have e10 : Ext w ((w8.alloc (.cells #[.int .i64 0, .int .i64 0, .string ⟨#[]⟩] 48)).alloc (.cells #[.slice (some ⟨w8.heap.size, 0, none⟩) 1 1] 22)) := e9.alloc _
        rw [size_alloc] at RZS
        go_wp2_with fail
        refine (OI.out _ _ _ _ _ _ _ e10 RX.out RZS.out).mono ?_; rintro e w11 ⟨hx11, aI, nI, cI, rfl, rI⟩
        have e11 : Ext w w11 := e10.trans hx11
        replace RX := Lib.hid (RX.out.ext hx11)
        replace RW := Lib.hid (RW.out.ext hx11)
        replace RC := Lib.hid (RC.out.ext hx11)
        replace RB := Lib.hid (RB.out.ext hx11)
        replace RZ := Lib.hid (RZ.out.ext hx11)
        replace RZS := Lib.hid (RZS.out.ext hx11)
        have RI := Lib.hid rI
        clear hx11 rI
        go_wp2_with fail
        refine (sameTrueG rfl LO.out RC.out RB.out).mono ?_; rintro e w12 ⟨rfl, hx12⟩
        have e12 : Ext w w12 := e11.trans hx12
        replace RX := Lib.hid (RX.out.ext hx12)
        replace RW := Lib.hid (RW.out.ext hx12)
        replace RC := Lib.hid (RC.out.ext hx12)
        replace RB := Lib.hid (RB.out.ext hx12)
        replace RZ := Lib.hid (RZ.out.ext hx12)
        replace RZS := Lib.hid (RZS.out.ext hx12)
        replace RI := Lib.hid (RI.out.ext hx12)
        clear hx12
        go_wp2_with fail
        go_ret
        exact ⟨rfl, e12⟩
      · skip
        go_wp2_with fail
        refine (OC.out _ _ _ _ _ _ e4 RX.out RW.out).mono ?_; rintro e w5 ⟨hx5, aC, nC, cC, rfl, rC⟩
        have e5 : Ext w w5 := e4.trans hx5
        replace RX := Lib.hid (RX.out.ext hx5)
        replace RW := Lib.hid (RW.out.ext hx5)
        have RC := Lib.hid rC
        clear hx5 rC
        clear y1
        have RT := Lib.hid (RW.out.take hKN)
        go_wp2_with fail
        refine (OA.out _ _ _ _ _ _ e5 RX.out RT.out).mono ?_; rintro e w6 ⟨hx6, aA, nA, cA, rfl, rA⟩
        have e6 : Ext w w6 := e5.trans hx6
        replace RX := Lib.hid (RX.out.ext hx6)
        replace RW := Lib.hid (RW.out.ext hx6)
        replace RC := Lib.hid (RC.out.ext hx6)
        replace RT := Lib.hid (RT.out.ext hx6)
        have RA := Lib.hid rA
        clear hx6 rA
        clear RT
        have RD := Lib.hid (RW.out.behind hKN hc)
        rw [if_pos rfl, Nat.sub_self] at RD
        go_wp2_with fail
        refine (OB.out _ _ _ _ _ _ _ e6 RA.out RD.out).mono ?_; rintro e w7 ⟨hx7, aB, nB, cB, rfl, rB⟩
        have e7 : Ext w w7 := e6.trans hx7
        replace RX := Lib.hid (RX.out.ext hx7)
        replace RW := Lib.hid (RW.out.ext hx7)
        replace RC := Lib.hid (RC.out.ext hx7)
        replace RA := Lib.hid (RA.out.ext hx7)
        replace RD := Lib.hid (RD.out.ext hx7)
        have RB := Lib.hid rB
        clear hx7 rB
        clear RD RA
        obtain ⟨u1, x1, aO, cO, ha1, rfl, rO, ex1⟩ := rows_ahead RW.out (by omega) (M + 1)
        have HA1 := Lib.hid ha1; have RO := Lib.hid rO
        replace RX := Lib.hid (RX.out.ext ex1)
        replace RW := Lib.hid (RW.out.ext ex1)
        replace RC := Lib.hid (RC.out.ext ex1)
        replace RB := Lib.hid (RB.out.ext ex1)
        have e90 : Ext w x1 := e7.trans ex1
        clear ha1 rO ex1
        go_wp2_with (at_builtin; refine wpList_append_run rfl rfl HA1.out rfl rfl ?_)
        refine (OH.out _ _ _ _ _ _ _ e90 RX.out RO.out).mono ?_; rintro e w8 ⟨hx8, aH, nH, cH, rfl, rH⟩
        have e8 : Ext w w8 := e90.trans hx8
        replace RX := Lib.hid (RX.out.ext hx8)
        replace RW := Lib.hid (RW.out.ext hx8)
        replace RC := Lib.hid (RC.out.ext hx8)
        replace RB := Lib.hid (RB.out.ext hx8)
        replace RO := Lib.hid (RO.out.ext hx8)
        have RH := Lib.hid rH
        clear hx8 rH
        clear RO RH
        have RZ := Lib.hid (rdO_made w8 #[.int .i64 0, .int .i64 0, .string ⟨#[]⟩] 48 (n := 1) (l := [(0, 0, ⟨#[]⟩)]) rfl rfl rfl (by decide))
        replace RX := Lib.hid (RX.out.ext ((Ext.refl w8).alloc (.cells #[.int .i64 0, .int .i64 0, .string ⟨#[]⟩] 48)))
        replace RW := Lib.hid (RW.out.ext ((Ext.refl w8).alloc (.cells #[.int .i64 0, .int .i64 0, .string ⟨#[]⟩] 48)))
        replace RC := Lib.hid (RC.out.ext ((Ext.refl w8).alloc (.cells #[.int .i64 0, .int .i64 0, .string ⟨#[]⟩] 48)))
        replace RB := Lib.hid (RB.out.ext ((Ext.refl w8).alloc (.cells #[.int .i64 0, .int .i64 0, .string ⟨#[]⟩] 48)))
        have e9 : Ext w (w8.alloc (.cells #[.int .i64 0, .int .i64 0, .string ⟨#[]⟩] 48)) := e8.alloc _
        have RZS := Lib.hid (rdSS1 22 RZ.out)
        replace RX := Lib.hid (RX.out.ext ((Ext.refl (w8.alloc (.cells #[.int .i64 0, .int .i64 0, .string ⟨#[]⟩] 48))).alloc (.cells #[.slice (some ⟨w8.heap.size, 0, none⟩) 1 1] 22)))
        replace RW := Lib.hid (RW.out.ext ((Ext.refl (w8.alloc (.cells #[.int .i64 0, .int .i64 0, .string ⟨#[]⟩] 48))).alloc (.cells #[.slice (some ⟨w8.heap.size, 0, none⟩) 1 1] 22)))
        replace RC := Lib.hid (RC.out.ext ((Ext.refl (w8.alloc (.cells #[.int .i64 0, .int .i64 0, .string ⟨#[]⟩] 48))).alloc (.cells #[.slice (some ⟨w8.heap.size, 0, none⟩) 1 1] 22)))
        replace RB := Lib.hid (RB.out.ext ((Ext.refl (w8.alloc (.cells #[.int .i64 0, .int .i64 0, .string ⟨#[]⟩] 48))).alloc (.cells #[.slice (some ⟨w8.heap.size, 0, none⟩) 1 1] 22)))
        replace RZ := Lib.hid (RZ.out.ext ((Ext.refl (w8.alloc (.cells #[.int .i64 0, .int .i64 0, .string ⟨#[]⟩] 48))).alloc (.cells #[.slice (some ⟨w8.heap.size, 0, none⟩) 1 1] 22)))
        have e10 : Ext w ((w8.alloc (.cells #[.int .i64 0, .int .i64 0, .string ⟨#[]⟩] 48)).alloc (.cells #[.slice (some ⟨w8.heap.size, 0, none⟩) 1 1] 22)) := e9.alloc _
        rw [size_alloc] at RZS
        go_wp2_with fail
        refine (OI.out _ _ _ _ _ _ _ e10 RX.out RZS.out).mono ?_; rintro e w11 ⟨hx11, aI, nI, cI, rfl, rI⟩
        have e11 : Ext w w11 := e10.trans hx11
        replace RX := Lib.hid (RX.out.ext hx11)
        replace RW := Lib.hid (RW.out.ext hx11)
        replace RC := Lib.hid (RC.out.ext hx11)
        replace RB := Lib.hid (RB.out.ext hx11)
        replace RZ := Lib.hid (RZ.out.ext hx11)
        replace RZS := Lib.hid (RZS.out.ext hx11)
        have RI := Lib.hid rI
        clear hx11 rI
        go_wp2_with fail
        refine (sameTrueG rfl LO.out RC.out RB.out).mono ?_; rintro e w12 ⟨rfl, hx12⟩
        have e12 : Ext w w12 := e11.trans hx12
        replace RX := Lib.hid (RX.out.ext hx12)
        replace RW := Lib.hid (RW.out.ext hx12)
        replace RC := Lib.hid (RC.out.ext hx12)
        replace RB := Lib.hid (RB.out.ext hx12)
        replace RZ := Lib.hid (RZ.out.ext hx12)
        replace RZS := Lib.hid (RZS.out.ext hx12)
        replace RI := Lib.hid (RI.out.ext hx12)
        clear hx12
        go_wp2_with fail
        go_ret
        exact ⟨rfl, e12⟩
end Go.Proofs.YtfjiookndleaeaaDoor
