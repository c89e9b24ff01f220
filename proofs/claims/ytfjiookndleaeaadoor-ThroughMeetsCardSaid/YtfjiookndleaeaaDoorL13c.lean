/- Layer 13, ThroughMeets. -/
import Derived.Test.YtfjiookndleaeaaDoorL13a
import Derived.Test.YtfjiookndleaeaaDoorL10c
namespace Go.Proofs.YtfjiookndleaeaaDoor
open Go.RowKit
set_option maxRecDepth 100000
set_option maxHeartbeats 4000000
/-- A row of rows, and one more behind it. -/
theorem rows_more {w : World} {aW : Option Addr} {nW cW : Nat} {CW : List (List Sp)} (h : RdSS w aW nW cW CW) (hn : nW ≤ 1000) {aB : Option Addr} {nB cB : Nat} {B : List Sp} (hB : RdO w aB nB cB B) :
    ∃ u1 x1 u2 x2 aO cO, (Builtin.append_ #[23, 23] 23 #[.slice (some ⟨w.heap.size, 0, none⟩) 0 0, .slice aW nW cW]).run Tryd.prog (w.alloc (.cells #[] 22)) = .ok u1 x1 ∧
      (Builtin.append_ #[23, 23] 23 #[u1, .slice (some ⟨x1.heap.size, 0, none⟩) 1 1]).run Tryd.prog (x1.alloc (.cells #[.slice aB nB cB] 22)) = .ok u2 x2 ∧
      u2 = .slice aO (nW + 1) cO ∧ RdSS x2 aO (nW + 1) cO (CW ++ [B]) ∧ Ext w x2 := by
  obtain ⟨i, hi, hz0, hz1, hz2⟩ := info_parts info_ss
  obtain ⟨hl, vs, hvs, hel⟩ := h
  have EL : El w vs CW := ⟨by have := hvs.1; omega, hel⟩
  have bel0 : Below w.heap.size w (w.alloc (.cells #[] 22)) := (Below.refl _ _).alloc (Nat.le_refl _) _
  have own0 : Own (w.alloc (.cells #[] 22)) w.heap.size 22 1 (.slice (some ⟨w.heap.size, 0, none⟩) 0 0) 0 [] := Own.made w w.heap.size 22 1 0 #[] (Nat.le_refl _) (by omega) rfl
  obtain ⟨u1, x1, ha1, ow1, be1⟩ := app_rd (P := Tryd.prog) 23 23 22 i _ 1 24 Tryd.underlying23 hi hz0 hz1 hz2 rfl (by omega) (by omega) bel0 own0 (by omega) (hvs.ext bel0) (by omega) EL.cells
  rw [Nat.zero_add, List.nil_append] at ow1
  obtain ⟨u2, x2, ha2, ow2, be2⟩ := app_new (P := Tryd.prog) 23 23 22 i _ 1 24 Tryd.underlying23 hi hz0 hz1 hz2 rfl (by omega) (by omega) be1 ow1 (by omega) 1 #[.slice aB nB cB] rfl (by omega) (by simp [Value.oneCell']) 22
  obtain ⟨aO, cO, rfl, _⟩ := ow2.len
  exact ⟨u1, x1, _, x2, aO, cO, ha1, ha2, rfl, ((EL.ext be2).app (El.one (hB.ext be2))).rd ow2.rd, be2⟩
theorem throughMeets_c (s : ByteArray) (A0 : Option Addr) (q0 c0 : Nat) (l0 : List Sp) (A1 : Option Addr) (q1 c1 : Nat) (ls : List (List Sp)) (w : World) [Tab w] (hs : s.size ≤ maxLen) (h0 : Rd w 3 (.slice A0 q0 c0) q0 (spCells l0)) (hl0 : l0.length = q0) (hls0 : ∀ s ∈ l0, s.2.2.size ≤ maxLen) (h1 : RdSS w A1 q1 c1 ls) (hls : ∀ l ∈ ls, ∀ s ∈ l, s.2.2.size ≤ maxLen) :
    Calls Tryd.prog 4 #[.string s, .slice A0 q0 c0, .slice A1 q1 c1] w fun e w' => e = .returned (.bool true) ∧ Below w.heap.size w w' := by
  obtain ⟨T, cs, hm1, hm2, hTl, hT0, hsz, HFIT, HCP, hcl, hUs, HD⟩ := cut_fit s 20 20 rfl (by omega) hs
  have FX : Hid (∀ w', Ext w w' → Calls Tryd.prog 9 #[.slice A0 q0 c0, .int .i64 (cs.length : Int)] w' (TellsL w' (fitL l0 cs.length))) := Lib.hid fun w' hx => fitG A0 q0 c0 l0 _ h0 hl0 hls0 (by omega) (by omega) hx
  have HW : Hid (∀ w', Ext w w' → Calls Tryd.prog 10 #[.slice A1 q1 c1, .int .i64 (cs.length : Int)] w' (TellsSS w' (chainL (ls.take 20) (cs.length : Int)))) := Lib.hid fun w' hx => chainRG (h1.ext hx) hls (by omega) (by omega)
  obtain ⟨k, SW, TW, lW, tW, nW⟩ := made_chain ls (cs.length : Int) (by omega) (by omega)
  have each := chain_each (ls.take 20) (cs.length : Int) (by omega) (by rw [List.length_take]; omega)
  obtain ⟨gX, iX, oX0, oX1, lX, tX⟩ := good_fit l0 (cs.length : Int) (by omega) (by omega)
  clear h0 hl0 hls0 h1 hls hs
  generalize fitL l0 cs.length = X at *
  generalize chainL (ls.take 20) (cs.length : Int) = CW at *
  have SX := smT_of gX SW (by omega)
  have TX : Thru (inL X) CW k := by rw [iX]; exact TW
  obtain ⟨b1, b2, b3, b4, b5⟩ := thruL_len gX TX
  obtain ⟨p1, p2, p3, p4, p5⟩ := patL_len gX TX
  rw [iX] at b4 p4
  obtain ⟨f1, f2⟩ := fR_len TW
  obtain ⟨s1, s2, s3, s4, s5, s6, s7⟩ := fR_small TW (by omega)
  have hout := outL_le _ s1
  have gB : Good (thruL X CW) := ⟨b3, by omega, by omega, by omega⟩
  have gP : Good (patL X CW) := ⟨p3, by omega, by omega, by omega⟩
  have ht := gX.tin
  have hmt := meets _ (fR (cs.length : Int) CW) (tok X) cs (Nat.le_refl _) (by omega) (by omega)
  have tB : Thru (cs.length : Int) (CW ++ [thruL X CW]) (outL (thruL X CW)) := thru_snoc.2 ⟨by rw [b5]; exact TW, b3, gB.in0, by have := gB.inb; omega, rfl, gB.out0⟩
  have hone : Thru k [thruL X CW] (outL (thruL X CW)) := ⟨b3, b5, by rw [← b5]; exact gB.in0, by have := gB.inb; omega, rfl, gB.out0⟩
  have hf : fR (cs.length : Int) (CW ++ [thruL X CW]) = compT (fR (cs.length : Int) CW) (tok (thruL X CW)) := by
    rw [fR_append TW hone]
    have g := fR_one b3
    rw [b5] at g; rw [g]
  obtain ⟨a1, a2, a3⟩ := all_fR tB cs HCP.out rfl
  have htb := gB.tin
  rw [hf, apT_comp _ _ _ _ (Nat.le_refl _) (by omega) (by omega), b4, hmt, ← p4] at a1
  have hv : allV (mkS (encs cs)) (CW ++ [thruL X CW]) = .tuple #[.string (mkS (encs (apT (tok (patL X CW)) (apT (tok X) cs)))), .int .i64 0] := by
    unfold allV allR
    rw [if_neg]
    · rw [a1]
    · rintro ⟨_, h2⟩
      rw [HD.out] at h2; cases h2
  have HALL : Hid (∀ A n c w', Ext w w' → RdSS w' A n c (CW ++ [thruL X CW]) → _) := Lib.hid fun A n c w' hx hr => have hTb := tab_ext hx; all_c A n c (CW ++ [thruL X CW]) (mkS (encs cs)) w' hr (fun l hl => by
      rcases List.mem_append.1 hl with hl | hl
      · have := (each l hl).2.1; omega
      · rw [List.mem_singleton] at hl; subst hl; omega) (fun l hl => by
      rcases List.mem_append.1 hl with hl | hl
      · exact (each l hl).1.size
      · rw [List.mem_singleton] at hl; subst hl; exact gB.size) (by have e := sumTT_append CW [thruL X CW]; have e2 : sumTT [thruL X CW] = sumT (thruL X CW) := (by simp [sumTT]); omega) (by have := hr.1; rw [List.length_append] at this; simp only [List.length_cons, List.length_nil] at this; omega)
  rw [hv] at HALL
  have HQ : Hid (∀ A c w', Ext w w' → RdSS w' A 2 c [X, patL X CW] → _) := Lib.hid fun A c w' hx hr => @allG _ _ gX gP p5.symm cs HCP.out (by omega) w w' _ hx A c hr
  have OB : Hid (∀ A n c B m d w', Ext w w' → RdO w' A n c X → RdSS w' B m d CW → Calls Tryd.prog 11 #[.slice A n c, .slice B m d] w' (TellsE w' (thruL X CW))) := Lib.hid fun A n c B m d w' hx hX hr => thruG gX SX TX hx hX hr
  have OP : Hid (∀ A n c B m d w', Ext w w' → RdO w' A n c X → RdSS w' B m d CW → Calls Tryd.prog 13 #[.slice A n c, .slice B m d] w' (TellsE w' (patL X CW))) := Lib.hid fun A n c B m d w' hx hX hr => patG gX SX TX hx hX hr
  have hcn := cnt_U cs _ HD.out
  have HC : Hid (∀ w', Calls Tryd.prog 18 #[.string (mkS (encs cs))] w' fun e w'' => e = .returned (.int .i64 (cs.length : Int)) ∧ Ext w' w'') := Lib.hid fun w' => by
    have h := count_c (mkS (encs cs)) w' (by omega); rw [hcn] at h; exact h
  clear SW TW lW tW each gX iX oX0 oX1 lX tX SX TX b1 b2 b3 b4 b5 p1 p2 p3 p4 p5 f1 f2 s1 s2 s3 s4 s5 s6 s7 hout gB gP ht hmt tB hone hf a1 a2 a3 htb hv hcn
  generalize mkS (encs (apT (tok (patL X CW)) (apT (tok X) cs))) = TXT at *
  generalize thruL X CW = B at *
  generalize patL X CW = P at *
  go_enter Tryd.func4, Tryd.ntmps4
  go_wp2_with fail
  refine (shown13_c _).mono ?_; rintro e w1 ⟨rfl, hx1⟩
  have e1 : Ext w w1 := hx1
  clear hx1
  go_wp2_with fail
  refine (HFIT.out _).mono ?_; rintro e w2 ⟨rfl, hx2⟩
  have e2 : Ext w w2 := e1.trans hx2
  clear hx2
  go_wp2_with fail
  refine (HC.out _).mono ?_; rintro e w3 ⟨rfl, hx3⟩
  have e3 : Ext w w3 := e2.trans hx3
  clear hx3
  go_wp2_with fail
  refine (FX.out _ e3).mono ?_; rintro e w4 ⟨hx4, aX, nX, cX, rfl, rX⟩
  have e4 : Ext w w4 := e3.trans hx4
  have RX := Lib.hid rX
  clear hx4 rX
  go_wp2_with fail
  refine (HW.out _ e4).mono ?_; rintro e w5 ⟨hx5, aW, nW, cW, rfl, rW⟩
  have e5 : Ext w w5 := e4.trans hx5
  replace RX := Lib.hid (RX.out.ext hx5)
  have RW := Lib.hid rW
  clear hx5 rW
  go_wp2_with fail
  refine (OB.out _ _ _ _ _ _ _ e5 RX.out RW.out).mono ?_; rintro e w6 ⟨hx6, aB, nB, cB, rfl, rB⟩
  have e6 : Ext w w6 := e5.trans hx6
  replace RX := Lib.hid (RX.out.ext hx6)
  replace RW := Lib.hid (RW.out.ext hx6)
  have RB := Lib.hid rB
  clear hx6 rB
  go_wp2_with fail
  refine (OP.out _ _ _ _ _ _ _ e6 RX.out RW.out).mono ?_; rintro e w7 ⟨hx7, aP, nP, cP, rfl, rP⟩
  have e7 : Ext w w7 := e6.trans hx7
  replace RX := Lib.hid (RX.out.ext hx7)
  replace RW := Lib.hid (RW.out.ext hx7)
  replace RB := Lib.hid (RB.out.ext hx7)
  have RP := Lib.hid rP
  clear hx7 rP
  have RSS := Lib.hid (rdSS2 22 RX.out RP.out)
  replace RX := Lib.hid (RX.out.ext ((Ext.refl w7).alloc (.cells #[.slice aX nX cX, .slice aP nP cP] 22)))
  replace RW := Lib.hid (RW.out.ext ((Ext.refl w7).alloc (.cells #[.slice aX nX cX, .slice aP nP cP] 22)))
  replace RB := Lib.hid (RB.out.ext ((Ext.refl w7).alloc (.cells #[.slice aX nX cX, .slice aP nP cP] 22)))
  replace RP := Lib.hid (RP.out.ext ((Ext.refl w7).alloc (.cells #[.slice aX nX cX, .slice aP nP cP] 22)))
  have e8 : Ext w (w7.alloc (.cells #[.slice aX nX cX, .slice aP nP cP] 22)) := e7.alloc _
  go_wp2_with fail
  refine (HQ.out _ _ _ e8 RSS.out).mono ?_; rintro e w9 ⟨rfl, hx9⟩
  have e9 : Ext w w9 := e8.trans hx9
  replace RX := Lib.hid (RX.out.ext hx9)
  replace RW := Lib.hid (RW.out.ext hx9)
  replace RB := Lib.hid (RB.out.ext hx9)
  replace RP := Lib.hid (RP.out.ext hx9)
  clear hx9
  obtain ⟨u1, x1, u2, x2, aO, cO, ha1, ha2, rfl, rO, ex2⟩ := rows_more RW.out (by have := RW.out.1; omega) RB.out
  have HA1 := Lib.hid ha1; have HA2 := Lib.hid ha2; have RO := Lib.hid rO
  have e99 : Ext w x2 := e9.trans ex2
  clear ha1 ha2 rO ex2
  go_wp2_with (at_builtin; first | (with_reducible refine wpList_append_run rfl rfl HA1.out rfl rfl ?_) | (with_reducible refine wpList_append_run rfl rfl HA2.out rfl rfl ?_))
  refine (HALL.out _ _ _ _ e99 RO.out).mono ?_; rintro e w98 ⟨rfl, hx98⟩
  have e98 := e99.trans hx98
  go_wp2_with fail
  go_ret
  exact ⟨rfl, e98⟩
end Go.Proofs.YtfjiookndleaeaaDoor
