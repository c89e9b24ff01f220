/- Layer 9, ComposeDoes. -/
import Derived.Test.YtlhhcjhjkameoaaDoorL9a
import Derived.Test.YtlhhcjhjkameoaaDoorL7a
namespace Go.Proofs.YtlhhcjhjkameoaaDoor
open Go.RowKit
set_option maxRecDepth 100000
set_option maxHeartbeats 4000000
theorem rdSS_two {w : World} {a b : Option Addr} {n c m d : Nat} {X Y : List Sp} (hX : RdO w a n c X) (hY : RdO w b m d Y) (T : TypeId) :
    RdSS (w.alloc (.cells #[.slice a n c, .slice b m d] T)) (some ⟨w.heap.size, 0, none⟩) 2 2 [X, Y] := by
  refine ⟨rfl, [.slice a n c, .slice b m d], (Own.made w w.heap.size T 1 2 #[.slice a n c, .slice b m d] (Nat.le_refl _) (by omega) rfl).rd, fun i l hl => ?_⟩
  have hx : Ext w (w.alloc (.cells #[.slice a n c, .slice b m d] T)) := (Ext.refl w).alloc _
  rcases i with _ | _ | i
  · injection hl with hl
    subst hl
    have e := hX.1
    subst e
    exact ⟨a, c, rfl, (hX.ext hx).2⟩
  · injection hl with hl
    subst hl
    have e := hY.1
    subst e
    exact ⟨b, d, rfl, (hY.ext hx).2⟩
  · cases hl
theorem toE_good {X : List Sp} (gX : Good X) (cs : List Nat) (hcp : ∀ c ∈ cs, IsCp c) (hl : (cs.length : Int) = inL X) : toE X (mkS (encs cs)) = 0 ∧ toS X (mkS (encs cs)) = mkS (encs (apT (tok X) cs)) := by
  have hd : dec (bs (mkS (encs cs))) = some cs := by rw [bs_mkS]; exact dec_encs hcp
  have hE : toE X (mkS (encs cs)) = 0 := by unfold toE; rw [if_pos gX.may, hd]; exact if_pos hl
  refine ⟨hE, ?_⟩
  unfold toS
  rw [hE, if_pos rfl, hd]
  rfl
theorem allG {X Y : List Sp} (gX : Good X) (gY : Good Y) (hf : outL X = inL Y) (cs : List Nat) (hcp : ∀ c ∈ cs, IsCp c) (hl : (cs.length : Int) = inL X) {w w' : World} [Tab w] (hx : Ext w w') {A : Option Addr} {c : Nat} (hr : RdSS w' A 2 c [X, Y]) :
    Calls Tryd.prog 19 #[.string (mkS (encs cs)), .slice A 2 c] w' fun e w'' => e = .returned (.tuple #[.string (mkS (encs (apT (tok Y) (apT (tok X) cs)))), .int .i64 0]) ∧ Ext w' w'' := by
  have hTb := tab_ext hx
  have lx := gX.len; have ly := gY.len; have tx := gX.txt; have ty := gY.txt; have ix := gX.inb
  have h := all_c A 2 c [X, Y] (mkS (encs cs)) w' hr (fun l hl => by
      rcases List.mem_cons.1 hl with rfl | hl
      · omega
      · rw [List.mem_singleton] at hl; subst hl; omega) (fun l hl => by
      rcases List.mem_cons.1 hl with rfl | hl
      · exact gX.size
      · rw [List.mem_singleton] at hl; subst hl; exact gY.size) (by
      have e1 := encs_le cs
      have e : sumTT [X, Y] = sumT X + (sumT Y + 0) := rfl
      rw [size_mkS, e]; omega) (by omega)
  obtain ⟨x1, x2⟩ := toE_good gX cs hcp hl
  have hap := apT_length (tok X) cs (by have := gX.tin; omega)
  have hcp2 := apT_cp (tok X) cs (tok_okT X gX.ok) hcp
  obtain ⟨y1, y2⟩ := toE_good gY (apT (tok X) cs) hcp2 (by have := gX.tout; omega)
  have e : allV (mkS (encs cs)) [X, Y] = .tuple #[.string (mkS (encs (apT (tok Y) (apT (tok X) cs)))), .int .i64 0] := by
    unfold allV allR
    rw [if_neg (by simp)]
    have : allL (mkS (encs cs)) [X, Y] = (mkS (encs (apT (tok Y) (apT (tok X) cs))), 0) := by
      rw [allL, if_pos x1, x2, allL, if_pos y1, y2, allL]
    rw [this]
  rw [e] at h
  exact h
theorem puts_le {X : List Sp} (g : Good X) : (insT (tok X)).length ≤ 100000 := by
  have h1 := insT_len (tok X)
  have h2 := insT_sum X g.ok
  have h3 := g.txt
  omega
theorem composeDoes_c (s : ByteArray) (A0 : Option Addr) (q0 c0 : Nat) (l0 : List Sp) (A1 : Option Addr) (q1 c1 : Nat) (l1 : List Sp) (w : World) [Tab w] (hs : s.size ≤ maxLen) (h0 : Rd w 3 (.slice A0 q0 c0) q0 (spCells l0)) (hl0 : l0.length = q0) (hls0 : ∀ s ∈ l0, s.2.2.size ≤ maxLen) (h1 : Rd w 3 (.slice A1 q1 c1) q1 (spCells l1)) (hl1 : l1.length = q1) (hls1 : ∀ s ∈ l1, s.2.2.size ≤ maxLen) :
    Calls Tryd.prog 4 #[.string s, .slice A0 q0 c0, .slice A1 q1 c1] w fun e w' => e = .returned (.bool true) ∧ Below w.heap.size w w' := by
  obtain ⟨T, cs, hm1, hm2, hTl, hT0, hsz, HFIT, HCP, hcl, hUs, HD⟩ := cut_fit s 30 30 rfl (by omega) hs
  have H0 := Lib.hid h0; have HL0 := Lib.hid hl0; have HS0 := Lib.hid hls0
  have H1 := Lib.hid h1; have HL1 := Lib.hid hl1; have HS1 := Lib.hid hls1
  clear h0 hl0 hls0 h1 hl1 hls1 hs
  obtain ⟨gX, iX, oX0, oX1, lX, tX⟩ := good_fit l0 (cs.length : Int) (by omega) (by omega)
  obtain ⟨gY, iY, oY0, oY1, lY, tY⟩ := good_fit l1 (outL (fitL l0 cs.length)) oX0 (by omega)
  obtain ⟨gZ, kZ, nZ', iZ, oZ, lZ, tZ⟩ := good_comp gX gY iY.symm (by omega) (by omega)
  have hlen := (compL_all _ _ gX.ok gY.ok iY.symm (by omega)).2.2.2.2.2.2.1
  have F0 := Lib.hid iY.symm
  have NZ := Lib.hid nZ'
  have LX : Hid ((fitL l0 (cs.length : Int)).length ≤ 300) := Lib.hid (by omega)
  have LY : Hid ((fitL l1 (outL (fitL l0 cs.length))).length ≤ 300) := Lib.hid (by omega)
  have LZ : Hid ((compL (fitL l0 cs.length) (fitL l1 (outL (fitL l0 cs.length)))).length ≤ 300) := Lib.hid (by omega)
  have hnx := norm_len (fitL l0 cs.length)
  have hny := norm_len (fitL l1 (outL (fitL l0 cs.length)))
  have LN : Hid ((normL (fitL l0 cs.length)).length ≤ 300 ∧ (normL (fitL l1 (outL (fitL l0 cs.length)))).length ≤ 300) := Lib.hid ⟨by omega, by omega⟩
  have HLEN := Lib.hid hlen
  have hput : (((insT (tok (compL (fitL l0 cs.length) (fitL l1 (outL (fitL l0 cs.length)))))).length : Nat) : Int) ≤ ((insT (tok (fitL l0 cs.length))).length : Nat) + ((insT (tok (fitL l1 (outL (fitL l0 cs.length))))).length : Nat) := by
    have := comp_insW (fun _ => 1) (tok (fitL l0 cs.length)) (tok (fitL l1 (outL (fitL l0 cs.length))))
    rw [kZ, len_insW, len_insW, len_insW]; omega
  have p1 := puts_le gX; have p2 := puts_le gY; have p3 := puts_le gZ
  have HALL : Hid (∀ A c w', Ext w w' → RdSS w' A 2 c [fitL l0 cs.length, fitL l1 (outL (fitL l0 cs.length))] → _) := Lib.hid fun A c w' hx hr => @allG _ _ gX gY iY.symm cs HCP.out (by omega) w w' _ hx A c hr
  have HTO : Hid (∀ A n k w', Ext w w' → RdO w' A n k (compL (fitL l0 cs.length) (fitL l1 (outL (fitL l0 cs.length)))) → _) := Lib.hid fun A n k w' hx hr => @toG _ gZ cs HCP.out (by omega) w w' _ hx A n k hr
  have hcomp : apT (tok (compL (fitL l0 cs.length) (fitL l1 (outL (fitL l0 cs.length))))) cs = apT (tok (fitL l1 (outL (fitL l0 cs.length)))) (apT (tok (fitL l0 cs.length)) cs) := by
    rw [kZ]
    exact apT_comp _ _ _ _ (Nat.le_refl _) (by have := gX.tout; have := gY.tin; omega) (by have := gX.tin; omega)
  rw [hcomp] at HTO
  have hcn := cnt_U cs _ HD.out
  have HC : Hid (∀ w', Calls Tryd.prog 18 #[.string (mkS (encs cs))] w' fun e w'' => e = .returned (.int .i64 (cs.length : Int)) ∧ Ext w' w'') := Lib.hid fun w' => by
    have h := count_c (mkS (encs cs)) w' (by omega); rw [hcn] at h; exact h
  have FX : Hid (∀ w', Ext w w' → Calls Tryd.prog 11 #[.slice A0 q0 c0, .int .i64 (cs.length : Int)] w' (TellsL w' (fitL l0 cs.length))) := Lib.hid fun w' hx => fitG A0 q0 c0 l0 _ H0.out HL0.out HS0.out (by omega) (by omega) hx
  have FY : Hid (∀ w', Ext w w' → Calls Tryd.prog 11 #[.slice A1 q1 c1, .int .i64 (outL (fitL l0 cs.length))] w' (TellsL w' (fitL l1 (outL (fitL l0 cs.length))))) := Lib.hid fun w' hx => fitG A1 q1 c1 l1 _ H1.out HL1.out HS1.out oX0 (by omega) hx
  clear iX iY kZ nZ' iZ oZ lX lY lZ tX tY tZ hlen hnx hny hcomp hcn
  generalize apT (tok (fitL l1 (outL (fitL l0 cs.length)))) (apT (tok (fitL l0 cs.length)) cs) = OUT at *
  generalize fitL l1 (outL (fitL l0 cs.length)) = Y at *
  generalize fitL l0 cs.length = X at *
  go_enter Tryd.func4, Tryd.ntmps4
  go_wp2_with fail
  refine (shown9_c _).mono ?_; rintro e w1 ⟨rfl, hx1⟩
  have e1 : Ext w w1 := hx1
  clear hx1
  go_wp2_with fail
  refine (HFIT.out _).mono ?_; rintro e w2 ⟨rfl, hx2⟩
  have e2 : Ext w w2 := e1.trans hx2
  clear hx2
  go_wp2_with fail
  refine (HC.out _).mono ?_; rintro e w3 ⟨rfl, hx3⟩
  have e3 : Ext w w3 := e2.trans hx3
  clear hx3
  go_wp2_with fail
  refine (FX.out _ e3).mono ?_; rintro e w4 ⟨hx4, aX, nX, cX, rfl, rX⟩
  have e4 : Ext w w4 := e3.trans hx4
  have RX := Lib.hid rX
  clear hx4 rX
  go_wp2_with fail
  refine (outG gX e4 RX.out).mono ?_; rintro e w5 ⟨rfl, hx5⟩
  have e5 : Ext w w5 := e4.trans hx5
  replace RX := Lib.hid (RX.out.ext hx5)
  clear hx5
  go_wp2_with fail
  refine (FY.out _ e5).mono ?_; rintro e w6 ⟨hx6, aY, nY, cY, rfl, rY⟩
  have e6 : Ext w w6 := e5.trans hx6
  replace RX := Lib.hid (RX.out.ext hx6)
  have RY := Lib.hid rY
  clear hx6 rY
  go_wp2_with fail
  refine (compG gX gY F0.out e6 RX.out RY.out).mono ?_; rintro e w7 ⟨hx7, aZ, nZ, cZ, rfl, rZ⟩
  have e7 : Ext w w7 := e6.trans hx7
  replace RX := Lib.hid (RX.out.ext hx7)
  replace RY := Lib.hid (RY.out.ext hx7)
  have RZ := Lib.hid rZ
  clear hx7 rZ
  have RSS := Lib.hid (rdSS_two RX.out RY.out 22)
  replace RX := Lib.hid (RX.out.ext ((Ext.refl w7).alloc (.cells #[.slice aX nX cX, .slice aY nY cY] 22)))
  replace RY := Lib.hid (RY.out.ext ((Ext.refl w7).alloc (.cells #[.slice aX nX cX, .slice aY nY cY] 22)))
  replace RZ := Lib.hid (RZ.out.ext ((Ext.refl w7).alloc (.cells #[.slice aX nX cX, .slice aY nY cY] 22)))
  have e8 : Ext w (w7.alloc (.cells #[.slice aX nX cX, .slice aY nY cY] 22)) := e7.alloc _
  go_wp2_with fail
  refine (HALL.out _ _ _ e8 RSS.out).mono ?_; rintro e w9 ⟨rfl, hx9⟩
  have e9 : Ext w w9 := e8.trans hx9
  replace RX := Lib.hid (RX.out.ext hx9)
  replace RY := Lib.hid (RY.out.ext hx9)
  replace RZ := Lib.hid (RZ.out.ext hx9)
  clear hx9
  clear RSS
  go_wp2_with fail
  refine (HTO.out _ _ _ _ e9 RZ.out).mono ?_; rintro e w10 ⟨rfl, hx10⟩
  have e10 : Ext w w10 := e9.trans hx10
  replace RX := Lib.hid (RX.out.ext hx10)
  replace RY := Lib.hid (RY.out.ext hx10)
  replace RZ := Lib.hid (RZ.out.ext hx10)
  clear hx10
  go_wp2_with fail
  refine (isG NZ.out LZ.out RZ.out).mono ?_; rintro e w11 ⟨rfl, hx11⟩
  have e11 : Ext w w11 := e10.trans hx11
  replace RX := Lib.hid (RX.out.ext hx11)
  replace RY := Lib.hid (RY.out.ext hx11)
  replace RZ := Lib.hid (RZ.out.ext hx11)
  clear hx11
  go_wp2_with fail
  refine (HC.out _).mono ?_; rintro e w12 ⟨rfl, hx12⟩
  have e12 : Ext w w12 := e11.trans hx12
  replace RX := Lib.hid (RX.out.ext hx12)
  replace RY := Lib.hid (RY.out.ext hx12)
  replace RZ := Lib.hid (RZ.out.ext hx12)
  clear hx12
  go_wp2_with fail
  refine (FX.out _ e12).mono ?_; rintro e w13 ⟨hx13, aP, nP, cP, rfl, rP⟩
  have e13 : Ext w w13 := e12.trans hx13
  replace RX := Lib.hid (RX.out.ext hx13)
  replace RY := Lib.hid (RY.out.ext hx13)
  replace RZ := Lib.hid (RZ.out.ext hx13)
  have RP := Lib.hid rP
  clear hx13 rP
  go_wp2_with fail
  refine (sameTrueG rfl LX.out RX.out RP.out).mono ?_; rintro e w14 ⟨rfl, hx14⟩
  have e14 : Ext w w14 := e13.trans hx14
  replace RX := Lib.hid (RX.out.ext hx14)
  replace RY := Lib.hid (RY.out.ext hx14)
  replace RZ := Lib.hid (RZ.out.ext hx14)
  replace RP := Lib.hid (RP.out.ext hx14)
  clear hx14
  clear RP
  go_wp2_with fail
  refine (outG gX e14 RX.out).mono ?_; rintro e w15 ⟨rfl, hx15⟩
  have e15 : Ext w w15 := e14.trans hx15
  replace RX := Lib.hid (RX.out.ext hx15)
  replace RY := Lib.hid (RY.out.ext hx15)
  replace RZ := Lib.hid (RZ.out.ext hx15)
  clear hx15
  go_wp2_with fail
  refine (FY.out _ e15).mono ?_; rintro e w16 ⟨hx16, aS, nS, cS, rfl, rS⟩
  have e16 : Ext w w16 := e15.trans hx16
  replace RX := Lib.hid (RX.out.ext hx16)
  replace RY := Lib.hid (RY.out.ext hx16)
  replace RZ := Lib.hid (RZ.out.ext hx16)
  have RS := Lib.hid rS
  clear hx16 rS
  go_wp2_with fail
  refine (sameTrueG rfl LY.out RY.out RS.out).mono ?_; rintro e w17 ⟨rfl, hx17⟩
  have e17 : Ext w w17 := e16.trans hx17
  replace RX := Lib.hid (RX.out.ext hx17)
  replace RY := Lib.hid (RY.out.ext hx17)
  replace RZ := Lib.hid (RZ.out.ext hx17)
  replace RS := Lib.hid (RS.out.ext hx17)
  clear hx17
  clear RS
  go_wp2_with fail
  refine (normG gX RX.out).mono ?_; rintro e w18 ⟨hx18, aN, nN, cN, rfl, rN⟩
  have e18 : Ext w w18 := e17.trans hx18
  replace RX := Lib.hid (RX.out.ext hx18)
  replace RY := Lib.hid (RY.out.ext hx18)
  replace RZ := Lib.hid (RZ.out.ext hx18)
  have RN := Lib.hid rN
  clear hx18 rN
  go_wp2_with fail
  refine (normG gY RY.out).mono ?_; rintro e w19 ⟨hx19, aO, nO, cO, rfl, rO⟩
  have e19 : Ext w w19 := e18.trans hx19
  replace RX := Lib.hid (RX.out.ext hx19)
  replace RY := Lib.hid (RY.out.ext hx19)
  replace RZ := Lib.hid (RZ.out.ext hx19)
  replace RN := Lib.hid (RN.out.ext hx19)
  have RO := Lib.hid rO
  clear hx19 rO
  have hlc : (nZ : Int) ≤ (nN : Int) + (nO : Int) := by have a := RZ.out.1; have b := RN.out.1; have c := RO.out.1; have d := HLEN.out; omega
  have hnb : nN ≤ 300 ∧ nO ≤ 300 := by have b := RN.out.1; have c := RO.out.1; have d := LN.out; omega
  obtain ⟨hnb1, hnb2⟩ := hnb
  clear RN RO
  go_wp2_with fail
  refine (puts9_c gZ _ RZ.out).mono ?_; rintro e w20 ⟨rfl, hx20⟩
  have e20 : Ext w w20 := e19.trans hx20
  replace RX := Lib.hid (RX.out.ext hx20)
  replace RY := Lib.hid (RY.out.ext hx20)
  replace RZ := Lib.hid (RZ.out.ext hx20)
  clear hx20
  go_wp2_with fail
  refine (puts9_c gX _ RX.out).mono ?_; rintro e w21 ⟨rfl, hx21⟩
  have e21 : Ext w w21 := e20.trans hx21
  replace RX := Lib.hid (RX.out.ext hx21)
  replace RY := Lib.hid (RY.out.ext hx21)
  replace RZ := Lib.hid (RZ.out.ext hx21)
  clear hx21
  go_wp2_with fail
  refine (puts9_c gY _ RY.out).mono ?_; rintro e w22 ⟨rfl, hx22⟩
  have e22 : Ext w w22 := e21.trans hx22
  replace RX := Lib.hid (RX.out.ext hx22)
  replace RY := Lib.hid (RY.out.ext hx22)
  replace RZ := Lib.hid (RZ.out.ext hx22)
  clear hx22
  go_wp2_with fail
  go_ret
  exact ⟨rfl, e22⟩
end Go.Proofs.YtlhhcjhjkameoaaDoor
