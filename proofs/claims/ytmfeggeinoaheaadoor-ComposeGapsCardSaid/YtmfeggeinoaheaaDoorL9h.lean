/- Layer 9, ComposeGaps. -/
import Derived.Test.YtmfeggeinoaheaaDoorL9i
import Derived.Test.YtmfeggeinoaheaaDoorL9a
import Derived.Test.YtmfeggeinoaheaaDoorMe
import Derived.Test.YtmfeggeinoaheaaDoorC6
import Derived.Test.YtmfeggeinoaheaaDoorC1g
import Derived.Test.YtmfeggeinoaheaaDoorP9a
import Derived.Deep.Cut
import Derived.Deep.RegionHeld3
import Derived.Deep.QuietTactic
namespace Go.Proofs.YtmfeggeinoaheaaDoor
open Go.RowKit
set_option maxRecDepth 100000
set_option maxHeartbeats 8000000
set_option linter.unusedSimpArgs false
theorem composeGaps_c (A0 : Option Addr) (q0 c0 : Nat) (l0 : List Sp) (A1 : Option Addr) (q1 c1 : Nat) (l1 : List Sp) (n : Int) (w : World) [Tab w] (h0 : Rd w 3 (.slice A0 q0 c0) q0 (spCells l0)) (hl0 : l0.length = q0) (hls0 : ∀ s ∈ l0, s.2.2.size ≤ maxLen) (h1 : Rd w 3 (.slice A1 q1 c1) q1 (spCells l1)) (hl1 : l1.length = q1) (hls1 : ∀ s ∈ l1, s.2.2.size ≤ maxLen) (hn : (Lit.int .u8 n).wf = true) :
    Calls Tryd.prog 3 #[.slice A0 q0 c0, .slice A1 q1 c1, .int .u8 n] w fun e w' => e = .returned (.bool true) ∧ Below w.heap.size w w' := by
  obtain ⟨n0, n1⟩ := bounds_u8 hn
  obtain ⟨M, hM, hM1⟩ : ∃ M : Nat, n % 31 = (M : Int) ∧ M ≤ 30 := ⟨(n % 31).toNat, by omega, by omega⟩
  have H0 := Lib.hid h0; have HL0 := Lib.hid hl0; have HS0 := Lib.hid hls0
  have H1 := Lib.hid h1; have HL1 := Lib.hid hl1; have HS1 := Lib.hid hls1
  clear h0 hl0 hls0 h1 hl1 hls1 hn
  obtain ⟨gX, iX, oX0, oX1, lX, tX⟩ := good_fit l0 (M : Int) (by omega) (by omega)
  obtain ⟨gY, iY, oY0, oY1, lY, tY⟩ := good_fit l1 (outL (fitL l0 M)) oX0 (by omega)
  obtain ⟨gZ, hZT, -, iZ, -, lZ, -⟩ := good_comp gX gY iY.symm (by omega) (by omega)
  obtain ⟨N, hN⟩ := Int.eq_ofNat_of_zero_le oX0
  have F0 := Lib.hid iY.symm
  have hx1 := gX.tin; have hx2 := gX.tout; have hy1 := gY.tin
  have hXM : tin (tok (fitL l0 M)) = M := by omega
  have hXN : tout (tok (fitL l0 M)) = N := by omega
  have hYN : tin (tok (fitL l1 (outL (fitL l0 M)))) = N := by omega
  have HIX := Lib.hid iX; have HIY := Lib.hid (iY.trans hN); have HIZ := Lib.hid (iZ.trans iX); have HOX := Lib.hid hN
  have hNb : N ≤ 400 := by omega
  have HXM := Lib.hid hXM; have HXN := Lib.hid hXN; have HYN := Lib.hid hYN; have HZT := Lib.hid hZT
  have HLX := Lib.hid lX; have HLY := Lib.hid lY; have HLZ := Lib.hid lZ
  have FY : Hid (∀ w', Ext w w' → Calls Tryd.prog 5 #[.slice A1 q1 c1, .int .i64 (outL (fitL l0 M))] w' (TellsL w' (fitL l1 (outL (fitL l0 M))))) := Lib.hid fun w' hx => fitG A1 q1 c1 l1 _ H1.out HL1.out HS1.out oX0 (by omega) hx
  have FX : Hid (∀ w', Ext w w' → Calls Tryd.prog 5 #[.slice A0 q0 c0, .int .i64 (M : Int)] w' (TellsL w' (fitL l0 M))) := Lib.hid fun w' hx => fitG A0 q0 c0 l0 _ H0.out HL0.out HS0.out (by omega) (by omega) hx
  clear iX iY iZ hN lX tX lY tY lZ oX1 oY0 oY1 hx1 hx2 hy1 hXM hXN hYN hZT oX0
  generalize fitL l1 (outL (fitL l0 M)) = Y at *
  generalize fitL l0 M = X at *
  have hno : IntKind.i64.wrap ((N : Int) + 1) = (N : Int) + 1 := by rw [IntKind.wrap_i64]; omega
  go_enter Tryd.func3, Tryd.ntmps3
  go_wp2_with fail
  refine (shown9_c _).mono ?_; rintro e w1 ⟨rfl, hx1⟩
  have e1 : Ext w w1 := hx1
  clear hx1
  go_wp2_with fail
  refine (FX.out _ e1).mono ?_; rintro e w2 ⟨hx2, aX, nX, cX, rfl, rX⟩
  have e2 : Ext w w2 := e1.trans hx2
  have RX := Lib.hid rX
  clear rX
  clear hx2
  go_wp2_with fail
  refine (outG gX e2 RX.out).mono ?_; rintro e w3 ⟨rfl, hx3⟩
  have e3 : Ext w w3 := e2.trans hx3
  replace RX := Lib.hid (RX.out.ext hx3)
  clear hx3
  go_wp2_with fail
  refine (FY.out _ e3).mono ?_; rintro e w4 ⟨hx4, aY, nY, cY, rfl, rY⟩
  have e4 : Ext w w4 := e3.trans hx4
  replace RX := Lib.hid (RX.out.ext hx4)
  have RY := Lib.hid rY
  clear rY
  clear hx4
  go_wp2_with fail
  refine (compG gX gY F0.out e4 RX.out RY.out).mono ?_; rintro e w5 ⟨hx5, aZ, nZ, cZ, rfl, rZ⟩
  have e5 : Ext w w5 := e4.trans hx5
  replace RX := Lib.hid (RX.out.ext hx5)
  replace RY := Lib.hid (RY.out.ext hx5)
  have RZ := Lib.hid rZ
  clear rZ
  clear hx5
  go_wp2_with fail
  refine (gapsG gX M HIX.out (by omega) e5 RX.out).mono ?_; rintro e w6 ⟨gAp, gcp, gBp, gdp, rfl, hx6, rPp, rDp⟩
  have e6 : Ext w w6 := e5.trans hx6
  replace RX := Lib.hid (RX.out.ext hx6)
  replace RY := Lib.hid (RY.out.ext hx6)
  replace RZ := Lib.hid (RZ.out.ext hx6)
  have RPp := Lib.hid rPp; have RDp := Lib.hid rDp
  clear rPp rDp
  clear hx6
  have BGp := Lib.hid (BoxG.made w6 #[.slice gAp (M + 1) gcp, .slice gBp M gdp] 32)
  replace RX := Lib.hid (RX.out.ext ((Ext.refl w6).alloc (.cells #[.slice gAp (M + 1) gcp, .slice gBp M gdp] 32)))
  replace RY := Lib.hid (RY.out.ext ((Ext.refl w6).alloc (.cells #[.slice gAp (M + 1) gcp, .slice gBp M gdp] 32)))
  replace RZ := Lib.hid (RZ.out.ext ((Ext.refl w6).alloc (.cells #[.slice gAp (M + 1) gcp, .slice gBp M gdp] 32)))
  replace RPp := Lib.hid (RPp.out.ext ((Ext.refl w6).alloc (.cells #[.slice gAp (M + 1) gcp, .slice gBp M gdp] 32)))
  replace RDp := Lib.hid (RDp.out.ext ((Ext.refl w6).alloc (.cells #[.slice gAp (M + 1) gcp, .slice gBp M gdp] 32)))
  have e7 : Ext w (w6.alloc (.cells #[.slice gAp (M + 1) gcp, .slice gBp M gdp] 32)) := e6.alloc _
  go_wp2_with fail
  refine (gapsG gY N HIY.out (by omega) e7 RY.out).mono ?_; rintro e w8 ⟨gAq, gcq, gBq, gdq, rfl, hx8, rPq, rDq⟩
  have e8 : Ext w w8 := e7.trans hx8
  replace RX := Lib.hid (RX.out.ext hx8)
  replace RY := Lib.hid (RY.out.ext hx8)
  replace RZ := Lib.hid (RZ.out.ext hx8)
  replace RPp := Lib.hid (RPp.out.ext hx8)
  replace RDp := Lib.hid (RDp.out.ext hx8)
  replace BGp := Lib.hid (BGp.out.ext hx8)
  have RPq := Lib.hid rPq; have RDq := Lib.hid rDq
  clear rPq rDq
  clear hx8
  have BGq := Lib.hid (BoxG.made w8 #[.slice gAq (N + 1) gcq, .slice gBq N gdq] 32)
  replace RX := Lib.hid (RX.out.ext ((Ext.refl w8).alloc (.cells #[.slice gAq (N + 1) gcq, .slice gBq N gdq] 32)))
  replace RY := Lib.hid (RY.out.ext ((Ext.refl w8).alloc (.cells #[.slice gAq (N + 1) gcq, .slice gBq N gdq] 32)))
  replace RZ := Lib.hid (RZ.out.ext ((Ext.refl w8).alloc (.cells #[.slice gAq (N + 1) gcq, .slice gBq N gdq] 32)))
  replace RPp := Lib.hid (RPp.out.ext ((Ext.refl w8).alloc (.cells #[.slice gAq (N + 1) gcq, .slice gBq N gdq] 32)))
  replace RDp := Lib.hid (RDp.out.ext ((Ext.refl w8).alloc (.cells #[.slice gAq (N + 1) gcq, .slice gBq N gdq] 32)))
  replace BGp := Lib.hid (BGp.out.ext ((Ext.refl w8).alloc (.cells #[.slice gAq (N + 1) gcq, .slice gBq N gdq] 32)))
  replace RPq := Lib.hid (RPq.out.ext ((Ext.refl w8).alloc (.cells #[.slice gAq (N + 1) gcq, .slice gBq N gdq] 32)))
  replace RDq := Lib.hid (RDq.out.ext ((Ext.refl w8).alloc (.cells #[.slice gAq (N + 1) gcq, .slice gBq N gdq] 32)))
  have e9 : Ext w (w8.alloc (.cells #[.slice gAq (N + 1) gcq, .slice gBq N gdq] 32)) := e8.alloc _
  go_wp2_with fail
  refine (gapsG gZ M HIZ.out (by omega) e9 RZ.out).mono ?_; rintro e w10 ⟨gAg, gcg, gBg, gdg, rfl, hx10, rPg, rDg⟩
  have e10 : Ext w w10 := e9.trans hx10
  replace RX := Lib.hid (RX.out.ext hx10)
  replace RY := Lib.hid (RY.out.ext hx10)
  replace RZ := Lib.hid (RZ.out.ext hx10)
  replace RPp := Lib.hid (RPp.out.ext hx10)
  replace RDp := Lib.hid (RDp.out.ext hx10)
  replace BGp := Lib.hid (BGp.out.ext hx10)
  replace RPq := Lib.hid (RPq.out.ext hx10)
  replace RDq := Lib.hid (RDq.out.ext hx10)
  replace BGq := Lib.hid (BGq.out.ext hx10)
  have RPg := Lib.hid rPg; have RDg := Lib.hid rDg
  clear rPg rDg
  clear hx10
  have BGg := Lib.hid (BoxG.made w10 #[.slice gAg (M + 1) gcg, .slice gBg M gdg] 32)
  replace RX := Lib.hid (RX.out.ext ((Ext.refl w10).alloc (.cells #[.slice gAg (M + 1) gcg, .slice gBg M gdg] 32)))
  replace RY := Lib.hid (RY.out.ext ((Ext.refl w10).alloc (.cells #[.slice gAg (M + 1) gcg, .slice gBg M gdg] 32)))
  replace RZ := Lib.hid (RZ.out.ext ((Ext.refl w10).alloc (.cells #[.slice gAg (M + 1) gcg, .slice gBg M gdg] 32)))
  replace RPp := Lib.hid (RPp.out.ext ((Ext.refl w10).alloc (.cells #[.slice gAg (M + 1) gcg, .slice gBg M gdg] 32)))
  replace RDp := Lib.hid (RDp.out.ext ((Ext.refl w10).alloc (.cells #[.slice gAg (M + 1) gcg, .slice gBg M gdg] 32)))
  replace BGp := Lib.hid (BGp.out.ext ((Ext.refl w10).alloc (.cells #[.slice gAg (M + 1) gcg, .slice gBg M gdg] 32)))
  replace RPq := Lib.hid (RPq.out.ext ((Ext.refl w10).alloc (.cells #[.slice gAg (M + 1) gcg, .slice gBg M gdg] 32)))
  replace RDq := Lib.hid (RDq.out.ext ((Ext.refl w10).alloc (.cells #[.slice gAg (M + 1) gcg, .slice gBg M gdg] 32)))
  replace BGq := Lib.hid (BGq.out.ext ((Ext.refl w10).alloc (.cells #[.slice gAg (M + 1) gcg, .slice gBg M gdg] 32)))
  replace RPg := Lib.hid (RPg.out.ext ((Ext.refl w10).alloc (.cells #[.slice gAg (M + 1) gcg, .slice gBg M gdg] 32)))
  replace RDg := Lib.hid (RDg.out.ext ((Ext.refl w10).alloc (.cells #[.slice gAg (M + 1) gcg, .slice gBg M gdg] 32)))
  have e11 : Ext w (w10.alloc (.cells #[.slice gAg (M + 1) gcg, .slice gBg M gdg] 32)) := e10.alloc _
  go_wp2_with fail
  have EB := Lib.hid e11
  obtain ⟨wb, hwb⟩ : ∃ x, (w10.alloc (.cells #[.slice gAg (M + 1) gcg, .slice gBg M gdg] 32)) = x := ⟨_, rfl⟩
  rw [hwb] at EB RX RY RZ RPp RDp BGp RPq RDq BGq RPg RDg BGg ⊢
  clear hwb e1 e2 e3 e4 e5 e6 e7 e8 e9 e10 e11
  generalize w6.heap.size = HBp at *
  generalize w8.heap.size = HBq at *
  generalize w10.heap.size = HBg at *
  have ewb := EB.out
  have q0 : wb.cell? ⟨HBq, 0, none⟩ = some (.slice gAq (N + 1) gcq) := BGq.out.2 0 _ rfl
  have q1 : wb.cell? ⟨HBq, 1, none⟩ = some (.slice gBq N gdq) := BGq.out.2 1 _ rfl
  have OX : Hid (∀ w', Ext w w' → RdO w' aX nX cX X → Calls Tryd.prog 6 #[.slice aX nX cX] w' fun e w'' => e = .returned (.int .i64 (N : Int)) ∧ Ext w' w'') := Lib.hid fun w' hx hr => by have h := outG gX hx hr; rw [HOX.out] at h; exact h
  have hrr := Ext.refl wb
  go_region_held3 (fun W => Ext wb W ∧ W.cell? ⟨HBq, 0, none⟩ = some (.slice gAq (N + 1) gcq) ∧ W.cell? ⟨HBq, 1, none⟩ = some (.slice gBq N gdq))
    ((go_split_ands; refine ⟨?_, ?_, ?_⟩ <;> first | (exact True.intro) | (exact Ext.drew ‹_›) | (exact Ext.trans ‹_› hxk) | (exact ext_cell hxk ‹_›) | go_keep))
    (first
    | (go_at_call 6; go_split_ands; refine (OX.out _ (ewb.trans ‹Ext wb _›) (RX.out.ext ‹Ext wb _›)).mono ?_; rintro e w' ⟨rfl, hxk⟩))
  go_split_ands
  have hx12 : Ext wb w' := by first | assumption | exact Ext.trans ‹Ext wb _› hxk
  have e12 : Ext w w' := ewb.trans hx12
  replace RX := Lib.hid (RX.out.ext hx12)
  replace RY := Lib.hid (RY.out.ext hx12)
  replace RZ := Lib.hid (RZ.out.ext hx12)
  replace RPp := Lib.hid (RPp.out.ext hx12)
  replace RDp := Lib.hid (RDp.out.ext hx12)
  replace BGp := Lib.hid (BGp.out.ext hx12)
  replace RPq := Lib.hid (RPq.out.ext hx12)
  replace RDq := Lib.hid (RDq.out.ext hx12)
  replace BGq := Lib.hid (BGq.out.ext hx12)
  replace RPg := Lib.hid (RPg.out.ext hx12)
  replace RDg := Lib.hid (RDg.out.ext hx12)
  replace BGg := Lib.hid (BGg.out.ext hx12)
  clear q0 q1 hrr
  go_wp2_with fail
  obtain ⟨is, his, hs0, hs1, hs2⟩ := info_parts info_str
  have hmk : ∀ V : World, (Instr.makeSlice 29 (.int .i64 ((M : Int) + 1)) (.int .i64 ((M : Int) + 1))).run Tryd.prog V = .ok (.slice (some ⟨V.heap.size, 0, none⟩) (M + 1) (M + 1)) (V.alloc (.cells (madeCells (Value.string ⟨#[]⟩).cells ((M + 1) * is.size)) 9)) :=
    fun V => run_make V 29 9 is (.string ⟨#[]⟩) Tryd.underlying29 his hs0 .i64 .i64 ((M : Int) + 1) ((M : Int) + 1) (by omega) (by omega) (by rw [hs2]; omega) (by omega)
  have hm1 : madeCells (Value.string ⟨#[]⟩).cells ((M + 1) * is.size) = ((List.replicate (M + 1) (⟨#[]⟩ : ByteArray)).map Value.string).toArray := by
    rw [hs1, Nat.mul_one, made_put]
  rw [hm1] at hmk
  obtain ⟨R1, hR1⟩ : ∃ R1, ((List.replicate (M + 1) (⟨#[]⟩ : ByteArray)).map Value.string).toArray = R1 := ⟨_, rfl⟩
  rw [hR1] at hmk
  have HR1 := Lib.hid hR1
  clear hm1 hR1 his hs0 hs1 hs2
  obtain ⟨W0, hW0⟩ : ∃ x, w' = x := ⟨_, rfl⟩
  rw [hW0] at e12 RX RY RZ RPp RDp BGp RPq RDq BGq RPg RDg BGg ⊢
  have EW := Lib.hid e12
  have p0 : W0.cell? ⟨HBp, 0, none⟩ = some (.slice gAp (M + 1) gcp) := BGp.out.2 0 _ rfl
  have p1 : W0.cell? ⟨HBp, 1, none⟩ = some (.slice gBp M gdp) := BGp.out.2 1 _ rfl
  obtain ⟨DX, hDX⟩ : ∃ DX, gpD (tok X) = DX := ⟨_, rfl⟩
  have HDX := Lib.hid hDX
  rw [hDX] at RDp
  have HA : Hid (∀ (V : World) (g : Nat), Ext W0 V → _) := Lib.hid fun V g hx => appB_e9 (V := V) (g := g) RDp.out (Nat.le_trans hM1 (by decide)) hx
  have HKS : Hid (∀ V, Ext W0 V → Ext W0 V ∧ V.cell? ⟨HBp, 0, none⟩ = some (.slice gAp (M + 1) gcp) ∧ V.cell? ⟨HBp, 1, none⟩ = some (.slice gBp M gdp)) := Lib.hid fun V hx => ⟨hx, ext_cell hx p0, ext_cell hx p1⟩
  have hgd := cast_le_of9 (rd_len_le9 RDp.out)
  have j0 := cast_nn9 M
  have hsb := succ_beq9 M
  go_cut [18] from 94 (fun p wr => GapsR W0 M R1 DX p wr)
  case first =>
    clear_value *
    as_aux_lemma =>
    have hxx := Ext.refl W0
    clear RX RY RZ RPp RDp BGp RPq RDq BGq RPg RDg BGg EB ewb e12 hx12 EW H0 HL0 HS0 H1 HL1 HS1 gX gY gZ F0 HIX HIY HIZ HOX HXM HXN HYN HZT HLX HLY HLZ FX FY OX HDX HR1 hDX hW0 hno
    go_region_held3 (fun V => Ext W0 V ∧ V.cell? ⟨HBp, 0, none⟩ = some (.slice gAp (M + 1) gcp) ∧ V.cell? ⟨HBp, 1, none⟩ = some (.slice gBp M gdp))
      ((go_split_ands; apply HKS.out; first | exact hxw | (focus ((change Below _ _ _); (first | (with_reducible refine Below.setCell (Below.setCell ?_ ?_ _) ?_ _) | (with_reducible refine Below.setCell ?_ ?_ _) | skip); (all_goals first | (focus ((change Ext _ _); (repeat (with_reducible first | assumption | exact hxw | exact hxx | apply Ext.drew | apply Ext.alloc)); done)) | (focus ((try simp only); omega))); done))))
      (first
      | ((refine step_app9 (by rfl) (.tmp 98) (.tmp 100) 30 (by rfl) ?_); (refine ex_app9 (v := .slice (some ⟨_, 0, none⟩) 0 0) (y := .slice gBp M gdp) (by rfl) (by rfl) (HA.out _ _ ?_) ?_); (go_split_ands; assumption); (rintro vG wG ⟨hG, hxk⟩); (obtain ⟨aG, cG, rfl, _⟩ := hG.len9); (have hxw : Ext W0 wG := Ext.trans (by go_split_ands; assumption) hxk); (first | ((apply bxk_step (W0 := W0) (t := 32) (vs := #[.slice none 0 0, .slice none 0 0]) ?_ hxk ?_ ?_); (rotate_left); (focus ((repeat (with_reducible first | assumption | exact Ext.refl _ | apply Ext.drew | apply Ext.alloc)); done)); (focus ((repeat (with_reducible first | assumption | exact Ext.refl _ | apply Ext.drew | apply Ext.alloc)); done)); (intro hK)) | skip); (first | ((apply bxk_step (W0 := W0) (t := 9) (vs := R1) ?_ hxk ?_ ?_); (rotate_left); (focus ((repeat (with_reducible first | assumption | exact Ext.refl _ | apply Ext.drew | apply Ext.alloc)); done)); (focus ((repeat (with_reducible first | assumption | exact Ext.refl _ | apply Ext.drew | apply Ext.alloc)); done)); (intro hS)) | skip); (repeat (first | (simp only [size_alloc] at hS) | (simp only [size_drew9] at hS))); (repeat (first | (simp only [size_alloc] at hK) | (simp only [size_drew9] at hK))); (try have c0 := BxT.cell (u := .slice none 0 0) hK.1 (i := 0) rfl); (try have c1 := BxT.cell (u := .slice none 0 0) hK.1 (i := 1) rfl); (try have c2 := BxT.frozen hK.1 0); (try have c3 := BxT.frozen hK.1 1); (try have c4 := fun o => ext_cell ((Ext.refl wG).alloc o) c0); (try have c5 := fun o => ext_cell ((Ext.refl wG).alloc o) c1); (try have c6 := fun o => BxT.frozen (BxT.ext hK.1 ((Ext.refl wG).alloc o)) 0); (try have c7 := fun o => BxT.frozen (BxT.ext hK.1 ((Ext.refl wG).alloc o)) 1))
      | fail)
    all_goals
      go_wp2_with fail
      go_meet
      case rel =>
        first
        | exact gr1 hS hG hxw
        | exact gr2 hK hS hG hxw
        | exact gr3 hG hxw
        | exact gr4 hG hxw
        | exact gr5 hK hG hxw
  case rest =>
    obtain ⟨K, g, aG, cG, rfl, hKB, hSB, hGO, hxc, hKH, hgH⟩ := hcut
    obtain ⟨TX, hTX⟩ : ∃ TX, tok X = TX := ⟨_, rfl⟩
    obtain ⟨TY, hTY⟩ : ∃ TY, tok Y = TY := ⟨_, rfl⟩
    obtain ⟨PS, hPS⟩ : ∃ PS, gpP TX = PS := ⟨_, rfl⟩
    obtain ⟨QS, hQS⟩ : ∃ QS, gpP TY = QS := ⟨_, rfl⟩
    obtain ⟨ES, hES⟩ : ∃ ES, gpD TY = ES := ⟨_, rfl⟩
    have okX := tok_okT X gX.ok
    have okY := tok_okT Y gY.ok
    have hiX := insT_sum X gX.ok
    have hiY := insT_sum Y gY.ok
    have htX := gX.txt; have htY := gY.txt
    have hxm := HXM.out; have hxn := HXN.out; have hyn := HYN.out; have hzt := HZT.out
    rw [hTX, hPS] at RPp
    rw [hTY, hQS] at RPq
    rw [hTY, hES] at RDq
    rw [hTX] at hDX hxm hxn okX hiX
    rw [hTY] at hyn okY hiY
    rw [hTX, hTY] at hzt
    have hCE : tout TX = tin TY := by omega
    have hpl : PS.length = M + 1 := by rw [← hPS, gpP_length, gpD_length]; omega
    have hdl : DX.length = M := by rw [← hDX, gpD_length]; omega
    have hql : QS.length = N + 1 := by rw [← hQS, gpP_length, gpD_length]; omega
    have hel : ES.length = N := by rw [← hES, gpD_length]; omega
    have hug : ug PS DX = TX := by rw [← hPS, ← hDX]; exact ug_gp TX
    have hcpP : ∀ i, i < M + 1 → ∀ c ∈ PS.getD i [], IsCp c := fun i hi => by
      rw [List.getD_eq_getElem?_getD, List.getElem?_eq_getElem (by omega), Option.getD_some]
      exact gpP_cp TX okX _ (by rw [hPS]; exact List.getElem_mem _)
    have hszP : ∀ i, (encs (PS.getD i [])).length ≤ 100000 := fun i => by
      by_cases h : i < PS.length
      · rw [List.getD_eq_getElem?_getD, List.getElem?_eq_getElem h, Option.getD_some]
        have := gpP_le TX PS[i] (by rw [hPS]; exact List.getElem_mem _)
        omega
      · rw [List.getD_eq_getElem?_getD, List.getElem?_eq_none (by omega)]; simp [encs]
    have hszQ : ∀ i, (encs (QS.getD i [])).length ≤ 100000 := fun i => by
      by_cases h : i < QS.length
      · rw [List.getD_eq_getElem?_getD, List.getElem?_eq_getElem h, Option.getD_some]
        have := gpP_le TY QS[i] (by rw [hQS]; exact List.getElem_mem _)
        omega
      · rw [List.getD_eq_getElem?_getD, List.getElem?_eq_none (by omega)]; simp [encs]
    have hwp : ∀ i, i ≤ M → plN PS DX i + (PS.getD i []).length ≤ N := fun i hi => by
      have h1 := where_pl PS DX i (by omega) (by omega)
      have h2 := whereT_le TX i
      rw [hug] at h1
      omega
    have hend : gpP (compT TX TY) = wM (M + 1) TX QS ES N := by
      have h := wM_end TX TY hCE
      rw [hxm, hxn, hQS, hES] at h; exact h.symm
    have hgend : gpD (compT TX TY) = gW TX DX ES M := by
      have h := gW_end TX TY hCE M (by omega)
      rw [hDX, hES] at h; exact h.symm
    have hwhere : ∀ i, i ≤ M → whereT TX i = plN PS DX i + (PS.getD i []).length := fun i hi => by
      have h1 := where_pl PS DX i (by omega) (by omega)
      rw [hug] at h1; exact h1
    have hbs : ∀ n l, n ≤ N + 1 → l < M + 1 → (encs ((wP (M + 1) TX QS ES n).getD l [])).length ≤ 50000000 := fun n l hn hl => by
      have h := wP_size TX QS ES 100000 hszQ (M + 1) n l hl
      have := Nat.mul_le_mul_right 100004 hn
      omega
    have hbm : ∀ n l, n ≤ N → l < M + 1 → (encs ((wM (M + 1) TX QS ES n).getD l [])).length ≤ 50000000 := fun n l hn hl => by
      have h := wM_size TX QS ES 100000 hszQ (M + 1) n l hl
      have := Nat.mul_le_mul_right 100004 (show n + 1 ≤ N + 1 by omega)
      omega
    have CL : Hid (∀ (t : Nat) w', t ≤ N → Ext w w' → RdO w' aX nX cX X → Calls Tryd.prog 10 #[.slice aX nX cX, .int .i64 (t : Int)] w' fun e w'' => e = .returned (.tuple #[.int .i64 ((leastT TX t : Nat) : Int), .int .i64 0]) ∧ Ext w' w'') := Lib.hid fun t w' ht hx hr => by
      have h := @leastG X gX t (by rw [HOX.out]; omega) w w' _ hx aX nX cX hr
      rw [hTX] at h; exact h
    have HLL : Hid (∀ t, leastT TX t ≤ M) := Lib.hid fun t => by have := leastT_le TX t; omega
    have CC : Hid (∀ (i : Nat) w', i < M + 1 → Calls Tryd.prog 9 #[.string (mkS (encs (PS.getD i [])))] w' fun e w'' => e = .returned (.int .i64 (((PS.getD i []).length : Nat) : Int)) ∧ Ext w' w'') := Lib.hid fun i w' hi => by
      have h := count_c (mkS (encs (PS.getD i []))) w' (by rw [size_mkS]; have := hszP i; omega)
      rw [cntF_some (by rw [bs_mkS]; exact dec_encs (hcpP i hi))] at h
      exact h
    have CU : Hid (∀ (i k : Nat) w', i < M + 1 → k < (PS.getD i []).length → Calls Tryd.prog 11 #[.string (mkS (encs (PS.getD i []))), .int .i64 (k : Int), .int .i64 ((k : Int) + 1)] w' fun e w'' => e = .returned (.tuple #[.string (mkS (encs [(PS.getD i []).getD k 0])), .int .i64 0]) ∧ Ext w' w'') := Lib.hid fun i k w' hi hk => by
      have h := cut_c (mkS (encs (PS.getD i []))) (k : Int) ((k : Int) + 1) w' (by rw [size_mkS]; have := hszP i; omega)
      have e : cutF (bs (mkS (encs (PS.getD i [])))) (k : Int) ((k : Int) + 1) = (encs [(PS.getD i []).getD k 0], 0) := by
        unfold cutF
        rw [bs_mkS, dec_encs (hcpP i hi)]
        simp only
        rw [if_pos (by omega), show ((k : Int) + 1).toNat = k + 1 by omega, Int.toNat_natCast, take_drop_one _ k hk]
      rw [e] at h
      exact h
    have hS0 : St9 W0 M g K aG cG (wP (M + 1) TX QS ES 0) (gW TX DX ES 0) wc := ⟨hxc.out, hgH, hKB.out, by
      have h := hSB.out
      rw [← HR1.out] at h
      rw [wP_zero]
      simpa [putC, encs, mkS] using h, by rw [gW_zero]; exact hGO.out⟩
    have HS0 := Lib.hid hS0
    have HTI : Hid (tin TX ≤ M) := Lib.hid (by omega); have HTO : Hid (tout TX = N) := Lib.hid hxn
    have HPL := Lib.hid hpl; have HDL := Lib.hid hdl; have HQL := Lib.hid hql; have HEL := Lib.hid hel; have HUG := Lib.hid hug; have HWP := Lib.hid hwp; have HEND := Lib.hid hend; have HGE := Lib.hid hgend; have HWH := Lib.hid hwhere; have HBS := Lib.hid hbs; have HBM := Lib.hid hbm; have HSQ := Lib.hid hszQ; have HSP := Lib.hid hszP; have HZE := Lib.hid hzt
    have P1 : Hid (∀ i, i < M + 1 → (((putC PS).map Value.string)[i]? = some (.string (mkS (encs (PS.getD i [])))))) := Lib.hid fun i hi => by
      have h2 : i < PS.length := by omega
      simp [putC, h2]
    have Q1 : Hid (∀ i, i < N + 1 → (((putC QS).map Value.string)[i]? = some (.string (mkS (encs (QS.getD i [])))))) := Lib.hid fun i hi => by
      have h2 : i < QS.length := by omega
      simp [putC, h2]
    have D1 : Hid (∀ i, i < M → ((DX.map Value.bool)[i]? = some (.bool (DX.getD i true)))) := Lib.hid fun i hi => by
      have h2 : i < DX.length := by omega
      simp [h2]
    have E1 : Hid (∀ i, i < N → ((ES.map Value.bool)[i]? = some (.bool (ES.getD i true)))) := Lib.hid fun i hi => by
      have h2 : i < ES.length := by omega
      simp [h2]
    obtain ⟨bp, op, hAp, -, -⟩ := rd_at1 RPp.out (show 0 < M + 1 by omega) (P1.out 0 (by omega))
    obtain ⟨bq, oq, hAq, -, -⟩ := rd_at1 RPq.out (show 0 < N + 1 by omega) (Q1.out 0 (by omega))
    have PC : Hid (∀ i, i < M + 1 → W0.cell? ⟨bp, op + i, none⟩ = some (.string (mkS (encs (PS.getD i []))))) := Lib.hid fun i hi => by
      obtain ⟨b, o, e, -, h⟩ := rd_at1 RPp.out hi (P1.out i hi)
      rw [hAp] at e; injection e with e; injection e with e1 e2; subst e1; subst e2; exact h
    have QC : Hid (∀ i, i < N + 1 → W0.cell? ⟨bq, oq + i, none⟩ = some (.string (mkS (encs (QS.getD i []))))) := Lib.hid fun i hi => by
      obtain ⟨b, o, e, -, h⟩ := rd_at1 RPq.out hi (Q1.out i hi)
      rw [hAq] at e; injection e with e; injection e with e1 e2; subst e1; subst e2; exact h
    subst hAp; subst hAq
    have p0' := p0; have p1' := p1
    have q0' : W0.cell? ⟨HBq, 0, none⟩ = some (.slice (some ⟨bq, oq, none⟩) (N + 1) gcq) := BGq.out.2 0 _ rfl
    have q1' : W0.cell? ⟨HBq, 1, none⟩ = some (.slice gBq N gdq) := BGq.out.2 1 _ rfl
    have g0' : W0.cell? ⟨HBg, 0, none⟩ = some (.slice gAg (M + 1) gcg) := BGg.out.2 0 _ rfl
    have g1' : W0.cell? ⟨HBg, 1, none⟩ = some (.slice gBg M gdg) := BGg.out.2 1 _ rfl
    have PB := Lib.hid (And.intro p0' p1'); have QB := Lib.hid (And.intro q0' q1'); have GB := Lib.hid (And.intro g0' g1')
    clear p0 p1 p0' p1' q0' q1' g0' g1' hgd j0 hsb HA HKS hmk okX okY hiX hiY htX htY hxm hxn hyn hzt hCE hpl hdl hql hel hug hcpP hszP hszQ hwp hend hgend hwhere hbs hbm hS0 hKB hSB hGO hxc hPS hQS hES hDX HR1 HXM HXN HYN HZT HDX hTX hTY e12 hx12 ewb EB
    clear H0 HL0 H1 HL1 HS1 FX FY F0 HIX HIY HIZ HLX HLY HLZ hM n0 n1 gX gY gZ HOX OX hno RY RZ P1 Q1 BGp BGq BGg
    go_wp2_with fail
    go_loopw [19, 20] (fun a z wr => ∃ (i T : Nat) (ws : List (List Nat)), i ≤ M + 1 ∧ z = .int .i64 i ∧ a = .int .i64 T ∧ Hid ((i ≤ M → T = plN PS DX i ∧ ws = wP (M + 1) TX QS ES T) ∧ (i = M + 1 → ws = wM (M + 1) TX QS ES N)) ∧ Hid (St9 W0 M g K aG cG ws (gW TX DX ES i) wr)) (fun _ z _ => M + 1 - (intOf z).toNat)
    case atStart => exact ⟨0, 0, _, by omega, rfl, rfl, Lib.hid ⟨fun _ => ⟨rfl, rfl⟩, fun h => by omega⟩, HS0⟩
    case round =>
      obtain ⟨i, T, ws, hi, rfl, rfl, HW, HS⟩ := hrel
      clear HS0
      by_cases hlt : i < M + 1
      · have dn : decide (i < M + 1) = true := by rw [decide_eq_true_eq]; exact hlt
        have dn' : decide ((i : Int) < (M : Int) + 1) = true := by rw [decide_eq_true_eq]; omega
        have i0 : (0 : Int) ≤ (i : Int) := by omega
        have i1 : (i : Int) < (M : Int) + 1 := by omega
        obtain ⟨hT, hws⟩ := HW.out.1 (by omega)
        have hwpi := HWP.out i (by omega)
        obtain ⟨m, hm⟩ : ∃ m, (PS.getD i []).length = m := ⟨_, rfl⟩
        have CCi := Lib.hid (fun w' => CC.out i w' hlt)
        rw [hm] at CCi hwpi
        rw [← hT] at hwpi
        have HM := Lib.hid hm; have HT := Lib.hid hT; have HWS := Lib.hid hws
        have c2 := ext_cell HS.out.ext (PC.out i hlt)
        clear hm hT hws HW
        have xwr := HS.out.ext
        have p0wr := ext_cell xwr PB.out.1; have p1wr := ext_cell xwr PB.out.2
        have q0wr := ext_cell xwr QB.out.1; have q1wr := ext_cell xwr QB.out.2
        go_wp2_with fail
        refine (CCi.out _).mono ?_; rintro e w1 ⟨rfl, hx1⟩
        have HS1 := Lib.hid (HS.out.later hx1)
        have xw1 := HS1.out.ext
        have p0w1 := ext_cell xw1 PB.out.1; have p1w1 := ext_cell xw1 PB.out.2
        have q0w1 := ext_cell xw1 QB.out.1; have q1w1 := ext_cell xw1 QB.out.2
        have k0w1 := HS1.out.c0; have k1w1 := HS1.out.c1
        clear xwr p0wr p1wr q0wr q1wr c2 CCi
        have hcase : (DX.getD i true = false ∧ i < M) ∨ (DX.getD i true = true ∧ i < M) ∨ (DX.getD i true = true ∧ ¬ i < M) := by
          by_cases hjM : i < M
          · cases hd : DX.getD i true with
            | true => exact .inr (.inl ⟨rfl, hjM⟩)
            | false => exact .inl ⟨rfl, hjM⟩
          · refine .inr (.inr ⟨?_, hjM⟩)
            rw [List.getD_eq_getElem?_getD, List.getElem?_eq_none (by have := HDL.out; omega)]; rfl
        go_upto_region 16 with fail
        go_cut [22] from 116 to 128 (fun v wx => ∃ kp : Bool, v = .bool kp ∧ wx = w1 ∧ ((kp = true ∧ DX.getD i true = false ∧ i < M) ∨ (kp = false ∧ DX.getD i true = true ∧ i < M) ∨ (kp = false ∧ DX.getD i true = true ∧ ¬ i < M)))
        case first =>
          rcases hcase with ⟨hd, hjM⟩ | ⟨hd, hjM⟩ | ⟨hd, hjM⟩
          · skip
            clear_value *
            as_aux_lemma =>
            have dm : decide (i < M) = true := by rw [decide_eq_true_eq]; exact hjM
            have i2 : (i : Int) < (M : Int) := by omega
            obtain ⟨bd, od, hBd, hbd, c3⟩ := rd_at1 (RDp.out.ext HS1.out.ext) hjM (D1.out i hjM)
            rw [hd] at c3
            subst hBd
            have HD := Lib.hid hd
            clear hd
            go_wp2_with fail
            go_meet
            case rel => exact ⟨_, rfl, rfl, .inl ⟨rfl, HD.out, hjM⟩⟩
          · skip
            clear_value *
            as_aux_lemma =>
            have dm : decide (i < M) = true := by rw [decide_eq_true_eq]; exact hjM
            have i2 : (i : Int) < (M : Int) := by omega
            obtain ⟨bd, od, hBd, hbd, c3⟩ := rd_at1 (RDp.out.ext HS1.out.ext) hjM (D1.out i hjM)
            rw [hd] at c3
            subst hBd
            have HD := Lib.hid hd
            clear hd
            go_wp2_with fail
            go_meet
            case rel => exact ⟨_, rfl, rfl, .inr (.inl ⟨rfl, HD.out, hjM⟩)⟩
          · skip
            clear_value *
            as_aux_lemma =>
            have dm : decide (i < M) = false := by rw [decide_eq_false_iff_not]; exact hjM
            have HD := Lib.hid hd
            clear hd
            go_wp2_with fail
            go_meet
            case rel => exact ⟨_, rfl, rfl, .inr (.inr ⟨rfl, HD.out, hjM⟩)⟩
        case rest =>
          obtain ⟨kp, rfl, rfl, hkp⟩ := hcut
          have HKP := Lib.hid hkp
          clear hkp hcase hx1 HS
          go_wp2_with fail
          go_loopw [19, 23] (fun a z wr => ∃ (k T' : Nat) (ws : List (List Nat)), k ≤ m + 1 ∧ z = .int .i64 k ∧ a = .int .i64 T' ∧ Hid ((k ≤ m → T' = T + k ∧ ws = wP (M + 1) TX QS ES T') ∧ (k = m + 1 → T' = T + m ∧ ws = wM (M + 1) TX QS ES T' ∧ (kp = true ∨ ¬ i < M))) ∧ Hid (St9 W0 M g K aG cG ws (gW TX DX ES i) wr)) (fun _ z _ => m + 1 - (intOf z).toNat)
          case atStart => exact ⟨0, T, ws, by omega, rfl, rfl, Lib.hid ⟨fun _ => ⟨rfl, HWS.out⟩, fun h => by omega⟩, HS1⟩
          case round =>
            obtain ⟨k, T', ws', hk, rfl, rfl, HW2, HS2⟩ := hrel
            clear HS1 HWS xw1 p0w1 p1w1 q0w1 q1w1 k0w1 k1w1
            rcases (by omega : k < m ∨ k = m ∨ k = m + 1) with hlt2 | hlt2 | hlt2
            · skip
              refine inLt9 hM1 hNb EW RX RDq CL HLL CU HPL HDL HUG HBS HBM HSQ E1 PC QC PB QB hlt hwpi HM HT HW2 HS2 hlt2 (Lib.hid (by rintro x ⟨t1, d1⟩ ⟨t2, d2⟩ W rfl h; exact h)) (Lib.hid ?_)
              intro h19 h23 hn hs
              subst h19
              subst h23
              go_roundw
              case rel => exact ⟨k + 1, _, _, by omega, rfl, rfl, hn, hs⟩
              case measure => (change m + 1 - (intOf (.int .i64 ((k + 1 : Nat) : Int))).toNat < m + 1 - (intOf (.int .i64 (k : Int))).toNat; simp [intOf]; omega)
            · rcases HKP.out with ⟨hkp, hd9, hjM⟩ | ⟨hkp, hd9, hjM⟩ | ⟨hkp, hd9, hjM⟩
              · skip
                refine inEqA9 hM1 hNb EW RX RDq CL HLL CU HPL HDL HUG HBS HBM HSQ E1 PC QC PB QB hlt hwpi HM HT HW2 HS2 hlt2 hkp hd9 hjM (Lib.hid (by rintro x ⟨t1, d1⟩ ⟨t2, d2⟩ W rfl h; exact h)) (Lib.hid ?_)
                intro h19 h23 hn hs
                subst h19
                subst h23
                go_roundw
                case rel => exact ⟨k + 1, _, _, by omega, rfl, rfl, hn, hs⟩
                case measure => (change m + 1 - (intOf (.int .i64 ((k + 1 : Nat) : Int))).toNat < m + 1 - (intOf (.int .i64 (k : Int))).toNat; simp [intOf]; omega)
              · skip
                have HD := Lib.hid hd9
                clear hd9
                have dm : decide (i < M) = true := by rw [decide_eq_true_eq]; exact hjM
                have i2 : (i : Int) < (M : Int) := by omega
                have dk : decide (k ≤ m) = true := by rw [decide_eq_true_eq]; omega
                have dq : ((k : Int) == (m : Int)) = true := by rw [beq_iff_eq]; omega
                have dl : decide (k < m) = false := by rw [decide_eq_false_iff_not]; omega
                obtain ⟨hT', hws'⟩ := HW2.out.1 (by omega)
                have k0 : (0 : Int) ≤ (k : Int) := by omega
                have t0 : (0 : Int) ≤ (T' : Int) := by omega
                have t1 : (T' : Int) < (N : Int) + 1 := by omega
                have tN : T' ≤ N := by omega
                have dT : decide (N + 1 ≤ T') = false := by rw [decide_eq_false_iff_not]; omega
                have dT' : decide ((N : Int) + 1 ≤ (T' : Int)) = false := by rw [decide_eq_false_iff_not]; omega
                have hkb : k ≤ 1000 := by omega
                have HKM := Lib.hid hlt2
                have HT' := Lib.hid hT'; have HWS' := Lib.hid hws'
                clear hT' hws' HW2 hlt2
                have xwr := HS2.out.ext
                have p0wr := ext_cell xwr PB.out.1; have p1wr := ext_cell xwr PB.out.2
                have q0wr := ext_cell xwr QB.out.1; have q1wr := ext_cell xwr QB.out.2
                have k0wr := HS2.out.c0; have k1wr := HS2.out.c1
                go_wp2_with fail
                go_roundw
                case rel =>
                  refine ⟨i + 1, T', ws', by omega, by go_num, rfl, Lib.hid ⟨fun _ => ⟨?_, HWS'.out⟩, fun h => by omega⟩, ?_⟩
                  · rw [plN_gone _ _ _ HD.out, HM.out, ← HT.out]; have := HT'.out; have := HKM.out; omega
                  · rw [← gW_gone _ _ _ _ HD.out]; exact HS2
                case measure => simp [intOf]; omega
              · skip
                refine inEqC9 hM1 hNb EW RX RDq CL HLL CU HPL HDL HUG HBS HBM HSQ E1 PC QC PB QB hlt hwpi HM HT HW2 HS2 hlt2 hkp hd9 hjM (Lib.hid (by rintro x ⟨t1, d1⟩ ⟨t2, d2⟩ W rfl h; exact h)) (Lib.hid ?_)
                intro h19 h23 hn hs
                subst h19
                subst h23
                go_roundw
                case rel => exact ⟨k + 1, _, _, by omega, rfl, rfl, hn, hs⟩
                case measure => (change m + 1 - (intOf (.int .i64 ((k + 1 : Nat) : Int))).toNat < m + 1 - (intOf (.int .i64 (k : Int))).toNat; simp [intOf]; omega)
            · rcases HKP.out with ⟨hkp, hd9, hjM⟩ | ⟨hkp, hd9, hjM⟩ | ⟨hkp, hd9, hjM⟩
              · skip
                have HD := Lib.hid hd9
                clear hd9
                have dm : decide (i < M) = true := by rw [decide_eq_true_eq]; exact hjM
                have i2 : (i : Int) < (M : Int) := by omega
                have dk : decide (k ≤ m) = false := by rw [decide_eq_false_iff_not]; omega
                have dk' : decide ((k : Int) ≤ (m : Int)) = false := by rw [decide_eq_false_iff_not]; omega
                obtain ⟨hT', hws', -⟩ := HW2.out.2 hlt2
                have hkb : k ≤ 1000 := by omega
                have tN : T' ≤ N := by omega
                have t0 : (0 : Int) ≤ (T' : Int) := by omega
                have hpn := plN_kept PS DX i HD.out
                have hwn := HWP.out (i + 1) (by omega)
                rw [HM.out, ← HT.out] at hpn
                have tlt : T' < N := by omega
                have dN : decide (T' < N) = true := by rw [decide_eq_true_eq]; exact tlt
                have t2 : (T' : Int) < (N : Int) := by omega
                have HPN : Hid (T' + 1 = plN PS DX (i + 1)) := Lib.hid (by omega)
                have hgk := gW_kept TX DX ES i HD.out
                rw [HWH.out i (by omega), HM.out, ← HT.out, ← hT'] at hgk
                have hwe : ws' = wP (M + 1) TX QS ES (T' + 1) := by
                  rw [hws']
                  refine wP_skip _ _ _ _ _ fun j => ?_
                  have h := conB_end PS DX ES (by have := HPL.out; have := HDL.out; omega) i HD.out j
                  rw [HUG.out, HM.out, ← HT.out, ← hT'] at h; exact h
                have HWE := Lib.hid hwe
                obtain ⟨bG, hbG⟩ := HS2.out.addr (by omega)
                subst hbG
                have hdrop := fun V (h : St9 W0 M g K (some ⟨bG, 0, none⟩) cG ws' (gW TX DX ES i) V) => h.drop i hjM (ES.getD T' true)
                rw [hgk] at hdrop
                have HDR := Lib.hid hdrop
                obtain ⟨be, oe, hBe, -, c6⟩ := rd_at1 (RDq.out.ext HS2.out.ext) tlt (E1.out T' tlt)
                subst hBe
                have hga := HS2.out.gat i hjM (by rw [gW_len]; exact HDL.out)
                have g8 := hga.1; have g9 := hga.2
                obtain ⟨G8, hG8⟩ : ∃ G8, (gW TX DX ES i).getD i true = G8 := ⟨_, rfl⟩
                rw [hG8] at g8
                clear hG8
                obtain ⟨ev, hev⟩ : ∃ ev, ES.getD T' true = ev := ⟨_, rfl⟩
                rw [hev] at c6 HDR
                clear hT' hws' HW2 hlt2 hpn hwn hgk hwe hdrop hga hev
                have xwr := HS2.out.ext
                have p0wr := ext_cell xwr PB.out.1; have p1wr := ext_cell xwr PB.out.2
                have q0wr := ext_cell xwr QB.out.1; have q1wr := ext_cell xwr QB.out.2
                have k0wr := HS2.out.c0; have k1wr := HS2.out.c1
                go_wp2_with fail
                have dr5 : Ext wr wr.drew := (Ext.refl wr).drew
                refine region_T (fun W => W.cell? ⟨K, 1, none⟩ = some (.slice (some ⟨bG, 0, none⟩) M cG) ∧ W.cell? ⟨HBq, 1, none⟩ = some (.slice (some ⟨be, oe, none⟩) N gdq) ∧ W.cell? ⟨be, oe + T', none⟩ = some (.bool ev) ∧ W.cell? ⟨bG, i, none⟩ = some (.bool G8)) 9 (by kernel_rfl) (⟨ext_cell dr5 k1wr, ext_cell dr5 q1wr, ext_cell dr5 c6, ext_cell dr5 g8⟩) (fun hHeld => ?_)
                obtain ⟨Wd, hWd⟩ : ∃ x, wr.drew = x := ⟨_, rfl⟩
                rw [hWd] at hHeld dr5 ⊢
                clear hWd
                have HSd := Lib.hid (HS2.out.later dr5)
                have sfd := HSd.out.gat i hjM (by rw [gW_len]; exact HDL.out)
                have g9' := sfd.2
                obtain ⟨h1, h2, h3, h4⟩ := id hHeld
                clear sfd
                refine wpAnyT_take (i := 0) (v := ?_) rfl (by kernel_rfl) (fun _ _ _ h => h) (Or.inl ⟨by rfl, ?_⟩) (by assumption) ?_
                rotate_left
                · (intro W hSw; (try dsimp only at hSw); go_simp; (try with_reducible rfl))
                try simp only [Act.put, List.setIfInBounds_toArray, List.set_cons_zero, List.set_cons_succ]
                refine wpAnyT_take (i := 1) (v := ?_) rfl (by kernel_rfl) (fun _ _ _ h => h) (Or.inl ⟨by rfl, ?_⟩) (by assumption) ?_
                rotate_left
                · (intro W hSw; (try dsimp only at hSw); go_simp; (try with_reducible rfl))
                try simp only [Act.put, List.setIfInBounds_toArray, List.set_cons_zero, List.set_cons_succ]
                refine wpAnyT_take (i := 2) (v := ?_) rfl (by kernel_rfl) (fun _ _ _ h => h) (Or.inl ⟨by rfl, ?_⟩) (by assumption) ?_
                rotate_left
                · (intro W hSw; (try dsimp only at hSw); go_simp; (try with_reducible rfl))
                try simp only [Act.put, List.setIfInBounds_toArray, List.set_cons_zero, List.set_cons_succ]
                refine wpAnyT_take (i := 3) (v := ?_) rfl (by kernel_rfl) (fun _ _ _ h => h) (Or.inl ⟨by rfl, ?_⟩) (by assumption) ?_
                rotate_left
                · (intro W hSw; (try dsimp only at hSw); go_simp; (try with_reducible rfl))
                try simp only [Act.put, List.setIfInBounds_toArray, List.set_cons_zero, List.set_cons_succ]
                refine wpAnyT_take (i := 4) (v := ?_) rfl (by kernel_rfl) (fun _ _ _ h => h) (Or.inl ⟨by rfl, ?_⟩) (by assumption) ?_
                rotate_left
                · (intro W hSw; (try dsimp only at hSw); go_simp; (try with_reducible rfl))
                try simp only [Act.put, List.setIfInBounds_toArray, List.set_cons_zero, List.set_cons_succ]
                refine wpAnyT_take (i := 5) (v := ?_) rfl (by kernel_rfl) (fun _ _ _ h => h) (Or.inl ⟨by rfl, ?_⟩) (by assumption) ?_
                rotate_left
                · (intro W hSw; (try dsimp only at hSw); go_simp; (try with_reducible rfl))
                try simp only [Act.put, List.setIfInBounds_toArray, List.set_cons_zero, List.set_cons_succ]
                refine wpAnyT_take (i := 6) (v := ?_) rfl (by kernel_rfl) (fun _ _ _ h => h) (Or.inl ⟨by rfl, ?_⟩) (by assumption) ?_
                rotate_left
                · (intro W hSw; (try dsimp only at hSw); go_simp; (try with_reducible rfl))
                try simp only [Act.put, List.setIfInBounds_toArray, List.set_cons_zero, List.set_cons_succ]
                refine wpAnyT_take (i := 7) (v := ?_) rfl (by kernel_rfl) (fun _ _ _ h => h) (Or.inl ⟨by rfl, ?_⟩) (by assumption) ?_
                rotate_left
                · (intro W hSw; (try dsimp only at hSw); go_simp; (try with_reducible rfl))
                try simp only [Act.put, List.setIfInBounds_toArray, List.set_cons_zero, List.set_cons_succ]
                refine wpAnyT_take (i := 8) (v := ?_) rfl (by kernel_rfl) (fun _ _ _ h => h) (Or.inl ⟨by rfl, ?_⟩) (by assumption) ?_
                rotate_left
                · (intro W hSw; (try dsimp only at hSw); go_simp; (try with_reducible rfl))
                try simp only [Act.put, List.setIfInBounds_toArray, List.set_cons_zero, List.set_cons_succ]
                refine wpAnyT_one (i := 9) rfl (by kernel_rfl) (fun KQ hKQ => ?_)
                go_simp
                refine hKQ.out _ _ (fun h => absurd rfl h) (fun _ => ?_)
                clear hKQ KQ hHeld
                try simp only [Act.put, List.setIfInBounds_toArray, List.set_cons_zero, List.set_cons_succ]
                refine wpAnyT_done (by kernel_rfl) ?_ _
                obtain ⟨w6, hw6⟩ : ∃ w6, Wd.setCell ⟨bG, i, none⟩ (.bool ev) = w6 := ⟨_, rfl⟩
                have HS6 : Hid (St9 W0 M g K (some ⟨bG, 0, none⟩) cG ws' (gW TX DX ES (i + 1)) w6) := Lib.hid (by rw [← hw6]; exact HDR.out Wd HSd.out)
                rw [hw6]
                clear hw6
                go_wp2_with fail
                go_roundw
                case rel => exact ⟨i + 1, T' + 1, ws', by omega, by go_num, by go_num, Lib.hid ⟨fun _ => ⟨HPN.out, HWE.out⟩, fun h => by omega⟩, HS6⟩
                case measure => simp [intOf]; omega
              · skip
                subst hkp
                rcases (HW2.out.2 hlt2).2.2 with h | h
                · cases h
                · exact absurd hjM h
              · skip
                have HD := Lib.hid hd9
                clear hd9
                have dm : decide (i < M) = false := by rw [decide_eq_false_iff_not]; exact hjM
                have dk : decide (k ≤ m) = false := by rw [decide_eq_false_iff_not]; omega
                have dk' : decide ((k : Int) ≤ (m : Int)) = false := by rw [decide_eq_false_iff_not]; omega
                obtain ⟨hT', hws', -⟩ := HW2.out.2 hlt2
                have hkb : k ≤ 1000 := by omega
                have tN : T' ≤ N := by omega
                have t0 : (0 : Int) ≤ (T' : Int) := by omega
                have hiM : i = M := by omega
                have hTN : T' = N := by
                  have h1 := HWH.out i (by omega)
                  have h2 := whereT_last TX i (by rw [hiM]; exact HTI.out)
                  rw [h2, HTO.out, HM.out, ← HT.out] at h1; omega
                have HIM := Lib.hid hiM; have HWE : Hid (ws' = wM (M + 1) TX QS ES N) := Lib.hid (by rw [hws', hTN])
                clear hT' hws' HW2 hlt2 hiM hTN
                have xwr := HS2.out.ext
                have p0wr := ext_cell xwr PB.out.1; have p1wr := ext_cell xwr PB.out.2
                have q0wr := ext_cell xwr QB.out.1; have q1wr := ext_cell xwr QB.out.2
                have k0wr := HS2.out.c0; have k1wr := HS2.out.c1
                go_wp2_with fail
                go_roundw
                case rel =>
                  refine ⟨i + 1, T', ws', by omega, by go_num, rfl, Lib.hid ⟨fun h => by have := HIM.out; omega, fun _ => HWE.out⟩, ?_⟩
                  rw [← gW_gone _ _ _ _ HD.out]; exact HS2
                case measure => simp [intOf]; omega
      · obtain rfl : i = M + 1 := by omega
        have dn : decide (M + 1 < M + 1) = false := by rw [decide_eq_false_iff_not]; omega
        have dn' : decide (((M : Int) + 1) < (M : Int) + 1) = false := by rw [decide_eq_false_iff_not]; omega
        obtain ⟨hrs, hrg, hl1, hl2⟩ := zend9 HS.out (HW.out.2 rfl) HDL.out HEND.out HGE.out
        have hz1 := RPg.out.ext HS.out.ext
        have hz2 := RDg.out.ext HS.out.ext
        rw [HZE.out] at hz1 hz2
        obtain ⟨GP, hGP⟩ : ∃ GP, putC (gpP (compT TX TY)) = GP := ⟨_, rfl⟩
        obtain ⟨GD, hGD⟩ : ∃ GD, gpD (compT TX TY) = GD := ⟨_, rfl⟩
        rw [hGP] at hrs hz1 hl1
        rw [hGD] at hrg hz2 hl2
        clear hGP hGD
        have g0 := ext_cell HS.out.ext GB.out.1; have g1 := ext_cell HS.out.ext GB.out.2
        have xwr := HS.out.ext
        have p0wr := ext_cell xwr PB.out.1; have p1wr := ext_cell xwr PB.out.2
        have q0wr := ext_cell xwr QB.out.1; have q1wr := ext_cell xwr QB.out.2
        have k0wr := HS.out.c0; have k1wr := HS.out.c1
        have HRS := Lib.hid hrs; have HRG := Lib.hid hrg; have HZ1 := Lib.hid hz1; have HZ2 := Lib.hid hz2
        have HSM := Lib.hid (fun w' (hx : Ext wr w') => by
          have h := sameT9 gAg gBg (some ⟨g, 0, none⟩) aG (M + 1) gcg M gdg (M + 1) cG GP GD w' (HZ1.out.ext hx) (HZ2.out.ext hx) (HRS.out.ext hx) (HRG.out.ext hx) hl1 hl2 (by omega) (by omega)
          exact h)
        clear hrs hrg hz1 hz2 hl1 hl2
        go_wp2_with fail
        refine (HSM.out _ (Ext.refl _)).mono ?_; rintro e w9 ⟨rfl, hx9⟩
        go_wp2_with fail
        skip
        go_ret
        exact ⟨rfl, (EW.out.trans xwr).trans hx9⟩
end Go.Proofs.YtmfeggeinoaheaaDoor
