/- Layer 11, OverGaps. -/
import Derived.Test.YtplbpddkmhmjiaaDoorL11a
import Derived.Test.YtplbpddkmhmjiaaDoorMz
import Derived.Test.YtplbpddkmhmjiaaDoorC6
import Derived.Test.YtplbpddkmhmjiaaDoorP9a
import Derived.Deep.Cut
import Derived.Deep.RegionHeld3
import Derived.Deep.QuietTactic
namespace Go.Proofs.YtplbpddkmhmjiaaDoor
open Go.RowKit
set_option maxRecDepth 100000
set_option maxHeartbeats 8000000
set_option linter.unusedSimpArgs false
theorem rd_len_le11 {w : World} {size : Nat} {A : Option Addr} {n c : Nat} {xs : List Value} (h : Rd w size (.slice A n c) n xs) : n ≤ c := by
  obtain ⟨_, _, e, hc⟩ := h.len
  injection e with _ _ e
  omega
theorem cat_mk11 (a b : List Nat) : mkS (encs a) ++ mkS (encs b) = mkS (encs (a ++ b)) := by
  apply bs_inj
  rw [bs_append, bs_mkS, bs_mkS, bs_mkS, encs_append]
theorem bxk_new11 {X W w' W0 : World} {t : TypeId} {vs : Array Value} (h1 : Ext (X.alloc (.cells vs t)) W) (h2 : Ext W w') (h0 : Ext W0 X) : BxT t w' X.heap.size vs ∧ W0.heap.size ≤ X.heap.size := ⟨((BxT.new X t vs).ext h1).ext h2, h0.size⟩
theorem bxk_step11 {X W w' W0 : World} {t : TypeId} {vs : Array Value} {G : Prop} (h1 : Ext (X.alloc (.cells vs t)) W) (h2 : Ext W w') (h0 : Ext W0 X) (h : BxT t w' X.heap.size vs ∧ W0.heap.size ≤ X.heap.size → G) : G := h (bxk_new11 h1 h2 h0)
theorem size_drew11 (w : World) : w.drew.heap.size = w.heap.size := rfl
theorem ownE_other11 {w : World} {B : Nat} {e e1 : TypeId} {size n : Nat} {v : Value} {xs : List Value} (ho : OwnE w B e size v n xs) {a : Addr} {cur : Array Value} {f : Nat × Nat} (hg : w.heap[a.block]? = some (.cells cur e1 f)) (hne : e1 ≠ e) (u : Value) : OwnE (w.setCell a u) B e size v n xs := by
  rcases ho with ho | ho
  · exact .inl ho
  · exact .inr (own_cell_other ho hg hne u)
/-- What is wanted, as it is made at first. -/
def WantG (W0 : World) (M : Nat) (R1 : Array Value) (D : List Bool) (p : Value) (wr : World) : Prop :=
  ∃ (K g : Nat) (aG : Option Addr) (cG : Nat), p = .pointer (some ⟨K, 0, none⟩) ∧ Hid (BxT 41 wr K #[.slice (some ⟨g, 0, none⟩) (M + 1) (M + 1), .slice aG M cG]) ∧ Hid (BxT 9 wr g R1) ∧ Hid (OwnE wr W0.heap.size 4 1 (.slice aG M cG) M (D.map Value.bool)) ∧ Hid (Ext W0 wr) ∧ W0.heap.size ≤ K ∧ W0.heap.size ≤ g
theorem bxt_ne11 {W : World} {K g : Nat} {t u : TypeId} {vs us : Array Value} (h : BxT t W K vs) (h' : BxT u W g us) (hne : t ≠ u) : g ≠ K := by
  rintro rfl
  have e := (show W.heap[g]? = _ from h).symm.trans h'
  injection e with e
  injection e with e1 e2
  exact hne e2
section
variable {W0 wG : World} {M g K cG : Nat} {R1 : Array Value} {D : List Bool} {aG : Option Addr}
theorem gs11_1 (hS : BxT 9 wG g R1 ∧ W0.heap.size ≤ g) (hG : OwnE wG W0.heap.size 4 1 (.slice aG M cG) M (D.map Value.bool)) (hx : Ext W0 wG) :
    WantG W0 M R1 D (.pointer (some ⟨wG.heap.size, 0, none⟩)) (wG.alloc (.cells #[.slice (some ⟨g, 0, none⟩) (M + 1) (M + 1), .slice aG M cG] 41)) :=
  ⟨_, g, aG, cG, rfl, Lib.hid (BxT.new _ _ _), Lib.hid (hS.1.ext ((Ext.refl _).alloc _)), Lib.hid (hG.ext ((Ext.refl _).alloc _)), Lib.hid (hx.alloc _), hx.size, hS.2⟩
theorem gs11_2 (hK : BxT 41 wG K #[.slice none 0 0, .slice none 0 0] ∧ W0.heap.size ≤ K) (hS : BxT 9 wG g R1 ∧ W0.heap.size ≤ g) (hG : OwnE wG W0.heap.size 4 1 (.slice aG M cG) M (D.map Value.bool)) (hx : Ext W0 wG) :
    WantG W0 M R1 D (.pointer (some ⟨K, 0, none⟩)) ((wG.setCell ⟨K, 0, none⟩ (.slice (some ⟨g, 0, none⟩) (M + 1) (M + 1))).setCell ⟨K, 1, none⟩ (.slice aG M cG)) := by
  have hne := bxt_ne11 hK.1 hS.1 (by decide)
  have k1 := hK.1.set 0 (.slice (some ⟨g, 0, none⟩) (M + 1) (M + 1))
  refine ⟨K, g, aG, cG, rfl, Lib.hid (k1.set 1 (.slice aG M cG)), Lib.hid ((hS.1.other ⟨K, 0, none⟩ hne _).other ⟨K, 1, none⟩ hne _), Lib.hid ?_, Lib.hid (Below.setCell (Below.setCell hx (p := ⟨K, 0, none⟩) hK.2 _) (p := ⟨K, 1, none⟩) hK.2 _), hK.2, hS.2⟩
  exact ownE_other11 (a := ⟨K, 1, none⟩) (ownE_other11 (a := ⟨K, 0, none⟩) hG (show wG.heap[K]? = _ from hK.1) (by decide) _) (show (wG.setCell _ _).heap[K]? = _ from k1) (by decide) _
theorem gs11_3 (hG : OwnE wG W0.heap.size 4 1 (.slice aG M cG) M (D.map Value.bool)) (hx : Ext W0 wG) :
    WantG W0 M R1 D (.pointer (some ⟨wG.heap.size + 1, 0, none⟩)) ((wG.alloc (.cells R1 9)).alloc (.cells #[.slice (some ⟨wG.heap.size, 0, none⟩) (M + 1) (M + 1), .slice aG M cG] 41)) := by
  have h := gs11_1 (M := M) (D := D) (aG := aG) (cG := cG) (W0 := W0) ⟨BxT.new wG 9 R1, hx.size⟩ (hG.ext ((Ext.refl _).alloc _)) (hx.alloc _)
  rw [size_alloc] at h; exact h
theorem gs11_4 (hG : OwnE wG W0.heap.size 4 1 (.slice aG M cG) M (D.map Value.bool)) (hx : Ext W0 wG) :
    WantG W0 M R1 D (.pointer (some ⟨wG.heap.size, 0, none⟩)) ((wG.alloc (.cells #[.slice (some ⟨wG.heap.size + 1, 0, none⟩) (M + 1) (M + 1), .slice aG M cG] 41)).alloc (.cells R1 9)) := by
  have hn := BxT.new (wG.alloc (.cells #[.slice (some ⟨wG.heap.size + 1, 0, none⟩) (M + 1) (M + 1), .slice aG M cG] 41)) 9 R1
  rw [size_alloc] at hn
  exact ⟨_, _, aG, cG, rfl, Lib.hid ((BxT.new _ _ _).ext ((Ext.refl _).alloc _)), Lib.hid hn, Lib.hid (hG.ext (((Ext.refl _).alloc _).alloc _)), Lib.hid ((hx.alloc _).alloc _), hx.size, Nat.le_trans hx.size (Nat.le_succ _)⟩
theorem gs11_5 (hK : BxT 41 wG K #[.slice none 0 0, .slice none 0 0] ∧ W0.heap.size ≤ K) (hG : OwnE wG W0.heap.size 4 1 (.slice aG M cG) M (D.map Value.bool)) (hx : Ext W0 wG) :
    WantG W0 M R1 D (.pointer (some ⟨K, 0, none⟩)) (((wG.alloc (.cells R1 9)).setCell ⟨K, 0, none⟩ (.slice (some ⟨wG.heap.size, 0, none⟩) (M + 1) (M + 1))).setCell ⟨K, 1, none⟩ (.slice aG M cG)) :=
  gs11_2 ⟨hK.1.ext ((Ext.refl _).alloc _), hK.2⟩ ⟨BxT.new wG 9 R1, hx.size⟩ (hG.ext ((Ext.refl _).alloc _)) (hx.alloc _)
end
/-- What is wanted, in the loops. -/
structure StG (W0 : World) (M g K : Nat) (aG : Option Addr) (cG : Nat) (ws : List (List Nat)) (gs : List Bool) (wr : World) : Prop where
  ext : Ext W0 wr
  hg : W0.heap.size ≤ g
  box : BxT 41 wr K #[.slice (some ⟨g, 0, none⟩) (M + 1) (M + 1), .slice aG M cG]
  str : BxT 9 wr g ((putC ws).map Value.string).toArray
  gon : OwnE wr W0.heap.size 4 1 (.slice aG M cG) M (gs.map Value.bool)
section
variable {W0 wr : World} {M g K cG : Nat} {aG : Option Addr} {ws : List (List Nat)} {gs : List Bool}
theorem StG.later {wr' : World} (h : StG W0 M g K aG cG ws gs wr) (hx : Ext wr wr') : StG W0 M g K aG cG ws gs wr' := ⟨h.ext.trans hx, h.hg, h.box.ext hx, h.str.ext hx, h.gon.ext hx⟩
theorem StG.put (h : StG W0 M g K aG cG ws gs wr) (l : Nat) (p : List Nat) : StG W0 M g K aG cG (ws.set l p) gs (wr.setCell ⟨g, l, none⟩ (.string (mkS (encs p)))) := by
  refine ⟨Below.setCell h.ext (p := ⟨g, l, none⟩) h.hg _, h.hg, h.box.other ⟨g, l, none⟩ (bxt_ne11 h.str h.box (by decide)) _, ?_, ownE_other11 (a := ⟨g, l, none⟩) h.gon (show wr.heap[g]? = _ from h.str) (by decide) _⟩
  have e := h.str.set l (.string (mkS (encs p)))
  have q : (((putC ws).map Value.string).toArray.setIfInBounds l (.string (mkS (encs p)))) = ((putC (ws.set l p)).map Value.string).toArray := by
    simp [putC, List.map_set]
  rw [q] at e
  exact e
theorem own_block11 {w : World} {B : Nat} {e : TypeId} {size n c b : Nat} {xs : List Value} (h : Own w B e size (.slice (some ⟨b, 0, none⟩) n c) n xs) : ∃ cur, w.heap[b]? = some (.cells cur e (0, 0)) ∧ B ≤ b := by
  obtain ⟨⟨h1, h2⟩, h3⟩ := h
  rcases h2 with ⟨h2, _⟩ | ⟨g', cap, cur, hv, hb, hg, _⟩
  · cases h2
  · injection hv with e1 e2 e3
    injection e1 with e1
    injection e1 with e1
    subst e1
    exact ⟨cur, hg, hb⟩
theorem StG.addr (h : StG W0 M g K aG cG ws gs wr) (hM : 0 < M) : ∃ b, aG = some ⟨b, 0, none⟩ := by
  obtain ⟨b, c, hv, _⟩ := (h.gon.own hM).cells hM
  injection hv with e1
  exact ⟨b, e1⟩
theorem StG.drop {b : Nat} (h : StG W0 M g K (some ⟨b, 0, none⟩) cG ws gs wr) (i : Nat) (hi : i < M) (v : Bool) : StG W0 M g K (some ⟨b, 0, none⟩) cG ws (gs.set i v) (wr.setCell ⟨b, i, none⟩ (.bool v)) := by
  have ho := h.gon.own (show 0 < M by omega)
  obtain ⟨cur, hc, hb⟩ := own_block11 ho
  have e := ho.set (j := i) (by omega) (.bool v)
  rw [show (gs.map Value.bool).set i (.bool v) = (gs.set i v).map Value.bool by rw [List.map_set]] at e
  exact ⟨Below.setCell h.ext (p := ⟨b, i, none⟩) hb _, h.hg, h.box.other ⟨b, i, none⟩ (bxt_ne11 (show BxT 4 wr b cur from hc) h.box (by decide)) _, h.str.other ⟨b, i, none⟩ (bxt_ne11 (show BxT 4 wr b cur from hc) h.str (by decide)) _, .inr e⟩
theorem StG.c0 (h : StG W0 M g K aG cG ws gs wr) : wr.cell? ⟨K, 0, none⟩ = some (.slice (some ⟨g, 0, none⟩) (M + 1) (M + 1)) := h.box.cell rfl
theorem StG.c1 (h : StG W0 M g K aG cG ws gs wr) : wr.cell? ⟨K, 1, none⟩ = some (.slice aG M cG) := h.box.cell rfl
theorem StG.at_ (h : StG W0 M g K aG cG ws gs wr) (l : Nat) (hl : l < ws.length) : wr.cell? ⟨g, l, none⟩ = some (.string (mkS (encs (ws.getD l [])))) := h.str.cell (by simp [putC, hl])
theorem StG.free (h : StG W0 M g K aG cG ws gs wr) (l : Nat) : wr.frozen? ⟨g, l, none⟩ = false := h.str.frozen l
theorem StG.gat {b : Nat} (h : StG W0 M g K (some ⟨b, 0, none⟩) cG ws gs wr) (i : Nat) (hi : i < M) (hl : gs.length = M) : wr.cell? ⟨b, i, none⟩ = some (.bool (gs.getD i true)) ∧ wr.frozen? ⟨b, i, none⟩ = false := by
  have ho := h.gon.own (show 0 < M by omega)
  obtain ⟨b', c, hv, _, _, _, hc⟩ := ho.cells (by omega)
  injection hv with e1
  injection e1 with e1
  injection e1 with e1
  subst e1
  have hil : i < gs.length := by omega
  exact ⟨hc i _ (by simp [hil]), ho.free i⟩
theorem StG.rds (h : StG W0 M g K aG cG ws gs wr) (hl : ws.length = M + 1) : Rd wr 1 (.slice (some ⟨g, 0, none⟩) (M + 1) (M + 1)) (M + 1) ((putC ws).map Value.string) := rd_row h.str (by simp [putC, hl])
theorem StG.rdg (h : StG W0 M g K aG cG ws gs wr) : Rd wr 1 (.slice aG M cG) M (gs.map Value.bool) := h.gon.rd
end
/-- Three blocks that were made in a row. -/
theorem w3_1 {t : TypeId} {va : Array Value} (W : World) (o2 o3 : Obj) : BxT t (((W.alloc (.cells va t)).alloc o2).alloc o3).drew W.heap.size va := (BxT.new W t va).ext (((Ext.refl _).alloc _).alloc _).drew
theorem w3_2 {t : TypeId} {va : Array Value} (W : World) (o1 o3 : Obj) : BxT t (((W.alloc o1).alloc (.cells va t)).alloc o3).drew (W.heap.size + 1) va := by
  have h := (BxT.new (W.alloc o1) t va).ext ((Ext.refl _).alloc o3).drew
  rw [size_alloc] at h; exact h
theorem w3_3 {t : TypeId} {va : Array Value} (W : World) (o1 o2 : Obj) : BxT t (((W.alloc o1).alloc o2).alloc (.cells va t)).drew (W.heap.size + 1 + 1) va := by
  have h := (BxT.new ((W.alloc o1).alloc o2) t va).ext (Ext.refl _).drew
  rw [size_alloc, size_alloc] at h; exact h
theorem ow_made {V : World} {B n : Nat} {D : List Bool} {g : Nat} (h : BxT 4 V g (D.map Value.bool).toArray) (hl : D.length = n) (hn : n ≤ 1000) (hg : B ≤ g) (hV : B ≤ V.heap.size) : OwnE V B 4 1 (.slice (some ⟨g, 0, none⟩) n n) n (D.map Value.bool) := by
  exact .inr ⟨⟨by simp [hl], .inr ⟨g, n, _, rfl, hg, h, Nat.le_refl _, by unfold maxLen; omega, by simp [hl], by rw [Nat.mul_one, List.take_of_length_le (by simp [hl])]⟩⟩, hV⟩
theorem want_made {W0 wr : World} {O K g g2 : Nat} {R1 R2 : Array Value} {D : List Bool} (h1 : BxT 41 wr K #[.slice (some ⟨g, 0, none⟩) (O + 1) (O + 1), .slice (some ⟨g2, 0, none⟩) O O]) (h2 : BxT 9 wr g R1) (h3 : BxT 4 wr g2 R2) (hR : (D.map Value.bool).toArray = R2)
    (hl : D.length = O) (hO : O ≤ 1000) (hx : Ext W0 wr) (hK : W0.heap.size ≤ K) (hg : W0.heap.size ≤ g) (hg2 : W0.heap.size ≤ g2) : WantG W0 O R1 D (.pointer (some ⟨K, 0, none⟩)) wr :=
  ⟨K, g, some ⟨g2, 0, none⟩, O, rfl, Lib.hid h1, Lib.hid h2, Lib.hid (ow_made (by rw [hR]; exact h3) hl hO hg2 hx.size), Lib.hid hx, hK, hg⟩
theorem sameT11 (A B A' B' : Option Addr) (n c k d c' d' : Nat) (ps : List ByteArray) (gs : List Bool) (w : World)
    (h1 : Rd w 1 (.slice A n c) n (ps.map Value.string)) (h2 : Rd w 1 (.slice B k d) k (gs.map Value.bool)) (h3 : Rd w 1 (.slice A' n c') n (ps.map Value.string)) (h4 : Rd w 1 (.slice B' k d') k (gs.map Value.bool))
    (l1 : ps.length = n) (l2 : gs.length = k) (hn : n ≤ 100000) (hk : k ≤ 100000) :
    Calls Tryd.prog 24 #[.agg #[.slice A n c, .slice B k d], .agg #[.slice A' n c', .slice B' k d']] w fun e w' => e = .returned (.bool true) ∧ Ext w w' := by
  have h := same6_c A B A' B' n c k d n c' k d' ps ps gs gs w h1 h2 h3 h4 l1 l2 l1 l2 hn hk
  rw [decide_eq_true ⟨rfl, rfl⟩] at h
  exact h
theorem overGaps_c (A0 : Option Addr) (q0 c0 : Nat) (l0 : List Sp) (A1 : Option Addr) (q1 c1 : Nat) (l1 : List Sp) (n : Int) (w : World) [Tab w] (h0 : Rd w 3 (.slice A0 q0 c0) q0 (spCells l0)) (hl0 : l0.length = q0) (hls0 : ∀ s ∈ l0, s.2.2.size ≤ maxLen) (h1 : Rd w 3 (.slice A1 q1 c1) q1 (spCells l1)) (hl1 : l1.length = q1) (hls1 : ∀ s ∈ l1, s.2.2.size ≤ maxLen) (hn : (Lit.int .u8 n).wf = true) :
    Calls Tryd.prog 6 #[.slice A0 q0 c0, .slice A1 q1 c1, .int .u8 n] w fun e w' => e = .returned (.bool true) ∧ Below w.heap.size w w' := by
  obtain ⟨n0, n1⟩ := bounds_u8 hn
  obtain ⟨M, hM, hM1⟩ : ∃ M : Nat, n % 64 = (M : Int) ∧ M ≤ 63 := ⟨(n % 64).toNat, by omega, by omega⟩
  have FX : Hid (∀ w', Ext w w' → Calls Tryd.prog 13 #[.slice A0 q0 c0, .int .i64 (M : Int)] w' (TellsL w' (fitL l0 (M : Int)))) := Lib.hid fun w' hx => fitG A0 q0 c0 l0 _ h0 hl0 hls0 (by omega) (by omega) hx
  have FY : Hid (∀ w', Ext w w' → Calls Tryd.prog 13 #[.slice A1 q1 c1, .int .i64 (M : Int)] w' (TellsL w' (fitL l1 (M : Int)))) := Lib.hid fun w' hx => fitG A1 q1 c1 l1 _ h1 hl1 hls1 (by omega) (by omega) hx
  obtain ⟨gX, iX, oX0, oX1, lX, tX⟩ := good_fit l0 (M : Int) (by omega) (by omega)
  obtain ⟨gY, iY, oY0, oY1, lY, tY⟩ := good_fit l1 (M : Int) (by omega) (by omega)
  clear h0 hl0 hls0 h1 hl1 hls1 hn
  generalize fitL l0 (M : Int) = X at *
  generalize fitL l1 (M : Int) = Y at *
  obtain ⟨O, hO⟩ := Int.eq_ofNat_of_zero_le oY0
  obtain ⟨gZ, hZT, -, iZ, lZ, -⟩ := good_over gX gY (by omega) (by omega) (by omega)
  have hOb : O ≤ 400 := by omega
  have hx1 := gX.tin; have hy1 := gY.tin; have hy2 := gY.tout
  have hXM : tin (tok X) = M := by omega
  have hYM : tin (tok Y) = M := by omega
  have hYO : tout (tok Y) = O := by omega
  have HOV : Hid (∀ A n k B m d w', Ext w w' → RdO w' A n k X → RdO w' B m d Y → Calls Tryd.prog 12 #[.slice A n k, .slice B m d] w' (TellsE w' (overL X Y))) := Lib.hid fun A n k B m d w' hx hr hs => overG gX gY (by omega) hx hr hs
  have HOY : Hid (∀ A n k w', Ext w w' → RdO w' A n k Y → Calls Tryd.prog 17 #[.slice A n k] w' fun e w'' => e = .returned (.int .i64 (O : Int)) ∧ Ext w' w'') := Lib.hid fun A n k w' hx hr => by
    have h := outG gY hx hr
    rw [hO] at h; exact h
  have HIZ := Lib.hid (iZ.trans hO); have HIX := Lib.hid iX; have HIY := Lib.hid iY
  have GX : Hid (∀ A n c w', Ext w w' → RdO w' A n c X → _) := Lib.hid fun A n c w' hx hr => gapsG gX M HIX.out (by omega) hx hr
  have GY : Hid (∀ A n c w', Ext w w' → RdO w' A n c Y → _) := Lib.hid fun A n c w' hx hr => gapsG gY M HIY.out (by omega) hx hr
  have GZ : Hid (∀ A n c w', Ext w w' → RdO w' A n c (overL X Y) → _) := Lib.hid fun A n c w' hx hr => gapsG gZ O HIZ.out (by omega) hx hr
  have okX := tok_okT X gX.ok
  have hiX := insT_sum X gX.ok
  have htX := gX.txt
  have CW : Hid (∀ (i : Nat) A n c w', i ≤ M → Ext w w' → RdO w' A n c Y → Calls Tryd.prog 23 #[.slice A n c, .int .i64 (i : Int)] w' fun e w'' => e = .returned (.tuple #[.int .i64 ((whereT (tok Y) i : Nat) : Int), .int .i64 0]) ∧ Ext w' w'') := Lib.hid fun i A n c w' hi hx hr => whereG gY i (by omega) hx hr
  rw [hZT] at GZ
  obtain ⟨TX, hTX⟩ : ∃ TX, tok X = TX := ⟨_, rfl⟩
  obtain ⟨TY, hTY⟩ : ∃ TY, tok Y = TY := ⟨_, rfl⟩
  obtain ⟨PS, hPS⟩ : ∃ PS, gpP TX = PS := ⟨_, rfl⟩
  obtain ⟨DX, hDX⟩ : ∃ DX, gpD TX = DX := ⟨_, rfl⟩
  obtain ⟨ES, hES⟩ : ∃ ES, gpD TY = ES := ⟨_, rfl⟩
  rw [hTX] at GX GZ hXM okX hiX
  rw [hTY] at GY GZ CW hYM hYO
  rw [hPS, hDX] at GX
  rw [hES] at GY
  have hCE : tin TX = tin TY := by omega
  have hpl : PS.length = M + 1 := by rw [← hPS, gpP_length, gpD_length]; omega
  have hdl : DX.length = M := by rw [← hDX, gpD_length]; omega
  have hel : ES.length = M := by rw [← hES, gpD_length]; omega
  have hend : gpP (overT TX TY) = pS TY PS O (M + 1) := by
    have h := pS_end TX TY hCE
    rw [hYO, hYM, hPS] at h; exact h.symm
  have hgend : gpD (overT TX TY) = dS TY ES DX O M := by
    have h := dS_end TX TY hCE
    rw [hYO, hYM, hDX, hES] at h; exact h.symm
  rw [hend, hgend] at GZ
  have hszP : ∀ i, (encs (PS.getD i [])).length ≤ 100000 := fun i => by
    by_cases h : i < PS.length
    · rw [List.getD_eq_getElem?_getD, List.getElem?_eq_getElem h, Option.getD_some]
      have := gpP_le TX PS[i] (by rw [hPS]; exact List.getElem_mem _)
      omega
    · rw [List.getD_eq_getElem?_getD, List.getElem?_eq_none (by omega)]; simp [encs]
  have hwl : ∀ i, whereT TY i ≤ O := fun i => by have := whereT_le TY i; omega
  have hwk : ∀ i, i < M → ES.getD i true = false → whereT TY i < O := fun i _ he => by
    have h1 := where_kept TY i (by rw [hES]; exact he)
    have h2 := hwl (i + 1)
    omega
  have hps : ∀ i, i ≤ M → (pS TY PS O i).set (whereT TY i) (ovS TY PS (whereT TY i) i ++ PS.getD i []) = pS TY PS O (i + 1) := fun i _ => pS_step TY PS O i
  have hds : ∀ i, ES.getD i true = false → (dS TY ES DX O i).set (whereT TY i) (DX.getD i true) = dS TY ES DX O (i + 1) := fun i he => by
    have h := dS_kept TY DX O i (by rw [hES]; exact he)
    rw [hES] at h; exact h
  have hdg : ∀ i, ES.getD i true = true → dS TY ES DX O i = dS TY ES DX O (i + 1) := fun i he => by
    have h := dS_gone TY DX O i (by rw [hES]; exact he)
    rw [hES] at h; exact h
  have hsz : ∀ k i, i ≤ M → (encs (ovS TY PS k i)).length ≤ 10000000 := fun k i hi => by
    have h := ovS_size TY PS k i 100000 hszP
    have := Nat.mul_le_mul_right 100000 (show i ≤ 63 by omega)
    omega
  have HPS := Lib.hid hps; have HDS := Lib.hid hds; have HDG := Lib.hid hdg; have HSZ := Lib.hid hsz; have HSP := Lib.hid hszP; have HWL := Lib.hid hwl; have HWK := Lib.hid hwk
  have HPL := Lib.hid hpl; have HDL := Lib.hid hdl; have HEL := Lib.hid hel
  have P1 : Hid (∀ i, i < M + 1 → (((putC PS).map Value.string)[i]? = some (.string (mkS (encs (PS.getD i [])))))) := Lib.hid fun i hi => by
    have h2 : i < PS.length := by omega
    simp [putC, h2]
  have D1 : Hid (∀ i, i < M → ((DX.map Value.bool)[i]? = some (.bool (DX.getD i true)))) := Lib.hid fun i hi => by
    have h2 : i < DX.length := by omega
    simp [h2]
  have E1 : Hid (∀ i, i < M → ((ES.map Value.bool)[i]? = some (.bool (ES.getD i true)))) := Lib.hid fun i hi => by
    have h2 : i < ES.length := by omega
    simp [h2]
  have hno : IntKind.i64.wrap ((O : Int) + 1) = (O : Int) + 1 := by rw [IntKind.wrap_i64]; omega
  clear iX oX0 oX1 lX tX iY oY0 oY1 lY tY hO gZ hZT iZ lZ hx1 hy1 hy2 hXM hYM hYO okX hiX htX hTX hTY hPS hDX hES hCE hpl hdl hel hend hgend hszP hwl hwk hps hds hdg hsz gX gY HIX HIY HIZ
  generalize overL X Y = Z at *
  go_enter Tryd.func6, Tryd.ntmps6
  go_wp2_with fail
  refine (shown11_c _).mono ?_; rintro e w1 ⟨rfl, hx1⟩
  have e1 : Ext w w1 := hx1
  clear hx1
  go_wp2_with fail
  refine (FX.out _ e1).mono ?_; rintro e w2 ⟨hx2, aX, nX, cX, rfl, rX⟩
  have e2 : Ext w w2 := e1.trans hx2
  have RX := Lib.hid rX
  clear hx2 rX
  go_wp2_with fail
  refine (FY.out _ e2).mono ?_; rintro e w3 ⟨hx3, aY, nY, cY, rfl, rY⟩
  have e3 : Ext w w3 := e2.trans hx3
  replace RX := Lib.hid (RX.out.ext hx3)
  have RY := Lib.hid rY
  clear hx3 rY
  go_wp2_with fail
  refine (HOV.out _ _ _ _ _ _ _ e3 RX.out RY.out).mono ?_; rintro e w4 ⟨hx4, aZ, nZ, cZ, rfl, rZ⟩
  have e4 : Ext w w4 := e3.trans hx4
  replace RX := Lib.hid (RX.out.ext hx4)
  replace RY := Lib.hid (RY.out.ext hx4)
  have RZ := Lib.hid rZ
  clear hx4 rZ
  go_wp2_with fail
  refine (GX.out _ _ _ _ e4 RX.out).mono ?_; rintro e w5 ⟨gAp, gcp, gBp, gdp, rfl, hx5, rPp, rDp⟩
  have e5 : Ext w w5 := e4.trans hx5
  replace RX := Lib.hid (RX.out.ext hx5)
  replace RY := Lib.hid (RY.out.ext hx5)
  replace RZ := Lib.hid (RZ.out.ext hx5)
  have RPp := Lib.hid rPp; have RDp := Lib.hid rDp
  clear rPp rDp hx5
  have BGp := Lib.hid (BoxG.made w5 #[.slice gAp (M + 1) gcp, .slice gBp M gdp] 41)
  replace RX := Lib.hid (RX.out.ext ((Ext.refl w5).alloc (.cells #[.slice gAp (M + 1) gcp, .slice gBp M gdp] 41)))
  replace RY := Lib.hid (RY.out.ext ((Ext.refl w5).alloc (.cells #[.slice gAp (M + 1) gcp, .slice gBp M gdp] 41)))
  replace RZ := Lib.hid (RZ.out.ext ((Ext.refl w5).alloc (.cells #[.slice gAp (M + 1) gcp, .slice gBp M gdp] 41)))
  replace RPp := Lib.hid (RPp.out.ext ((Ext.refl w5).alloc (.cells #[.slice gAp (M + 1) gcp, .slice gBp M gdp] 41)))
  replace RDp := Lib.hid (RDp.out.ext ((Ext.refl w5).alloc (.cells #[.slice gAp (M + 1) gcp, .slice gBp M gdp] 41)))
  have e6 : Ext w (w5.alloc (.cells #[.slice gAp (M + 1) gcp, .slice gBp M gdp] 41)) := e5.alloc _
  clear RX
  go_wp2_with fail
  refine (GY.out _ _ _ _ e6 RY.out).mono ?_; rintro e w7 ⟨gAq, gcq, gBq, gdq, rfl, hx7, rPq, rDq⟩
  have e7 : Ext w w7 := e6.trans hx7
  replace RY := Lib.hid (RY.out.ext hx7)
  replace RZ := Lib.hid (RZ.out.ext hx7)
  replace RPp := Lib.hid (RPp.out.ext hx7)
  replace RDp := Lib.hid (RDp.out.ext hx7)
  replace BGp := Lib.hid (BGp.out.ext hx7)
  have RPq := Lib.hid rPq; have RDq := Lib.hid rDq
  clear rPq rDq hx7
  have BGq := Lib.hid (BoxG.made w7 #[.slice gAq (M + 1) gcq, .slice gBq M gdq] 41)
  replace RY := Lib.hid (RY.out.ext ((Ext.refl w7).alloc (.cells #[.slice gAq (M + 1) gcq, .slice gBq M gdq] 41)))
  replace RZ := Lib.hid (RZ.out.ext ((Ext.refl w7).alloc (.cells #[.slice gAq (M + 1) gcq, .slice gBq M gdq] 41)))
  replace RPp := Lib.hid (RPp.out.ext ((Ext.refl w7).alloc (.cells #[.slice gAq (M + 1) gcq, .slice gBq M gdq] 41)))
  replace RDp := Lib.hid (RDp.out.ext ((Ext.refl w7).alloc (.cells #[.slice gAq (M + 1) gcq, .slice gBq M gdq] 41)))
  replace BGp := Lib.hid (BGp.out.ext ((Ext.refl w7).alloc (.cells #[.slice gAq (M + 1) gcq, .slice gBq M gdq] 41)))
  replace RPq := Lib.hid (RPq.out.ext ((Ext.refl w7).alloc (.cells #[.slice gAq (M + 1) gcq, .slice gBq M gdq] 41)))
  replace RDq := Lib.hid (RDq.out.ext ((Ext.refl w7).alloc (.cells #[.slice gAq (M + 1) gcq, .slice gBq M gdq] 41)))
  have e8 : Ext w (w7.alloc (.cells #[.slice gAq (M + 1) gcq, .slice gBq M gdq] 41)) := e7.alloc _
  go_wp2_with fail
  refine (GZ.out _ _ _ _ e8 RZ.out).mono ?_; rintro e w9 ⟨gAg, gcg, gBg, gdg, rfl, hx9, rPg, rDg⟩
  have e9 : Ext w w9 := e8.trans hx9
  replace RY := Lib.hid (RY.out.ext hx9)
  replace RZ := Lib.hid (RZ.out.ext hx9)
  replace RPp := Lib.hid (RPp.out.ext hx9)
  replace RDp := Lib.hid (RDp.out.ext hx9)
  replace BGp := Lib.hid (BGp.out.ext hx9)
  replace RPq := Lib.hid (RPq.out.ext hx9)
  replace RDq := Lib.hid (RDq.out.ext hx9)
  replace BGq := Lib.hid (BGq.out.ext hx9)
  have RPg := Lib.hid rPg; have RDg := Lib.hid rDg
  clear rPg rDg hx9
  have BGg := Lib.hid (BoxG.made w9 #[.slice gAg (O + 1) gcg, .slice gBg O gdg] 41)
  replace RY := Lib.hid (RY.out.ext ((Ext.refl w9).alloc (.cells #[.slice gAg (O + 1) gcg, .slice gBg O gdg] 41)))
  replace RZ := Lib.hid (RZ.out.ext ((Ext.refl w9).alloc (.cells #[.slice gAg (O + 1) gcg, .slice gBg O gdg] 41)))
  replace RPp := Lib.hid (RPp.out.ext ((Ext.refl w9).alloc (.cells #[.slice gAg (O + 1) gcg, .slice gBg O gdg] 41)))
  replace RDp := Lib.hid (RDp.out.ext ((Ext.refl w9).alloc (.cells #[.slice gAg (O + 1) gcg, .slice gBg O gdg] 41)))
  replace BGp := Lib.hid (BGp.out.ext ((Ext.refl w9).alloc (.cells #[.slice gAg (O + 1) gcg, .slice gBg O gdg] 41)))
  replace RPq := Lib.hid (RPq.out.ext ((Ext.refl w9).alloc (.cells #[.slice gAg (O + 1) gcg, .slice gBg O gdg] 41)))
  replace RDq := Lib.hid (RDq.out.ext ((Ext.refl w9).alloc (.cells #[.slice gAg (O + 1) gcg, .slice gBg O gdg] 41)))
  replace BGq := Lib.hid (BGq.out.ext ((Ext.refl w9).alloc (.cells #[.slice gAg (O + 1) gcg, .slice gBg O gdg] 41)))
  replace RPg := Lib.hid (RPg.out.ext ((Ext.refl w9).alloc (.cells #[.slice gAg (O + 1) gcg, .slice gBg O gdg] 41)))
  replace RDg := Lib.hid (RDg.out.ext ((Ext.refl w9).alloc (.cells #[.slice gAg (O + 1) gcg, .slice gBg O gdg] 41)))
  have e10 : Ext w (w9.alloc (.cells #[.slice gAg (O + 1) gcg, .slice gBg O gdg] 41)) := e9.alloc _
  clear RZ
  have p0 := BGp.out.2 0 _ rfl; have p1 := BGp.out.2 1 _ rfl; have q1 := BGq.out.2 1 _ rfl
  go_wp2_with fail
  clear p0 p1 q1
  refine (HOY.out _ _ _ _ e10 RY.out).mono ?_; rintro e w11 ⟨rfl, hx11⟩
  have e11 : Ext w w11 := e10.trans hx11
  replace RY := Lib.hid (RY.out.ext hx11)
  replace RPp := Lib.hid (RPp.out.ext hx11)
  replace RDp := Lib.hid (RDp.out.ext hx11)
  replace BGp := Lib.hid (BGp.out.ext hx11)
  replace RPq := Lib.hid (RPq.out.ext hx11)
  replace RDq := Lib.hid (RDq.out.ext hx11)
  replace BGq := Lib.hid (BGq.out.ext hx11)
  replace RPg := Lib.hid (RPg.out.ext hx11)
  replace RDg := Lib.hid (RDg.out.ext hx11)
  replace BGg := Lib.hid (BGg.out.ext hx11)
  clear hx11
  go_wp2_with fail
  obtain ⟨is, his, hs0, hs1, hs2⟩ := info_parts info_str
  obtain ⟨ib, hib, hb0, hb1, hb2⟩ := info_parts info_bool
  have hmk : ∀ V : World, (Instr.makeSlice 38 (.int .i64 ((O : Int) + 1)) (.int .i64 ((O : Int) + 1))).run Tryd.prog V = .ok (.slice (some ⟨V.heap.size, 0, none⟩) (O + 1) (O + 1)) (V.alloc (.cells (madeCells (Value.string ⟨#[]⟩).cells ((O + 1) * is.size)) 9)) :=
    fun V => run_make V 38 9 is (.string ⟨#[]⟩) Tryd.underlying38 his hs0 .i64 .i64 ((O : Int) + 1) ((O : Int) + 1) (by omega) (by omega) (by rw [hs2]; omega) (by omega)
  have hm1 : madeCells (Value.string ⟨#[]⟩).cells ((O + 1) * is.size) = ((List.replicate (O + 1) (⟨#[]⟩ : ByteArray)).map Value.string).toArray := by
    rw [hs1, Nat.mul_one, made_put]
  rw [hm1] at hmk
  have hmb : ∀ V : World, (Instr.makeSlice 39 (.int .i64 (O : Int)) (.int .i64 (O : Int))).run Tryd.prog V = .ok (.slice (some ⟨V.heap.size, 0, none⟩) O O) (V.alloc (.cells (madeCells (Value.bool false).cells (O * ib.size)) 4)) :=
    fun V => run_make V 39 4 ib (.bool false) Tryd.underlying39 hib hb0 .i64 .i64 (O : Int) (O : Int) (by omega) (by omega) (by rw [hb2]; omega) (by omega)
  have hm2 : madeCells (Value.bool false).cells (O * ib.size) = ((List.replicate O false).map Value.bool).toArray := by
    rw [hb1, Nat.mul_one, made_gone]
  rw [hm2] at hmb
  obtain ⟨R1, hR1⟩ : ∃ R1, ((List.replicate (O + 1) (⟨#[]⟩ : ByteArray)).map Value.string).toArray = R1 := ⟨_, rfl⟩
  obtain ⟨R2, hR2⟩ : ∃ R2, ((List.replicate O false).map Value.bool).toArray = R2 := ⟨_, rfl⟩
  rw [hR1] at hmk
  rw [hR2] at hmb
  have HR1 := Lib.hid hR1; have HR2 := Lib.hid hR2
  clear hm1 hm2 hR1 hR2 his hs0 hs1 hs2 hib hb0 hb1 hb2
  obtain ⟨W0, hW0⟩ : ∃ x, w11 = x := ⟨_, rfl⟩
  rw [hW0] at e11 RY RPp RDp BGp RPq RDq BGq RPg RDg BGg ⊢
  have EW := Lib.hid e11
  clear hW0 e1 e2 e3 e4 e5 e6 e7 e8 e9 e10 e11
  generalize w5.heap.size = HBp at *
  generalize w7.heap.size = HBq at *
  generalize w9.heap.size = HBg at *
  have hxx := Ext.refl W0
  have j0 : (0 : Int) ≤ (O : Int) := by omega
  go_cut [20] from 97 (fun p wr => WantG W0 O R1 (List.replicate O false) p wr)
  case first =>
    clear_value *
    as_aux_lemma =>
    go_region_held3 (fun V => Ext W0 V) (repeat (with_reducible first | exact hxx | assumption | apply Ext.drew | apply Ext.alloc | (refine ext_set ?_ _ _ (by first | omega | simp)))) (fail)
    all_goals
      go_wp2_with fail
      go_meet
      case rel =>
        first
          | exact want_made (w3_1 _ _ _) (w3_2 _ _ _) (w3_3 _ _ _) HR2.out List.length_replicate (by omega) ((((Ext.refl W0).alloc _).alloc _).alloc _).drew (by omega) (by omega) (by omega)
          | exact want_made (w3_1 _ _ _) (w3_3 _ _ _) (w3_2 _ _ _) HR2.out List.length_replicate (by omega) ((((Ext.refl W0).alloc _).alloc _).alloc _).drew (by omega) (by omega) (by omega)
          | exact want_made (w3_2 _ _ _) (w3_1 _ _ _) (w3_3 _ _ _) HR2.out List.length_replicate (by omega) ((((Ext.refl W0).alloc _).alloc _).alloc _).drew (by omega) (by omega) (by omega)
          | exact want_made (w3_2 _ _ _) (w3_3 _ _ _) (w3_1 _ _ _) HR2.out List.length_replicate (by omega) ((((Ext.refl W0).alloc _).alloc _).alloc _).drew (by omega) (by omega) (by omega)
          | exact want_made (w3_3 _ _ _) (w3_1 _ _ _) (w3_2 _ _ _) HR2.out List.length_replicate (by omega) ((((Ext.refl W0).alloc _).alloc _).alloc _).drew (by omega) (by omega) (by omega)
          | exact want_made (w3_3 _ _ _) (w3_2 _ _ _) (w3_1 _ _ _) HR2.out List.length_replicate (by omega) ((((Ext.refl W0).alloc _).alloc _).alloc _).drew (by omega) (by omega) (by omega)
  case rest =>
    obtain ⟨K, g, aG, cG, rfl, hKB, hSB, hGO, hxc, hKH, hgH⟩ := hcut
    have hS0 : StG W0 O g K aG cG (pS TY PS O 0) (dS TY ES DX O 0) wc := ⟨hxc.out, hgH, hKB.out, by
      have h := hSB.out
      rw [← HR1.out] at h
      rw [pS_zero]
      simpa [putC, encs, mkS] using h, by rw [dS_zero]; exact hGO.out⟩
    have HS0 := Lib.hid hS0
    obtain ⟨bp, op, hAp, -, -⟩ := rd_at1 RPp.out (show 0 < M + 1 by omega) (P1.out 0 (by omega))
    have PC : Hid (∀ i, i < M + 1 → W0.cell? ⟨bp, op + i, none⟩ = some (.string (mkS (encs (PS.getD i []))))) := Lib.hid fun i hi => by
      obtain ⟨b, o, e, -, h⟩ := rd_at1 RPp.out hi (P1.out i hi)
      rw [hAp] at e; injection e with e; injection e with e1 e2; subst e1; subst e2; exact h
    subst hAp
    have hpc := rd_len_le11 RPp.out; have hdc := rd_len_le11 RDp.out; have hqc := rd_len_le11 RDq.out
    have p0' : W0.cell? ⟨HBp, 0, none⟩ = some (.slice (some ⟨bp, op, none⟩) (M + 1) gcp) := BGp.out.2 0 _ rfl
    have p1' : W0.cell? ⟨HBp, 1, none⟩ = some (.slice gBp M gdp) := BGp.out.2 1 _ rfl
    have q1' : W0.cell? ⟨HBq, 1, none⟩ = some (.slice gBq M gdq) := BGq.out.2 1 _ rfl
    have g0' : W0.cell? ⟨HBg, 0, none⟩ = some (.slice gAg (O + 1) gcg) := BGg.out.2 0 _ rfl
    have g1' : W0.cell? ⟨HBg, 1, none⟩ = some (.slice gBg O gdg) := BGg.out.2 1 _ rfl
    have PB := Lib.hid (And.intro p0' p1'); have QB := Lib.hid q1'; have GB := Lib.hid (And.intro g0' g1')
    have HXC := Lib.hid hxc
    clear p0' p1' q1' g0' g1' hKB hSB hGO hxc hKH hgH hS0 HR1 HR2 hmk hmb hxx BGp BGq BGg RPp P1
    go_wp2_with fail
    go_loopw [21] (fun z wr => ∃ i : Nat, i ≤ M + 1 ∧ z = .int .i64 i ∧ Hid (StG W0 O g K aG cG (pS TY PS O i) (dS TY ES DX O i) wr)) (fun z _ => M + 1 - (intOf z).toNat)
    case atStart => exact ⟨0, by omega, rfl, HS0⟩
    case round =>
      obtain ⟨i, hi, rfl, HS⟩ := hrel
      clear HS0
      by_cases hlt : i < M + 1
      · have dn : decide (i ≤ M) = true := by rw [decide_eq_true_eq]; omega
        have dn' : decide ((i : Int) ≤ (M : Int)) = true := by rw [decide_eq_true_eq]; omega
        have i0 : (0 : Int) ≤ (i : Int) := by omega
        have i1 : (i : Int) < (M : Int) + 1 := by omega
        have i1b : (i : Int) ≤ (M : Int) := by omega
        obtain ⟨L, hL⟩ : ∃ L, whereT TY i = L := ⟨_, rfl⟩
        have CWi := Lib.hid (fun w' hx hr => CW.out i aY nY cY w' (by omega) hx hr)
        have hLO := HWL.out i
        have hset := HPS.out i (by omega)
        have hszA := HSZ.out L i (by omega)
        have hszB := HSP.out i
        rw [hL] at CWi hLO hset
        have HL := Lib.hid hL
        obtain ⟨SA, hSA⟩ : ∃ SA, mkS (encs (ovS TY PS L i)) = SA := ⟨_, rfl⟩
        obtain ⟨SB, hSB⟩ : ∃ SB, mkS (encs (PS.getD i [])) = SB := ⟨_, rfl⟩
        obtain ⟨SC, hSC⟩ : ∃ SC, mkS (encs (ovS TY PS L i ++ PS.getD i [])) = SC := ⟨_, rfl⟩
        have hcat : SA ++ SB = SC := by rw [← hSA, ← hSB, ← hSC]; exact cat_mk11 _ _
        have hsA : SA.size ≤ 10000000 := by rw [← hSA, size_mkS]; exact hszA
        have hsB : SB.size ≤ 100000 := by rw [← hSB, size_mkS]; exact hszB
        have hlim : ¬ 9223372036854775807 < SA.size + SB.size := by omega
        have s0 := HS.out.at_ L (by rw [pS_len]; omega)
        rw [pS_at _ _ _ _ _ hLO, hSA] at s0
        have hput := fun V (h : StG W0 O g K aG cG (pS TY PS O i) (dS TY ES DX O i) V) => h.put L (ovS TY PS L i ++ PS.getD i [])
        rw [hset, hSC] at hput
        have HPUT := Lib.hid hput
        have c4 := PC.out i hlt
        rw [hSB] at c4
        have C4 := Lib.hid c4
        have l0 : (0 : Int) ≤ (L : Int) := by omega
        have l1 : (L : Int) < (O : Int) + 1 := by omega
        have l2 : ¬ (L : Int) < 0 := by omega
        have l3 : ¬ (O : Int) < (L : Int) := by omega
        have l4 : decide (O < L) = false := by rw [decide_eq_false_iff_not]; omega
        have l5 : decide ((L : Int) < 0) = false := by rw [decide_eq_false_iff_not]; omega
        have l6 : decide ((O : Int) < (L : Int)) = false := by rw [decide_eq_false_iff_not]; omega
        have hLb : L ≤ 1000 := by omega
        have hib : i ≤ 1000 := by omega
        have S0 := Lib.hid s0
        clear hput hset hszA hszB hSA hSB hSC s0 c4 hL
        have xwr := HS.out.ext
        go_wp2_with fail
        refine (CWi.out _ (EW.out.trans xwr) (RY.out.ext xwr)).mono ?_; rintro e w2 ⟨rfl, hx2⟩
        have HS3 := Lib.hid (HS.out.later hx2)
        have xw2 := HS3.out.ext
        have p0w2 := ext_cell xw2 PB.out.1; have k0w2 := HS3.out.c0
        have s0w2 := ext_cell hx2 S0.out; have sfw2 := HS3.out.free L
        have c4w2 := ext_cell xw2 C4.out
        clear CWi xwr
        go_wp2_with fail
        have dr2 : Ext w2 w2.drew := (Ext.refl w2).drew
        refine region_T (fun W => W.cell? ⟨K, 0, none⟩ = some (.slice (some ⟨g, 0, none⟩) (O + 1) (O + 1)) ∧ W.cell? ⟨g, L, none⟩ = some (.string SA) ∧ W.cell? ⟨HBp, 0, none⟩ = some (.slice (some ⟨bp, op, none⟩) (M + 1) gcp) ∧ W.cell? ⟨bp, op + i, none⟩ = some (.string SB)) 15 (by kernel_rfl) (⟨ext_cell dr2 k0w2, ext_cell dr2 s0w2, ext_cell dr2 p0w2, ext_cell dr2 c4w2⟩) (fun hHeld => ?_)
        obtain ⟨Wd, hWd⟩ : ∃ x, w2.drew = x := ⟨_, rfl⟩
        rw [hWd] at hHeld dr2 ⊢
        clear hWd
        have HSd := Lib.hid (HS3.out.later dr2)
        have sfd := HSd.out.free L
        obtain ⟨h1, h2, h3, h4⟩ := id hHeld
        clear k0w2 s0w2 p0w2 c4w2 sfw2 xw2
        refine wpAnyT_take (i := 0) (v := ?_) rfl (by kernel_rfl) (fun _ _ _ h => h) (Or.inl ⟨by rfl, ?_⟩) (by assumption) ?_
        rotate_left
        · (intro W hSw; (try dsimp only at hSw); go_simp; (try with_reducible rfl))
        try simp only [Act.put, List.setIfInBounds_toArray, List.set_cons_zero, List.set_cons_succ]
        refine wpAnyT_take (i := 1) (v := ?_) rfl (by kernel_rfl) (fun _ _ _ h => h) (Or.inl ⟨by rfl, ?_⟩) (by assumption) ?_
        rotate_left
        · (intro W hSw; (try dsimp only at hSw); go_simp; (try with_reducible rfl))
        try simp only [Act.put, List.setIfInBounds_toArray, List.set_cons_zero, List.set_cons_succ]
        refine wpAnyT_take (i := 2) (v := ?_) rfl (by kernel_rfl) (fun _ _ _ h => h) (Or.inl ⟨by rfl, ?_⟩) (by assumption) ?_
        rotate_left
        · (intro W hSw; (try dsimp only at hSw); go_simp; (try with_reducible rfl))
        try simp only [Act.put, List.setIfInBounds_toArray, List.set_cons_zero, List.set_cons_succ]
        refine wpAnyT_take (i := 3) (v := ?_) rfl (by kernel_rfl) (fun _ _ _ h => h) (Or.inl ⟨by rfl, ?_⟩) (by assumption) ?_
        rotate_left
        · (intro W hSw; (try dsimp only at hSw); go_simp; (try with_reducible rfl))
        try simp only [Act.put, List.setIfInBounds_toArray, List.set_cons_zero, List.set_cons_succ]
        refine wpAnyT_take (i := 4) (v := ?_) rfl (by kernel_rfl) (fun _ _ _ h => h) (Or.inl ⟨by rfl, ?_⟩) (by assumption) ?_
        rotate_left
        · (intro W hSw; (try dsimp only at hSw); go_simp; (try with_reducible rfl))
        try simp only [Act.put, List.setIfInBounds_toArray, List.set_cons_zero, List.set_cons_succ]
        refine wpAnyT_take (i := 5) (v := ?_) rfl (by kernel_rfl) (fun _ _ _ h => h) (Or.inl ⟨by rfl, ?_⟩) (by assumption) ?_
        rotate_left
        · (intro W hSw; (try dsimp only at hSw); go_simp; (try with_reducible rfl))
        try simp only [Act.put, List.setIfInBounds_toArray, List.set_cons_zero, List.set_cons_succ]
        refine wpAnyT_take (i := 6) (v := ?_) rfl (by kernel_rfl) (fun _ _ _ h => h) (Or.inl ⟨by rfl, ?_⟩) (by assumption) ?_
        rotate_left
        · (intro W hSw; (try dsimp only at hSw); go_simp; (try with_reducible rfl))
        try simp only [Act.put, List.setIfInBounds_toArray, List.set_cons_zero, List.set_cons_succ]
        refine wpAnyT_take (i := 7) (v := ?_) rfl (by kernel_rfl) (fun _ _ _ h => h) (Or.inl ⟨by rfl, ?_⟩) (by assumption) ?_
        rotate_left
        · (intro W hSw; (try dsimp only at hSw); go_simp; (try with_reducible rfl))
        try simp only [Act.put, List.setIfInBounds_toArray, List.set_cons_zero, List.set_cons_succ]
        refine wpAnyT_take (i := 8) (v := ?_) rfl (by kernel_rfl) (fun _ _ _ h => h) (Or.inl ⟨by rfl, ?_⟩) (by assumption) ?_
        rotate_left
        · (intro W hSw; (try dsimp only at hSw); go_simp; (try with_reducible rfl))
        try simp only [Act.put, List.setIfInBounds_toArray, List.set_cons_zero, List.set_cons_succ]
        refine wpAnyT_take (i := 9) (v := ?_) rfl (by kernel_rfl) (fun _ _ _ h => h) (Or.inl ⟨by rfl, ?_⟩) (by assumption) ?_
        rotate_left
        · (intro W hSw; (try dsimp only at hSw); go_simp; (try with_reducible rfl))
        try simp only [Act.put, List.setIfInBounds_toArray, List.set_cons_zero, List.set_cons_succ]
        refine wpAnyT_take (i := 10) (v := ?_) rfl (by kernel_rfl) (fun _ _ _ h => h) (Or.inl ⟨by rfl, ?_⟩) (by assumption) ?_
        rotate_left
        · (intro W hSw; (try dsimp only at hSw); go_simp; (try with_reducible rfl))
        try simp only [Act.put, List.setIfInBounds_toArray, List.set_cons_zero, List.set_cons_succ]
        refine wpAnyT_take (i := 11) (v := ?_) rfl (by kernel_rfl) (fun _ _ _ h => h) (Or.inl ⟨by rfl, ?_⟩) (by assumption) ?_
        rotate_left
        · (intro W hSw; (try dsimp only at hSw); go_simp; (try with_reducible rfl))
        try simp only [Act.put, List.setIfInBounds_toArray, List.set_cons_zero, List.set_cons_succ]
        refine wpAnyT_take (i := 12) (v := ?_) rfl (by kernel_rfl) (fun _ _ _ h => h) (Or.inl ⟨by rfl, ?_⟩) (by assumption) ?_
        rotate_left
        · (intro W hSw; (try dsimp only at hSw); go_simp; (try with_reducible rfl))
        try simp only [Act.put, List.setIfInBounds_toArray, List.set_cons_zero, List.set_cons_succ]
        refine wpAnyT_take (i := 13) (v := ?_) rfl (by kernel_rfl) (fun _ _ _ h => h) (Or.inl ⟨by rfl, ?_⟩) (by assumption) ?_
        rotate_left
        · (intro W hSw; (try dsimp only at hSw); go_simp; (try with_reducible rfl))
        try simp only [Act.put, List.setIfInBounds_toArray, List.set_cons_zero, List.set_cons_succ]
        refine wpAnyT_take (i := 14) (v := ?_) rfl (by kernel_rfl) (fun _ _ _ h => h) (Or.inl ⟨by rfl, ?_⟩) (by assumption) ?_
        rotate_left
        · (intro W hSw; (try dsimp only at hSw); go_simp; (try with_reducible rfl))
        try simp only [Act.put, List.setIfInBounds_toArray, List.set_cons_zero, List.set_cons_succ]
        refine wpAnyT_one (i := 15) rfl (by kernel_rfl) (fun K hK => ?_)
        go_simp
        refine hK.out _ _ (fun h => absurd rfl h) (fun _ => ?_)
        clear hK K hHeld
        try simp only [Act.put, List.setIfInBounds_toArray, List.set_cons_zero, List.set_cons_succ]
        refine wpAnyT_done (by kernel_rfl) ?_ _
        obtain ⟨w3, hw3⟩ : ∃ w3, Wd.setCell ⟨g, L, none⟩ (.string SC) = w3 := ⟨_, rfl⟩
        have HS4 : Hid (StG W0 O g K aG cG (pS TY PS O (i + 1)) (dS TY ES DX O i) w3) := Lib.hid (by rw [← hw3]; exact HPUT.out Wd HSd.out)
        rw [hw3]
        clear hw3 HSd HS3 HS HPUT sfd S0 C4 dr2 h1 h2 h3 h4 hx2
        have xw3 := HS4.out.ext
        have q1w3 := ext_cell xw3 QB.out; have p1w3 := ext_cell xw3 PB.out.2
        have k1w3 := HS4.out.c1
        by_cases hjM : i < M
        · have dm : decide (i < M) = true := by rw [decide_eq_true_eq]; exact hjM
          have i2 : (i : Int) < (M : Int) := by omega
          obtain ⟨be, oe, hBe, -, c6⟩ := rd_at1 (RDq.out.ext xw3) hjM (E1.out i hjM)
          subst hBe
          cases he : ES.getD i true with
          | false =>
            rw [he] at c6
            have hwk := HWK.out i hjM he
            have hds := HDS.out i he
            rw [HL.out] at hwk hds
            have l7 : decide (O ≤ L) = false := by rw [decide_eq_false_iff_not]; omega
            have l8 : decide ((O : Int) ≤ (L : Int)) = false := by rw [decide_eq_false_iff_not]; omega
            have l9 : (L : Int) < (O : Int) := by omega
            obtain ⟨bG, hbG⟩ := HS4.out.addr (by omega)
            subst hbG
            have hdrop := fun V (h : StG W0 O g K (some ⟨bG, 0, none⟩) cG (pS TY PS O (i + 1)) (dS TY ES DX O i) V) => h.drop L hwk (DX.getD i true)
            rw [hds] at hdrop
            have HDR := Lib.hid hdrop
            obtain ⟨bd, od, hBd, -, c7⟩ := rd_at1 (RDp.out.ext xw3) hjM (D1.out i hjM)
            subst hBd
            have hga := HS4.out.gat L hwk (dS_len _ _ _ _ _)
            have g8 := hga.1; have g9 := hga.2
            have hcG := rd_len_le11 HS4.out.rdg
            obtain ⟨G8, hG8⟩ : ∃ G8, (dS TY ES DX O i).getD L true = G8 := ⟨_, rfl⟩
            rw [hG8] at g8
            clear hG8
            obtain ⟨dv, hdv⟩ : ∃ dv, DX.getD i true = dv := ⟨_, rfl⟩
            rw [hdv] at c7 HDR
            have HWKL := Lib.hid hwk
            clear hds hdrop hga hdv he hwk
            go_wp2_with fail
            have dr5 : Ext w3 w3.drew := (Ext.refl w3).drew
            refine region_T (fun W => W.cell? ⟨K, 1, none⟩ = some (.slice (some ⟨bG, 0, none⟩) O cG) ∧ W.cell? ⟨HBp, 1, none⟩ = some (.slice (some ⟨bd, od, none⟩) M gdp) ∧ W.cell? ⟨bd, od + i, none⟩ = some (.bool dv) ∧ W.cell? ⟨bG, L, none⟩ = some (.bool G8)) 9 (by kernel_rfl) (⟨ext_cell dr5 k1w3, ext_cell dr5 p1w3, ext_cell dr5 c7, ext_cell dr5 g8⟩) (fun hHeld => ?_)
            obtain ⟨Wd, hWd⟩ : ∃ x, w3.drew = x := ⟨_, rfl⟩
            rw [hWd] at hHeld dr5 ⊢
            clear hWd
            have HSd := Lib.hid (HS4.out.later dr5)
            have sfd := HSd.out.gat L HWKL.out (dS_len _ _ _ _ _)
            have g9' := sfd.2
            obtain ⟨h1, h2, h3, h4⟩ := id hHeld
            clear sfd
            refine wpAnyT_take (i := 0) (v := ?_) rfl (by kernel_rfl) (fun _ _ _ h => h) (Or.inl ⟨by rfl, ?_⟩) (by assumption) ?_
            rotate_left
            · (intro W hSw; (try dsimp only at hSw); go_simp; (try with_reducible rfl))
            try simp only [Act.put, List.setIfInBounds_toArray, List.set_cons_zero, List.set_cons_succ]
            refine wpAnyT_take (i := 1) (v := ?_) rfl (by kernel_rfl) (fun _ _ _ h => h) (Or.inl ⟨by rfl, ?_⟩) (by assumption) ?_
            rotate_left
            · (intro W hSw; (try dsimp only at hSw); go_simp; (try with_reducible rfl))
            try simp only [Act.put, List.setIfInBounds_toArray, List.set_cons_zero, List.set_cons_succ]
            refine wpAnyT_take (i := 2) (v := ?_) rfl (by kernel_rfl) (fun _ _ _ h => h) (Or.inl ⟨by rfl, ?_⟩) (by assumption) ?_
            rotate_left
            · (intro W hSw; (try dsimp only at hSw); go_simp; (try with_reducible rfl))
            try simp only [Act.put, List.setIfInBounds_toArray, List.set_cons_zero, List.set_cons_succ]
            refine wpAnyT_take (i := 3) (v := ?_) rfl (by kernel_rfl) (fun _ _ _ h => h) (Or.inl ⟨by rfl, ?_⟩) (by assumption) ?_
            rotate_left
            · (intro W hSw; (try dsimp only at hSw); go_simp; (try with_reducible rfl))
            try simp only [Act.put, List.setIfInBounds_toArray, List.set_cons_zero, List.set_cons_succ]
            refine wpAnyT_take (i := 4) (v := ?_) rfl (by kernel_rfl) (fun _ _ _ h => h) (Or.inl ⟨by rfl, ?_⟩) (by assumption) ?_
            rotate_left
            · (intro W hSw; (try dsimp only at hSw); go_simp; (try with_reducible rfl))
            try simp only [Act.put, List.setIfInBounds_toArray, List.set_cons_zero, List.set_cons_succ]
            refine wpAnyT_take (i := 5) (v := ?_) rfl (by kernel_rfl) (fun _ _ _ h => h) (Or.inl ⟨by rfl, ?_⟩) (by assumption) ?_
            rotate_left
            · (intro W hSw; (try dsimp only at hSw); go_simp; (try with_reducible rfl))
            try simp only [Act.put, List.setIfInBounds_toArray, List.set_cons_zero, List.set_cons_succ]
            refine wpAnyT_take (i := 6) (v := ?_) rfl (by kernel_rfl) (fun _ _ _ h => h) (Or.inl ⟨by rfl, ?_⟩) (by assumption) ?_
            rotate_left
            · (intro W hSw; (try dsimp only at hSw); go_simp; (try with_reducible rfl))
            try simp only [Act.put, List.setIfInBounds_toArray, List.set_cons_zero, List.set_cons_succ]
            refine wpAnyT_take (i := 7) (v := ?_) rfl (by kernel_rfl) (fun _ _ _ h => h) (Or.inl ⟨by rfl, ?_⟩) (by assumption) ?_
            rotate_left
            · (intro W hSw; (try dsimp only at hSw); go_simp; (try with_reducible rfl))
            try simp only [Act.put, List.setIfInBounds_toArray, List.set_cons_zero, List.set_cons_succ]
            refine wpAnyT_take (i := 8) (v := ?_) rfl (by kernel_rfl) (fun _ _ _ h => h) (Or.inl ⟨by rfl, ?_⟩) (by assumption) ?_
            rotate_left
            · (intro W hSw; (try dsimp only at hSw); go_simp; (try with_reducible rfl))
            try simp only [Act.put, List.setIfInBounds_toArray, List.set_cons_zero, List.set_cons_succ]
            refine wpAnyT_one (i := 9) rfl (by kernel_rfl) (fun K hK => ?_)
            go_simp
            refine hK.out _ _ (fun h => absurd rfl h) (fun _ => ?_)
            clear hK K hHeld
            try simp only [Act.put, List.setIfInBounds_toArray, List.set_cons_zero, List.set_cons_succ]
            refine wpAnyT_done (by kernel_rfl) ?_ _
            obtain ⟨w6, hw6⟩ : ∃ w6, Wd.setCell ⟨bG, L, none⟩ (.bool dv) = w6 := ⟨_, rfl⟩
            have HS6 : Hid (StG W0 O g K (some ⟨bG, 0, none⟩) cG (pS TY PS O (i + 1)) (dS TY ES DX O (i + 1)) w6) := Lib.hid (by rw [← hw6]; exact HDR.out Wd HSd.out)
            rw [hw6]
            clear hw6
            go_wp2_with fail
            go_roundw
            case rel => exact ⟨i + 1, by omega, by go_num, HS6⟩
            case measure => simp [intOf]; omega
          | true =>
            rw [he] at c6
            have hdg := HDG.out i he
            rw [hdg] at HS4
            clear he hdg
            go_wp2_with fail
            go_roundw
            case rel => exact ⟨i + 1, by omega, by go_num, HS4⟩
            case measure => simp [intOf]; omega
        · have dm : decide (i < M) = false := by rw [decide_eq_false_iff_not]; exact hjM
          have he : ES.getD i true = true := by rw [List.getD_eq_getElem?_getD, List.getElem?_eq_none (by have := HEL.out; omega)]; rfl
          have hdg := HDG.out i he
          rw [hdg] at HS4
          clear he hdg
          go_wp2_with fail
          go_roundw
          case rel => exact ⟨i + 1, by omega, by go_num, HS4⟩
          case measure => simp [intOf]; omega
      · obtain rfl : i = M + 1 := by omega
        have dn : decide (M + 1 ≤ M) = false := by rw [decide_eq_false_iff_not]; omega
        have dn' : decide (((M : Int) + 1) ≤ (M : Int)) = false := by rw [decide_eq_false_iff_not]; omega
        have he : ES.getD M true = true := by rw [List.getD_eq_getElem?_getD, List.getElem?_eq_none (by have := HEL.out; omega)]; rfl
        have hdg := HDG.out M he
        rw [← hdg] at HS
        have hrs := HS.out.rds (pS_len _ _ _ _)
        have hrg := HS.out.rdg
        have hz1 := RPg.out.ext HS.out.ext
        have hz2 := RDg.out.ext HS.out.ext
        have hl1 : (putC (pS TY PS O (M + 1))).length = O + 1 := by rw [putC_length, pS_len]
        have hl2 : (dS TY ES DX O M).length = O := dS_len _ _ _ _ _
        obtain ⟨GP, hGP⟩ : ∃ GP, putC (pS TY PS O (M + 1)) = GP := ⟨_, rfl⟩
        obtain ⟨GD, hGD⟩ : ∃ GD, dS TY ES DX O M = GD := ⟨_, rfl⟩
        rw [hGP] at hrs hz1 hl1
        rw [hGD] at hrg hz2 hl2
        have g0 := ext_cell HS.out.ext GB.out.1; have g1 := ext_cell HS.out.ext GB.out.2
        have k0wr := HS.out.c0; have k1wr := HS.out.c1
        have xwr := HS.out.ext
        have HRS := Lib.hid hrs; have HRG := Lib.hid hrg; have HZ1 := Lib.hid hz1; have HZ2 := Lib.hid hz2
        have HSM := Lib.hid (fun w' (hx : Ext wr w') => sameT11 gAg gBg (some ⟨g, 0, none⟩) aG (O + 1) gcg O gdg (O + 1) cG GP GD w' (HZ1.out.ext hx) (HZ2.out.ext hx) (HRS.out.ext hx) (HRG.out.ext hx) hl1 hl2 (by omega) (by omega))
        clear hrs hrg hz1 hz2 hl1 hl2 hdg he hGP hGD HRS HRG HZ1 HZ2
        go_wp2_with fail
        refine (HSM.out _ (Ext.refl _)).mono ?_; rintro e w9 ⟨rfl, hx9⟩
        go_wp2_with fail
        go_ret
        exact ⟨rfl, (EW.out.trans xwr).trans hx9⟩
end Go.Proofs.YtplbpddkmhmjiaaDoor
