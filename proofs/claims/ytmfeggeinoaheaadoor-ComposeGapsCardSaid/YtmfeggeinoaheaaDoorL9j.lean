/- Layer 9, ComposeGaps. -/
import Derived.Test.YtmfeggeinoaheaaDoorL9a
import Derived.Test.YtmfeggeinoaheaaDoorMe
import Derived.Test.YtmfeggeinoaheaaDoorC6
import Derived.Test.YtmfeggeinoaheaaDoorC1g
import Derived.Test.YtmfeggeinoaheaaDoorP9a
import Derived.Deep.Cut
import Derived.Deep.RegionHeld3
import Derived.Deep.QuietTactic
namespace Go.Proofs.YtmfeggeinoaheaaDoor
open Go.RowKit
set_option maxRecDepth 100000
set_option maxHeartbeats 4000000
theorem step_app9 {P : Program} {Y : Nat → Option Bool} {o : Oper} {a : Act} {w : World} {K : Act → World → Prop} {Q : Exit → Act → World → Prop} {E : Prop} (hgd : o.guard = none) (s x : Operand) (t : TypeId)
    (ho : o.op = .call { callee := .builtin .append, args := #[s, x], argTypes := #[t, t] })
    (h : ∃ v' w', (Builtin.append_ #[t, t] o.type #[a.eval s, a.eval x]).run P w = .ok v' w' ∧ K (a.put o.dst v') w') :
    if Region.wanted o Y = true then Oper.wp P o a w K Q else E := by
  have hw : Region.wanted o Y = true := by simp [Region.wanted, hgd]
  rw [if_pos hw]
  obtain ⟨v', w', hrun, hp⟩ := h
  unfold Oper.wp execOp
  simp only [ho, resolve, invoke, builtin, Sem.run_bind, Sem.run_pure, Result.andThen_ok, List.map_toArray, List.map_cons, List.map_nil, hrun]
  exact hp
theorem ex_app9 {P : Program} {a : Act} {w : World} {s x : Operand} {t ty : TypeId} {K : Value → World → Prop} {v y : Value} (hs : a.eval s = v) (hx : a.eval x = y) {Post : Value → World → Prop}
    (hr : ∃ v' w', (Builtin.append_ #[t, t] ty #[v, y]).run P w = .ok v' w' ∧ Post v' w') (h : ∀ v' w', Post v' w' → K v' w') :
    ∃ v' w', (Builtin.append_ #[t, t] ty #[a.eval s, a.eval x]).run P w = .ok v' w' ∧ K v' w' := by
  rw [hs, hx]
  obtain ⟨v', w', h1, h2⟩ := hr
  exact ⟨v', w', h1, h _ _ h2⟩
theorem one_bools9 (I : List Bool) : ∀ u ∈ I.map Value.bool, u.oneCell' = true := by
  intro u hu
  obtain ⟨b, _, rfl⟩ := List.mem_map.1 hu
  rfl
theorem appB_e9 {W0 V : World} {g M pc : Nat} {pA : Option Addr} {I : List Bool} (hr : Rd W0 1 (.slice pA M pc) M (I.map Value.bool)) (hM : M ≤ 1000) (hx : Ext W0 V) :
    ∃ v' w', (Builtin.append_ #[30, 30] 30 #[.slice (some ⟨g, 0, none⟩) 0 0, .slice pA M pc]).run Tryd.prog V = .ok v' w' ∧ (OwnE w' W0.heap.size 4 1 v' M (I.map Value.bool) ∧ Ext V w') := by
  obtain ⟨is, his, hs0, hs1, hs2⟩ := info_parts info_bool
  obtain ⟨v', w', h1, h2, h3⟩ := app_erd (P := Tryd.prog) 30 30 4 is _ 1 1 Tryd.underlying30 his hs0 hs1 hs2 rfl (by omega) (by omega)
    (a := V) (w := V) (B := V.heap.size) (Below.refl _ _) (Nat.le_refl _) (OwnE.nil V V.heap.size 4 1 g) (by omega) (hr.ext hx) (by omega) (one_bools9 I)
  rw [Nat.zero_add, List.nil_append] at h2
  exact ⟨v', w', h1, h2.more hx.size, h3⟩
theorem OwnE.len9 {w : World} {B : Nat} {e : TypeId} {size : Nat} {v : Value} {n : Nat} {xs : List Value} (h : OwnE w B e size v n xs) : ∃ a c, v = .slice a n c ∧ n ≤ c := by
  rcases h with ⟨rfl, _, g, rfl⟩ | h
  · exact ⟨_, 0, rfl, Nat.le_refl _⟩
  · exact h.len
theorem rd_len_le9 {w : World} {size : Nat} {A : Option Addr} {n c : Nat} {xs : List Value} (h : Rd w size (.slice A n c) n xs) : n ≤ c := by
  obtain ⟨_, _, e, hc⟩ := h.len
  injection e with _ _ e
  omega
theorem cat_mk9 (a b : List Nat) : mkS (encs a) ++ mkS (encs b) = mkS (encs (a ++ b)) := by
  apply bs_inj
  rw [bs_append, bs_mkS, bs_mkS, bs_mkS, encs_append]
theorem bxk_new {X W w' W0 : World} {t : TypeId} {vs : Array Value} (h1 : Ext (X.alloc (.cells vs t)) W) (h2 : Ext W w') (h0 : Ext W0 X) : BxT t w' X.heap.size vs ∧ W0.heap.size ≤ X.heap.size := ⟨((BxT.new X t vs).ext h1).ext h2, h0.size⟩
theorem bxk_step {X W w' W0 : World} {t : TypeId} {vs : Array Value} {G : Prop} (h1 : Ext (X.alloc (.cells vs t)) W) (h2 : Ext W w') (h0 : Ext W0 X) (h : BxT t w' X.heap.size vs ∧ W0.heap.size ≤ X.heap.size → G) : G := h (bxk_new h1 h2 h0)
theorem size_drew9 (w : World) : w.drew.heap.size = w.heap.size := rfl
theorem ownE_other9 {w : World} {B : Nat} {e e1 : TypeId} {size n : Nat} {v : Value} {xs : List Value} (ho : OwnE w B e size v n xs) {a : Addr} {cur : Array Value} {f : Nat × Nat} (hg : w.heap[a.block]? = some (.cells cur e1 f)) (hne : e1 ≠ e) (u : Value) : OwnE (w.setCell a u) B e size v n xs := by
  rcases ho with ho | ho
  · exact .inl ho
  · exact .inr (own_cell_other ho hg hne u)
/-- What is wanted, as it is made at first. -/
def GapsR (W0 : World) (M : Nat) (R1 : Array Value) (D : List Bool) (p : Value) (wr : World) : Prop :=
  ∃ (K g : Nat) (aG : Option Addr) (cG : Nat), p = .pointer (some ⟨K, 0, none⟩) ∧ Hid (BxT 32 wr K #[.slice (some ⟨g, 0, none⟩) (M + 1) (M + 1), .slice aG M cG]) ∧ Hid (BxT 9 wr g R1) ∧ Hid (OwnE wr W0.heap.size 4 1 (.slice aG M cG) M (D.map Value.bool)) ∧ Hid (Ext W0 wr) ∧ W0.heap.size ≤ K ∧ W0.heap.size ≤ g
theorem bxt_ne {W : World} {K g : Nat} {t u : TypeId} {vs us : Array Value} (h : BxT t W K vs) (h' : BxT u W g us) (hne : t ≠ u) : g ≠ K := by
  rintro rfl
  have e := (show W.heap[g]? = _ from h).symm.trans h'
  injection e with e
  injection e with e1 e2
  exact hne e2
section
variable {W0 wG : World} {M g K cG : Nat} {R1 : Array Value} {D : List Bool} {aG : Option Addr}
theorem gr1 (hS : BxT 9 wG g R1 ∧ W0.heap.size ≤ g) (hG : OwnE wG W0.heap.size 4 1 (.slice aG M cG) M (D.map Value.bool)) (hx : Ext W0 wG) :
    GapsR W0 M R1 D (.pointer (some ⟨wG.heap.size, 0, none⟩)) (wG.alloc (.cells #[.slice (some ⟨g, 0, none⟩) (M + 1) (M + 1), .slice aG M cG] 32)) :=
  ⟨_, g, aG, cG, rfl, Lib.hid (BxT.new _ _ _), Lib.hid (hS.1.ext ((Ext.refl _).alloc _)), Lib.hid (hG.ext ((Ext.refl _).alloc _)), Lib.hid (hx.alloc _), hx.size, hS.2⟩
theorem gr2 (hK : BxT 32 wG K #[.slice none 0 0, .slice none 0 0] ∧ W0.heap.size ≤ K) (hS : BxT 9 wG g R1 ∧ W0.heap.size ≤ g) (hG : OwnE wG W0.heap.size 4 1 (.slice aG M cG) M (D.map Value.bool)) (hx : Ext W0 wG) :
    GapsR W0 M R1 D (.pointer (some ⟨K, 0, none⟩)) ((wG.setCell ⟨K, 0, none⟩ (.slice (some ⟨g, 0, none⟩) (M + 1) (M + 1))).setCell ⟨K, 1, none⟩ (.slice aG M cG)) := by
  have hne := bxt_ne hK.1 hS.1 (by decide)
  have k1 := hK.1.set 0 (.slice (some ⟨g, 0, none⟩) (M + 1) (M + 1))
  refine ⟨K, g, aG, cG, rfl, Lib.hid (k1.set 1 (.slice aG M cG)), Lib.hid ((hS.1.other ⟨K, 0, none⟩ hne _).other ⟨K, 1, none⟩ hne _), Lib.hid ?_, Lib.hid (Below.setCell (Below.setCell hx (p := ⟨K, 0, none⟩) hK.2 _) (p := ⟨K, 1, none⟩) hK.2 _), hK.2, hS.2⟩
  exact ownE_other9 (a := ⟨K, 1, none⟩) (ownE_other9 (a := ⟨K, 0, none⟩) hG (show wG.heap[K]? = _ from hK.1) (by decide) _) (show (wG.setCell _ _).heap[K]? = _ from k1) (by decide) _
theorem gr3 (hG : OwnE wG W0.heap.size 4 1 (.slice aG M cG) M (D.map Value.bool)) (hx : Ext W0 wG) :
    GapsR W0 M R1 D (.pointer (some ⟨wG.heap.size + 1, 0, none⟩)) ((wG.alloc (.cells R1 9)).alloc (.cells #[.slice (some ⟨wG.heap.size, 0, none⟩) (M + 1) (M + 1), .slice aG M cG] 32)) := by
  have h := gr1 (M := M) (D := D) (aG := aG) (cG := cG) (W0 := W0) ⟨BxT.new wG 9 R1, hx.size⟩ (hG.ext ((Ext.refl _).alloc _)) (hx.alloc _)
  rw [size_alloc] at h; exact h
theorem gr4 (hG : OwnE wG W0.heap.size 4 1 (.slice aG M cG) M (D.map Value.bool)) (hx : Ext W0 wG) :
    GapsR W0 M R1 D (.pointer (some ⟨wG.heap.size, 0, none⟩)) ((wG.alloc (.cells #[.slice (some ⟨wG.heap.size + 1, 0, none⟩) (M + 1) (M + 1), .slice aG M cG] 32)).alloc (.cells R1 9)) := by
  have hn := BxT.new (wG.alloc (.cells #[.slice (some ⟨wG.heap.size + 1, 0, none⟩) (M + 1) (M + 1), .slice aG M cG] 32)) 9 R1
  rw [size_alloc] at hn
  exact ⟨_, _, aG, cG, rfl, Lib.hid ((BxT.new _ _ _).ext ((Ext.refl _).alloc _)), Lib.hid hn, Lib.hid (hG.ext (((Ext.refl _).alloc _).alloc _)), Lib.hid ((hx.alloc _).alloc _), hx.size, Nat.le_trans hx.size (Nat.le_succ _)⟩
theorem gr5 (hK : BxT 32 wG K #[.slice none 0 0, .slice none 0 0] ∧ W0.heap.size ≤ K) (hG : OwnE wG W0.heap.size 4 1 (.slice aG M cG) M (D.map Value.bool)) (hx : Ext W0 wG) :
    GapsR W0 M R1 D (.pointer (some ⟨K, 0, none⟩)) (((wG.alloc (.cells R1 9)).setCell ⟨K, 0, none⟩ (.slice (some ⟨wG.heap.size, 0, none⟩) (M + 1) (M + 1))).setCell ⟨K, 1, none⟩ (.slice aG M cG)) :=
  gr2 ⟨hK.1.ext ((Ext.refl _).alloc _), hK.2⟩ ⟨BxT.new wG 9 R1, hx.size⟩ (hG.ext ((Ext.refl _).alloc _)) (hx.alloc _)
end
/-- What is wanted, in the loops. -/
structure St9 (W0 : World) (M g K : Nat) (aG : Option Addr) (cG : Nat) (ws : List (List Nat)) (gs : List Bool) (wr : World) : Prop where
  ext : Ext W0 wr
  hg : W0.heap.size ≤ g
  box : BxT 32 wr K #[.slice (some ⟨g, 0, none⟩) (M + 1) (M + 1), .slice aG M cG]
  str : BxT 9 wr g ((putC ws).map Value.string).toArray
  gon : OwnE wr W0.heap.size 4 1 (.slice aG M cG) M (gs.map Value.bool)
section
variable {W0 wr : World} {M g K cG : Nat} {aG : Option Addr} {ws : List (List Nat)} {gs : List Bool}
theorem St9.later {wr' : World} (h : St9 W0 M g K aG cG ws gs wr) (hx : Ext wr wr') : St9 W0 M g K aG cG ws gs wr' := ⟨h.ext.trans hx, h.hg, h.box.ext hx, h.str.ext hx, h.gon.ext hx⟩
theorem St9.put (h : St9 W0 M g K aG cG ws gs wr) (l : Nat) (p : List Nat) : St9 W0 M g K aG cG (ws.set l p) gs (wr.setCell ⟨g, l, none⟩ (.string (mkS (encs p)))) := by
  refine ⟨Below.setCell h.ext (p := ⟨g, l, none⟩) h.hg _, h.hg, h.box.other ⟨g, l, none⟩ (bxt_ne h.str h.box (by decide)) _, ?_, ownE_other9 (a := ⟨g, l, none⟩) h.gon (show wr.heap[g]? = _ from h.str) (by decide) _⟩
  have e := h.str.set l (.string (mkS (encs p)))
  have q : (((putC ws).map Value.string).toArray.setIfInBounds l (.string (mkS (encs p)))) = ((putC (ws.set l p)).map Value.string).toArray := by
    simp [putC, List.map_set]
  rw [q] at e
  exact e
theorem own_block9 {w : World} {B : Nat} {e : TypeId} {size n c b : Nat} {xs : List Value} (h : Own w B e size (.slice (some ⟨b, 0, none⟩) n c) n xs) : ∃ cur, w.heap[b]? = some (.cells cur e (0, 0)) ∧ B ≤ b := by
  obtain ⟨⟨h1, h2⟩, h3⟩ := h
  rcases h2 with ⟨h2, _⟩ | ⟨g', cap, cur, hv, hb, hg, _⟩
  · cases h2
  · injection hv with e1 e2 e3
    injection e1 with e1
    injection e1 with e1
    subst e1
    exact ⟨cur, hg, hb⟩
theorem St9.addr (h : St9 W0 M g K aG cG ws gs wr) (hM : 0 < M) : ∃ b, aG = some ⟨b, 0, none⟩ := by
  obtain ⟨b, c, hv, _⟩ := (h.gon.own hM).cells hM
  injection hv with e1
  exact ⟨b, e1⟩
theorem St9.drop {b : Nat} (h : St9 W0 M g K (some ⟨b, 0, none⟩) cG ws gs wr) (i : Nat) (hi : i < M) (v : Bool) : St9 W0 M g K (some ⟨b, 0, none⟩) cG ws (gs.set i v) (wr.setCell ⟨b, i, none⟩ (.bool v)) := by
  have ho := h.gon.own (show 0 < M by omega)
  obtain ⟨cur, hc, hb⟩ := own_block9 ho
  have e := ho.set (j := i) (by omega) (.bool v)
  rw [show (gs.map Value.bool).set i (.bool v) = (gs.set i v).map Value.bool by rw [List.map_set]] at e
  exact ⟨Below.setCell h.ext (p := ⟨b, i, none⟩) hb _, h.hg, h.box.other ⟨b, i, none⟩ (bxt_ne (show BxT 4 wr b cur from hc) h.box (by decide)) _, h.str.other ⟨b, i, none⟩ (bxt_ne (show BxT 4 wr b cur from hc) h.str (by decide)) _, .inr e⟩
theorem St9.c0 (h : St9 W0 M g K aG cG ws gs wr) : wr.cell? ⟨K, 0, none⟩ = some (.slice (some ⟨g, 0, none⟩) (M + 1) (M + 1)) := h.box.cell rfl
theorem St9.c1 (h : St9 W0 M g K aG cG ws gs wr) : wr.cell? ⟨K, 1, none⟩ = some (.slice aG M cG) := h.box.cell rfl
theorem St9.at_ (h : St9 W0 M g K aG cG ws gs wr) (l : Nat) (hl : l < ws.length) : wr.cell? ⟨g, l, none⟩ = some (.string (mkS (encs (ws.getD l [])))) := h.str.cell (by simp [putC, hl])
theorem St9.free (h : St9 W0 M g K aG cG ws gs wr) (l : Nat) : wr.frozen? ⟨g, l, none⟩ = false := h.str.frozen l
theorem St9.gat {b : Nat} (h : St9 W0 M g K (some ⟨b, 0, none⟩) cG ws gs wr) (i : Nat) (hi : i < M) (hl : gs.length = M) : wr.cell? ⟨b, i, none⟩ = some (.bool (gs.getD i true)) ∧ wr.frozen? ⟨b, i, none⟩ = false := by
  have ho := h.gon.own (show 0 < M by omega)
  obtain ⟨b', c, hv, _, _, _, hc⟩ := ho.cells (by omega)
  injection hv with e1
  injection e1 with e1
  injection e1 with e1
  subst e1
  have hil : i < gs.length := by omega
  exact ⟨hc i _ (by simp [hil]), ho.free i⟩
theorem St9.rds (h : St9 W0 M g K aG cG ws gs wr) (hl : ws.length = M + 1) : Rd wr 1 (.slice (some ⟨g, 0, none⟩) (M + 1) (M + 1)) (M + 1) ((putC ws).map Value.string) := rd_row h.str (by simp [putC, hl])
theorem St9.rdg (h : St9 W0 M g K aG cG ws gs wr) : Rd wr 1 (.slice aG M cG) M (gs.map Value.bool) := h.gon.rd
end
theorem zend9 {W0 wr : World} {M N g K cG : Nat} {aG : Option Addr} {ws QS : List (List Nat)} {DX ES : List Bool} {TX TY : List Tok} (h : St9 W0 M g K aG cG ws (gW TX DX ES (M + 1)) wr) (hw : ws = wM (M + 1) TX QS ES N) (hdl : DX.length = M)
    (hend : gpP (compT TX TY) = wM (M + 1) TX QS ES N) (hgend : gpD (compT TX TY) = gW TX DX ES M) :
    Rd wr 1 (.slice (some ⟨g, 0, none⟩) (M + 1) (M + 1)) (M + 1) ((putC (gpP (compT TX TY))).map Value.string) ∧ Rd wr 1 (.slice aG M cG) M ((gpD (compT TX TY)).map Value.bool) ∧ (putC (gpP (compT TX TY))).length = M + 1 ∧ (gpD (compT TX TY)).length = M := by
  have hdM : DX.getD M true = true := by rw [List.getD_eq_getElem?_getD, List.getElem?_eq_none (by omega)]; rfl
  have hge : gW TX DX ES (M + 1) = gpD (compT TX TY) := (gW_gone TX DX ES M hdM).symm.trans hgend.symm
  have hwe : ws = gpP (compT TX TY) := hw.trans hend.symm
  have hl2 : (gpD (compT TX TY)).length = M := by rw [hgend, gW_len]; exact hdl
  have hl1 : (gpP (compT TX TY)).length = M + 1 := by rw [hend]; exact wM_len _ _ _ _ _
  rw [hge, hwe] at h
  exact ⟨h.rds hl1, h.rdg, by simp [putC, hl1], hl2⟩
theorem ltf9 {W0 w4 : World} {M g K cG i cc T : Nat} {aG : Option Addr} {QS : List (List Nat)} {ES G : List Bool} {TX : List Tok} (h : St9 W0 M g K aG cG (wM (M + 1) TX QS ES T) G w4) (hi : i < M + 1)
    (hc : ∀ j, conB TX ES j T = if j = i then [cc] else []) (hb : (encs ((wM (M + 1) TX QS ES T).getD i [])).length ≤ 50000000) :
    ∃ SA SC : ByteArray, ∃ W2 : List (List Nat), W2 = wP (M + 1) TX QS ES (T + 1) ∧ w4.cell? ⟨g, i, none⟩ = some (.string SA) ∧ SA.size ≤ 50000000 ∧ SA ++ mkS (encs [cc]) = SC ∧ ∀ V, Ext w4 V → St9 W0 M g K aG cG W2 G (V.setCell ⟨g, i, none⟩ (.string SC)) := by
  have hset := wP_ins (M + 1) TX QS ES T i cc hi hc
  have hl := wM_len (M + 1) TX QS ES T
  generalize wM (M + 1) TX QS ES T = W1 at h hb hset hl
  refine ⟨mkS (encs (W1.getD i [])), mkS (encs (W1.getD i [] ++ [cc])), _, rfl, h.at_ i (by omega), by rw [size_mkS]; exact hb, cat_mk9 _ _, fun V hx => ?_⟩
  have e := (h.later hx).put i (W1.getD i [] ++ [cc])
  rw [hset] at e
  exact e
theorem sameT9 (A B A' B' : Option Addr) (n c k d c' d' : Nat) (ps : List ByteArray) (gs : List Bool) (w : World)
    (h1 : Rd w 1 (.slice A n c) n (ps.map Value.string)) (h2 : Rd w 1 (.slice B k d) k (gs.map Value.bool)) (h3 : Rd w 1 (.slice A' n c') n (ps.map Value.string)) (h4 : Rd w 1 (.slice B' k d') k (gs.map Value.bool))
    (l1 : ps.length = n) (l2 : gs.length = k) (hn : n ≤ 100000) (hk : k ≤ 100000) :
    Calls Tryd.prog 12 #[.agg #[.slice A n c, .slice B k d], .agg #[.slice A' n c', .slice B' k d']] w fun e w' => e = .returned (.bool true) ∧ Ext w w' := by
  have h := same6_c A B A' B' n c k d n c' k d' ps ps gs gs w h1 h2 h3 h4 l1 l2 l1 l2 hn hk
  rw [decide_eq_true ⟨rfl, rfl⟩] at h
  exact h
theorem cast_nn9 (M : Nat) : (0 : Int) ≤ (M : Int) := by omega
theorem cast_le_of9 {M c : Nat} (h : M ≤ c) : (M : Int) ≤ (c : Int) := by omega
theorem succ_beq9 (M : Nat) : ((M : Int) + 1 == 0) = false := by rw [beq_eq_false_iff_ne]; omega
end Go.Proofs.YtmfeggeinoaheaaDoor
