/- Layer 6, GapsJoin. -/
import Derived.Test.YtelepadnbgcbnaaDoorL6i
import Derived.Test.YtelepadnbgcbnaaDoorL6b
import Derived.Test.YtelepadnbgcbnaaDoorBs
import Derived.Deep.Cut
import Derived.Deep.RegionHeld3
import Derived.Deep.QuietTactic
namespace Go.Proofs.YtelepadnbgcbnaaDoor
open Go.RowKit
set_option maxRecDepth 100000
set_option maxHeartbeats 8000000
set_option linter.unusedSimpArgs false
theorem Ext.others {w w' : World} (h : Ext w w') (e : TypeId) : Others w w' e := ⟨h.size, fun g _ _ _ _ hg => (h.below.block g (Array.getElem?_eq_some_iff.1 hg).1).trans hg⟩
theorem Others.trans {a b c : World} {e : TypeId} (h : Others a b e) (k : Others b c e) : Others a c e := ⟨Nat.le_trans h.1 k.1, fun g cur e1 f hne hg => k.2 g cur e1 f hne (h.2 g cur e1 f hne hg)⟩
/-- A box of a kind that lies where it was made. -/
def RowK (w : World) (k H : Nat) (vs : Array Value) (e : TypeId) : Prop := w.heap[k]? = some (.cells vs e (0, 0)) ∧ H ≤ k
theorem rowk_new {X W w' W0 : World} {vs : Array Value} {e t : TypeId} (h1 : Ext (X.alloc (.cells vs e)) W) (h2 : Others W w' t) (hne : e ≠ t) (h0 : Ext W0 X) : RowK w' X.heap.size W0.heap.size vs e :=
  ⟨h2.2 _ _ _ _ hne ((h1.others t).2 _ _ _ _ hne (heap_alloc_new X _)), h0.size⟩
theorem rowk_on {a W w' : World} {k H : Nat} {vs : Array Value} {e t : TypeId} (h : RowK a k H vs e) (h1 : Ext a W) (h2 : Others W w' t) (hne : e ≠ t) : RowK w' k H vs e :=
  ⟨h2.2 _ _ _ _ hne ((h1.others t).2 _ _ _ _ hne h.1), h.2⟩
theorem rowk_cell {w : World} {k H : Nat} {vs : Array Value} {e : TypeId} (h : RowK w k H vs e) (q : Nat) : w.cell? ⟨k, q, none⟩ = vs[q]? := by
  rw [cell_of_row w k q _ _ (0, 0) h.1]
theorem rowk_free {w : World} {k H : Nat} {vs : Array Value} {e : TypeId} (h : RowK w k H vs e) (q : Nat) : w.frozen? ⟨k, q, none⟩ = false := frozen_of_row w _ q _ _ h.1
theorem ownE_cell_other {w : World} {B : Nat} {e e1 : TypeId} {size n : Nat} {v : Value} {xs : List Value} (ho : OwnE w B e size v n xs) {a : Addr} {cur : Array Value} {f : Nat × Nat} (hg : w.heap[a.block]? = some (.cells cur e1 f)) (hne : e1 ≠ e) (u : Value) : OwnE (w.setCell a u) B e size v n xs := by
  rcases ho with ho | ho
  · exact .inl ho
  · exact .inr (own_cell_other ho hg hne u)
theorem OwnE.len {w : World} {B : Nat} {e : TypeId} {size : Nat} {v : Value} {n : Nat} {xs : List Value} (h : OwnE w B e size v n xs) : ∃ a c, v = .slice a n c ∧ n ≤ c := by
  rcases h with ⟨rfl, _, g, rfl⟩ | h
  · exact ⟨_, 0, rfl, Nat.le_refl _⟩
  · exact h.len
theorem rd_len_le {w : World} {size : Nat} {A : Option Addr} {n c : Nat} {xs : List Value} (h : Rd w size (.slice A n c) n xs) : n ≤ c := by
  obtain ⟨_, _, e, hc⟩ := h.len
  injection e with _ _ e
  omega
theorem rd_str_front {w : World} {A : Option Addr} {M c : Nat} {I : List ByteArray} {S : ByteArray} (h : Rd w 1 (.slice A (M + 1) c) (M + 1) ((I ++ [S]).map Value.string)) (hI : I.length = M) : Rd w 1 (.slice A M c) M (I.map Value.string) := by
  have h2 := rd_take1 h (k := M) (by omega)
  rw [← List.map_take, List.take_append_of_le_length (by omega), List.take_of_length_le (by omega)] at h2
  exact h2
theorem wrap_small {M : Nat} (h : M ≤ 63) : wrap64 (M : Int) = (M : Int) := by unfold wrap64; omega
theorem cast_nn (M : Nat) : (0 : Int) ≤ (M : Int) := by omega
theorem cast_le_of {M c : Nat} (h : M + 1 ≤ c) : (M : Int) ≤ (c : Int) := by omega
theorem succ_beq (M : Nat) : ((M : Int) + 1 == 0) = false := by rw [beq_eq_false_iff_ne]; omega
theorem one_strs (I : List ByteArray) : ∀ u ∈ I.map Value.string, u.oneCell' = true := by simp [Value.oneCell']
theorem one_bools (I : List Bool) : ∀ u ∈ I.map Value.bool, u.oneCell' = true := by
  intro u hu
  obtain ⟨b, _, rfl⟩ := List.mem_map.1 hu
  rfl
theorem appS_e {W0 V : World} {g M pc : Nat} {pA : Option Addr} {I : List ByteArray} (hr : Rd W0 1 (.slice pA M pc) M (I.map Value.string)) (hM : M ≤ 1000) (hx : Ext W0 V) :
    ∃ v' w', (Builtin.append_ #[23, 23] 23 #[.slice (some ⟨g, 0, none⟩) 0 0, .slice pA M pc]).run Tryd.prog V = .ok v' w' ∧ (OwnE w' W0.heap.size 9 1 v' M (I.map Value.string) ∧ Ext V w') := by
  obtain ⟨is, his, hs0, hs1, hs2⟩ := info_parts info_str
  obtain ⟨v', w', h1, h2, h3⟩ := app_erd (P := Tryd.prog) 23 23 9 is _ 1 16 Tryd.underlying23 his hs0 hs1 hs2 rfl (by omega) (by omega)
    (a := V) (w := V) (B := V.heap.size) (Below.refl _ _) (Nat.le_refl _) (OwnE.nil V V.heap.size 9 1 g) (by omega) (hr.ext hx) (by omega) (one_strs I)
  rw [Nat.zero_add, List.nil_append] at h2
  exact ⟨v', w', h1, h2.more hx.size, h3⟩
theorem appB_e {W0 V : World} {g M pc : Nat} {pA : Option Addr} {I : List Bool} (hr : Rd W0 1 (.slice pA M pc) M (I.map Value.bool)) (hM : M ≤ 1000) (hx : Ext W0 V) :
    ∃ v' w', (Builtin.append_ #[24, 24] 24 #[.slice (some ⟨g, 0, none⟩) 0 0, .slice pA M pc]).run Tryd.prog V = .ok v' w' ∧ (OwnE w' W0.heap.size 4 1 v' M (I.map Value.bool) ∧ Ext V w') := by
  obtain ⟨is, his, hs0, hs1, hs2⟩ := info_parts info_bool
  obtain ⟨v', w', h1, h2, h3⟩ := app_erd (P := Tryd.prog) 24 24 4 is _ 1 1 Tryd.underlying24 his hs0 hs1 hs2 rfl (by omega) (by omega)
    (a := V) (w := V) (B := V.heap.size) (Below.refl _ _) (Nat.le_refl _) (OwnE.nil V V.heap.size 4 1 g) (by omega) (hr.ext hx) (by omega) (one_bools I)
  rw [Nat.zero_add, List.nil_append] at h2
  exact ⟨v', w', h1, h2.more hx.size, h3⟩
theorem appB_o {W0 V : World} {M N qd : Nat} {qB : Option Addr} {v : Value} {DX DY : List Bool} (hr : Rd W0 1 (.slice qB N qd) N (DY.map Value.bool)) (hM : M ≤ 1000) (hN : N ≤ 1000) (ho : OwnE V W0.heap.size 4 1 v M (DX.map Value.bool)) (hx : Ext W0 V) :
    ∃ v' w', (Builtin.append_ #[24, 24] 24 #[v, .slice qB N qd]).run Tryd.prog V = .ok v' w' ∧ (OwnE w' W0.heap.size 4 1 v' (M + N) ((DX ++ DY).map Value.bool) ∧ Ext W0 w' ∧ Others V w' 4) := by
  obtain ⟨is, his, hs0, hs1, hs2⟩ := info_parts info_bool
  obtain ⟨v', w', h1, h2, h3, h4⟩ := app_erdo (P := Tryd.prog) 24 24 4 is _ 1 1 Tryd.underlying24 his hs0 hs1 hs2 rfl (by omega) (by omega)
    hx hx.size ho (by omega) (hr.ext hx) (by omega) (one_bools DY)
  rw [← List.map_append] at h2
  exact ⟨v', w', h1, h2, h3, h4⟩
theorem joinA {W0 wH : World} {vP vG : Value} {m n H : Nat} {xs ys : List Value} {tS tB tG : TypeId} (hx : Ext W0 wH) (hP : OwnE wH H tS 1 vP m xs) (hG : OwnE wH H tB 1 vG n ys) (hH : H ≤ wH.heap.size) :
    ∃ (K : Nat) (uP uG : Value), Value.pointer (some ⟨wH.heap.size, 0, none⟩) = .pointer (some ⟨K, 0, none⟩) ∧ RowK (wH.alloc (.cells #[vP, vG] tG)) K H #[uP, uG] tG ∧ OwnE (wH.alloc (.cells #[vP, vG] tG)) H tS 1 uP m xs ∧ OwnE (wH.alloc (.cells #[vP, vG] tG)) H tB 1 uG n ys ∧ Ext W0 (wH.alloc (.cells #[vP, vG] tG)) :=
  ⟨_, _, _, rfl, ⟨heap_alloc_new wH _, hH⟩, hP.ext ((Ext.refl _).alloc _), hG.ext ((Ext.refl _).alloc _), hx.alloc _⟩
theorem joinB {W0 wH : World} {vP vG n0 n1 : Value} {m n H K : Nat} {xs ys : List Value} {tS tB tG : TypeId} (hS : tG ≠ tS) (hB : tG ≠ tB) (hK : RowK wH K H #[n0, n1] tG) (hx : Ext W0 wH) (hP : OwnE wH H tS 1 vP m xs) (hG : OwnE wH H tB 1 vG n ys) (hH : W0.heap.size ≤ K) :
    ∃ (K' : Nat) (uP uG : Value), Value.pointer (some ⟨K, 0, none⟩) = .pointer (some ⟨K', 0, none⟩) ∧ RowK ((wH.setCell ⟨K, 0, none⟩ vP).setCell ⟨K, 1, none⟩ vG) K' H #[uP, uG] tG ∧ OwnE ((wH.setCell ⟨K, 0, none⟩ vP).setCell ⟨K, 1, none⟩ vG) H tS 1 uP m xs ∧
      OwnE ((wH.setCell ⟨K, 0, none⟩ vP).setCell ⟨K, 1, none⟩ vG) H tB 1 uG n ys ∧ Ext W0 ((wH.setCell ⟨K, 0, none⟩ vP).setCell ⟨K, 1, none⟩ vG) := by
  have h1 := heap_setCell_same wH K 0 _ tG vP hK.1
  have h2 := heap_setCell_same _ K 1 _ tG vG h1
  exact ⟨K, vP, vG, rfl, ⟨h2, hK.2⟩, ownE_cell_other (a := ⟨K, 1, none⟩) (ownE_cell_other (a := ⟨K, 0, none⟩) hP hK.1 hS vP) h1 hS vG, ownE_cell_other (a := ⟨K, 1, none⟩) (ownE_cell_other (a := ⟨K, 0, none⟩) hG hK.1 hB vP) h1 hB vG,
    Below.setCell (Below.setCell hx hH _) hH _⟩
theorem rd_tail1 {w : World} {b off n c : Nat} {xs : List Value} {u : Value} (h : Rd w 1 (.slice (some ⟨b, off, none⟩) (n + 1) c) (n + 1) (u :: xs)) (hc : n + 1 ≤ c) :
    Rd w 1 (.slice (if c = 1 then some ⟨b, off, none⟩ else some ⟨b, off + 1, none⟩) n (c - 1)) n xs := by
  obtain ⟨hl, A, c', hv, _, hcell⟩ := h
  have hl2 : xs.length = n * 1 := by simp at hl; omega
  by_cases h0 : 0 < n
  · rw [if_neg (by omega)]
    obtain ⟨b', off', hA, hb, hx⟩ := hcell (by omega)
    injection hv with e1 e2 e3
    rw [hA] at e1
    injection e1 with e1
    injection e1 with e1 e4
    subst e1; subst e4
    exact ⟨hl2, _, _, rfl, by omega, fun _ => ⟨b, off + 1, rfl, hb, fun j v hj => by
      have := hx (j + 1) v (by simpa using hj)
      rw [show off + 1 + j = off + (j + 1) by omega]; exact this⟩⟩
  · obtain rfl : n = 0 := by omega
    exact ⟨hl2, _, _, rfl, by omega, fun h => absurd h (Nat.lt_irrefl 0)⟩
theorem appS_o {W0 V : World} {M m qd : Nat} {qB : Option Addr} {v : Value} {DX DY : List ByteArray} (hr : Rd V 1 (.slice qB m qd) m (DY.map Value.string)) (hM : M ≤ 1000) (hN : m ≤ 1000) (ho : OwnE V W0.heap.size 9 1 v M (DX.map Value.string)) (hx : Ext W0 V) :
    ∃ v' w', (Builtin.append_ #[23, 23] 23 #[v, .slice qB m qd]).run Tryd.prog V = .ok v' w' ∧ (OwnE w' W0.heap.size 9 1 v' (M + m) ((DX ++ DY).map Value.string) ∧ Ext W0 w' ∧ Others V w' 9) := by
  obtain ⟨is, his, hs0, hs1, hs2⟩ := info_parts info_str
  obtain ⟨v', w', h1, h2, h3, h4⟩ := app_erdo (P := Tryd.prog) 23 23 9 is _ 1 16 Tryd.underlying23 his hs0 hs1 hs2 rfl (by omega) (by omega)
    hx hx.size ho (by omega) hr (by omega) (one_strs DY)
  rw [← List.map_append] at h2
  exact ⟨v', w', h1, h2, h3, h4⟩
theorem rd_last1 {w : World} {A : Option Addr} {M c : Nat} {I : List ByteArray} {S : ByteArray} (h : Rd w 1 (.slice A (M + 1) c) (M + 1) ((I ++ [S]).map Value.string)) (hI : I.length = M) :
    ∃ b off, A = some ⟨b, off, none⟩ ∧ b < w.heap.size ∧ w.cell? ⟨b, off + M, none⟩ = some (.string S) :=
  rd_at1 h (by omega) (by simp [List.getElem?_append_right, hI])
theorem rd_head1 {w : World} {A : Option Addr} {N c : Nat} {R : List ByteArray} {S : ByteArray} (h : Rd w 1 (.slice A (N + 1) c) (N + 1) ((S :: R).map Value.string)) :
    ∃ b off, A = some ⟨b, off, none⟩ ∧ b < w.heap.size ∧ w.cell? ⟨b, off, none⟩ = some (.string S) :=
  rd_at1 h (k := 0) (by omega) rfl
theorem wrap_sum2 {M N : Nat} (hM : M ≤ 63) (hN : N ≤ 63) : IntKind.i64.wrap ((M : Int) + (N : Int)) = (M : Int) + (N : Int) := by rw [IntKind.wrap_i64]; omega
theorem same_join {W V : World} {tA tB a17 aG : Option Addr} {M N tc td c17 cG : Nat} {I R : List ByteArray} {S : ByteArray} {D : List Bool} (hM : M ≤ 63) (hN : N ≤ 63) (hI : I.length = M) (hR : R.length = N) (hD : D.length = M + N)
    (h1 : Rd W 1 (.slice tA (M + N + 1) tc) (M + N + 1) ((I ++ S :: R).map Value.string)) (h2 : Rd W 1 (.slice tB (M + N) td) (M + N) (D.map Value.bool)) (h3 : Rd W 1 (.slice a17 (M + 1 + N) c17) (M + 1 + N) ((I ++ [S] ++ R).map Value.string)) (h4 : Rd W 1 (.slice aG (M + N) cG) (M + N) (D.map Value.bool)) (hx : Ext W V) :
    Calls Tryd.prog 15 #[.agg #[.slice tA (M + N + 1) tc, .slice tB (M + N) td], .agg #[.slice a17 (M + 1 + N) c17, .slice aG (M + N) cG]] V fun e w' => e = .returned (.bool true) ∧ Ext V w' := by
  have h := same6_c tA tB a17 aG (M + N + 1) tc (M + N) td (M + 1 + N) c17 (M + N) cG _ _ _ _ V (h1.ext hx) (h2.ext hx) (h3.ext hx) (h4.ext hx) (by rw [List.length_append, List.length_cons]; omega) hD (by rw [List.length_append, List.length_append, List.length_singleton]; omega) hD (by omega) (by omega)
  have e : I ++ S :: R = I ++ [S] ++ R ∧ D = D := ⟨by simp, rfl⟩
  rw [decide_eq_true e] at h
  exact h
theorem cast_lt_succ (M : Nat) : (M : Int) < (M : Int) + 1 := by omega
theorem pos_succ (N : Nat) : (0 : Int) < (N : Int) + 1 := by omega
theorem one_le_succ (N : Nat) : (1 : Int) ≤ (N : Int) + 1 := by omega
/-- An append at a step of a region that draws: first what stands there, then what it makes. -/
theorem step_app1 {P : Program} {Y : Nat → Option Bool} {o : Oper} {a : Act} {w : World} {K : Act → World → Prop} {Q : Exit → Act → World → Prop} {E : Prop} (hgd : o.guard = none) (s x : Operand) (t : TypeId)
    (ho : o.op = .call { callee := .builtin .append, args := #[s, x], argTypes := #[t, t] })
    (h : ∃ v' w', (Builtin.append_ #[t, t] o.type #[a.eval s, a.eval x]).run P w = .ok v' w' ∧ K (a.put o.dst v') w') :
    if Region.wanted o Y = true then Oper.wp P o a w K Q else E := by
  have hw : Region.wanted o Y = true := by simp [Region.wanted, hgd]
  rw [if_pos hw]
  obtain ⟨v', w', hrun, hp⟩ := h
  unfold Oper.wp execOp
  simp only [ho, resolve, invoke, builtin, Sem.run_bind, Sem.run_pure, Result.andThen_ok, List.map_toArray, List.map_cons, List.map_nil, hrun]
  exact hp
theorem ex_app {P : Program} {a : Act} {w : World} {s x : Operand} {t ty : TypeId} {K : Value → World → Prop} {v y : Value} (hs : a.eval s = v) (hx : a.eval x = y) {Post : Value → World → Prop}
    (hr : ∃ v' w', (Builtin.append_ #[t, t] ty #[v, y]).run P w = .ok v' w' ∧ Post v' w') (h : ∀ v' w', Post v' w' → K v' w') :
    ∃ v' w', (Builtin.append_ #[t, t] ty #[a.eval s, a.eval x]).run P w = .ok v' w' ∧ K v' w' := by
  rw [hs, hx]
  obtain ⟨v', w', h1, h2⟩ := hr
  exact ⟨v', w', h1, h _ _ h2⟩
theorem size_drewJ (w : World) : w.drew.heap.size = w.heap.size := rfl
theorem cat_mk (a b : List Nat) : mkS (encs a) ++ mkS (encs b) = mkS (encs (a ++ b)) := by
  apply bs_inj
  rw [bs_append, bs_mkS, bs_mkS, bs_mkS, encs_append]
theorem gapsJoin_c (A : Option Addr) (q c : Nat) (l : List Sp) (A' : Option Addr) (q' c' : Nat) (l' : List Sp) (z : List Int) (w : World) [Tab w] (h : Rd w 3 (.slice A q c) q (spCells l)) (hl : l.length = q) (hs : ∀ s ∈ l, s.2.2.size ≤ maxLen)
    (h' : Rd w 3 (.slice A' q' c') q' (spCells l')) (hl' : l'.length = q') (hs' : ∀ s ∈ l', s.2.2.size ≤ maxLen) (hz : z.length = 2) (hw : ∀ x ∈ z, (Lit.int .u8 x).wf = true) :
    Calls Tryd.prog 8 #[.slice A q c, .slice A' q' c', .agg (z.map (Value.int .u8)).toArray] w fun e w' => e = .returned (.bool true) ∧ Below w.heap.size w w' := by
  match z, hz with
  | [z0, z1], _ =>
    obtain ⟨a0, a1⟩ := bounds_u8 (hw z0 (by simp))
    obtain ⟨b0, b1⟩ := bounds_u8 (hw z1 (by simp))
    obtain ⟨i, hi, hz0, hz1, hz2⟩ := info_parts info_sp5
    obtain ⟨is, his, hs0, hs1, hs2⟩ := info_parts info_str
    obtain ⟨ib, hib, hb0, hb1, hb2⟩ := info_parts info_bool
    obtain ⟨M, hM, hM1⟩ : ∃ M : Nat, z0 % 64 = (M : Int) ∧ M ≤ 63 := ⟨(z0 % 64).toNat, by omega, by omega⟩
    obtain ⟨N, hN, hN1⟩ : ∃ N : Nat, z1 % 64 = (N : Int) ∧ N ≤ 63 := ⟨(z1 % 64).toNat, by omega, by omega⟩
    have HFIT : Hid (∀ w', Ext w w' → _) := Lib.hid fun w' hx => fitR4_c A q c l M w' (h.ext hx) hl hs (by omega) (by omega)
    have HFIT2 : Hid (∀ w', Ext w w' → _) := Lib.hid fun w' hx => fitR4_c A' q' c' l' N w' (h'.ext hx) hl' hs' (by omega) (by omega)
    obtain ⟨f1, f2, f3, f4, f5, f6, f7⟩ := fit_all l M (by omega) (by omega)
    obtain ⟨g1, g2, g3, g4, g5, g6, g7⟩ := fit_all l' N (by omega) (by omega)
    obtain ⟨m1, _⟩ := fitL_all l (M : Int) (by omega) (by omega)
    obtain ⟨m2, _⟩ := fitL_all l' (N : Int) (by omega) (by omega)
    have t1 := fitL_text l M
    have t2 := fitL_text l' N
    generalize fitL l M = X at *
    generalize fitL l' N = Y at *
    have s1 := sumT_le X 24 t1
    have s2 := sumT_le Y 24 t2
    have hmall : ∀ s ∈ X ++ Y, mayS s.1 s.2.1 s.2.2 = 0 := fun s hs => (List.mem_append.1 hs).elim (m1 s) (m2 s)
    have hgE : gapsE (X ++ Y) = 0 := by
      unfold gapsE
      rw [if_pos (mayL_ok _ hmall (by rw [inL_append]; omega) (by rw [inL_append]; omega)), inL_append, if_neg (by omega)]
    obtain ⟨i1, x1, hx, hil⟩ := gpP_last (tok X)
    obtain ⟨y1, r1, hy⟩ := gpP_head (tok Y)
    have hj := gpP_append (tok X) (tok Y) i1 x1 y1 r1 hx hy
    have hjd := gpD_append (tok X) (tok Y)
    rw [← tok_append] at hj hjd
    have hXi := (tin_ok X f1).1
    have hYi := (tin_ok Y g1).1
    have hdX : (gpD (tok X)).length = M := by rw [gpD_length]; omega
    have hdY : (gpD (tok Y)).length = N := by rw [gpD_length]; omega
    have hpX : (gpP (tok X)).length = M + 1 := by rw [gpP_length]; omega
    have hpY : (gpP (tok Y)).length = N + 1 := by rw [gpP_length]; omega
    have hxl : i1.length = M := by omega
    have hrl : r1.length = N := by rw [hy] at hpY; simpa using hpY
    have hzX : ∀ t ∈ putC (gpP (tok X)), t.size ≤ 1000 := fun t ht => by
      obtain ⟨p, hp, rfl⟩ := List.mem_map.1 ht
      have := gpP_le _ p hp; have := insT_sum X f1
      rw [size_mkS]; omega
    have hzY : ∀ t ∈ putC (gpP (tok Y)), t.size ≤ 1000 := fun t ht => by
      obtain ⟨p, hp, rfl⟩ := List.mem_map.1 ht
      have := gpP_le _ p hp; have := insT_sum Y g1
      rw [size_mkS]; omega
    rw [hx] at hzX
    rw [hy] at hzY
    have hsx : (mkS (encs x1)).size ≤ 1000 := hzX _ (by simp [putC])
    have hsy : (mkS (encs y1)).size ≤ 1000 := hzY _ (by simp [putC])
    have hcat := cat_mk x1 y1
    have HGX : Hid (∀ A n k w', Ext w w' → RdO w' A n k X → _) := Lib.hid fun A n k w' hx hr => have hTb := tab_ext hx; (gaps_c A n k X w' hr.2 hr.1 (by have := hr.1; omega) f6 f7).mono fun e w'' h => h.ok f3 f2
    have HGY : Hid (∀ A n k w', Ext w w' → RdO w' A n k Y → _) := Lib.hid fun A n k w' hx hr => have hTb := tab_ext hx; (gaps_c A n k Y w' hr.2 hr.1 (by have := hr.1; omega) g6 g7).mono fun e w'' h => h.ok g3 g2
    have HGA : Hid (∀ A n k w', Ext w w' → RdO w' A n k (X ++ Y) → _) := Lib.hid fun A n k w' hx hr => have hTb := tab_ext hx; (gaps_c A n k (X ++ Y) w' hr.2 hr.1 (by have := hr.1; rw [List.length_append] at this; omega) (fun s hs => (List.mem_append.1 hs).elim (f6 s) (g6 s)) (by rw [sumT_append]; omega)).mono fun e w'' h => h.ok hgE (n := M + N) (by rw [inL_append]; omega)
    have hwx : wrap64 (inL X) = (M : Int) := by rw [f2]; unfold wrap64; omega
    have hwy : wrap64 (inL Y) = (N : Int) := by rw [g2]; unfold wrap64; omega
    have HIX : Hid (∀ A n k w', Ext w w' → RdO w' A n k X → Calls Tryd.prog 20 #[.slice A n k] w' fun e w'' => e = .returned (.int .i64 (M : Int)) ∧ Ext w' w'') := Lib.hid fun A n k w' hx hr => by
      have hTb := tab_ext hx
      have h := in4_c A n k X w' hr.2 hr.1 (by have := hr.1; omega); rw [hwx] at h; exact h
    have HIY : Hid (∀ A n k w', Ext w w' → RdO w' A n k Y → Calls Tryd.prog 20 #[.slice A n k] w' fun e w'' => e = .returned (.int .i64 (N : Int)) ∧ Ext w' w'') := Lib.hid fun A n k w' hx hr => by
      have hTb := tab_ext hx
      have h := in4_c A n k Y w' hr.2 hr.1 (by have := hr.1; omega); rw [hwy] at h; exact h
    rw [hj, hjd] at HGA
    rw [hx] at HGX
    rw [hy] at HGY
    generalize gpD (tok X) = DX at *
    generalize gpD (tok Y) = DY at *
    obtain ⟨I, hI⟩ : ∃ I, putC i1 = I := ⟨_, rfl⟩
    obtain ⟨R, hR⟩ : ∃ R, putC r1 = R := ⟨_, rfl⟩
    have hIl : I.length = M := by rw [← hI, putC_length]; exact hxl
    have hRl : R.length = N := by rw [← hR, putC_length]; exact hrl
    have e1 : putC (i1 ++ [x1]) = I ++ [mkS (encs x1)] := by rw [← hI]; simp [putC]
    have e2 : putC (y1 :: r1) = mkS (encs y1) :: R := by rw [← hR]; simp [putC]
    have e3 : putC (i1 ++ (x1 ++ y1) :: r1) = I ++ (mkS (encs x1) ++ mkS (encs y1)) :: R := by rw [hcat, ← hI, ← hR]; simp [putC]
    rw [e1] at HGX
    rw [e2] at HGY
    rw [e3] at HGA
    have hsb : ¬ 9223372036854775807 < (mkS (encs x1)).size + (mkS (encs y1)).size := by omega
    have HXL : Hid (X.length ≤ 13) := Lib.hid f5
    have HYL : Hid (Y.length ≤ 13) := Lib.hid g5
    have HIL := Lib.hid hIl; have HRL := Lib.hid hRl; have HDX := Lib.hid hdX; have HDY := Lib.hid hdY
    have HBX : Hid (∀ w', Ext (w.alloc (.cells #[.int .u8 z0, .int .u8 z1] 50)) w' → w'.cell? ⟨w.heap.size, 0, none⟩ = some (.int .u8 z0) ∧ w'.cell? ⟨w.heap.size, 1, none⟩ = some (.int .u8 z1)) := Lib.hid fun w' hx => ⟨box_at _ _ _ _ hx 0 _ rfl, box_at _ _ _ _ hx 1 _ rfl⟩
    clear h h' hl hl' hs hs' f1 f2 f3 f4 f5 f6 f7 g1 g2 g3 g4 g5 g6 g7 m1 m2 t1 t2 s1 s2 hmall hgE hx hil hy hj hjd hXi hYi hdX hdY hpX hpY hxl hrl hzX hzY hcat hwx hwy hI hR hIl hRl e1 e2 e3
    generalize mkS (encs x1) = SX at *
    generalize mkS (encs y1) = SY at *
    go_enter Tryd.func8, Tryd.ntmps8
    have BArr := Lib.hid (BoxG.made w #[.int .u8 z0, .int .u8 z1] 50)
    have e1 : Ext w (w.alloc (.cells #[.int .u8 z0, .int .u8 z1] 50)) := (Ext.refl _).alloc _
    go_wp2_with fail
    refine (have hTb := tab_ext e1; shown6_c _).mono ?_; rintro e w2 ⟨rfl, hx2⟩
    have e2 : Ext w w2 := e1.trans hx2
    replace BArr := Lib.hid (BArr.out.ext hx2)
    clear hx2
    have q0 : w2.cell? ⟨w.heap.size, 0, none⟩ = some (.int .u8 z0) := BArr.out.2 0 _ rfl
    go_wp2_with fail
    refine (HFIT.out _ e2).mono ?_; rintro e w3 ⟨v3, rfl, hx3, o3⟩
    have e3 : Ext w w3 := e2.trans hx3
    replace BArr := Lib.hid (BArr.out.ext hx3)
    obtain ⟨aX, nX, cX, rfl, rX⟩ := rdO_own o3
    have RX := Lib.hid rX
    clear o3 rX q0
    clear hx3
    have q1 : w3.cell? ⟨w.heap.size, 1, none⟩ = some (.int .u8 z1) := BArr.out.2 1 _ rfl
    go_wp2_with fail
    refine (HFIT2.out _ e3).mono ?_; rintro e w4 ⟨v4, rfl, hx4, o4⟩
    have e4 : Ext w w4 := e3.trans hx4
    replace BArr := Lib.hid (BArr.out.ext hx4)
    replace RX := Lib.hid (RX.out.ext hx4)
    obtain ⟨aY, nY, cY, rfl, rY⟩ := rdO_own o4
    have RY := Lib.hid rY
    clear o4 rY q1
    clear hx4
    clear BArr
    go_wp2_with fail
    refine (HGX.out _ _ _ _ e4 RX.out).mono ?_; rintro e w5 ⟨pA, pc, pB, pd, rfl, hx5, r1, r2⟩
    have e5 : Ext w w5 := e4.trans hx5
    replace RX := Lib.hid (RX.out.ext hx5)
    replace RY := Lib.hid (RY.out.ext hx5)
    have PX := Lib.hid r1; have EX := Lib.hid r2
    clear r1 r2
    clear hx5
    have BGX := Lib.hid (BoxG.made w5 #[.slice pA (M + 1) pc, .slice pB M pd] 26)
    replace RX := Lib.hid (RX.out.ext ((Ext.refl w5).alloc (.cells #[.slice pA (M + 1) pc, .slice pB M pd] 26)))
    replace RY := Lib.hid (RY.out.ext ((Ext.refl w5).alloc (.cells #[.slice pA (M + 1) pc, .slice pB M pd] 26)))
    replace PX := Lib.hid (PX.out.ext ((Ext.refl w5).alloc (.cells #[.slice pA (M + 1) pc, .slice pB M pd] 26)))
    replace EX := Lib.hid (EX.out.ext ((Ext.refl w5).alloc (.cells #[.slice pA (M + 1) pc, .slice pB M pd] 26)))
    have e6 : Ext w (w5.alloc (.cells #[.slice pA (M + 1) pc, .slice pB M pd] 26)) := e5.alloc _
    obtain ⟨BG1, hBG1⟩ : ∃ x, w5.heap.size = x := ⟨_, rfl⟩
    rw [hBG1] at BGX
    go_wp2_with fail
    refine (HGY.out _ _ _ _ e6 RY.out).mono ?_; rintro e w7 ⟨qA, qc, qB, qd, rfl, hx7, r1, r2⟩
    have e7 : Ext w w7 := e6.trans hx7
    replace RX := Lib.hid (RX.out.ext hx7)
    replace RY := Lib.hid (RY.out.ext hx7)
    replace PX := Lib.hid (PX.out.ext hx7)
    replace EX := Lib.hid (EX.out.ext hx7)
    replace BGX := Lib.hid (BGX.out.ext hx7)
    have PY := Lib.hid r1; have EY := Lib.hid r2
    clear r1 r2
    clear hx7
    have BGY := Lib.hid (BoxG.made w7 #[.slice qA (N + 1) qc, .slice qB N qd] 26)
    replace RX := Lib.hid (RX.out.ext ((Ext.refl w7).alloc (.cells #[.slice qA (N + 1) qc, .slice qB N qd] 26)))
    replace RY := Lib.hid (RY.out.ext ((Ext.refl w7).alloc (.cells #[.slice qA (N + 1) qc, .slice qB N qd] 26)))
    replace PX := Lib.hid (PX.out.ext ((Ext.refl w7).alloc (.cells #[.slice qA (N + 1) qc, .slice qB N qd] 26)))
    replace EX := Lib.hid (EX.out.ext ((Ext.refl w7).alloc (.cells #[.slice qA (N + 1) qc, .slice qB N qd] 26)))
    replace BGX := Lib.hid (BGX.out.ext ((Ext.refl w7).alloc (.cells #[.slice qA (N + 1) qc, .slice qB N qd] 26)))
    replace PY := Lib.hid (PY.out.ext ((Ext.refl w7).alloc (.cells #[.slice qA (N + 1) qc, .slice qB N qd] 26)))
    replace EY := Lib.hid (EY.out.ext ((Ext.refl w7).alloc (.cells #[.slice qA (N + 1) qc, .slice qB N qd] 26)))
    have e8 : Ext w (w7.alloc (.cells #[.slice qA (N + 1) qc, .slice qB N qd] 26)) := e7.alloc _
    obtain ⟨BG2, hBG2⟩ : ∃ x, w7.heap.size = x := ⟨_, rfl⟩
    rw [hBG2] at BGY
    have EAPP := e8
    have hlx := RX.out.1; have hly := RY.out.1
    have hXL := HXL.out; have hYL := HYL.out
    have ho0 := Own.made (w7.alloc (.cells #[.slice qA (N + 1) qc, .slice qB N qd] 26)) (w7.alloc (.cells #[.slice qA (N + 1) qc, .slice qB N qd] 26)).heap.size 29 3 0 #[] (Nat.le_refl _) (by omega) rfl
    have hb0 : Below (w7.alloc (.cells #[.slice qA (N + 1) qc, .slice qB N qd] 26)).heap.size (w7.alloc (.cells #[.slice qA (N + 1) qc, .slice qB N qd] 26)) ((w7.alloc (.cells #[.slice qA (N + 1) qc, .slice qB N qd] 26)).alloc (.cells #[] 29)) := (Ext.refl (w7.alloc (.cells #[.slice qA (N + 1) qc, .slice qB N qd] 26))).alloc _
    obtain ⟨v4, z4, happ4, hown4, hbel4⟩ := app_rd (P := Tryd.prog) 22 22 29 i _ 3 32 Tryd.underlying22 hi hz0 hz1 hz2 rfl (by omega) (by omega)
      hb0 ho0 (by omega) (RX.out.2.ext ((Ext.refl (w7.alloc (.cells #[.slice qA (N + 1) qc, .slice qB N qd] 26))).alloc _)) (by omega) (spCells_one X)
    obtain ⟨v5, z5, happ5, hown5, hbel5⟩ := app_rd (P := Tryd.prog) 22 22 29 i _ 3 32 Tryd.underlying22 hi hz0 hz1 hz2 rfl (by omega) (by omega)
      hbel4 hown4 (by omega) (RY.out.2.ext hbel4) (by omega) (spCells_one Y)
    have hcat : #[].toList ++ spCells X ++ spCells Y = spCells (X ++ Y) := by rw [spCells_append]; rfl
    rw [hcat] at hown5
    obtain ⟨a5, c5, rfl, _⟩ := hown5.len
    obtain ⟨K, hK⟩ : ∃ K, 0 + nX + nY = K := ⟨_, rfl⟩
    rw [hK] at hown5 happ5
    have HRA : Hid (RdO z5 a5 K c5 (X ++ Y)) := Lib.hid ⟨by rw [List.length_append]; omega, hown5.rd⟩
    rw [size_alloc, hBG2] at happ4
    have HAP4 := Lib.hid happ4; have HAP5 := Lib.hid happ5
    have eA : Ext w z5 := EAPP.trans hbel5
    replace RX := Lib.hid (RX.out.ext hbel5); replace RY := Lib.hid (RY.out.ext hbel5); replace PX := Lib.hid (PX.out.ext hbel5); replace EX := Lib.hid (EX.out.ext hbel5); replace PY := Lib.hid (PY.out.ext hbel5); replace EY := Lib.hid (EY.out.ext hbel5); replace BGX := Lib.hid (BGX.out.ext hbel5); replace BGY := Lib.hid (BGY.out.ext hbel5)
    clear happ4 happ5 hcat ho0 hb0 hown4 hown5 hbel4 hbel5 hK hlx hly hXL hYL EAPP
    go_wp2_with (at_builtin; first | (with_reducible refine wpList_append_run rfl rfl HAP4.out rfl rfl ?_) | (with_reducible refine wpList_append_run rfl rfl HAP5.out rfl rfl ?_))
    refine (HGA.out _ _ _ _ eA HRA.out).mono ?_; rintro e w41 ⟨tA, tc, tB, td, rfl, hx41, r1, r2⟩
    have e41 : Ext w w41 := eA.trans hx41
    replace RX := Lib.hid (RX.out.ext hx41)
    replace RY := Lib.hid (RY.out.ext hx41)
    replace PX := Lib.hid (PX.out.ext hx41)
    replace EX := Lib.hid (EX.out.ext hx41)
    replace PY := Lib.hid (PY.out.ext hx41)
    replace EY := Lib.hid (EY.out.ext hx41)
    replace BGX := Lib.hid (BGX.out.ext hx41)
    replace BGY := Lib.hid (BGY.out.ext hx41)
    have PA := Lib.hid r1; have EA := Lib.hid r2
    clear r1 r2
    clear hx41
    have BGA := Lib.hid (BoxG.made w41 #[.slice tA (M + N + 1) tc, .slice tB (M + N) td] 26)
    replace RX := Lib.hid (RX.out.ext ((Ext.refl w41).alloc (.cells #[.slice tA (M + N + 1) tc, .slice tB (M + N) td] 26)))
    replace RY := Lib.hid (RY.out.ext ((Ext.refl w41).alloc (.cells #[.slice tA (M + N + 1) tc, .slice tB (M + N) td] 26)))
    replace PX := Lib.hid (PX.out.ext ((Ext.refl w41).alloc (.cells #[.slice tA (M + N + 1) tc, .slice tB (M + N) td] 26)))
    replace EX := Lib.hid (EX.out.ext ((Ext.refl w41).alloc (.cells #[.slice tA (M + N + 1) tc, .slice tB (M + N) td] 26)))
    replace PY := Lib.hid (PY.out.ext ((Ext.refl w41).alloc (.cells #[.slice tA (M + N + 1) tc, .slice tB (M + N) td] 26)))
    replace EY := Lib.hid (EY.out.ext ((Ext.refl w41).alloc (.cells #[.slice tA (M + N + 1) tc, .slice tB (M + N) td] 26)))
    replace BGX := Lib.hid (BGX.out.ext ((Ext.refl w41).alloc (.cells #[.slice tA (M + N + 1) tc, .slice tB (M + N) td] 26)))
    replace BGY := Lib.hid (BGY.out.ext ((Ext.refl w41).alloc (.cells #[.slice tA (M + N + 1) tc, .slice tB (M + N) td] 26)))
    replace PA := Lib.hid (PA.out.ext ((Ext.refl w41).alloc (.cells #[.slice tA (M + N + 1) tc, .slice tB (M + N) td] 26)))
    replace EA := Lib.hid (EA.out.ext ((Ext.refl w41).alloc (.cells #[.slice tA (M + N + 1) tc, .slice tB (M + N) td] 26)))
    have e42 : Ext w (w41.alloc (.cells #[.slice tA (M + N + 1) tc, .slice tB (M + N) td] 26)) := e41.alloc _
    obtain ⟨BG3, hBG3⟩ : ∃ x, w41.heap.size = x := ⟨_, rfl⟩
    rw [hBG3] at BGA
    obtain ⟨W0, hW0⟩ : ∃ x, (w41.alloc (.cells #[.slice tA (M + N + 1) tc, .slice tB (M + N) td] 26)) = x := ⟨_, rfl⟩
    have E0 := e42
    rw [hW0] at RX RY PX EX PY EY BGX BGY PA EA BGA E0
    have q0 : W0.cell? ⟨BG1, 0, none⟩ = some (.slice pA (M + 1) pc) := BGX.out.2 0 _ rfl
    have q1 : W0.cell? ⟨BG1, 1, none⟩ = some (.slice pB M pd) := BGX.out.2 1 _ rfl
    have q2 : W0.cell? ⟨BG2, 0, none⟩ = some (.slice qA (N + 1) qc) := BGY.out.2 0 _ rfl
    have q3 : W0.cell? ⟨BG2, 1, none⟩ = some (.slice qB N qd) := BGY.out.2 1 _ rfl
    have n1 := succ_beq M
    have n2 := succ_beq N
    have hpc := rd_len_le PX.out
    have j0 := cast_nn M
    have j1 := cast_le_of hpc
    have hrI := rd_str_front PX.out HIL.out
    have HA1 : Hid (∀ (V : World) (g : Nat), Ext W0 V → _) := Lib.hid fun V g hx => appS_e (V := V) (g := g) hrI (Nat.le_trans hM1 (by decide)) hx
    have HA2 : Hid (∀ (V : World) (g : Nat), Ext W0 V → _) := Lib.hid fun V g hx => appB_e (V := V) (g := g) EX.out (Nat.le_trans hM1 (by decide)) hx
    have HA3 : Hid (∀ (V : World) (v : Value), OwnE V W0.heap.size 4 1 v M (DX.map Value.bool) → Ext W0 V → _) := Lib.hid fun V v ho hx => appB_o EY.out (Nat.le_trans hM1 (by decide)) (Nat.le_trans hN1 (by decide)) ho hx
    have HKS : Hid (∀ V, Ext W0 V → Ext W0 V ∧ V.cell? ⟨BG1, 0, none⟩ = some (.slice pA (M + 1) pc) ∧ V.cell? ⟨BG1, 1, none⟩ = some (.slice pB M pd) ∧ V.cell? ⟨BG2, 1, none⟩ = some (.slice qB N qd)) := Lib.hid fun V hx => ⟨hx, ext_cell hx q0, ext_cell hx q1, ext_cell hx q3⟩
    
    clear hrI
    go_wp2_with fail
    go_cut [17] from 80 (fun p wr => ∃ (K : Nat) (vP vG : Value), p = .pointer (some ⟨K, 0, none⟩) ∧ RowK wr K W0.heap.size #[vP, vG] 26 ∧ OwnE wr W0.heap.size 9 1 vP M (I.map Value.string) ∧ OwnE wr W0.heap.size 4 1 vG (M + N) ((DX ++ DY).map Value.bool) ∧ Ext W0 wr)
    case first =>
      have hxx := Ext.refl W0
      try clear hw; try clear hz; try clear HFIT; try clear HFIT2; try clear HIX; try clear HIY; try clear HGX; try clear HGY; try clear HGA; try clear HXL; try clear HYL; try clear HIL; try clear HRL; try clear HDX; try clear HDY; try clear HBX; try clear RX; try clear RY; try clear PX; try clear EX; try clear PY; try clear EY; try clear BGX; try clear BGY; try clear PA; try clear EA; try clear BGA; try clear hW0; try clear hBG1; try clear hBG2; try clear hBG3; try clear hM; try clear hN; try clear HAP4; try clear HAP5; try clear HRA; try clear hz0; try clear hz1; try clear hz2; try clear hi; try clear hs0; try clear hs1; try clear hs2; try clear his; try clear hb0; try clear hb1; try clear hb2; try clear hib; try clear e1; try clear e2; try clear e3; try clear e4; try clear e5; try clear e6; try clear e7; try clear e8; try clear eA; try clear e41; try clear e42; try clear E0; try clear hsx; try clear hsy; try clear hsb; try clear q2; try clear a0; try clear a1; try clear b0; try clear b1
    
      go_region_held3 (fun V => Ext W0 V ∧ V.cell? ⟨BG1, 0, none⟩ = some (.slice pA (M + 1) pc) ∧ V.cell? ⟨BG1, 1, none⟩ = some (.slice pB M pd) ∧ V.cell? ⟨BG2, 1, none⟩ = some (.slice qB N qd))
        ((go_split_ands; apply HKS.out; first | exact hxw | (exact Ext.drew ‹_›) | (exact Ext.alloc ‹_› _) | (exact Below.setCell (Below.setCell ‹_› hK.2 _) hK.2 _) | (exact Below.setCell ‹_› hK.2 _)))
        (first
        | ((refine step_app1 (by rfl) (.tmp 80) (.tmp 84) 23 (by rfl) ?_); (refine ex_app (v := .slice (some ⟨_, 0, none⟩) 0 0) (y := .slice pA M pc) (by rfl) (by rfl) (HA1.out _ _ ?_) ?_); (go_split_ands; assumption); (rintro vP wP ⟨hP, hxk⟩); (obtain ⟨aP, cP, rfl, _⟩ := hP.len); (have hxw : Ext W0 wP := Ext.trans (by go_split_ands; assumption) hxk); (first | (replace hK := rowk_on hK (by (repeat (with_reducible first | assumption | exact Ext.refl _ | apply Ext.drew | apply Ext.alloc))) (hxk.others 4) (by decide)) | (have hK := rowk_new (e := 26) (by (repeat (with_reducible first | assumption | exact Ext.refl _ | apply Ext.drew | apply Ext.alloc))) (hxk.others 4) (by decide) (W0 := W0) (by (repeat (with_reducible first | assumption | exact Ext.refl _ | apply Ext.drew | apply Ext.alloc)))) | skip); (try simp only [size_alloc, size_drewJ] at hK); (try replace hG2 := (hG2.ext (by (repeat (with_reducible first | assumption | exact Ext.refl _ | apply Ext.drew | apply Ext.alloc)))).ext hxk); (try replace hG3 := (hG3.ext (by (repeat (with_reducible first | assumption | exact Ext.refl _ | apply Ext.drew | apply Ext.alloc)))).ext hxk); (try have c0 := rowk_cell hK 0); (try have c1 := rowk_cell hK 1); (try have c2 := rowk_free hK 0); (try have c3 := rowk_free hK 1))
        | ((refine step_app1 (by rfl) (.tmp 86) (.tmp 88) 24 (by rfl) ?_); (refine ex_app (v := .slice (some ⟨_, 0, none⟩) 0 0) (y := .slice pB M pd) (by rfl) (by rfl) (HA2.out _ _ ?_) ?_); (go_split_ands; assumption); (rintro vG wG ⟨hG2, hxk⟩); (obtain ⟨aG, cG, rfl, _⟩ := hG2.len); (have hxw : Ext W0 wG := Ext.trans (by go_split_ands; assumption) hxk); (first | (replace hK := rowk_on hK (by (repeat (with_reducible first | assumption | exact Ext.refl _ | apply Ext.drew | apply Ext.alloc))) (hxk.others 4) (by decide)) | (have hK := rowk_new (e := 26) (by (repeat (with_reducible first | assumption | exact Ext.refl _ | apply Ext.drew | apply Ext.alloc))) (hxk.others 4) (by decide) (W0 := W0) (by (repeat (with_reducible first | assumption | exact Ext.refl _ | apply Ext.drew | apply Ext.alloc)))) | skip); (try simp only [size_alloc, size_drewJ] at hK); (try replace hP := (hP.ext (by (repeat (with_reducible first | assumption | exact Ext.refl _ | apply Ext.drew | apply Ext.alloc)))).ext hxk))
        | ((refine step_app1 (by rfl) (.tmp 89) (.tmp 91) 24 (by rfl) ?_); (refine ex_app (v := .slice aG M cG) (y := .slice qB N qd) (by rfl) (by rfl) (HA3.out _ _ ?_ ?_) ?_); (exact hG2.ext (by (repeat (with_reducible first | assumption | exact Ext.refl _ | apply Ext.drew | apply Ext.alloc)))); (go_split_ands; assumption); (rintro vH wH ⟨hG3, hxw, hnb⟩); (obtain ⟨aH, cH, rfl, _⟩ := hG3.len); (first | (replace hK := rowk_on hK (by (repeat (with_reducible first | assumption | exact Ext.refl _ | apply Ext.drew | apply Ext.alloc))) hnb (by decide)) | (have hK := rowk_new (e := 26) (by (repeat (with_reducible first | assumption | exact Ext.refl _ | apply Ext.drew | apply Ext.alloc))) hnb (by decide) (W0 := W0) (by (repeat (with_reducible first | assumption | exact Ext.refl _ | apply Ext.drew | apply Ext.alloc)))) | skip); (try simp only [size_alloc, size_drewJ] at hK); (try replace hP := hnb.ownE (by decide) (hP.ext (by (repeat (with_reducible first | assumption | exact Ext.refl _ | apply Ext.drew | apply Ext.alloc))))); (try have c0 := rowk_cell hK 0); (try have c1 := rowk_cell hK 1); (try have c2 := rowk_free hK 0); (try have c3 := rowk_free hK 1))
        | fail)
      all_goals
        go_wp2_with fail
        go_meet
        case rel => first | exact joinA hxw hP hG3 hxw.size | exact joinB (by decide) (by decide) hK hxw hP hG3 hK.2
    case rest =>
      obtain ⟨KB, vP, vG, rfl, hK, hP, hG, hx11⟩ := hcut
      obtain ⟨aP, cP, rfl, _⟩ := hP.len
      obtain ⟨aG, cG, rfl, _⟩ := hG.len
      have hrd1 := PX.out; have hrd2 := PY.out
      obtain ⟨b1, f1, rfl, hb1, s1⟩ := rd_last1 hrd1 HIL.out
      obtain ⟨b2, f2, rfl, hb2, s2⟩ := rd_head1 hrd2
      have hqc := rd_len_le hrd2
      have hrt := rd_tail1 hrd2 hqc
      obtain ⟨AD, hAD⟩ : ∃ AD : Option Addr, (if qc = 1 then some ⟨b2, f2, none⟩ else some ⟨b2, f2 + 1, none⟩) = AD := ⟨_, rfl⟩
      rw [hAD] at hrt
      have HKS : Hid (∀ V, Ext W0 V → RowK V KB W0.heap.size #[.slice aP M cP, .slice aG (M + N) cG] 26 → (fun V => Ext W0 V ∧ V.cell? ⟨KB, 0, none⟩ = some (.slice aP M cP) ∧ V.cell? ⟨BG1, 0, none⟩ = some (.slice (some ⟨b1, f1, none⟩) (M + 1) pc) ∧ V.cell? ⟨BG2, 0, none⟩ = some (.slice (some ⟨b2, f2, none⟩) (N + 1) qc) ∧ V.cell? ⟨b1, f1 + M, none⟩ = some (.string SX) ∧ V.cell? ⟨b2, f2, none⟩ = some (.string SY) ∧ V.frozen? ⟨KB, 0, none⟩ = false) V) := Lib.hid fun V hx hk => ⟨hx, rowk_cell hk 0, ext_cell hx q0, ext_cell hx q2, ext_cell hx s1, ext_cell hx s2, rowk_free hk 0⟩
      have HRT := Lib.hid hrt; have HK11 := Lib.hid hK; have HP11 := Lib.hid hP; have HG11 := Lib.hid hG
      have i0 := cast_nn M; have i1 := cast_lt_succ M; have i2 := pos_succ N; have i3 := one_le_succ N
      have HX11 := Lib.hid hx11
      clear hrd1 hrd2 hrt hK hP hG HA1 HA2 HA3 hM hN hBG1 hBG2 hBG3 hW0 q0 q1 q2 q3 s1 s2 hx11 j1 hpc
      go_wp2_with fail
      refine region_T (fun V => Ext W0 V ∧ V.cell? ⟨KB, 0, none⟩ = some (.slice aP M cP) ∧ V.cell? ⟨BG1, 0, none⟩ = some (.slice (some ⟨b1, f1, none⟩) (M + 1) pc) ∧ V.cell? ⟨BG2, 0, none⟩ = some (.slice (some ⟨b2, f2, none⟩) (N + 1) qc) ∧ V.cell? ⟨b1, f1 + M, none⟩ = some (.string SX) ∧ V.cell? ⟨b2, f2, none⟩ = some (.string SY) ∧ V.frozen? ⟨KB, 0, none⟩ = false) 19 (by kernel_rfl) (HKS.out _ HX11.out.drew HK11.out) (fun hHeld => ?_)
      refine wpAnyT_take (i := 0) (v := ?_) rfl (by kernel_rfl) (fun _ _ _ h => h) (Or.inl ⟨by rfl, ?_⟩) (by assumption) ?_
      rotate_left
      · (intro W hSw; (try dsimp only at hSw); go_simp; (try with_reducible rfl))
      try simp only [Act.put, List.setIfInBounds_toArray, List.set_cons_zero, List.set_cons_succ]
      refine wpAnyT_take (i := 1) (v := ?_) rfl (by kernel_rfl) (fun _ _ _ h => h) (Or.inl ⟨by rfl, ?_⟩) (by assumption) ?_
      rotate_left
      · (intro W hSw; (try dsimp only at hSw); go_simp; (try with_reducible rfl))
      try simp only [Act.put, List.setIfInBounds_toArray, List.set_cons_zero, List.set_cons_succ]
      refine wpAnyT_take (i := 2) (v := ?_) rfl (by kernel_rfl) (fun _ _ _ h => h) (Or.inl ⟨by rfl, ?_⟩) (by assumption) ?_
      rotate_left
      · (intro W hSw; (try dsimp only at hSw); go_simp; (try with_reducible rfl))
      try simp only [Act.put, List.setIfInBounds_toArray, List.set_cons_zero, List.set_cons_succ]
      refine wpAnyT_take (i := 3) (v := ?_) rfl (by kernel_rfl) (fun _ _ _ h => h) (Or.inl ⟨by rfl, ?_⟩) (by assumption) ?_
      rotate_left
      · (intro W hSw; (try dsimp only at hSw); go_simp; (try with_reducible rfl))
      try simp only [Act.put, List.setIfInBounds_toArray, List.set_cons_zero, List.set_cons_succ]
      refine wpAnyT_take (i := 4) (v := ?_) rfl (by kernel_rfl) (fun _ _ _ h => h) (Or.inl ⟨by rfl, ?_⟩) (by assumption) ?_
      rotate_left
      · (intro W hSw; (try dsimp only at hSw); go_simp; (try with_reducible rfl))
      try simp only [Act.put, List.setIfInBounds_toArray, List.set_cons_zero, List.set_cons_succ]
      refine wpAnyT_take (i := 5) (v := ?_) rfl (by kernel_rfl) (fun _ _ _ h => h) (Or.inl ⟨by rfl, ?_⟩) (by assumption) ?_
      rotate_left
      · (intro W hSw; (try dsimp only at hSw); go_simp; (try with_reducible rfl))
      try simp only [Act.put, List.setIfInBounds_toArray, List.set_cons_zero, List.set_cons_succ]
      refine wpAnyT_take (i := 6) (v := ?_) rfl (by kernel_rfl) (fun _ _ _ h => h) (Or.inl ⟨by rfl, ?_⟩) (by assumption) ?_
      rotate_left
      · (intro W hSw; (try dsimp only at hSw); go_simp; (try with_reducible rfl))
      try simp only [Act.put, List.setIfInBounds_toArray, List.set_cons_zero, List.set_cons_succ]
      refine wpAnyT_take (i := 7) (v := ?_) rfl (by kernel_rfl) (fun _ _ _ h => h) (Or.inl ⟨by rfl, ?_⟩) (by assumption) ?_
      rotate_left
      · (intro W hSw; (try dsimp only at hSw); go_simp; (try with_reducible rfl))
      try simp only [Act.put, List.setIfInBounds_toArray, List.set_cons_zero, List.set_cons_succ]
      refine wpAnyT_take (i := 8) (v := ?_) rfl (by kernel_rfl) (fun _ _ _ h => h) (Or.inl ⟨by rfl, ?_⟩) (by assumption) ?_
      rotate_left
      · (intro W hSw; (try dsimp only at hSw); go_simp; (try with_reducible rfl))
      try simp only [Act.put, List.setIfInBounds_toArray, List.set_cons_zero, List.set_cons_succ]
      refine wpAnyT_take (i := 9) (v := ?_) rfl (by kernel_rfl) (fun _ _ _ h => h) (Or.inl ⟨by rfl, ?_⟩) (by assumption) ?_
      rotate_left
      · (intro W hSw; (try dsimp only at hSw); go_simp; (try with_reducible rfl))
      try simp only [Act.put, List.setIfInBounds_toArray, List.set_cons_zero, List.set_cons_succ]
      refine wpAnyT_take (i := 10) (v := ?_) rfl (by kernel_rfl) (fun _ _ _ h => h) (Or.inl ⟨by rfl, ?_⟩) (by assumption) ?_
      rotate_left
      · (intro W hSw; (try dsimp only at hSw); go_simp; (try with_reducible rfl))
      try simp only [Act.put, List.setIfInBounds_toArray, List.set_cons_zero, List.set_cons_succ]
      refine wpAnyT_take (i := 11) (v := ?_) rfl (by kernel_rfl) (fun _ _ _ h => h) (Or.inl ⟨by rfl, ?_⟩) (by assumption) ?_
      rotate_left
      · (intro W hSw; (try dsimp only at hSw); go_simp; (try with_reducible rfl))
      try simp only [Act.put, List.setIfInBounds_toArray, List.set_cons_zero, List.set_cons_succ]
      refine wpAnyT_take (i := 14) (v := ?_) rfl (by kernel_rfl) (fun _ _ _ h => h) (Or.inl ⟨by rfl, ?_⟩) (by assumption) ?_
      rotate_left
      · (intro W hSw; (try dsimp only at hSw); go_simp; (try with_reducible rfl))
      try simp only [Act.put, List.setIfInBounds_toArray, List.set_cons_zero, List.set_cons_succ]
      refine wpAnyT_take (i := 15) (v := ?_) rfl (by kernel_rfl) (fun _ _ _ h => h) (Or.inl ⟨by rfl, ?_⟩) (by assumption) ?_
      rotate_left
      · (intro W hSw; (try dsimp only at hSw); go_simp; (try with_reducible rfl))
      try simp only [Act.put, List.setIfInBounds_toArray, List.set_cons_zero, List.set_cons_succ]
      refine wpAnyT_take (i := 16) (v := ?_) rfl (by kernel_rfl) (fun _ _ _ h => h) (Or.inl ⟨by rfl, ?_⟩) (by assumption) ?_
      rotate_left
      · (intro W hSw; (try dsimp only at hSw); go_simp; (try with_reducible rfl))
      try simp only [Act.put, List.setIfInBounds_toArray, List.set_cons_zero, List.set_cons_succ]
      refine wpAnyT_one (i := 12) rfl (by kernel_rfl) (fun K hK => ?_)
      go_simp
      refine hK.out _ _ (fun _ => HKS.out _ (HX11.out.drew.alloc _) (rowk_on HK11.out ((Ext.refl _).drew.alloc _) (Others.refl _ 9) (by decide))) (fun hH => ?_)
      replace hHeld := hH (by decide)
      clear hK K hH
      try simp only [Act.put, List.setIfInBounds_toArray, List.set_cons_zero, List.set_cons_succ]
      refine wpAnyT_one (i := 13) rfl (by kernel_rfl) (fun K hK => ?_)
      have hk12 := rowk_on (t := 9) HK11.out ((Ext.refl wc).drew.alloc (.cells #[.string (SX ++ SY)] 9)) (Others.refl _ _) (by decide)
      have ho12 := HP11.out.ext ((Ext.refl wc).drew.alloc (.cells #[.string (SX ++ SY)] 9))
      have hx12 := HX11.out.drew.alloc (.cells #[.string (SX ++ SY)] 9)
      have hg12 := HG11.out.ext ((Ext.refl wc).drew.alloc (.cells #[.string (SX ++ SY)] 9))
      (refine step_app1 (by rfl) (.tmp 95) (.tmp 106) 23 (by rfl) ?_); (refine ex_app (v := .slice aP M cP) (y := .slice (some ⟨_, 0, none⟩) 1 1) (by rfl) (by rfl) (appS_o (DX := I) (DY := [SX ++ SY]) (rd_made wc.drew _ _ rfl _ _ (Ext.refl _) rfl (by decide)) (Nat.le_trans hM1 (by decide)) (by decide) ho12 hx12) ?_)
      rintro v13 w13 ⟨ho13, hx13, hn13⟩
      obtain ⟨a13, c13, rfl, _⟩ := ho13.len
      have hk13 := rowk_on hk12 (Ext.refl _) hn13 (by decide)
      have hg13 := hn13.ownE (by decide) hg12
      refine hK.out _ _ (fun _ => HKS.out _ hx13 hk13) (fun hH => ?_)
      replace hHeld := hH (by decide)
      clear hK K hH
      try simp only [Act.put, List.setIfInBounds_toArray, List.set_cons_zero, List.set_cons_succ]
      refine wpAnyT_one (i := 17) rfl (by kernel_rfl) (fun K hK => ?_)
      (refine step_app1 (by rfl) (.tmp 107) (.tmp 110) 23 (by rfl) ?_); (refine ex_app (v := .slice a13 (M + 1) c13) (y := .slice AD N (qc - 1)) (by rfl) (by rfl) (appS_o (HRT.out.ext hx13) (Nat.le_trans (Nat.succ_le_succ hM1) (by decide)) (Nat.le_trans hN1 (by decide)) ho13 hx13) ?_)
      rintro v17 w17 ⟨ho17, hx17, hn17⟩
      obtain ⟨a17, c17, rfl, _⟩ := ho17.len
      have hk17 := rowk_on hk13 (Ext.refl _) hn17 (by decide)
      have hg17 := hn17.ownE (by decide) hg13
      refine hK.out _ _ (fun _ => HKS.out _ hx17 hk17) (fun hH => ?_)
      replace hHeld := hH (by decide)
      clear hK K hH
      try simp only [Act.put, List.setIfInBounds_toArray, List.set_cons_zero, List.set_cons_succ]
      refine wpAnyT_take (i := 18) (v := ?_) rfl (by kernel_rfl) (fun _ _ _ h => h) (Or.inl ⟨by rfl, ?_⟩) (by assumption) ?_
      rotate_left
      · (intro W hSw; (try dsimp only at hSw); go_simp; (try with_reducible rfl))
      try simp only [Act.put, List.setIfInBounds_toArray, List.set_cons_zero, List.set_cons_succ]
      refine wpAnyT_one (i := 19) rfl (by kernel_rfl) (fun K hK => ?_)
      obtain ⟨z0', z1', z2', z3', z4', z5', z6'⟩ := id hHeld
      go_simp
      refine hK.out _ _ (fun h => absurd rfl h) (fun _ => ?_)
      clear hK K hHeld
      try simp only [Act.put, List.setIfInBounds_toArray, List.set_cons_zero, List.set_cons_succ]
      refine wpAnyT_done (by kernel_rfl) ?_ _
      go_wp2_with fail
      have hr12 := heap_setCell_same w17 KB 0 _ 26 (.slice a17 (M + 1 + N) c17) hk17.1
      have ho2 := ownE_cell_other (a := ⟨KB, 0, none⟩) ho17 hk17.1 (by decide) (.slice a17 (M + 1 + N) c17)
      have hg2 := ownE_cell_other (a := ⟨KB, 0, none⟩) hg17 hk17.1 (by decide) (.slice a17 (M + 1 + N) c17)
      have hx2 : Ext W0 (w17.setCell ⟨KB, 0, none⟩ (.slice a17 (M + 1 + N) c17)) := Below.setCell hx17 hk17.2 _
      clear hk17 hg17 ho17 hn17 hn13 hk13 hg13 ho13 hg12 ho12 hk12 hx12
      generalize w17.setCell ⟨KB, 0, none⟩ (.slice a17 (M + 1 + N) c17) = W2 at *
      have y0 : W2.cell? ⟨KB, 0, none⟩ = some (.slice a17 (M + 1 + N) c17) := by rw [cell_of_row W2 KB 0 _ _ (0, 0) hr12]; rfl
      have y1 : W2.cell? ⟨KB, 1, none⟩ = some (.slice aG (M + N) cG) := by rw [cell_of_row W2 KB 1 _ _ (0, 0) hr12]; rfl
      have y2 : W2.cell? ⟨BG3, 0, none⟩ = some (.slice tA (M + N + 1) tc) := ext_cell hx2 (BGA.out.2 0 _ rfl)
      have y3 : W2.cell? ⟨BG3, 1, none⟩ = some (.slice tB (M + N) td) := ext_cell hx2 (BGA.out.2 1 _ rfl)
      have HSM : Hid (∀ V, Ext W2 V → _) := Lib.hid fun V hx => same_join hM1 hN1 HIL.out HRL.out (by rw [List.length_append, HDX.out, HDY.out]) (PA.out.ext hx2) (EA.out.ext hx2) ho2.rd hg2.rd hx
      have EW2 := Lib.hid (E0.trans hx2)
      have RX2 := Lib.hid (RX.out.ext hx2); have RY2 := Lib.hid (RY.out.ext hx2)
      have hws := wrap_sum2 hM1 hN1
      have hrr := Ext.refl W2
      clear hr12 ho2 hg2 hx2 hx13 hx17 E0
      go_region_held3 (fun V => Ext W2 V ∧ V.cell? ⟨KB, 0, none⟩ = some (.slice a17 (M + 1 + N) c17) ∧ V.cell? ⟨KB, 1, none⟩ = some (.slice aG (M + N) cG) ∧ V.cell? ⟨BG3, 0, none⟩ = some (.slice tA (M + N + 1) tc) ∧ V.cell? ⟨BG3, 1, none⟩ = some (.slice tB (M + N) td))
        ((go_split_ands; refine ⟨?_, ?_, ?_, ?_, ?_⟩ <;> first | (exact Ext.drew ‹_›) | (exact Ext.trans ‹_› hxk) | (exact ext_cell hxk ‹_›) | go_keep))
        (first
        | (go_at_call_of 15 tA; go_split_ands; refine (HSM.out _ ‹Ext W2 _›).mono ?_; rintro e wA ⟨rfl, hxk⟩)
        | (go_at_call_of 20 aX; go_split_ands; refine (HIX.out _ _ _ _ (EW2.out.trans ‹Ext W2 _›) (RX2.out.ext ‹Ext W2 _›)).mono ?_; rintro e wB ⟨rfl, hxk⟩)
        | (go_at_call_of 20 aY; go_split_ands; refine (HIY.out _ _ _ _ (EW2.out.trans ‹Ext W2 _›) (RY2.out.ext ‹Ext W2 _›)).mono ?_; rintro e wC ⟨rfl, hxk⟩)
        | fail)
      go_split_ands
      go_wp2_with fail
      go_ret
      exact ⟨rfl, EW2.out.trans (by first | assumption | exact Ext.trans ‹Ext W2 _› hxk)⟩
end Go.Proofs.YtelepadnbgcbnaaDoor
