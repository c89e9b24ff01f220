/- Layer 12, the program's small functions: sideOf, puts, piece, itself, kept, meet, may. -/
import Derived.Laws.EntriesVeiled
import Derived.Test.YtfjiookndleaeaaDoorP11
import Derived.Test.YtfjiookndleaeaaDoorNu
namespace Go.Proofs.YtfjiookndleaeaaDoor
open Go.RowKit
set_option maxRecDepth 100000
set_option maxHeartbeats 4000000
set_option linter.unusedSimpArgs false
theorem BxT.get {t : TypeId} {W : World} {B : Nat} {v : Array Value} (h : BxT t W B v) (i : Nat) : W.cell? ⟨B, i, none⟩ = v[i]? := by
  simp [World.cell?, show W.heap[B]? = _ from h]
/-- A row reads as it did, where its block is as it was. -/
theorem rdO_heap {A B : World} {q c : Nat} {a : Option Addr} {l : List Sp} (hr : RdO A a q c l) (hs : A.heap.size ≤ B.heap.size) (h : 0 < q → ∀ b o, a = some ⟨b, o, none⟩ → B.heap[b]? = A.heap[b]?) : RdO B a q c l := by
  obtain ⟨hl, h1, A', c', hv, hc, h2⟩ := hr
  refine ⟨hl, h1, A', c', hv, hc, fun hn => ?_⟩
  obtain ⟨b, off, hA, hb, hcell⟩ := h2 hn
  injection hv with e1 e2 e3
  subst e1
  refine ⟨b, off, hA, Nat.lt_of_lt_of_le hb hs, fun j u hu => ?_⟩
  rw [World.cell?_of_block (a := ⟨b, off + j, none⟩) (h hn b off hA)]
  exact hcell j u hu
/-- The number of a row's first span is turned. -/
theorem rdO_turn {W : World} {u o q c : Nat} {k n : Int} {t : ByteArray} {l : List Sp} {cs : Array Value} {T : TypeId} (hr : RdO W (some ⟨u, o, none⟩) (q + 1) c ((k, n, t) :: l)) (hb : BxT T W u cs) (m : Int) :
    RdO (W.setCell ⟨u, o + 1, none⟩ (.int .i64 m)) (some ⟨u, o, none⟩) (q + 1) c ((k, m, t) :: l) := by
  have hb2 := hb.set (o + 1) (.int .i64 m)
  obtain ⟨hl, h1, A', c', hv, hc, h2⟩ := hr
  refine ⟨hl, h1, A', c', hv, hc, fun hn => ?_⟩
  obtain ⟨b, off, hA, hbb, hcell⟩ := h2 hn
  injection hv with e1 e2 e3
  subst e1
  injection hA with hA
  injection hA with e4 e5
  subst e4; subst e5
  refine ⟨u, o, rfl, by simpa [World.setCell] using hbb, fun j v hj => ?_⟩
  rw [hb2.get, Array.getElem?_setIfInBounds]
  have hg : ∀ i v, (spCells ((k, n, t) :: l))[i]? = some v → cs[o + i]? = some v := fun i v hi => by rw [← hb.get]; exact hcell i v hi
  rcases j with _ | _ | j
  · rw [if_neg (by omega)]; exact hg 0 v (by simpa [spCells] using hj)
  · have h3 := hg 1 _ (by simp [spCells]; rfl)
    have hlt : o + 1 < cs.size := (Array.getElem?_eq_some_iff.1 h3).1
    rw [if_pos (by omega), if_pos hlt]
    simpa [spCells] using hj
  · rw [if_neg (by omega)]; exact hg (j + 1 + 1) v (by simpa [spCells] using hj)
/-- A side: its box, its row, and the block in which that lies. -/
structure Sd (W : World) (lo hi x y u : Nat) (A : Option Addr) (q c : Nat) (l : List Sp) (F : Value) : Prop where
  box : BxT 96 W x #[.slice A q c, F]
  row : RdO W A q c l
  blk : 0 < q → (∃ o, A = some ⟨u, o, none⟩) ∧ lo ≤ u ∧ u < hi ∧ u ≠ x ∧ u ≠ y ∧ ∃ cs, BxT 48 W u cs
theorem Sd.heap {W W' : World} {lo hi x y u : Nat} {A : Option Addr} {q c : Nat} {l : List Sp} {F : Value} (h : Sd W lo hi x y u A q c l F) (hs : W.heap.size ≤ W'.heap.size) (hx : W'.heap[x]? = W.heap[x]?) (hu : 0 < q → W'.heap[u]? = W.heap[u]?) : Sd W' lo hi x y u A q c l F := by
  refine ⟨hx.trans h.box, rdO_heap h.row hs fun hq b o hA => ?_, fun hq => ?_⟩
  · obtain ⟨⟨o', h1⟩, _⟩ := h.blk hq
    rw [h1] at hA
    injection hA with hA
    injection hA with e1
    subst e1
    exact hu hq
  · obtain ⟨h1, h2, h3, h4, h5, cs, h6⟩ := h.blk hq
    exact ⟨h1, h2, h3, h4, h5, cs, (hu hq).trans h6⟩
theorem Sd.ext {W W' : World} {lo hi x y u : Nat} {A : Option Addr} {q c : Nat} {l : List Sp} {F : Value} (h : Sd W lo hi x y u A q c l F) (hx : Ext W W') : Sd W' lo hi x y u A q c l F :=
  h.heap hx.size (hx.block x h.box.lt) fun hq => by obtain ⟨_, _, _, _, _, cs, h6⟩ := h.blk hq; exact hx.block u h6.lt
theorem Sd.below {W W' : World} {n lo hi x y u : Nat} {A : Option Addr} {q c : Nat} {l : List Sp} {F : Value} (h : Sd W lo hi x y u A q c l F) (hx : Below n W W') (hh : hi ≤ n) (hn : x < n) : Sd W' lo hi x y u A q c l F :=
  h.heap hx.size (hx.block x hn) fun hq => hx.block u (by obtain ⟨_, _, h3, _⟩ := h.blk hq; omega)
theorem Sd.ks {W W' : World} {lo hi x y u p r : Nat} {A : Option Addr} {q c : Nat} {l : List Sp} {F : Value} (h : Sd W lo hi x y u A q c l F) (hk : KS W.heap.size p r W W') (h1 : x ≠ p) (h2 : x ≠ r) (h3 : 0 < q → u ≠ p) (h4 : 0 < q → u ≠ r) : Sd W' lo hi x y u A q c l F :=
  h.heap hk.size (hk.block x h.box.lt h1 h2) fun hq => hk.block u (by obtain ⟨_, _, _, _, _, cs, h6⟩ := h.blk hq; exact h6.lt) (h3 hq) (h4 hq)
/-- How many spans are left. -/
def leftU (x : Nat) (w : World) : Nat := match w.cell? ⟨x, 0, none⟩ with | some (.slice _ n _) => n | _ => 0
theorem Sd.left {W : World} {lo hi x y u : Nat} {A : Option Addr} {q c : Nat} {l : List Sp} {F : Value} (h : Sd W lo hi x y u A q c l F) : leftU x W = l.length := by
  have c0 : W.cell? ⟨x, 0, none⟩ = some (.slice A q c) := h.box.cell rfl
  unfold leftU
  rw [c0]; exact h.row.1.symm
theorem putsU_c (lo hi x y u : Nat) (A : Option Addr) (q c : Nat) (l : List Sp) (F : Value) (W : World) (h : Sd W lo hi x y u A q c l F) :
    Calls Tryd.prog 83 #[.pointer (some ⟨x, 0, none⟩)] W fun e W' => e = .returned (.bool (decide ((hdS l).1 = 2))) ∧ W' = W := by
  have c0 : W.cell? ⟨x, 0, none⟩ = some (.slice A q c) := h.box.cell rfl
  have hl := h.row.1
  cases l with
  | nil =>
    simp only [List.length_nil] at hl
    subst hl
    have e : decide ((hdS []).1 = 2) = false := rfl
    rw [e]
    clear h
    go_enter Tryd.func83, Tryd.ntmps83
    go_wp2_with fail
    go_ret
    exact ⟨rfl, rfl⟩
  | cons s r =>
    simp only [List.length_cons] at hl
    obtain ⟨m, hm⟩ : ∃ m, r.length = m := ⟨_, rfl⟩
    rw [hm] at hl
    subst hl
    obtain ⟨b, o, rfl, hbb, q0, q1, q2⟩ := sp_at h.row.2 h.row.1 (show 0 < m + 1 by omega)
    simp only [List.getElem_cons_zero, Nat.zero_mul, Nat.add_zero] at q0 q1 q2
    obtain ⟨s1, s2, s3⟩ := s
    simp only at q0 q1 q2
    have y2 : (0 : Int) < (m : Int) + 1 := by omega
    have e : decide ((hdS ((s1, s2, s3) :: r)).1 = 2) = decide (s1 = 2) := rfl
    rw [e]
    have e2 : decide (s1 = 2) = (s1 == 2) := by
      by_cases hk : s1 = 2
      · subst hk; rfl
      · rw [decide_eq_false hk]; exact (beq_eq_false_iff_ne.2 hk).symm
    rw [e2]
    clear h hm e e2
    go_enter Tryd.func83, Tryd.ntmps83
    go_wp2_with fail
    go_ret
    exact ⟨rfl, rfl⟩
theorem sideOf_c (A : Option Addr) (q c : Nat) (l : List Sp) (g : FuncId) (w : World) (h : RdO w A q c l) (hq : q ≤ 1000) (ho : Ok l) :
    Calls Tryd.prog 52 #[.slice A q c, .func (.func g) #[] #[]] w fun e w' => Ext w w' ∧ ∃ x u A' q' c', e = .returned (.pointer (some ⟨x, 0, none⟩)) ∧ w.heap.size ≤ x ∧ x < w'.heap.size ∧ (0 < q' → u < x) ∧ (0 < q' → w.heap.size ≤ u) ∧
      BxT 96 w' x #[.slice A' q' c', .func (.func g) #[] #[]] ∧ RdO w' A' q' c' (normL l) ∧ (0 < q' → (∃ o, A' = some ⟨u, o, none⟩) ∧ ∃ cs, BxT 48 w' u cs) := by
  have HN : Hid (∀ w', Ext w w' → _) := Lib.hid fun w' hx => of5_c A q c l w' (h.2.ext hx) h.1 (by omega) ho
  clear h ho
  go_enter Tryd.func52, Tryd.ntmps52
  go_wp2_with fail
  refine (HN.out _ (Ext.refl _)).mono ?_; rintro e w1 ⟨v, rfl, hx1, o1⟩
  have HO1 := Lib.hid o1
  obtain ⟨a1, n1, c1, rfl, r1⟩ := rdO_own o1
  have hE := (Ext.refl w1).alloc (.cells #[.slice a1 n1 c1, .func (.func g) #[] #[]] 96)
  have hR := BxT.new w1 96 #[.slice a1 n1 c1, .func (.func g) #[] #[]]
  clear o1
  go_wp2_with fail
  go_ret
  have hu : ∃ u, 0 < n1 → u < w1.heap.size ∧ w.heap.size ≤ u ∧ (∃ o, a1 = some ⟨u, o, none⟩) ∧ ∃ cs, BxT 48 w1 u cs := by
    rcases HO1.out.1.2 with ⟨h1, _⟩ | ⟨g, cap, cur, hv, hg, hh, _⟩
    · injection h1 with _ h2 _
      exact ⟨0, fun h => by omega⟩
    · injection hv with e1 e2 e3
      exact ⟨g, fun _ => ⟨(Array.getElem?_eq_some_iff.1 hh).1, hg, ⟨0, e1⟩, cur, hh⟩⟩
  obtain ⟨u, hu⟩ := hu
  exact ⟨hx1.trans hE, w1.heap.size, u, a1, n1, c1, rfl, hx1.size, by simp, fun h => (hu h).1, fun h => (hu h).2.1, hR, r1.ext hE, fun h => ⟨(hu h).2.2.1, by obtain ⟨cs, hc⟩ := (hu h).2.2.2; exact ⟨cs, hc.ext hE⟩⟩⟩
theorem keptU_c (k n : Int) (t : ByteArray) (N : Nat) (w : World) [Tab w] (ht : t.size ≤ 1000000000) (hN : outL [(k, n, t)] = (N : Int)) (hb : N ≤ 1000000000) :
    Calls Tryd.prog 54 #[.agg #[.int .i64 k, .int .i64 n, .string t]] w fun e w' => e = .returned (.agg #[.int .i64 1, .int .i64 (N : Int), .string ⟨#[]⟩]) ∧ Ext w w' := by
  have HO : Hid (∀ w' B, Ext w w' → Rd w' 3 (.slice (some ⟨B, 0, none⟩) 1 1) 1 (spCells [(k, n, t)]) → Calls Tryd.prog 21 #[.slice (some ⟨B, 0, none⟩) 1 1] w' fun e w'' => e = .returned (.int .i64 (N : Int)) ∧ Ext w' w'') := Lib.hid fun w' B hx hr => by
    have hTb := tab_ext hx
    have h := out4_c (some ⟨B, 0, none⟩) 1 1 [(k, n, t)] w' hr rfl (by omega) (fun s hs => by rw [List.mem_singleton] at hs; subst hs; exact ht)
    rw [hN, show wrap64 (N : Int) = (N : Int) by unfold wrap64; omega] at h
    exact h
  clear hN
  have hw := (((Ext.refl w).alloc (.cells #[.int .i64 k, .int .i64 n, .string t] 48)).alloc (.cells #[.int .i64 0, .int .i64 0, .string ⟨#[]⟩] 48)).alloc (.cells #[.int .i64 k, .int .i64 n, .string t] 48)
  have b0 := ((BxT.new (w.alloc (.cells #[.int .i64 k, .int .i64 n, .string t] 48)) 48 #[.int .i64 0, .int .i64 0, .string ⟨#[]⟩]).ext ((Ext.refl _).alloc (.cells #[.int .i64 k, .int .i64 n, .string t] 48)))
  rw [size_alloc] at b0
  have hr : Rd (((w.alloc (.cells #[.int .i64 k, .int .i64 n, .string t] 48)).alloc (.cells #[.int .i64 0, .int .i64 0, .string ⟨#[]⟩] 48)).alloc (.cells #[.int .i64 k, .int .i64 n, .string t] 48)) 3 (.slice (some ⟨w.heap.size + 1 + 1, 0, none⟩) 1 1) 1 (spCells [(k, n, t)]) := rd_made3 (by rw [size_alloc, size_alloc]) (Ext.refl _)
  go_enter Tryd.func54, Tryd.ntmps54
  go_wp2_with fail
  refine (HO.out _ _ hw hr).mono ?_; rintro e w1 ⟨rfl, hx1⟩
  have n0 := b0.ext hx1
  have k0 : w1.cell? ⟨w.heap.size + 1, 0, none⟩ = some (.int .i64 0) := n0.cell rfl; have k1 : w1.cell? ⟨w.heap.size + 1, 1, none⟩ = some (.int .i64 0) := n0.cell rfl; have k2 : w1.cell? ⟨w.heap.size + 1, 2, none⟩ = some (.string ⟨#[]⟩) := n0.cell rfl
  have f0 := n0.frozen 0; have f1 := n0.frozen 1; have f2 := n0.frozen 2
  have HN0 := Lib.hid n0; have HX := Lib.hid (hw.trans hx1)
  clear n0 b0 hw hr hx1
  go_wp2_with fail
  have h1 := ((HN0.out.set 0 (.int .i64 1)).set 1 (.int .i64 (N : Int))).set 2 (.string ⟨#[]⟩)
  refine bodyPost_ret (results_cell_row rfl _ _ (w.heap.size + 1) _ _ (0, 0) _ rfl h1 Tryd.underlying48 rfl (by kernel_rfl)) rfl ?_
  exact ⟨rfl, ext_set (ext_set (ext_set HX.out ⟨w.heap.size + 1, 0, none⟩ _ (Nat.le_succ _)) ⟨w.heap.size + 1, 1, none⟩ _ (Nat.le_succ _)) ⟨w.heap.size + 1, 2, none⟩ _ (Nat.le_succ _)⟩
theorem meetU_c (g t : Sp) (W : World) :
    Calls Tryd.prog 85 #[.agg #[.int .i64 g.1, .int .i64 g.2.1, .string g.2.2], .agg #[.int .i64 t.1, .int .i64 t.2.1, .string t.2.2]] W fun e W' =>
      e = .returned (if t.1 = 3 then .agg #[.int .i64 1, .int .i64 0, .string ⟨#[]⟩] else .agg #[.int .i64 g.1, .int .i64 g.2.1, .string g.2.2]) ∧ Ext W W' := by
  obtain ⟨g1, g2, g3⟩ := g
  obtain ⟨t1, t2, t3⟩ := t
  have hx := ((Ext.refl W).alloc (.cells #[.int .i64 g1, .int .i64 g2, .string g3] 48)).alloc (.cells #[.int .i64 t1, .int .i64 t2, .string t3] 48)
  simp only
  by_cases h1 : t1 = 3
  · subst h1
    rw [if_pos rfl]
    have hz := hx.alloc (.cells #[.int .i64 1, .int .i64 0, .string ⟨#[]⟩] 48)
    have hb := BxT.new ((W.alloc (.cells #[.int .i64 g1, .int .i64 g2, .string g3] 48)).alloc (.cells #[.int .i64 3, .int .i64 t2, .string t3] 48)) 48 #[.int .i64 1, .int .i64 0, .string ⟨#[]⟩]
    rw [size_alloc, size_alloc] at hb
    go_enter Tryd.func85, Tryd.ntmps85
    go_wp2_with fail
    refine bodyPost_ret (results_cell_row rfl _ _ (W.heap.size + 1 + 1) _ _ (0, 0) _ rfl hb Tryd.underlying48 rfl (by kernel_rfl)) rfl ?_
    exact ⟨rfl, hz⟩
  · rw [if_neg h1]
    have hb2 : (t1 == 3) = false := by rw [beq_eq_false_iff_ne]; exact h1
    have hz := hx.alloc (.cells #[.int .i64 g1, .int .i64 g2, .string g3] 48)
    have hb := BxT.new ((W.alloc (.cells #[.int .i64 g1, .int .i64 g2, .string g3] 48)).alloc (.cells #[.int .i64 t1, .int .i64 t2, .string t3] 48)) 48 #[.int .i64 g1, .int .i64 g2, .string g3]
    rw [size_alloc, size_alloc] at hb
    clear h1
    go_enter Tryd.func85, Tryd.ntmps85
    go_wp2_with fail
    refine bodyPost_ret (results_cell_row rfl _ _ (W.heap.size + 1 + 1) _ _ (0, 0) _ rfl hb Tryd.underlying48 rfl (by kernel_rfl)) rfl ?_
    exact ⟨rfl, hz⟩
theorem mayU_c (A : Option Addr) (q c : Nat) (a : List Sp) (B : Option Addr) (q' c' : Nat) (b : List Sp) (w : World) [Tab w] (h : RdO w A q c a) (h' : RdO w B q' c' b) (hq : q ≤ 1000) (hq' : q' ≤ 1000)
    (hta : ∀ s ∈ a, s.2.2.size ≤ 1000000000) (htb : ∀ s ∈ b, s.2.2.size ≤ 1000000000) :
    Calls Tryd.prog 50 #[.slice A q c, .slice B q' c'] w fun e w' => e = .returned (.int .i64 (overE a b)) ∧ Ext w w' := by
  have HMA : Hid (∀ w', Ext w w' → _) := Lib.hid fun w' hx => have hTb := tab_ext hx; may4_c A q c a w' (h.2.ext hx) h.1 hq hta
  have HMB : Hid (∀ w', Ext w w' → _) := Lib.hid fun w' hx => have hTb := tab_ext hx; may4_c B q' c' b w' (h'.2.ext hx) h'.1 hq' htb
  have HIA : Hid (∀ w', Ext w w' → _) := Lib.hid fun w' hx => have hTb := tab_ext hx; in4_c A q c a w' (h.2.ext hx) h.1 hq
  have HIB : Hid (∀ w', Ext w w' → _) := Lib.hid fun w' hx => have hTb := tab_ext hx; in4_c B q' c' b w' (h'.2.ext hx) h'.1 hq'
  by_cases hma : mayL a = 0
  · by_cases hmb : mayL b = 0
    · obtain ⟨alla, ai0, ai1⟩ := mayL_all hma (by have := h.1; omega)
      obtain ⟨allb, bi0, bi1⟩ := mayL_all hmb (by have := h'.1; omega)
      have hwo : wrap64 (inL a) = inL a := by unfold wrap64; omega
      have hwi : wrap64 (inL b) = inL b := by unfold wrap64; omega
      rw [hma] at HMA; rw [hmb] at HMB; rw [hwo] at HIA; rw [hwi] at HIB
      obtain ⟨E, hE⟩ : ∃ E, overE a b = E := ⟨_, rfl⟩
      rw [hE]
      have hcase : (inL a = inL b ∧ E = 0 ∧ (inL a != inL b) = false) ∨ (inL a ≠ inL b ∧ E = 5 ∧ (inL a != inL b) = true) := by
        rw [← hE]; unfold overE; rw [if_pos hma, if_pos hmb]
        by_cases hf : inL a = inL b
        · exact .inl ⟨hf, if_pos hf, by rw [hf]; simp⟩
        · exact .inr ⟨hf, if_neg hf, by rw [bne_iff_ne]; exact hf⟩
      clear h h' hta htb hma hmb alla allb hwo hwi hE ai0 ai1 bi0 bi1
      generalize inL b = IB at *
      generalize inL a = OA at *
      rcases hcase with ⟨hf, rfl, hbq⟩ | ⟨hf, rfl, hbq⟩
      · subst hf
        go_enter Tryd.func50, Tryd.ntmps50
        go_wp2_with fail
        refine (HMA.out _ (Ext.refl _)).mono ?_; rintro e w1 ⟨rfl, hx1⟩
        go_wp2_with fail
        refine (HMB.out _ hx1).mono ?_; rintro e w2 ⟨rfl, hx2⟩
        go_wp2_with fail
        refine (HIA.out _ (hx1.trans hx2)).mono ?_; rintro e w3 ⟨rfl, hx3⟩
        go_wp2_with fail
        refine (HIB.out _ ((hx1.trans hx2).trans hx3)).mono ?_; rintro e w4 ⟨rfl, hx4⟩
        go_wp2_with fail
        go_ret
        exact ⟨rfl, ((hx1.trans hx2).trans hx3).trans hx4⟩
      · have hb2 : (OA == IB) = false := by rw [beq_eq_false_iff_ne]; exact hf
        go_enter Tryd.func50, Tryd.ntmps50
        go_wp2_with fail
        refine (HMA.out _ (Ext.refl _)).mono ?_; rintro e w1 ⟨rfl, hx1⟩
        go_wp2_with fail
        refine (HMB.out _ hx1).mono ?_; rintro e w2 ⟨rfl, hx2⟩
        go_wp2_with fail
        refine (HIA.out _ (hx1.trans hx2)).mono ?_; rintro e w3 ⟨rfl, hx3⟩
        go_wp2_with fail
        refine (HIB.out _ ((hx1.trans hx2).trans hx3)).mono ?_; rintro e w4 ⟨rfl, hx4⟩
        go_wp2_with fail
        go_ret
        exact ⟨rfl, ((hx1.trans hx2).trans hx3).trans hx4⟩
    · have hE : overE a b = mayL b := by unfold overE; rw [if_pos hma, if_neg hmb]
      rw [hma] at HMA
      have hb : (mayL b != 0) = true := by rw [bne_iff_ne]; exact hmb
      have hb2 : (mayL b == 0) = false := by rw [beq_eq_false_iff_ne]; exact hmb
      rw [hE]
      clear h h' hta htb hma hmb hE
      generalize mayL b = MB at *
      go_enter Tryd.func50, Tryd.ntmps50
      go_wp2_with fail
      refine (HMA.out _ (Ext.refl _)).mono ?_; rintro e w1 ⟨rfl, hx1⟩
      go_wp2_with fail
      refine (HMB.out _ hx1).mono ?_; rintro e w2 ⟨rfl, hx2⟩
      go_wp2_with fail
      go_ret
      exact ⟨rfl, hx1.trans hx2⟩
  · have hE : overE a b = mayL a := by unfold overE; rw [if_neg hma]
    have hb : (mayL a != 0) = true := by rw [bne_iff_ne]; exact hma
    have hb2 : (mayL a == 0) = false := by rw [beq_eq_false_iff_ne]; exact hma
    rw [hE]
    clear h h' hta htb hma hE
    generalize mayL a = MA at *
    go_enter Tryd.func50, Tryd.ntmps50
    go_wp2_with fail
    refine (HMA.out _ (Ext.refl _)).mono ?_; rintro e w1 ⟨rfl, hx1⟩
    go_wp2_with fail
    go_ret
    exact ⟨rfl, hx1⟩
theorem itselfU_c (k n : Int) (t : ByteArray) (w : World) :
    Calls Tryd.prog 53 #[.agg #[.int .i64 k, .int .i64 n, .string t]] w fun e w' => e = .returned (.agg #[.int .i64 k, .int .i64 n, .string t]) ∧ Ext w w' := by
  go_enter Tryd.func53, Tryd.ntmps53
  go_wp2_with fail
  have hx := ((Ext.refl w).alloc (.cells #[.int .i64 k, .int .i64 n, .string t] 48)).alloc (.cells #[.int .i64 k, .int .i64 n, .string t] 48)
  have hb := BxT.new (w.alloc (.cells #[.int .i64 k, .int .i64 n, .string t] 48)) 48 #[.int .i64 k, .int .i64 n, .string t]
  rw [size_alloc] at hb
  refine bodyPost_ret (results_cell_row rfl _ _ (w.heap.size + 1) _ _ (0, 0) _ rfl hb Tryd.underlying48 rfl (by kernel_rfl)) rfl ?_
  exact ⟨rfl, hx⟩
/-- What piece leaves. -/
def PiecedU (lo hi x y u : Nat) (L : List Sp) (F : Value) (W W' : World) : Prop := KS W.heap.size x u W W' ∧ ∃ A' q' c', Sd W' lo hi x y u A' q' c' L F
theorem pieceUE_c (lo hi x y u : Nat) (k n : Int) (t : ByteArray) (A : Option Addr) (q c : Nat) (l : List Sp) (F : Value) (W : World) (h : Sd W lo hi x y u A q c ((k, n, t) :: l) F) :
    Calls Tryd.prog 84 #[.pointer (some ⟨x, 0, none⟩), .int .i64 n] W fun e W' => e = .returned (.agg #[.int .i64 k, .int .i64 n, .string t]) ∧ PiecedU lo hi x y u l F W W' := by
  have hl := h.row.1
  simp only [List.length_cons] at hl
  obtain ⟨m, hm⟩ : ∃ m, l.length = m := ⟨_, rfl⟩
  rw [hm] at hl
  subst hl
  obtain ⟨⟨o, rfl⟩, hlo, hhi, hux, huy, cs, hcs⟩ := h.blk (Nat.succ_pos m)
  obtain ⟨b, o', hA, hbb, q0, q1, q2⟩ := sp_at h.row.2 h.row.1 (show 0 < m + 1 by omega)
  injection hA with hA
  injection hA with e1 e2
  subst e1; subst e2
  simp only [List.getElem_cons_zero, Nat.zero_mul, Nat.add_zero] at q0 q1 q2
  have hcc : m + 1 ≤ c := by obtain ⟨_, _, hv, hc⟩ := h.row.2.len; injection hv with _ _ e; omega
  have hrest := rdO_behind h.row
  obtain ⟨AD, hAD⟩ : ∃ AD : Option Addr, (if c = 1 then some ⟨u, o, none⟩ else some ⟨u, o + 1 * 3, none⟩) = AD := ⟨_, rfl⟩
  have hblk : ∃ o', AD = some ⟨u, o', none⟩ := by rw [← hAD]; split <;> exact ⟨_, rfl⟩
  rw [hAD] at hrest
  simp only [Nat.one_mul] at hAD
  have HRE := Lib.hid hrest
  have HBX := Lib.hid h.box; have HBL := Lib.hid hblk; have HU := Lib.hid hcs
  have HF := Lib.hid (And.intro hlo (And.intro hhi (And.intro hux huy)))
  have c0 : W.cell? ⟨x, 0, none⟩ = some (.slice (some ⟨u, o, none⟩) (m + 1) c) := h.box.cell rfl
  have hlt := h.box.lt
  have hltu := hcs.lt
  have y0 : (1 : Int) ≤ (m : Int) + 1 := by omega
  have y1 : (m : Int) + 1 ≤ (c : Int) := by omega
  have y2 : (0 : Int) < (m : Int) + 1 := by omega
  have f0 := h.box.frozen 0
  clear h hm hrest hblk hcs hlo hhi hux huy
  have hw := (Ext.refl W).alloc (.cells #[.int .i64 0, .int .i64 0, .string ⟨#[]⟩] 48)
  have d0 := ext_cell hw q0; have d1 := ext_cell hw q1; have d2 := ext_cell hw q2; have dc := ext_cell hw c0
  have hw2 := hw.alloc (.cells #[.int .i64 k, .int .i64 n, .string t] 48)
  have g0 := ext_cell hw2 q0; have g1 := ext_cell hw2 q1; have g2 := ext_cell hw2 q2; have gc := ext_cell hw2 c0
  go_enter Tryd.func84, Tryd.ntmps84
  go_wp2_with fail
  have E2 : Ext (W.setCell ⟨x, 0, none⟩ (.slice AD m (c - 1))) (((W.setCell ⟨x, 0, none⟩ (.slice AD m (c - 1))).alloc (.cells #[.int .i64 k, .int .i64 n, .string t] 48)).alloc (.cells #[.int .i64 k, .int .i64 n, .string t] 48)) := ((Ext.refl _).alloc _).alloc _
  have hsz : (W.setCell ⟨x, 0, none⟩ (.slice AD m (c - 1))).heap.size = W.heap.size := by simp [World.setCell]
  have b0 := (BxT.new (W.setCell ⟨x, 0, none⟩ (.slice AD m (c - 1))) 48 #[.int .i64 k, .int .i64 n, .string t]).ext ((Ext.refl _).alloc (.cells #[.int .i64 k, .int .i64 n, .string t] 48))
  rw [hsz] at b0
  obtain ⟨z1, z2, z3, z4⟩ := HF.out
  have hub := Below.heap_setCell W ⟨x, 0, none⟩ (.slice AD m (c - 1)) u z3
  refine bodyPost_ret (results_cell_row rfl _ _ W.heap.size _ _ (0, 0) _ rfl b0 Tryd.underlying48 rfl (by kernel_rfl)) rfl ?_
  refine ⟨rfl, ((KS.refl W.heap.size x u W).set ⟨x, 0, none⟩ _ (.inl rfl)).ext E2 (Nat.le_refl _), AD, m, c - 1, Sd.ext ⟨HBX.out.set 0 (.slice AD m (c - 1)), rdO_heap HRE.out (by rw [hsz]; exact Nat.le_refl _) (fun _ b o' hA => ?_), fun _ => ⟨HBL.out, z1, z2, z3, z4, cs, hub.trans HU.out⟩⟩ E2⟩
  obtain ⟨o2, ho2⟩ := HBL.out
  rw [ho2] at hA
  injection hA with hA
  injection hA with e1
  subst e1
  exact hub
theorem pieceUL_c (lo hi x y u : Nat) (k : Int) (N M : Nat) (A : Option Addr) (q c : Nat) (l : List Sp) (F : Value) (W : World) (h : Sd W lo hi x y u A q c ((k, (N : Int), ⟨#[]⟩) :: l) F) (hM : M < N) (hN : N ≤ 2000000000) :
    Calls Tryd.prog 84 #[.pointer (some ⟨x, 0, none⟩), .int .i64 (M : Int)] W fun e W' => e = .returned (.agg #[.int .i64 k, .int .i64 (M : Int), .string ⟨#[]⟩]) ∧ PiecedU lo hi x y u ((k, (N : Int) - (M : Int), ⟨#[]⟩) :: l) F W W' := by
  have hl := h.row.1
  simp only [List.length_cons] at hl
  obtain ⟨m, hm⟩ : ∃ m, l.length = m := ⟨_, rfl⟩
  rw [hm] at hl
  subst hl
  obtain ⟨⟨o, rfl⟩, hlo, hhi, hux, huy, cs, hcs⟩ := h.blk (Nat.succ_pos m)
  obtain ⟨b, o', hA, hbb, q0, q1, q2⟩ := sp_at h.row.2 h.row.1 (show 0 < m + 1 by omega)
  injection hA with hA
  injection hA with e1 e2
  subst e1; subst e2
  simp only [List.getElem_cons_zero, Nat.zero_mul, Nat.add_zero] at q0 q1 q2
  obtain ⟨D, hD⟩ : ∃ D, N - M = D := ⟨_, rfl⟩
  have hDi : (N : Int) - (M : Int) = (D : Int) := by omega
  have hDw : IntKind.i64.wrap ((N : Int) - (M : Int)) = (D : Int) := by rw [IntKind.wrap_i64]; omega
  have hd0 : D ≤ 2000000000 := by omega
  have hturn := rdO_turn h.row hcs (D : Int)
  rw [← hDi] at hturn
  have HTU := Lib.hid hturn
  have HBX := Lib.hid h.box; have HU := Lib.hid hcs
  have HF := Lib.hid (And.intro hlo (And.intro hhi (And.intro hux huy)))
  have c0 : W.cell? ⟨x, 0, none⟩ = some (.slice (some ⟨u, o, none⟩) (m + 1) c) := h.box.cell rfl
  have hlt := h.box.lt
  have hltu := hcs.lt
  have y2 : (0 : Int) < (m : Int) + 1 := by omega
  have ht : ((M : Int) == (N : Int)) = false := by rw [beq_eq_false_iff_ne]; omega
  have f1 := hcs.frozen (o + 1)
  have HDI := Lib.hid hDi
  clear h hm hcs hlo hhi hux huy hturn hD hDi hM
  have hw := (Ext.refl W).alloc (.cells #[.int .i64 0, .int .i64 0, .string ⟨#[]⟩] 48)
  have d0 := ext_cell hw q0; have d1 := ext_cell hw q1; have d2 := ext_cell hw q2; have dc := ext_cell hw c0
  have hw2 := hw.alloc (.cells #[.int .i64 k, .int .i64 (N : Int), .string ⟨#[]⟩] 48)
  have g0 := ext_cell hw2 q0; have g1 := ext_cell hw2 q1; have g2 := ext_cell hw2 q2; have gc := ext_cell hw2 c0
  go_enter Tryd.func84, Tryd.ntmps84
  go_wp2_with fail
  have E2 : Ext (W.setCell ⟨u, o + 1, none⟩ (.int .i64 (D : Int))) (((W.setCell ⟨u, o + 1, none⟩ (.int .i64 (D : Int))).alloc (.cells #[.int .i64 k, .int .i64 (M : Int), .string ⟨#[]⟩] 48)).alloc (.cells #[.int .i64 k, .int .i64 (N : Int), .string ⟨#[]⟩] 48)) := ((Ext.refl _).alloc _).alloc _
  have hsz : (W.setCell ⟨u, o + 1, none⟩ (.int .i64 (D : Int))).heap.size = W.heap.size := by simp [World.setCell]
  have b0 := (BxT.new (W.setCell ⟨u, o + 1, none⟩ (.int .i64 (D : Int))) 48 #[.int .i64 k, .int .i64 (M : Int), .string ⟨#[]⟩]).ext ((Ext.refl _).alloc (.cells #[.int .i64 k, .int .i64 (N : Int), .string ⟨#[]⟩] 48))
  rw [hsz] at b0
  obtain ⟨z1, z2, z3, z4⟩ := HF.out
  refine bodyPost_ret (results_cell_row rfl _ _ W.heap.size _ _ (0, 0) _ rfl b0 Tryd.underlying48 rfl (by kernel_rfl)) rfl ?_
  rw [HDI.out] at HTU
  rw [HDI.out]
  exact ⟨rfl, ((KS.refl W.heap.size x u W).set ⟨u, o + 1, none⟩ _ (.inr (.inl rfl))).ext E2 (Nat.le_refl _), some ⟨u, o, none⟩, m + 1, c, Sd.ext ⟨HBX.out.other ⟨u, o + 1, none⟩ (Ne.symm z3) _, HTU.out, fun _ => ⟨⟨o, rfl⟩, z1, z2, z3, z4, _, HU.out.set (o + 1) _⟩⟩ E2⟩
end Go.Proofs.YtfjiookndleaeaaDoor
