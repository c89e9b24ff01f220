/- Layer 16, ChainSpoilt. -/
import Derived.Test.YtejgkhmpmnjgaaaDoorL16i
namespace Go.Proofs.YtejgkhmpmnjgaaaDoor
open Go.RowKit
set_option maxRecDepth 100000
set_option maxHeartbeats 4000000
set_option linter.unusedSimpArgs false
theorem size_append16 (a b : ByteArray) : (a ++ b).size = a.size + b.size := by rw [← bs_length, bs_append, List.length_append, bs_length, bs_length]
theorem sumTT_set16 (ls : List (List Sp)) (k : Nat) (x : List Sp) : sumTT (ls.set k x) ≤ sumTT ls + sumT x := by
  induction ls generalizing k with
  | nil => simp [sumTT]
  | cons a r ih =>
    have e : ∀ (b : List Sp) (t : List (List Sp)), sumTT (b :: t) = sumT b + sumTT t := fun b t => by simp [sumTT]
    cases k with
    | zero => rw [List.set_cons_zero, e, e]; omega
    | succ k => rw [List.set_cons_succ, e, e]; have := ih k; omega
theorem wpAnyT_two {P : Program} {ops : Array Oper} {Q : Exit → Act → World → Prop} {md : Region.Mode} {S : World → Prop} {m : Nat} {i j : Nat} {o p : Oper} {fuel : Nat} {listed : Array Bool} {a : Act} {w : World} (ho : ops[i]? = some o) (hp : ops[j]? = some p) (hr : Region.ready md ops listed = [i, j])
    (h1 : ∀ K : Act → World → Prop, Shut (∀ a w, (i ≠ m → S w) → ((i ≠ m → S w) → wpAnyT P md ops Q S m fuel (listed.setIfInBounds i true) a w) → K a w) → if Region.wanted o (yielded ops a.tmps) = true then Oper.wp P o a w K Q else K (a.put o.dst undef) w)
    (h2 : ∀ K : Act → World → Prop, Shut (∀ a w, (j ≠ m → S w) → ((j ≠ m → S w) → wpAnyT P md ops Q S m fuel (listed.setIfInBounds j true) a w) → K a w) → if Region.wanted p (yielded ops a.tmps) = true then Oper.wp P p a w K Q else K (a.put p.dst undef) w) :
    wpAnyT P md ops Q S m (fuel + 1) listed a w :=
  ⟨fun h0 => (by rw [h0] at hr; cases hr), fun k hk => by
    rw [hr] at hk
    rcases (by simpa using hk : k = i ∨ k = j) with e | e
    · subst e
      exact wpOp_step ho fun K' hK => h1 K' fun a w hS hW => hK a w ⟨hS, hW hS⟩
    · subst e
      exact wpOp_step hp fun K' hK => h2 K' fun a w hS hW => hK a w ⟨hS, hW hS⟩⟩
theorem nV_set16 (l : List Int) (j : Nat) (x : Int) : (nV l).set j (.int .i64 x) = nV (l.set j x) := by unfold nV; rw [List.map_set]
theorem own_block16 {w : World} {B : Nat} {e : TypeId} {size n c g : Nat} {xs : List Value} (h : Own w B e size (.slice (some ⟨g, 0, none⟩) n c) n xs) : ∃ cur f, w.heap[g]? = some (.cells cur e f) := by
  rcases h.1.2 with ⟨h2, _⟩ | ⟨g', cap, cur, hv, hb, hg, _⟩
  · cases h2
  · injection hv with e1 e2 e3
    injection e1 with e1
    injection e1 with e1
    subst e1
    exact ⟨_, _, hg⟩
theorem own_ne_box16 {w : World} {B : Nat} {e t : TypeId} {size n c g y : Nat} {xs : List Value} {vs : Array Value} (h : Own w B e size (.slice (some ⟨g, 0, none⟩) n c) n xs) (hb : BxT t w y vs) (hne : t ≠ e) : y ≠ g := by
  rintro rfl
  obtain ⟨cur, f, hg⟩ := own_block16 h
  rw [show w.heap[y]? = _ from hb] at hg
  injection hg with hg
  injection hg with _ he
  exact hne he
theorem OwnSS.base {w : World} {B : Nat} {tS tE : TypeId} {v : Value} {ls : List (List Sp)} (h : OwnSS w B tS tE v ls) : B ≤ w.heap.size := by obtain ⟨_, h, _⟩ := h; exact h.2
theorem chainSpoilt_c (s : ByteArray) (A : Option Addr) (n c : Nat) (ls : List (List Sp)) (z : List Int) (w : World) [Tab w] (hs : s.size ≤ maxLen) (h : RdSS w A n c ls) (hls : ∀ l ∈ ls, ∀ x ∈ l, x.2.2.size ≤ maxLen) (hz : z.length = 2) (hw : ∀ i ∈ z, (Lit.int .u8 i).wf = true) :
    Calls Tryd.prog 5 #[.string s, .slice A n c, .agg (z.map (Value.int .u8)).toArray] w fun e w' => e = .returned (.bool true) ∧ Ext w w' := by
  match z, hz with
  | [z0, z1], _ =>
    obtain ⟨n0, n1⟩ := bounds_u8 (hw z0 (by simp))
    obtain ⟨o0, o1⟩ := bounds_u8 (hw z1 (by simp))
    show Calls Tryd.prog 5 #[.string s, .slice A n c, .agg #[.int .u8 z0, .int .u8 z1]] w _
    obtain ⟨S, FR, FL, hF, hfit⟩ := fitO16 s A n c ls w hs h hls
    have HSH := Lib.hid (fun w' (hx : Ext w w') => have hTb := tab_ext hx; shown16_c w')
    have HFI := Lib.hid hfit
    have HF := Lib.hid hF
    obtain ⟨FN, hFN⟩ : ∃ n, FL.length = n := ⟨_, rfl⟩
    have h20 := hF.n20
    rw [hFN] at HFI h20
    have HFN := Lib.hid hFN
    have HFR : Hid (FR.length = FN + 1) := Lib.hid (by rw [hF.rev, revL_len, hFN])
    have HSS := Lib.hid hF.txt
    have HSF : Hid ((⟨#[255]⟩ : ByteArray).size = 1) := Lib.hid rfl
    have s0 := hF.sm
    have hok := hF.ok
    obtain ⟨x5, hx5⟩ : ∃ x, w.heap.size = x := ⟨_, rfl⟩
    obtain ⟨W1, hW1⟩ : ∃ V, w.alloc (.cells #[.int .u8 z0, .int .u8 z1] 41) = V := ⟨_, rfl⟩
    have hX1 : Ext w W1 := by rw [← hW1]; exact (Ext.refl w).alloc _
    have HZB := Lib.hid (show BxT 41 W1 x5 #[.int .u8 z0, .int .u8 z1] by rw [← hW1, ← hx5]; exact BxT.new w 41 _)
    have HW1 := Lib.hid hW1; have HX1 := Lib.hid hx5; have E1 := Lib.hid hX1
    clear hW1 hx5 hX1
    have HMY : Hid (∀ V, Ext w V → ∀ {x : Nat} {A : Option Addr} {nn c : Nat} {B : Option Addr} {mm d : Nat} {S' : ByteArray} {R' : List Int} {L' : List (List Sp)}, LogB V x A nn c B mm d S' R' L' → SmL S' R' L' → ∀ E : Int, logE S' R' L' = E → Calls Tryd.prog 15 #[.agg #[.string S', .slice A nn c, .slice B mm d]] V fun e w' => e = .returned (.int .i64 E) ∧ Ext V w') := Lib.hid fun V hx _ _ _ _ _ _ _ S' R' L' hl hsm E hE => by
      have hTb := tab_ext hx
      have h := mayP16_c _ _ _ _ _ _ S' R' L' V hl.rev hl.seg hsm
      rw [hE] at h; exact h
    rcases Nat.eq_zero_or_pos FN with hz0 | hpos
    · subst hz0
      have HM0 : Hid (∀ V, Ext w V → ∀ {x A nn c B d}, LogB V x A nn c B 0 d S FR FL → Calls Tryd.prog 15 #[.agg #[.string S, .slice A nn c, .slice B 0 d]] V fun e w' => e = .returned (.int .i64 0) ∧ Ext V w') := Lib.hid fun V hx _ _ _ _ _ _ hl => by
        have hTb := tab_ext hx
        have h := mayP16_c _ _ _ _ _ _ S FR FL V hl.rev hl.seg s0
        rw [hok] at h; exact h
      clear h hls hs hfit hF hFN s0 hok
      go_enter Tryd.func5, Tryd.ntmps5
      go_wp2_with fail
      rw [HW1.out, HX1.out]
      refine (HSH.out _ E1.out).mono ?_; rintro e w1 ⟨rfl, hx1⟩
      have e1 : Ext w w1 := E1.out.trans hx1
      replace HZB := Lib.hid (HZB.out.ext hx1)
      clear hx1
      go_wp2_with fail
      refine (HFI.out _ e1).mono ?_; rintro e w2 ⟨hx2, A2, n2, k2, B2, d2, rfl, r2, q2⟩
      have e2 : Ext w w2 := e1.trans hx2
      replace HZB := Lib.hid (HZB.out.ext hx2)
      clear hx2
      have hn2 : n2 = 0 + 1 := by have := nV_len r2.rd; rw [HFR.out] at this; omega
      subst hn2
      have hbase : w.heap.size ≤ w1.heap.size := e1.size
      obtain ⟨x2, hx2⟩ : ∃ x, w2.heap.size = x := ⟨_, rfl⟩
      obtain ⟨W2, hW2⟩ : ∃ V, w2.alloc (.cells #[.string S, .slice A2 (0 + 1) k2, .slice B2 0 d2] 25) = V := ⟨_, rfl⟩
      have hX2 : Ext w2 W2 := by rw [← hW2]; exact (Ext.refl w2).alloc _
      have HBX := Lib.hid (show BxT 25 W2 x2 #[.string S, .slice A2 (0 + 1) k2, .slice B2 0 d2] by rw [← hW2, ← hx2]; exact BxT.new w2 25 _)
      have hge : w.heap.size ≤ x2 := by rw [← hx2]; exact e2.size
      have E2 := Lib.hid (e2.trans hX2 : Ext w W2)
      replace HZB := Lib.hid (HZB.out.ext hX2)
      have HOR := Lib.hid ((r2.more hbase).ext hX2); have HOS := Lib.hid ((q2.more hbase).ext hX2)
      have HW2 := Lib.hid hW2; have HX2 := Lib.hid hx2
      clear hW2 hx2 hX2 r2 q2 e2 e1 hbase
      go_wp2_with fail
      rw [HW2.out, HX2.out]
      have c0 : W2.cell? ⟨x2, 0, none⟩ = some (.string S) := HBX.out.cell rfl; have c1 : W2.cell? ⟨x2, 1, none⟩ = some (.slice A2 (0 + 1) k2) := HBX.out.cell rfl; have c2 : W2.cell? ⟨x2, 2, none⟩ = some (.slice B2 0 d2) := HBX.out.cell rfl
      have HL0 := Lib.hid (show LogB W2 x2 A2 (0 + 1) k2 B2 0 d2 S FR FL by
        obtain ⟨_, _, hv, _, hss⟩ := HOS.out.slice HFN.out
        injection hv with e1 _ e2
        subst e1; subst e2
        exact ⟨HBX.out, HOR.out.rd, hss⟩)
      refine (HM0.out _ E2.out HL0.out).mono ?_; rintro e wF ⟨rfl, hxF⟩
      go_wp2_with fail
      go_ret
      exact ⟨rfl, E2.out.trans hxF⟩
    · obtain ⟨K, hK, hKN⟩ : ∃ K : Nat, z1 % (FN : Int) = (K : Int) ∧ K < FN := by
        have h1 := Int.emod_nonneg z1 (show (FN : Int) ≠ 0 by omega)
        have h2 := Int.emod_lt_of_pos z1 (show (0 : Int) < (FN : Int) by omega)
        exact ⟨(z1 % (FN : Int)).toNat, by omega, by omega⟩
      have hK2 : z1.tmod (FN : Int) = (K : Int) := by rw [Int.tmod_eq_emod_of_nonneg o0]; exact hK
      have hnz : ((FN : Int) == 0) = false := by rw [beq_eq_false_iff_ne]; omega
      have hnz2 : ¬ (FN : Int) = 0 := by omega
      have hKL : K < FL.length := by omega
      have f1 := log_first hok (Nat.le_of_lt hKL)
      have s1 := hF.first K
      have HM1 : Hid (∀ V, Ext w V → ∀ {x A c B d}, LogB V x A (K + 1) c B K d S (FR.take (K + 1)) (FL.take K) → Calls Tryd.prog 15 #[.agg #[.string S, .slice A (K + 1) c, .slice B K d]] V fun e w' => e = .returned (.int .i64 0) ∧ Ext V w') := Lib.hid fun V hx _ _ _ _ _ hl => by
        have hTb := tab_ext hx
        have h := mayP16_c _ _ _ _ _ _ S (FR.take (K + 1)) (FL.take K) V hl.rev hl.seg s1
        rw [f1] at h; exact h
      rcases (by omega : z0 % 6 = 0 ∨ z0 % 6 = 1 ∨ z0 % 6 = 2 ∨ z0 % 6 = 3 ∨ z0 % 6 = 4 ∨ z0 % 6 = 5) with hM | hM | hM | hM | hM | hM
      · have hM2 : z0.tmod 6 = 0 := by rw [Int.tmod_eq_emod_of_nonneg n0]; exact hM
        clear h hls hs hfit hF hFN s0 hok f1 s1 hK
        go_enter Tryd.func5, Tryd.ntmps5
        go_wp2_with fail
        rw [HW1.out, HX1.out]
        refine (HSH.out _ E1.out).mono ?_; rintro e w1 ⟨rfl, hx1⟩
        have e1 : Ext w w1 := E1.out.trans hx1
        replace HZB := Lib.hid (HZB.out.ext hx1)
        clear hx1
        go_wp2_with fail
        refine (HFI.out _ e1).mono ?_; rintro e w2 ⟨hx2, A2, n2, k2, B2, d2, rfl, r2, q2⟩
        have e2 : Ext w w2 := e1.trans hx2
        replace HZB := Lib.hid (HZB.out.ext hx2)
        clear hx2
        have hn2 : n2 = FN + 1 := by have := nV_len r2.rd; rw [HFR.out] at this; omega
        subst hn2
        have hbase : w.heap.size ≤ w1.heap.size := e1.size
        obtain ⟨x2, hx2⟩ : ∃ x, w2.heap.size = x := ⟨_, rfl⟩
        obtain ⟨W2, hW2⟩ : ∃ V, w2.alloc (.cells #[.string S, .slice A2 (FN + 1) k2, .slice B2 FN d2] 25) = V := ⟨_, rfl⟩
        have hX2 : Ext w2 W2 := by rw [← hW2]; exact (Ext.refl w2).alloc _
        have HBX := Lib.hid (show BxT 25 W2 x2 #[.string S, .slice A2 (FN + 1) k2, .slice B2 FN d2] by rw [← hW2, ← hx2]; exact BxT.new w2 25 _)
        have hge : w.heap.size ≤ x2 := by rw [← hx2]; exact e2.size
        have E2 := Lib.hid (e2.trans hX2 : Ext w W2)
        replace HZB := Lib.hid (HZB.out.ext hX2)
        have HOR := Lib.hid ((r2.more hbase).ext hX2); have HOS := Lib.hid ((q2.more hbase).ext hX2)
        have HW2 := Lib.hid hW2; have HX2 := Lib.hid hx2
        clear hW2 hx2 hX2 r2 q2 e2 e1 hbase
        have z1a : (w2.alloc (.cells #[.string S, .slice A2 (FN + 1) k2, .slice B2 FN d2] 25)).cell? ⟨x5, 1, none⟩ = some (.int .u8 z1) := by rw [HW2.out]; exact HZB.out.cell rfl
        go_wp2_with fail
        rw [HW2.out, HX2.out]
        clear z1a
        have c0 : W2.cell? ⟨x2, 0, none⟩ = some (.string S) := HBX.out.cell rfl; have c1 : W2.cell? ⟨x2, 1, none⟩ = some (.slice A2 (FN + 1) k2) := HBX.out.cell rfl; have c2 : W2.cell? ⟨x2, 2, none⟩ = some (.slice B2 FN d2) := HBX.out.cell rfl
        obtain ⟨gA, _, hvA, hcA, hgA, hgA2, hcellA⟩ := HOR.out.cells (by omega)
        injection hvA with e1 _ e2
        subst e1; subst e2
        obtain ⟨gB, u0, hvB, hgB, hgB2, hcellB, hfrB, _⟩ := HOS.out.set (u := .slice none 0 0) (l' := []) HFN.out (by decide) hKN (Own.nil _ _ _ _ HOS.out.base)
        subst hvB
        clear hcellB hfrB u0
        have g0 : (0 : Int) ≤ (K : Int) := by omega
        have g1 : (K : Int) + 1 ≤ (k2 : Int) := by omega
        have hd2 : FN ≤ d2 := by obtain ⟨_, _, hv, hc, _⟩ := HOS.out.slice HFN.out; injection hv with _ _ e; omega
        have g2 : (K : Int) ≤ (d2 : Int) := by omega
        have g3 : (0 : Int) ≤ (K : Int) + 1 := by omega
        have hwk : IntKind.i64.wrap ((K : Int) + 1) = (K : Int) + 1 := by rw [IntKind.wrap_i64]; omega
        have hwt : ((K : Int) + 1).toNat = K + 1 := by omega
        refine region_T (fun V => Ext W2 V ∧ V.cell? ⟨x2, 0, none⟩ = some (.string S) ∧ V.cell? ⟨x2, 1, none⟩ = some (.slice (some ⟨gA, 0, none⟩) (FN + 1) k2) ∧ V.cell? ⟨x2, 2, none⟩ = some (.slice (some ⟨gB, 0, none⟩) FN d2)) 13 (by kernel_rfl) (⟨(Ext.refl _).drew, c0, c1, c2⟩) (fun hHeld => ?_)
        refine wpAnyT_take (i := 0) (v := ?_) rfl (by kernel_rfl) (fun _ _ _ h => h) (Or.inl ⟨by rfl, ?_⟩) (by assumption) ?_
        rotate_left
        · (intro W hSw; (try dsimp only at hSw); go_simp; (try with_reducible rfl))
        try simp only [Act.put, List.getElem_toArray, List.getElem_cons_succ, List.getElem_cons_zero, List.setIfInBounds_toArray, List.set_cons_zero, List.set_cons_succ]
        refine wpAnyT_take (i := 1) (v := ?_) rfl (by kernel_rfl) (fun _ _ _ h => h) (Or.inl ⟨by rfl, ?_⟩) (by assumption) ?_
        rotate_left
        · (intro W hSw; (try dsimp only at hSw); go_simp; (try with_reducible rfl))
        try simp only [Act.put, List.getElem_toArray, List.getElem_cons_succ, List.getElem_cons_zero, List.setIfInBounds_toArray, List.set_cons_zero, List.set_cons_succ]
        refine wpAnyT_take (i := 2) (v := ?_) rfl (by kernel_rfl) (fun _ _ _ h => h) (Or.inl ⟨by rfl, ?_⟩) (by assumption) ?_
        rotate_left
        · (intro W hSw; (try dsimp only at hSw); go_simp; (try with_reducible rfl))
        try simp only [Act.put, List.getElem_toArray, List.getElem_cons_succ, List.getElem_cons_zero, List.setIfInBounds_toArray, List.set_cons_zero, List.set_cons_succ]
        refine wpAnyT_take (i := 3) (v := ?_) rfl (by kernel_rfl) (fun _ _ _ h => h) (Or.inl ⟨by rfl, ?_⟩) (by assumption) ?_
        rotate_left
        · (intro W hSw; (try dsimp only at hSw); go_simp; (try with_reducible rfl))
        try simp only [Act.put, List.getElem_toArray, List.getElem_cons_succ, List.getElem_cons_zero, List.setIfInBounds_toArray, List.set_cons_zero, List.set_cons_succ]
        refine wpAnyT_take (i := 4) (v := ?_) rfl (by kernel_rfl) (fun _ _ _ h => h) (Or.inl ⟨by rfl, ?_⟩) (by assumption) ?_
        rotate_left
        · (intro W hSw; (try dsimp only at hSw); go_simp; (try with_reducible rfl))
        try simp only [Act.put, List.getElem_toArray, List.getElem_cons_succ, List.getElem_cons_zero, List.setIfInBounds_toArray, List.set_cons_zero, List.set_cons_succ]
        refine wpAnyT_take (i := 5) (v := ?_) rfl (by kernel_rfl) (fun _ _ _ h => h) (Or.inl ⟨by rfl, ?_⟩) (by assumption) ?_
        rotate_left
        · (intro W hSw; (try dsimp only at hSw); go_simp; (try with_reducible rfl))
        try simp only [Act.put, List.getElem_toArray, List.getElem_cons_succ, List.getElem_cons_zero, List.setIfInBounds_toArray, List.set_cons_zero, List.set_cons_succ]
        refine wpAnyT_take (i := 6) (v := ?_) rfl (by kernel_rfl) (fun _ _ _ h => h) (Or.inl ⟨by rfl, ?_⟩) (by assumption) ?_
        rotate_left
        · (intro W hSw; (try dsimp only at hSw); go_simp; (try with_reducible rfl))
        try simp only [Act.put, List.getElem_toArray, List.getElem_cons_succ, List.getElem_cons_zero, List.setIfInBounds_toArray, List.set_cons_zero, List.set_cons_succ]
        refine wpAnyT_take (i := 7) (v := ?_) rfl (by kernel_rfl) (fun _ _ _ h => h) (Or.inl ⟨by rfl, ?_⟩) (by assumption) ?_
        rotate_left
        · (intro W hSw; (try dsimp only at hSw); go_simp; (try with_reducible rfl))
        try simp only [Act.put, List.getElem_toArray, List.getElem_cons_succ, List.getElem_cons_zero, List.setIfInBounds_toArray, List.set_cons_zero, List.set_cons_succ]
        refine wpAnyT_take (i := 8) (v := ?_) rfl (by kernel_rfl) (fun _ _ _ h => h) (Or.inl ⟨by rfl, ?_⟩) (by assumption) ?_
        rotate_left
        · (intro W hSw; (try dsimp only at hSw); go_simp; (try with_reducible rfl))
        try simp only [Act.put, List.getElem_toArray, List.getElem_cons_succ, List.getElem_cons_zero, List.setIfInBounds_toArray, List.set_cons_zero, List.set_cons_succ]
        refine wpAnyT_take (i := 9) (v := ?_) rfl (by kernel_rfl) (fun _ _ _ h => h) (Or.inl ⟨by rfl, ?_⟩) (by assumption) ?_
        rotate_left
        · (intro W hSw; (try dsimp only at hSw); go_simp; (try with_reducible rfl))
        try simp only [Act.put, List.getElem_toArray, List.getElem_cons_succ, List.getElem_cons_zero, List.setIfInBounds_toArray, List.set_cons_zero, List.set_cons_succ]
        refine wpAnyT_take (i := 10) (v := ?_) rfl (by kernel_rfl) (fun _ _ _ h => h) (Or.inl ⟨by rfl, ?_⟩) (by assumption) ?_
        rotate_left
        · (intro W hSw; (try dsimp only at hSw); go_simp; (try with_reducible rfl))
        try simp only [Act.put, List.getElem_toArray, List.getElem_cons_succ, List.getElem_cons_zero, List.setIfInBounds_toArray, List.set_cons_zero, List.set_cons_succ]
        refine wpAnyT_take (i := 11) (v := ?_) rfl (by kernel_rfl) (fun _ _ _ h => h) (Or.inl ⟨by rfl, ?_⟩) (by assumption) ?_
        rotate_left
        · (intro W hSw; (try dsimp only at hSw); go_simp; (try with_reducible rfl))
        try simp only [Act.put, List.getElem_toArray, List.getElem_cons_succ, List.getElem_cons_zero, List.setIfInBounds_toArray, List.set_cons_zero, List.set_cons_succ]
        refine wpAnyT_one (i := 12) rfl (by kernel_rfl) (fun K hK => ?_)
        go_simp
        refine hK.out _ _ (fun _ => ⟨hHeld.1.alloc _, ext_cell ((Ext.refl _).alloc _) hHeld.2.1, ext_cell ((Ext.refl _).alloc _) hHeld.2.2.1, ext_cell ((Ext.refl _).alloc _) hHeld.2.2.2⟩) (fun hH => ?_)
        replace hHeld := hH (by decide)
        clear hK K hH
        try simp only [Act.put, List.getElem_toArray, List.getElem_cons_succ, List.getElem_cons_zero, List.setIfInBounds_toArray, List.set_cons_zero, List.set_cons_succ]
        refine wpAnyT_one (i := 13) rfl (by kernel_rfl) (fun K hK => ?_)
        go_simp
        refine hK.out _ _ (fun h => absurd rfl h) (fun _ => ?_)
        clear hK K hHeld
        try simp only [Act.put, List.getElem_toArray, List.getElem_cons_succ, List.getElem_cons_zero, List.setIfInBounds_toArray, List.set_cons_zero, List.set_cons_succ]
        refine wpAnyT_done (by kernel_rfl) ?_ _
        obtain ⟨x3, hx3⟩ : ∃ x, W2.heap.size = x := ⟨_, rfl⟩
        obtain ⟨W3, hW3⟩ : ∃ V, (W2.alloc (.cells #[.string S, .slice (some ⟨gA, 0, none⟩) (K + 1) k2, .slice (some ⟨gB, 0, none⟩) K d2] 25)).drew = V := ⟨_, rfl⟩
        have hX3 : Ext W2 W3 := by rw [← hW3]; exact ((Ext.refl W2).alloc _).drew
        obtain ⟨_, _, hv, _, hss⟩ := HOS.out.slice HFN.out
        injection hv with e1 _ e2
        subst e1; subst e2
        have HF1 := Lib.hid (show LogB W3 x3 (some ⟨gA, 0, none⟩) (K + 1) k2 (some ⟨gB, 0, none⟩) K d2 S (FR.take (K + 1)) (FL.take K) by rw [← hW3, ← hx3]; exact (LogB.new (by have h := HOR.out.rd.take (m := K + 1) (by omega); rw [Nat.mul_one, nV_take] at h; exact h) (hss.take (by omega))).ext (Ext.refl _).drew)
        rw [hx3, hW3]
        have E3 := Lib.hid (E2.out.trans hX3)
        replace HZB := Lib.hid (HZB.out.ext hX3); replace HBX := Lib.hid (HBX.out.ext hX3); replace HOR := Lib.hid (HOR.out.ext hX3); replace HOS := Lib.hid (HOS.out.ext hX3)
        clear hW3 hx3 hX3 hss c0 c1 c2
        obtain ⟨c0, c1, c2⟩ := HF1.out.cells
        go_wp2_with fail
        clear c0 c1 c2
        refine (HM1.out _ E3.out HF1.out).mono ?_; rintro e w3 ⟨rfl, hx3⟩
        have e3 : Ext w w3 := E3.out.trans hx3
        replace HZB := Lib.hid (HZB.out.ext hx3)
        replace HBX := Lib.hid (HBX.out.ext hx3)
        replace HOR := Lib.hid (HOR.out.ext hx3)
        replace HOS := Lib.hid (HOS.out.ext hx3)
        clear hx3
        have z0c : w3.cell? ⟨x5, 0, none⟩ = some (.int .u8 z0) := HZB.out.cell rfl
        have c0 : w3.cell? ⟨x2, 0, none⟩ = some (.string S) := HBX.out.cell rfl; have c1 : w3.cell? ⟨x2, 1, none⟩ = some (.slice (some ⟨gA, 0, none⟩) (FN + 1) k2) := HBX.out.cell rfl; have c2 : w3.cell? ⟨x2, 2, none⟩ = some (.slice (some ⟨gB, 0, none⟩) FN d2) := HBX.out.cell rfl
        have f0 := HBX.out.frozen 0; have f1 := HBX.out.frozen 1
        have hcat : ¬ 9223372036854775807 < S.size + (⟨#[255]⟩ : ByteArray).size := by rw [HSF.out]; have := HSS.out; omega
        obtain ⟨WS, hWS⟩ : ∃ V, w3.setCell ⟨x2, 0, none⟩ (.string (S ++ ⟨#[255]⟩)) = V := ⟨_, rfl⟩
        have hES : Ext w WS := by rw [← hWS]; exact Below.setCell e3 (p := ⟨x2, 0, none⟩) hge _
        have hLS : LogB WS x2 (some ⟨gA, 0, none⟩) (FN + 1) k2 (some ⟨gB, 0, none⟩) FN d2 (S ++ ⟨#[255]⟩) FR FL := by
          rw [← hWS]
          refine ⟨HBX.out.set 0 _, (own_cell_other (a := ⟨x2, 0, none⟩) HOR.out HBX.out (by decide) _).rd, ?_⟩
          obtain ⟨_, _, hv, _, hss⟩ := (HOS.out.cell_other (a := ⟨x2, 0, none⟩) HBX.out (by decide) (by decide) (.string (S ++ ⟨#[255]⟩))).slice HFN.out
          injection hv with e1 _ e2
          subst e1; subst e2
          exact hss
        have HWS := Lib.hid hWS; have HES := Lib.hid hES; have HLS := Lib.hid hLS
        clear hWS hES hLS
        have hsm : SmL (S ++ ⟨#[255]⟩) FR FL := ⟨by have := HSS.out; have := HSF.out; rw [size_append16]; omega, HF.out.sm.revs, HF.out.sm.segs, HF.out.sm.len, HF.out.sm.sum⟩
        have hlg : logE (S ++ ⟨#[255]⟩) FR FL = 3 := logE_3 (dec_ff S)
        have HQ := Lib.hid (HMY.out _ HES.out HLS.out hsm _ hlg)
        clear hsm hlg
        go_wp2_with fail
        rw [HWS.out]
        refine HQ.out.mono ?_; rintro e wF ⟨rfl, hxF⟩
        go_wp2_with fail
        go_ret
        exact ⟨rfl, HES.out.trans hxF⟩
      · have hM2 : z0.tmod 6 = 1 := by rw [Int.tmod_eq_emod_of_nonneg n0]; exact hM
        clear h hls hs hfit hF hFN s0 hok f1 s1 hK
        go_enter Tryd.func5, Tryd.ntmps5
        go_wp2_with fail
        rw [HW1.out, HX1.out]
        refine (HSH.out _ E1.out).mono ?_; rintro e w1 ⟨rfl, hx1⟩
        have e1 : Ext w w1 := E1.out.trans hx1
        replace HZB := Lib.hid (HZB.out.ext hx1)
        clear hx1
        go_wp2_with fail
        refine (HFI.out _ e1).mono ?_; rintro e w2 ⟨hx2, A2, n2, k2, B2, d2, rfl, r2, q2⟩
        have e2 : Ext w w2 := e1.trans hx2
        replace HZB := Lib.hid (HZB.out.ext hx2)
        clear hx2
        have hn2 : n2 = FN + 1 := by have := nV_len r2.rd; rw [HFR.out] at this; omega
        subst hn2
        have hbase : w.heap.size ≤ w1.heap.size := e1.size
        obtain ⟨x2, hx2⟩ : ∃ x, w2.heap.size = x := ⟨_, rfl⟩
        obtain ⟨W2, hW2⟩ : ∃ V, w2.alloc (.cells #[.string S, .slice A2 (FN + 1) k2, .slice B2 FN d2] 25) = V := ⟨_, rfl⟩
        have hX2 : Ext w2 W2 := by rw [← hW2]; exact (Ext.refl w2).alloc _
        have HBX := Lib.hid (show BxT 25 W2 x2 #[.string S, .slice A2 (FN + 1) k2, .slice B2 FN d2] by rw [← hW2, ← hx2]; exact BxT.new w2 25 _)
        have hge : w.heap.size ≤ x2 := by rw [← hx2]; exact e2.size
        have E2 := Lib.hid (e2.trans hX2 : Ext w W2)
        replace HZB := Lib.hid (HZB.out.ext hX2)
        have HOR := Lib.hid ((r2.more hbase).ext hX2); have HOS := Lib.hid ((q2.more hbase).ext hX2)
        have HW2 := Lib.hid hW2; have HX2 := Lib.hid hx2
        clear hW2 hx2 hX2 r2 q2 e2 e1 hbase
        have z1a : (w2.alloc (.cells #[.string S, .slice A2 (FN + 1) k2, .slice B2 FN d2] 25)).cell? ⟨x5, 1, none⟩ = some (.int .u8 z1) := by rw [HW2.out]; exact HZB.out.cell rfl
        go_wp2_with fail
        rw [HW2.out, HX2.out]
        clear z1a
        have c0 : W2.cell? ⟨x2, 0, none⟩ = some (.string S) := HBX.out.cell rfl; have c1 : W2.cell? ⟨x2, 1, none⟩ = some (.slice A2 (FN + 1) k2) := HBX.out.cell rfl; have c2 : W2.cell? ⟨x2, 2, none⟩ = some (.slice B2 FN d2) := HBX.out.cell rfl
        obtain ⟨gA, _, hvA, hcA, hgA, hgA2, hcellA⟩ := HOR.out.cells (by omega)
        injection hvA with e1 _ e2
        subst e1; subst e2
        obtain ⟨gB, u0, hvB, hgB, hgB2, hcellB, hfrB, _⟩ := HOS.out.set (u := .slice none 0 0) (l' := []) HFN.out (by decide) hKN (Own.nil _ _ _ _ HOS.out.base)
        subst hvB
        clear hcellB hfrB u0
        have g0 : (0 : Int) ≤ (K : Int) := by omega
        have g1 : (K : Int) + 1 ≤ (k2 : Int) := by omega
        have hd2 : FN ≤ d2 := by obtain ⟨_, _, hv, hc, _⟩ := HOS.out.slice HFN.out; injection hv with _ _ e; omega
        have g2 : (K : Int) ≤ (d2 : Int) := by omega
        have g3 : (0 : Int) ≤ (K : Int) + 1 := by omega
        have hwk : IntKind.i64.wrap ((K : Int) + 1) = (K : Int) + 1 := by rw [IntKind.wrap_i64]; omega
        have hwt : ((K : Int) + 1).toNat = K + 1 := by omega
        refine region_T (fun V => Ext W2 V ∧ V.cell? ⟨x2, 0, none⟩ = some (.string S) ∧ V.cell? ⟨x2, 1, none⟩ = some (.slice (some ⟨gA, 0, none⟩) (FN + 1) k2) ∧ V.cell? ⟨x2, 2, none⟩ = some (.slice (some ⟨gB, 0, none⟩) FN d2)) 13 (by kernel_rfl) (⟨(Ext.refl _).drew, c0, c1, c2⟩) (fun hHeld => ?_)
        refine wpAnyT_take (i := 0) (v := ?_) rfl (by kernel_rfl) (fun _ _ _ h => h) (Or.inl ⟨by rfl, ?_⟩) (by assumption) ?_
        rotate_left
        · (intro W hSw; (try dsimp only at hSw); go_simp; (try with_reducible rfl))
        try simp only [Act.put, List.getElem_toArray, List.getElem_cons_succ, List.getElem_cons_zero, List.setIfInBounds_toArray, List.set_cons_zero, List.set_cons_succ]
        refine wpAnyT_take (i := 1) (v := ?_) rfl (by kernel_rfl) (fun _ _ _ h => h) (Or.inl ⟨by rfl, ?_⟩) (by assumption) ?_
        rotate_left
        · (intro W hSw; (try dsimp only at hSw); go_simp; (try with_reducible rfl))
        try simp only [Act.put, List.getElem_toArray, List.getElem_cons_succ, List.getElem_cons_zero, List.setIfInBounds_toArray, List.set_cons_zero, List.set_cons_succ]
        refine wpAnyT_take (i := 2) (v := ?_) rfl (by kernel_rfl) (fun _ _ _ h => h) (Or.inl ⟨by rfl, ?_⟩) (by assumption) ?_
        rotate_left
        · (intro W hSw; (try dsimp only at hSw); go_simp; (try with_reducible rfl))
        try simp only [Act.put, List.getElem_toArray, List.getElem_cons_succ, List.getElem_cons_zero, List.setIfInBounds_toArray, List.set_cons_zero, List.set_cons_succ]
        refine wpAnyT_take (i := 3) (v := ?_) rfl (by kernel_rfl) (fun _ _ _ h => h) (Or.inl ⟨by rfl, ?_⟩) (by assumption) ?_
        rotate_left
        · (intro W hSw; (try dsimp only at hSw); go_simp; (try with_reducible rfl))
        try simp only [Act.put, List.getElem_toArray, List.getElem_cons_succ, List.getElem_cons_zero, List.setIfInBounds_toArray, List.set_cons_zero, List.set_cons_succ]
        refine wpAnyT_take (i := 4) (v := ?_) rfl (by kernel_rfl) (fun _ _ _ h => h) (Or.inl ⟨by rfl, ?_⟩) (by assumption) ?_
        rotate_left
        · (intro W hSw; (try dsimp only at hSw); go_simp; (try with_reducible rfl))
        try simp only [Act.put, List.getElem_toArray, List.getElem_cons_succ, List.getElem_cons_zero, List.setIfInBounds_toArray, List.set_cons_zero, List.set_cons_succ]
        refine wpAnyT_take (i := 5) (v := ?_) rfl (by kernel_rfl) (fun _ _ _ h => h) (Or.inl ⟨by rfl, ?_⟩) (by assumption) ?_
        rotate_left
        · (intro W hSw; (try dsimp only at hSw); go_simp; (try with_reducible rfl))
        try simp only [Act.put, List.getElem_toArray, List.getElem_cons_succ, List.getElem_cons_zero, List.setIfInBounds_toArray, List.set_cons_zero, List.set_cons_succ]
        refine wpAnyT_take (i := 6) (v := ?_) rfl (by kernel_rfl) (fun _ _ _ h => h) (Or.inl ⟨by rfl, ?_⟩) (by assumption) ?_
        rotate_left
        · (intro W hSw; (try dsimp only at hSw); go_simp; (try with_reducible rfl))
        try simp only [Act.put, List.getElem_toArray, List.getElem_cons_succ, List.getElem_cons_zero, List.setIfInBounds_toArray, List.set_cons_zero, List.set_cons_succ]
        refine wpAnyT_take (i := 7) (v := ?_) rfl (by kernel_rfl) (fun _ _ _ h => h) (Or.inl ⟨by rfl, ?_⟩) (by assumption) ?_
        rotate_left
        · (intro W hSw; (try dsimp only at hSw); go_simp; (try with_reducible rfl))
        try simp only [Act.put, List.getElem_toArray, List.getElem_cons_succ, List.getElem_cons_zero, List.setIfInBounds_toArray, List.set_cons_zero, List.set_cons_succ]
        refine wpAnyT_take (i := 8) (v := ?_) rfl (by kernel_rfl) (fun _ _ _ h => h) (Or.inl ⟨by rfl, ?_⟩) (by assumption) ?_
        rotate_left
        · (intro W hSw; (try dsimp only at hSw); go_simp; (try with_reducible rfl))
        try simp only [Act.put, List.getElem_toArray, List.getElem_cons_succ, List.getElem_cons_zero, List.setIfInBounds_toArray, List.set_cons_zero, List.set_cons_succ]
        refine wpAnyT_take (i := 9) (v := ?_) rfl (by kernel_rfl) (fun _ _ _ h => h) (Or.inl ⟨by rfl, ?_⟩) (by assumption) ?_
        rotate_left
        · (intro W hSw; (try dsimp only at hSw); go_simp; (try with_reducible rfl))
        try simp only [Act.put, List.getElem_toArray, List.getElem_cons_succ, List.getElem_cons_zero, List.setIfInBounds_toArray, List.set_cons_zero, List.set_cons_succ]
        refine wpAnyT_take (i := 10) (v := ?_) rfl (by kernel_rfl) (fun _ _ _ h => h) (Or.inl ⟨by rfl, ?_⟩) (by assumption) ?_
        rotate_left
        · (intro W hSw; (try dsimp only at hSw); go_simp; (try with_reducible rfl))
        try simp only [Act.put, List.getElem_toArray, List.getElem_cons_succ, List.getElem_cons_zero, List.setIfInBounds_toArray, List.set_cons_zero, List.set_cons_succ]
        refine wpAnyT_take (i := 11) (v := ?_) rfl (by kernel_rfl) (fun _ _ _ h => h) (Or.inl ⟨by rfl, ?_⟩) (by assumption) ?_
        rotate_left
        · (intro W hSw; (try dsimp only at hSw); go_simp; (try with_reducible rfl))
        try simp only [Act.put, List.getElem_toArray, List.getElem_cons_succ, List.getElem_cons_zero, List.setIfInBounds_toArray, List.set_cons_zero, List.set_cons_succ]
        refine wpAnyT_one (i := 12) rfl (by kernel_rfl) (fun K hK => ?_)
        go_simp
        refine hK.out _ _ (fun _ => ⟨hHeld.1.alloc _, ext_cell ((Ext.refl _).alloc _) hHeld.2.1, ext_cell ((Ext.refl _).alloc _) hHeld.2.2.1, ext_cell ((Ext.refl _).alloc _) hHeld.2.2.2⟩) (fun hH => ?_)
        replace hHeld := hH (by decide)
        clear hK K hH
        try simp only [Act.put, List.getElem_toArray, List.getElem_cons_succ, List.getElem_cons_zero, List.setIfInBounds_toArray, List.set_cons_zero, List.set_cons_succ]
        refine wpAnyT_one (i := 13) rfl (by kernel_rfl) (fun K hK => ?_)
        go_simp
        refine hK.out _ _ (fun h => absurd rfl h) (fun _ => ?_)
        clear hK K hHeld
        try simp only [Act.put, List.getElem_toArray, List.getElem_cons_succ, List.getElem_cons_zero, List.setIfInBounds_toArray, List.set_cons_zero, List.set_cons_succ]
        refine wpAnyT_done (by kernel_rfl) ?_ _
        obtain ⟨x3, hx3⟩ : ∃ x, W2.heap.size = x := ⟨_, rfl⟩
        obtain ⟨W3, hW3⟩ : ∃ V, (W2.alloc (.cells #[.string S, .slice (some ⟨gA, 0, none⟩) (K + 1) k2, .slice (some ⟨gB, 0, none⟩) K d2] 25)).drew = V := ⟨_, rfl⟩
        have hX3 : Ext W2 W3 := by rw [← hW3]; exact ((Ext.refl W2).alloc _).drew
        obtain ⟨_, _, hv, _, hss⟩ := HOS.out.slice HFN.out
        injection hv with e1 _ e2
        subst e1; subst e2
        have HF1 := Lib.hid (show LogB W3 x3 (some ⟨gA, 0, none⟩) (K + 1) k2 (some ⟨gB, 0, none⟩) K d2 S (FR.take (K + 1)) (FL.take K) by rw [← hW3, ← hx3]; exact (LogB.new (by have h := HOR.out.rd.take (m := K + 1) (by omega); rw [Nat.mul_one, nV_take] at h; exact h) (hss.take (by omega))).ext (Ext.refl _).drew)
        rw [hx3, hW3]
        have E3 := Lib.hid (E2.out.trans hX3)
        replace HZB := Lib.hid (HZB.out.ext hX3); replace HBX := Lib.hid (HBX.out.ext hX3); replace HOR := Lib.hid (HOR.out.ext hX3); replace HOS := Lib.hid (HOS.out.ext hX3)
        clear hW3 hx3 hX3 hss c0 c1 c2
        obtain ⟨c0, c1, c2⟩ := HF1.out.cells
        go_wp2_with fail
        clear c0 c1 c2
        refine (HM1.out _ E3.out HF1.out).mono ?_; rintro e w3 ⟨rfl, hx3⟩
        have e3 : Ext w w3 := E3.out.trans hx3
        replace HZB := Lib.hid (HZB.out.ext hx3)
        replace HBX := Lib.hid (HBX.out.ext hx3)
        replace HOR := Lib.hid (HOR.out.ext hx3)
        replace HOS := Lib.hid (HOS.out.ext hx3)
        clear hx3
        have z0c : w3.cell? ⟨x5, 0, none⟩ = some (.int .u8 z0) := HZB.out.cell rfl
        have c0 : w3.cell? ⟨x2, 0, none⟩ = some (.string S) := HBX.out.cell rfl; have c1 : w3.cell? ⟨x2, 1, none⟩ = some (.slice (some ⟨gA, 0, none⟩) (FN + 1) k2) := HBX.out.cell rfl; have c2 : w3.cell? ⟨x2, 2, none⟩ = some (.slice (some ⟨gB, 0, none⟩) FN d2) := HBX.out.cell rfl
        have f0 := HBX.out.frozen 0; have f1 := HBX.out.frozen 1
        have g5 : (FN : Int) ≤ (k2 : Int) := by omega
        have g6 : (0 : Int) ≤ (FN : Int) := by omega
        obtain ⟨WS, hWS⟩ : ∃ V, w3.setCell ⟨x2, 1, none⟩ (.slice (some ⟨gA, 0, none⟩) FN k2) = V := ⟨_, rfl⟩
        have hES : Ext w WS := by rw [← hWS]; exact Below.setCell e3 (p := ⟨x2, 1, none⟩) hge _
        have hLS : LogB WS x2 (some ⟨gA, 0, none⟩) FN k2 (some ⟨gB, 0, none⟩) FN d2 S (FR.take FN) FL := by
          rw [← hWS]
          refine ⟨HBX.out.set 1 _, (by have h := (own_cell_other (a := ⟨x2, 1, none⟩) HOR.out HBX.out (by decide) (.slice (some ⟨gA, 0, none⟩) FN k2)).rd.take (m := FN) (by omega); rw [Nat.mul_one, nV_take] at h; exact h), ?_⟩
          obtain ⟨_, _, hv, _, hss⟩ := (HOS.out.cell_other (a := ⟨x2, 1, none⟩) HBX.out (by decide) (by decide) (.slice (some ⟨gA, 0, none⟩) FN k2)).slice HFN.out
          injection hv with e1 _ e2
          subst e1; subst e2
          exact hss
        have HWS := Lib.hid hWS; have HES := Lib.hid hES; have HLS := Lib.hid hLS
        clear hWS hES hLS
        have hsm : SmL S (FR.take FN) FL := ⟨HF.out.sm.base, by have := HF.out.sm.revs; rw [List.length_take]; omega, HF.out.sm.segs, HF.out.sm.len, HF.out.sm.sum⟩
        have hlg : logE S (FR.take FN) FL = 6 := spoil_r HF.out (by rintro ⟨_, h⟩; rw [List.length_take] at h; have := HFN.out; omega)
        have HQ := Lib.hid (HMY.out _ HES.out HLS.out hsm _ hlg)
        clear hsm hlg
        go_wp2_with fail
        rw [HWS.out]
        refine HQ.out.mono ?_; rintro e wF ⟨rfl, hxF⟩
        go_wp2_with fail
        go_ret
        exact ⟨rfl, HES.out.trans hxF⟩
      · have hM2 : z0.tmod 6 = 2 := by rw [Int.tmod_eq_emod_of_nonneg n0]; exact hM
        clear h hls hs hfit hF hFN s0 hok f1 s1 hK
        go_enter Tryd.func5, Tryd.ntmps5
        go_wp2_with fail
        rw [HW1.out, HX1.out]
        refine (HSH.out _ E1.out).mono ?_; rintro e w1 ⟨rfl, hx1⟩
        have e1 : Ext w w1 := E1.out.trans hx1
        replace HZB := Lib.hid (HZB.out.ext hx1)
        clear hx1
        go_wp2_with fail
        refine (HFI.out _ e1).mono ?_; rintro e w2 ⟨hx2, A2, n2, k2, B2, d2, rfl, r2, q2⟩
        have e2 : Ext w w2 := e1.trans hx2
        replace HZB := Lib.hid (HZB.out.ext hx2)
        clear hx2
        have hn2 : n2 = FN + 1 := by have := nV_len r2.rd; rw [HFR.out] at this; omega
        subst hn2
        have hbase : w.heap.size ≤ w1.heap.size := e1.size
        obtain ⟨x2, hx2⟩ : ∃ x, w2.heap.size = x := ⟨_, rfl⟩
        obtain ⟨W2, hW2⟩ : ∃ V, w2.alloc (.cells #[.string S, .slice A2 (FN + 1) k2, .slice B2 FN d2] 25) = V := ⟨_, rfl⟩
        have hX2 : Ext w2 W2 := by rw [← hW2]; exact (Ext.refl w2).alloc _
        have HBX := Lib.hid (show BxT 25 W2 x2 #[.string S, .slice A2 (FN + 1) k2, .slice B2 FN d2] by rw [← hW2, ← hx2]; exact BxT.new w2 25 _)
        have hge : w.heap.size ≤ x2 := by rw [← hx2]; exact e2.size
        have E2 := Lib.hid (e2.trans hX2 : Ext w W2)
        replace HZB := Lib.hid (HZB.out.ext hX2)
        have HOR := Lib.hid ((r2.more hbase).ext hX2); have HOS := Lib.hid ((q2.more hbase).ext hX2)
        have HW2 := Lib.hid hW2; have HX2 := Lib.hid hx2
        clear hW2 hx2 hX2 r2 q2 e2 e1 hbase
        have z1a : (w2.alloc (.cells #[.string S, .slice A2 (FN + 1) k2, .slice B2 FN d2] 25)).cell? ⟨x5, 1, none⟩ = some (.int .u8 z1) := by rw [HW2.out]; exact HZB.out.cell rfl
        go_wp2_with fail
        rw [HW2.out, HX2.out]
        clear z1a
        have c0 : W2.cell? ⟨x2, 0, none⟩ = some (.string S) := HBX.out.cell rfl; have c1 : W2.cell? ⟨x2, 1, none⟩ = some (.slice A2 (FN + 1) k2) := HBX.out.cell rfl; have c2 : W2.cell? ⟨x2, 2, none⟩ = some (.slice B2 FN d2) := HBX.out.cell rfl
        obtain ⟨gA, _, hvA, hcA, hgA, hgA2, hcellA⟩ := HOR.out.cells (by omega)
        injection hvA with e1 _ e2
        subst e1; subst e2
        obtain ⟨gB, u0, hvB, hgB, hgB2, hcellB, hfrB, _⟩ := HOS.out.set (u := .slice none 0 0) (l' := []) HFN.out (by decide) hKN (Own.nil _ _ _ _ HOS.out.base)
        subst hvB
        clear hcellB hfrB u0
        have g0 : (0 : Int) ≤ (K : Int) := by omega
        have g1 : (K : Int) + 1 ≤ (k2 : Int) := by omega
        have hd2 : FN ≤ d2 := by obtain ⟨_, _, hv, hc, _⟩ := HOS.out.slice HFN.out; injection hv with _ _ e; omega
        have g2 : (K : Int) ≤ (d2 : Int) := by omega
        have g3 : (0 : Int) ≤ (K : Int) + 1 := by omega
        have hwk : IntKind.i64.wrap ((K : Int) + 1) = (K : Int) + 1 := by rw [IntKind.wrap_i64]; omega
        have hwt : ((K : Int) + 1).toNat = K + 1 := by omega
        refine region_T (fun V => Ext W2 V ∧ V.cell? ⟨x2, 0, none⟩ = some (.string S) ∧ V.cell? ⟨x2, 1, none⟩ = some (.slice (some ⟨gA, 0, none⟩) (FN + 1) k2) ∧ V.cell? ⟨x2, 2, none⟩ = some (.slice (some ⟨gB, 0, none⟩) FN d2)) 13 (by kernel_rfl) (⟨(Ext.refl _).drew, c0, c1, c2⟩) (fun hHeld => ?_)
        refine wpAnyT_take (i := 0) (v := ?_) rfl (by kernel_rfl) (fun _ _ _ h => h) (Or.inl ⟨by rfl, ?_⟩) (by assumption) ?_
        rotate_left
        · (intro W hSw; (try dsimp only at hSw); go_simp; (try with_reducible rfl))
        try simp only [Act.put, List.getElem_toArray, List.getElem_cons_succ, List.getElem_cons_zero, List.setIfInBounds_toArray, List.set_cons_zero, List.set_cons_succ]
        refine wpAnyT_take (i := 1) (v := ?_) rfl (by kernel_rfl) (fun _ _ _ h => h) (Or.inl ⟨by rfl, ?_⟩) (by assumption) ?_
        rotate_left
        · (intro W hSw; (try dsimp only at hSw); go_simp; (try with_reducible rfl))
        try simp only [Act.put, List.getElem_toArray, List.getElem_cons_succ, List.getElem_cons_zero, List.setIfInBounds_toArray, List.set_cons_zero, List.set_cons_succ]
        refine wpAnyT_take (i := 2) (v := ?_) rfl (by kernel_rfl) (fun _ _ _ h => h) (Or.inl ⟨by rfl, ?_⟩) (by assumption) ?_
        rotate_left
        · (intro W hSw; (try dsimp only at hSw); go_simp; (try with_reducible rfl))
        try simp only [Act.put, List.getElem_toArray, List.getElem_cons_succ, List.getElem_cons_zero, List.setIfInBounds_toArray, List.set_cons_zero, List.set_cons_succ]
        refine wpAnyT_take (i := 3) (v := ?_) rfl (by kernel_rfl) (fun _ _ _ h => h) (Or.inl ⟨by rfl, ?_⟩) (by assumption) ?_
        rotate_left
        · (intro W hSw; (try dsimp only at hSw); go_simp; (try with_reducible rfl))
        try simp only [Act.put, List.getElem_toArray, List.getElem_cons_succ, List.getElem_cons_zero, List.setIfInBounds_toArray, List.set_cons_zero, List.set_cons_succ]
        refine wpAnyT_take (i := 4) (v := ?_) rfl (by kernel_rfl) (fun _ _ _ h => h) (Or.inl ⟨by rfl, ?_⟩) (by assumption) ?_
        rotate_left
        · (intro W hSw; (try dsimp only at hSw); go_simp; (try with_reducible rfl))
        try simp only [Act.put, List.getElem_toArray, List.getElem_cons_succ, List.getElem_cons_zero, List.setIfInBounds_toArray, List.set_cons_zero, List.set_cons_succ]
        refine wpAnyT_take (i := 5) (v := ?_) rfl (by kernel_rfl) (fun _ _ _ h => h) (Or.inl ⟨by rfl, ?_⟩) (by assumption) ?_
        rotate_left
        · (intro W hSw; (try dsimp only at hSw); go_simp; (try with_reducible rfl))
        try simp only [Act.put, List.getElem_toArray, List.getElem_cons_succ, List.getElem_cons_zero, List.setIfInBounds_toArray, List.set_cons_zero, List.set_cons_succ]
        refine wpAnyT_take (i := 6) (v := ?_) rfl (by kernel_rfl) (fun _ _ _ h => h) (Or.inl ⟨by rfl, ?_⟩) (by assumption) ?_
        rotate_left
        · (intro W hSw; (try dsimp only at hSw); go_simp; (try with_reducible rfl))
        try simp only [Act.put, List.getElem_toArray, List.getElem_cons_succ, List.getElem_cons_zero, List.setIfInBounds_toArray, List.set_cons_zero, List.set_cons_succ]
        refine wpAnyT_take (i := 7) (v := ?_) rfl (by kernel_rfl) (fun _ _ _ h => h) (Or.inl ⟨by rfl, ?_⟩) (by assumption) ?_
        rotate_left
        · (intro W hSw; (try dsimp only at hSw); go_simp; (try with_reducible rfl))
        try simp only [Act.put, List.getElem_toArray, List.getElem_cons_succ, List.getElem_cons_zero, List.setIfInBounds_toArray, List.set_cons_zero, List.set_cons_succ]
        refine wpAnyT_take (i := 8) (v := ?_) rfl (by kernel_rfl) (fun _ _ _ h => h) (Or.inl ⟨by rfl, ?_⟩) (by assumption) ?_
        rotate_left
        · (intro W hSw; (try dsimp only at hSw); go_simp; (try with_reducible rfl))
        try simp only [Act.put, List.getElem_toArray, List.getElem_cons_succ, List.getElem_cons_zero, List.setIfInBounds_toArray, List.set_cons_zero, List.set_cons_succ]
        refine wpAnyT_take (i := 9) (v := ?_) rfl (by kernel_rfl) (fun _ _ _ h => h) (Or.inl ⟨by rfl, ?_⟩) (by assumption) ?_
        rotate_left
        · (intro W hSw; (try dsimp only at hSw); go_simp; (try with_reducible rfl))
        try simp only [Act.put, List.getElem_toArray, List.getElem_cons_succ, List.getElem_cons_zero, List.setIfInBounds_toArray, List.set_cons_zero, List.set_cons_succ]
        refine wpAnyT_take (i := 10) (v := ?_) rfl (by kernel_rfl) (fun _ _ _ h => h) (Or.inl ⟨by rfl, ?_⟩) (by assumption) ?_
        rotate_left
        · (intro W hSw; (try dsimp only at hSw); go_simp; (try with_reducible rfl))
        try simp only [Act.put, List.getElem_toArray, List.getElem_cons_succ, List.getElem_cons_zero, List.setIfInBounds_toArray, List.set_cons_zero, List.set_cons_succ]
        refine wpAnyT_take (i := 11) (v := ?_) rfl (by kernel_rfl) (fun _ _ _ h => h) (Or.inl ⟨by rfl, ?_⟩) (by assumption) ?_
        rotate_left
        · (intro W hSw; (try dsimp only at hSw); go_simp; (try with_reducible rfl))
        try simp only [Act.put, List.getElem_toArray, List.getElem_cons_succ, List.getElem_cons_zero, List.setIfInBounds_toArray, List.set_cons_zero, List.set_cons_succ]
        refine wpAnyT_one (i := 12) rfl (by kernel_rfl) (fun K hK => ?_)
        go_simp
        refine hK.out _ _ (fun _ => ⟨hHeld.1.alloc _, ext_cell ((Ext.refl _).alloc _) hHeld.2.1, ext_cell ((Ext.refl _).alloc _) hHeld.2.2.1, ext_cell ((Ext.refl _).alloc _) hHeld.2.2.2⟩) (fun hH => ?_)
        replace hHeld := hH (by decide)
        clear hK K hH
        try simp only [Act.put, List.getElem_toArray, List.getElem_cons_succ, List.getElem_cons_zero, List.setIfInBounds_toArray, List.set_cons_zero, List.set_cons_succ]
        refine wpAnyT_one (i := 13) rfl (by kernel_rfl) (fun K hK => ?_)
        go_simp
        refine hK.out _ _ (fun h => absurd rfl h) (fun _ => ?_)
        clear hK K hHeld
        try simp only [Act.put, List.getElem_toArray, List.getElem_cons_succ, List.getElem_cons_zero, List.setIfInBounds_toArray, List.set_cons_zero, List.set_cons_succ]
        refine wpAnyT_done (by kernel_rfl) ?_ _
        obtain ⟨x3, hx3⟩ : ∃ x, W2.heap.size = x := ⟨_, rfl⟩
        obtain ⟨W3, hW3⟩ : ∃ V, (W2.alloc (.cells #[.string S, .slice (some ⟨gA, 0, none⟩) (K + 1) k2, .slice (some ⟨gB, 0, none⟩) K d2] 25)).drew = V := ⟨_, rfl⟩
        have hX3 : Ext W2 W3 := by rw [← hW3]; exact ((Ext.refl W2).alloc _).drew
        obtain ⟨_, _, hv, _, hss⟩ := HOS.out.slice HFN.out
        injection hv with e1 _ e2
        subst e1; subst e2
        have HF1 := Lib.hid (show LogB W3 x3 (some ⟨gA, 0, none⟩) (K + 1) k2 (some ⟨gB, 0, none⟩) K d2 S (FR.take (K + 1)) (FL.take K) by rw [← hW3, ← hx3]; exact (LogB.new (by have h := HOR.out.rd.take (m := K + 1) (by omega); rw [Nat.mul_one, nV_take] at h; exact h) (hss.take (by omega))).ext (Ext.refl _).drew)
        rw [hx3, hW3]
        have E3 := Lib.hid (E2.out.trans hX3)
        replace HZB := Lib.hid (HZB.out.ext hX3); replace HBX := Lib.hid (HBX.out.ext hX3); replace HOR := Lib.hid (HOR.out.ext hX3); replace HOS := Lib.hid (HOS.out.ext hX3)
        clear hW3 hx3 hX3 hss c0 c1 c2
        obtain ⟨c0, c1, c2⟩ := HF1.out.cells
        go_wp2_with fail
        clear c0 c1 c2
        refine (HM1.out _ E3.out HF1.out).mono ?_; rintro e w3 ⟨rfl, hx3⟩
        have e3 : Ext w w3 := E3.out.trans hx3
        replace HZB := Lib.hid (HZB.out.ext hx3)
        replace HBX := Lib.hid (HBX.out.ext hx3)
        replace HOR := Lib.hid (HOR.out.ext hx3)
        replace HOS := Lib.hid (HOS.out.ext hx3)
        clear hx3
        have z0c : w3.cell? ⟨x5, 0, none⟩ = some (.int .u8 z0) := HZB.out.cell rfl
        have c0 : w3.cell? ⟨x2, 0, none⟩ = some (.string S) := HBX.out.cell rfl; have c1 : w3.cell? ⟨x2, 1, none⟩ = some (.slice (some ⟨gA, 0, none⟩) (FN + 1) k2) := HBX.out.cell rfl; have c2 : w3.cell? ⟨x2, 2, none⟩ = some (.slice (some ⟨gB, 0, none⟩) FN d2) := HBX.out.cell rfl
        have f0 := HBX.out.frozen 0; have f1 := HBX.out.frozen 1
        obtain ⟨_, _, hv5, _, _, _, hcA⟩ := HOR.out.cells (by omega)
        injection hv5 with e1 _ e2
        injection e1 with e1
        injection e1 with e1
        subst e1; subst e2
        have hne := own_ne_box16 HOR.out HBX.out (by decide)
        obtain ⟨curA, fA, hblk⟩ := own_block16 HOR.out
        have hFR1 : K + 1 < FR.length := by have := HFR.out; omega
        have hFR0 : K < FR.length := by omega
        have a0 := hcA K (.int .i64 FR[K]) (by unfold nV; rw [List.getElem?_map, List.getElem?_eq_getElem hFR0]; rfl)
        have a1 := hcA (K + 1) (.int .i64 FR[K + 1]) (by unfold nV; rw [List.getElem?_map, List.getElem?_eq_getElem hFR1]; rfl)
        have af := HOR.out.free (K + 1)
        have i1 : (K : Int) < (FN : Int) + 1 := by omega
        have i2 : (K : Int) + 1 < (FN : Int) + 1 := by omega
        obtain ⟨rk, hrk⟩ : ∃ x, FR[K] = x := ⟨_, rfl⟩
        obtain ⟨rk1, hrk1⟩ : ∃ x, FR[K + 1] = x := ⟨_, rfl⟩
        rw [hrk] at a0; rw [hrk1] at a1
        have b1 : w3.drew.cell? ⟨gA, K + 1, none⟩ = some (.int .i64 rk1) := a1
        have bf : w3.drew.frozen? ⟨gA, K + 1, none⟩ = false := af
        have HRK := Lib.hid hrk
        clear hrk hrk1
        obtain ⟨WS, hWS⟩ : ∃ V, (w3.setCell ⟨gA, K + 1, none⟩ (.int .i64 rk)).drew = V := ⟨_, rfl⟩
        have hES : Ext w WS := by rw [← hWS]; exact (Below.setCell e3 (p := ⟨gA, K + 1, none⟩) hgA _).drew
        have hLS : LogB WS x2 (some ⟨gA, 0, none⟩) (FN + 1) k2 (some ⟨gB, 0, none⟩) FN d2 S (FR.set (K + 1) rk) FL := by
          rw [← hWS]
          refine LogB.ext (W := w3.setCell ⟨gA, K + 1, none⟩ (.int .i64 rk)) ?_ (Ext.refl _).drew
          refine ⟨HBX.out.other ⟨gA, K + 1, none⟩ hne _, (by have h := (HOR.out.set (j := K + 1) (by omega) (.int .i64 rk)).rd; rw [nV_set16] at h; exact h), ?_⟩
          obtain ⟨_, _, hv, _, hss⟩ := (HOS.out.cell_other (a := ⟨gA, K + 1, none⟩) hblk (by decide) (by decide) (.int .i64 rk)).slice HFN.out
          injection hv with e1 _ e2
          subst e1; subst e2
          exact hss
        have HWS := Lib.hid hWS; have HES := Lib.hid hES; have HLS := Lib.hid hLS
        clear hWS hES hLS
        go_wp2_with fail
        refine region_T (fun V => Ext w3 V ∧ V.cell? ⟨x2, 1, none⟩ = some (.slice (some ⟨gA, 0, none⟩) (FN + 1) k2) ∧ V.cell? ⟨gA, K, none⟩ = some (.int .i64 rk)) 10 (by kernel_rfl) (⟨(Ext.refl _).drew, c1, a0⟩) (fun hHeld => ?_)
        refine wpAnyT_take (i := 0) (v := ?_) rfl (by kernel_rfl) (fun _ _ _ h => h) (Or.inl ⟨by rfl, ?_⟩) (by assumption) ?_
        rotate_left
        · (intro W hSw; (try dsimp only at hSw); go_simp; (try with_reducible rfl))
        try simp only [Act.put, List.getElem_toArray, List.getElem_cons_succ, List.getElem_cons_zero, List.setIfInBounds_toArray, List.set_cons_zero, List.set_cons_succ]
        refine wpAnyT_take (i := 1) (v := ?_) rfl (by kernel_rfl) (fun _ _ _ h => h) (Or.inl ⟨by rfl, ?_⟩) (by assumption) ?_
        rotate_left
        · (intro W hSw; (try dsimp only at hSw); go_simp; (try with_reducible rfl))
        try simp only [Act.put, List.getElem_toArray, List.getElem_cons_succ, List.getElem_cons_zero, List.setIfInBounds_toArray, List.set_cons_zero, List.set_cons_succ]
        refine wpAnyT_take (i := 2) (v := ?_) rfl (by kernel_rfl) (fun _ _ _ h => h) (Or.inl ⟨by rfl, ?_⟩) (by assumption) ?_
        rotate_left
        · (intro W hSw; (try dsimp only at hSw); go_simp; (try with_reducible rfl))
        try simp only [Act.put, List.getElem_toArray, List.getElem_cons_succ, List.getElem_cons_zero, List.setIfInBounds_toArray, List.set_cons_zero, List.set_cons_succ]
        refine wpAnyT_take (i := 3) (v := ?_) rfl (by kernel_rfl) (fun _ _ _ h => h) (Or.inl ⟨by rfl, ?_⟩) (by assumption) ?_
        rotate_left
        · (intro W hSw; (try dsimp only at hSw); go_simp; (try with_reducible rfl))
        try simp only [Act.put, List.getElem_toArray, List.getElem_cons_succ, List.getElem_cons_zero, List.setIfInBounds_toArray, List.set_cons_zero, List.set_cons_succ]
        refine wpAnyT_take (i := 4) (v := ?_) rfl (by kernel_rfl) (fun _ _ _ h => h) (Or.inl ⟨by rfl, ?_⟩) (by assumption) ?_
        rotate_left
        · (intro W hSw; (try dsimp only at hSw); go_simp; (try with_reducible rfl))
        try simp only [Act.put, List.getElem_toArray, List.getElem_cons_succ, List.getElem_cons_zero, List.setIfInBounds_toArray, List.set_cons_zero, List.set_cons_succ]
        refine wpAnyT_take (i := 5) (v := ?_) rfl (by kernel_rfl) (fun _ _ _ h => h) (Or.inl ⟨by rfl, ?_⟩) (by assumption) ?_
        rotate_left
        · (intro W hSw; (try dsimp only at hSw); go_simp; (try with_reducible rfl))
        try simp only [Act.put, List.getElem_toArray, List.getElem_cons_succ, List.getElem_cons_zero, List.setIfInBounds_toArray, List.set_cons_zero, List.set_cons_succ]
        refine wpAnyT_take (i := 6) (v := ?_) rfl (by kernel_rfl) (fun _ _ _ h => h) (Or.inl ⟨by rfl, ?_⟩) (by assumption) ?_
        rotate_left
        · (intro W hSw; (try dsimp only at hSw); go_simp; (try with_reducible rfl))
        try simp only [Act.put, List.getElem_toArray, List.getElem_cons_succ, List.getElem_cons_zero, List.setIfInBounds_toArray, List.set_cons_zero, List.set_cons_succ]
        refine wpAnyT_take (i := 7) (v := ?_) rfl (by kernel_rfl) (fun _ _ _ h => h) (Or.inl ⟨by rfl, ?_⟩) (by assumption) ?_
        rotate_left
        · (intro W hSw; (try dsimp only at hSw); go_simp; (try with_reducible rfl))
        try simp only [Act.put, List.getElem_toArray, List.getElem_cons_succ, List.getElem_cons_zero, List.setIfInBounds_toArray, List.set_cons_zero, List.set_cons_succ]
        refine wpAnyT_take (i := 8) (v := ?_) rfl (by kernel_rfl) (fun _ _ _ h => h) (Or.inl ⟨by rfl, ?_⟩) (by assumption) ?_
        rotate_left
        · (intro W hSw; (try dsimp only at hSw); go_simp; (try with_reducible rfl))
        try simp only [Act.put, List.getElem_toArray, List.getElem_cons_succ, List.getElem_cons_zero, List.setIfInBounds_toArray, List.set_cons_zero, List.set_cons_succ]
        refine wpAnyT_take (i := 9) (v := ?_) rfl (by kernel_rfl) (fun _ _ _ h => h) (Or.inl ⟨by rfl, ?_⟩) (by assumption) ?_
        rotate_left
        · (intro W hSw; (try dsimp only at hSw); go_simp; (try with_reducible rfl))
        try simp only [Act.put, List.getElem_toArray, List.getElem_cons_succ, List.getElem_cons_zero, List.setIfInBounds_toArray, List.set_cons_zero, List.set_cons_succ]
        refine wpAnyT_one (i := 10) rfl (by kernel_rfl) (fun K hK => ?_)
        go_simp
        refine hK.out _ _ (fun h => absurd rfl h) (fun _ => ?_)
        clear hK K hHeld
        try simp only [Act.put, List.getElem_toArray, List.getElem_cons_succ, List.getElem_cons_zero, List.setIfInBounds_toArray, List.set_cons_zero, List.set_cons_succ]
        refine wpAnyT_done (by kernel_rfl) ?_ _
        have hsm : SmL S (FR.set (K + 1) rk) FL := ⟨HF.out.sm.base, by have := HF.out.sm.revs; rw [List.length_set]; omega, HF.out.sm.segs, HF.out.sm.len, HF.out.sm.sum⟩
        have hlg : logE S (FR.set (K + 1) rk) FL = 6 := by rw [← HRK.out]; exact spoil_2 HF.out hFR1
        have HQ := Lib.hid (HMY.out _ HES.out HLS.out hsm _ hlg)
        clear hsm hlg
        go_wp2_with fail
        rw [HWS.out]
        refine HQ.out.mono ?_; rintro e wF ⟨rfl, hxF⟩
        go_wp2_with fail
        go_ret
        exact ⟨rfl, HES.out.trans hxF⟩
      · have hM2 : z0.tmod 6 = 3 := by rw [Int.tmod_eq_emod_of_nonneg n0]; exact hM
        clear h hls hs hfit hF hFN s0 hok f1 s1 hK
        go_enter Tryd.func5, Tryd.ntmps5
        go_wp2_with fail
        rw [HW1.out, HX1.out]
        refine (HSH.out _ E1.out).mono ?_; rintro e w1 ⟨rfl, hx1⟩
        have e1 : Ext w w1 := E1.out.trans hx1
        replace HZB := Lib.hid (HZB.out.ext hx1)
        clear hx1
        go_wp2_with fail
        refine (HFI.out _ e1).mono ?_; rintro e w2 ⟨hx2, A2, n2, k2, B2, d2, rfl, r2, q2⟩
        have e2 : Ext w w2 := e1.trans hx2
        replace HZB := Lib.hid (HZB.out.ext hx2)
        clear hx2
        have hn2 : n2 = FN + 1 := by have := nV_len r2.rd; rw [HFR.out] at this; omega
        subst hn2
        have hbase : w.heap.size ≤ w1.heap.size := e1.size
        obtain ⟨x2, hx2⟩ : ∃ x, w2.heap.size = x := ⟨_, rfl⟩
        obtain ⟨W2, hW2⟩ : ∃ V, w2.alloc (.cells #[.string S, .slice A2 (FN + 1) k2, .slice B2 FN d2] 25) = V := ⟨_, rfl⟩
        have hX2 : Ext w2 W2 := by rw [← hW2]; exact (Ext.refl w2).alloc _
        have HBX := Lib.hid (show BxT 25 W2 x2 #[.string S, .slice A2 (FN + 1) k2, .slice B2 FN d2] by rw [← hW2, ← hx2]; exact BxT.new w2 25 _)
        have hge : w.heap.size ≤ x2 := by rw [← hx2]; exact e2.size
        have E2 := Lib.hid (e2.trans hX2 : Ext w W2)
        replace HZB := Lib.hid (HZB.out.ext hX2)
        have HOR := Lib.hid ((r2.more hbase).ext hX2); have HOS := Lib.hid ((q2.more hbase).ext hX2)
        have HW2 := Lib.hid hW2; have HX2 := Lib.hid hx2
        clear hW2 hx2 hX2 r2 q2 e2 e1 hbase
        have z1a : (w2.alloc (.cells #[.string S, .slice A2 (FN + 1) k2, .slice B2 FN d2] 25)).cell? ⟨x5, 1, none⟩ = some (.int .u8 z1) := by rw [HW2.out]; exact HZB.out.cell rfl
        go_wp2_with fail
        rw [HW2.out, HX2.out]
        clear z1a
        have c0 : W2.cell? ⟨x2, 0, none⟩ = some (.string S) := HBX.out.cell rfl; have c1 : W2.cell? ⟨x2, 1, none⟩ = some (.slice A2 (FN + 1) k2) := HBX.out.cell rfl; have c2 : W2.cell? ⟨x2, 2, none⟩ = some (.slice B2 FN d2) := HBX.out.cell rfl
        obtain ⟨gA, _, hvA, hcA, hgA, hgA2, hcellA⟩ := HOR.out.cells (by omega)
        injection hvA with e1 _ e2
        subst e1; subst e2
        obtain ⟨gB, u0, hvB, hgB, hgB2, hcellB, hfrB, _⟩ := HOS.out.set (u := .slice none 0 0) (l' := []) HFN.out (by decide) hKN (Own.nil _ _ _ _ HOS.out.base)
        subst hvB
        clear hcellB hfrB u0
        have g0 : (0 : Int) ≤ (K : Int) := by omega
        have g1 : (K : Int) + 1 ≤ (k2 : Int) := by omega
        have hd2 : FN ≤ d2 := by obtain ⟨_, _, hv, hc, _⟩ := HOS.out.slice HFN.out; injection hv with _ _ e; omega
        have g2 : (K : Int) ≤ (d2 : Int) := by omega
        have g3 : (0 : Int) ≤ (K : Int) + 1 := by omega
        have hwk : IntKind.i64.wrap ((K : Int) + 1) = (K : Int) + 1 := by rw [IntKind.wrap_i64]; omega
        have hwt : ((K : Int) + 1).toNat = K + 1 := by omega
        refine region_T (fun V => Ext W2 V ∧ V.cell? ⟨x2, 0, none⟩ = some (.string S) ∧ V.cell? ⟨x2, 1, none⟩ = some (.slice (some ⟨gA, 0, none⟩) (FN + 1) k2) ∧ V.cell? ⟨x2, 2, none⟩ = some (.slice (some ⟨gB, 0, none⟩) FN d2)) 13 (by kernel_rfl) (⟨(Ext.refl _).drew, c0, c1, c2⟩) (fun hHeld => ?_)
        refine wpAnyT_take (i := 0) (v := ?_) rfl (by kernel_rfl) (fun _ _ _ h => h) (Or.inl ⟨by rfl, ?_⟩) (by assumption) ?_
        rotate_left
        · (intro W hSw; (try dsimp only at hSw); go_simp; (try with_reducible rfl))
        try simp only [Act.put, List.getElem_toArray, List.getElem_cons_succ, List.getElem_cons_zero, List.setIfInBounds_toArray, List.set_cons_zero, List.set_cons_succ]
        refine wpAnyT_take (i := 1) (v := ?_) rfl (by kernel_rfl) (fun _ _ _ h => h) (Or.inl ⟨by rfl, ?_⟩) (by assumption) ?_
        rotate_left
        · (intro W hSw; (try dsimp only at hSw); go_simp; (try with_reducible rfl))
        try simp only [Act.put, List.getElem_toArray, List.getElem_cons_succ, List.getElem_cons_zero, List.setIfInBounds_toArray, List.set_cons_zero, List.set_cons_succ]
        refine wpAnyT_take (i := 2) (v := ?_) rfl (by kernel_rfl) (fun _ _ _ h => h) (Or.inl ⟨by rfl, ?_⟩) (by assumption) ?_
        rotate_left
        · (intro W hSw; (try dsimp only at hSw); go_simp; (try with_reducible rfl))
        try simp only [Act.put, List.getElem_toArray, List.getElem_cons_succ, List.getElem_cons_zero, List.setIfInBounds_toArray, List.set_cons_zero, List.set_cons_succ]
        refine wpAnyT_take (i := 3) (v := ?_) rfl (by kernel_rfl) (fun _ _ _ h => h) (Or.inl ⟨by rfl, ?_⟩) (by assumption) ?_
        rotate_left
        · (intro W hSw; (try dsimp only at hSw); go_simp; (try with_reducible rfl))
        try simp only [Act.put, List.getElem_toArray, List.getElem_cons_succ, List.getElem_cons_zero, List.setIfInBounds_toArray, List.set_cons_zero, List.set_cons_succ]
        refine wpAnyT_take (i := 4) (v := ?_) rfl (by kernel_rfl) (fun _ _ _ h => h) (Or.inl ⟨by rfl, ?_⟩) (by assumption) ?_
        rotate_left
        · (intro W hSw; (try dsimp only at hSw); go_simp; (try with_reducible rfl))
        try simp only [Act.put, List.getElem_toArray, List.getElem_cons_succ, List.getElem_cons_zero, List.setIfInBounds_toArray, List.set_cons_zero, List.set_cons_succ]
        refine wpAnyT_take (i := 5) (v := ?_) rfl (by kernel_rfl) (fun _ _ _ h => h) (Or.inl ⟨by rfl, ?_⟩) (by assumption) ?_
        rotate_left
        · (intro W hSw; (try dsimp only at hSw); go_simp; (try with_reducible rfl))
        try simp only [Act.put, List.getElem_toArray, List.getElem_cons_succ, List.getElem_cons_zero, List.setIfInBounds_toArray, List.set_cons_zero, List.set_cons_succ]
        refine wpAnyT_take (i := 6) (v := ?_) rfl (by kernel_rfl) (fun _ _ _ h => h) (Or.inl ⟨by rfl, ?_⟩) (by assumption) ?_
        rotate_left
        · (intro W hSw; (try dsimp only at hSw); go_simp; (try with_reducible rfl))
        try simp only [Act.put, List.getElem_toArray, List.getElem_cons_succ, List.getElem_cons_zero, List.setIfInBounds_toArray, List.set_cons_zero, List.set_cons_succ]
        refine wpAnyT_take (i := 7) (v := ?_) rfl (by kernel_rfl) (fun _ _ _ h => h) (Or.inl ⟨by rfl, ?_⟩) (by assumption) ?_
        rotate_left
        · (intro W hSw; (try dsimp only at hSw); go_simp; (try with_reducible rfl))
        try simp only [Act.put, List.getElem_toArray, List.getElem_cons_succ, List.getElem_cons_zero, List.setIfInBounds_toArray, List.set_cons_zero, List.set_cons_succ]
        refine wpAnyT_take (i := 8) (v := ?_) rfl (by kernel_rfl) (fun _ _ _ h => h) (Or.inl ⟨by rfl, ?_⟩) (by assumption) ?_
        rotate_left
        · (intro W hSw; (try dsimp only at hSw); go_simp; (try with_reducible rfl))
        try simp only [Act.put, List.getElem_toArray, List.getElem_cons_succ, List.getElem_cons_zero, List.setIfInBounds_toArray, List.set_cons_zero, List.set_cons_succ]
        refine wpAnyT_take (i := 9) (v := ?_) rfl (by kernel_rfl) (fun _ _ _ h => h) (Or.inl ⟨by rfl, ?_⟩) (by assumption) ?_
        rotate_left
        · (intro W hSw; (try dsimp only at hSw); go_simp; (try with_reducible rfl))
        try simp only [Act.put, List.getElem_toArray, List.getElem_cons_succ, List.getElem_cons_zero, List.setIfInBounds_toArray, List.set_cons_zero, List.set_cons_succ]
        refine wpAnyT_take (i := 10) (v := ?_) rfl (by kernel_rfl) (fun _ _ _ h => h) (Or.inl ⟨by rfl, ?_⟩) (by assumption) ?_
        rotate_left
        · (intro W hSw; (try dsimp only at hSw); go_simp; (try with_reducible rfl))
        try simp only [Act.put, List.getElem_toArray, List.getElem_cons_succ, List.getElem_cons_zero, List.setIfInBounds_toArray, List.set_cons_zero, List.set_cons_succ]
        refine wpAnyT_take (i := 11) (v := ?_) rfl (by kernel_rfl) (fun _ _ _ h => h) (Or.inl ⟨by rfl, ?_⟩) (by assumption) ?_
        rotate_left
        · (intro W hSw; (try dsimp only at hSw); go_simp; (try with_reducible rfl))
        try simp only [Act.put, List.getElem_toArray, List.getElem_cons_succ, List.getElem_cons_zero, List.setIfInBounds_toArray, List.set_cons_zero, List.set_cons_succ]
        refine wpAnyT_one (i := 12) rfl (by kernel_rfl) (fun K hK => ?_)
        go_simp
        refine hK.out _ _ (fun _ => ⟨hHeld.1.alloc _, ext_cell ((Ext.refl _).alloc _) hHeld.2.1, ext_cell ((Ext.refl _).alloc _) hHeld.2.2.1, ext_cell ((Ext.refl _).alloc _) hHeld.2.2.2⟩) (fun hH => ?_)
        replace hHeld := hH (by decide)
        clear hK K hH
        try simp only [Act.put, List.getElem_toArray, List.getElem_cons_succ, List.getElem_cons_zero, List.setIfInBounds_toArray, List.set_cons_zero, List.set_cons_succ]
        refine wpAnyT_one (i := 13) rfl (by kernel_rfl) (fun K hK => ?_)
        go_simp
        refine hK.out _ _ (fun h => absurd rfl h) (fun _ => ?_)
        clear hK K hHeld
        try simp only [Act.put, List.getElem_toArray, List.getElem_cons_succ, List.getElem_cons_zero, List.setIfInBounds_toArray, List.set_cons_zero, List.set_cons_succ]
        refine wpAnyT_done (by kernel_rfl) ?_ _
        obtain ⟨x3, hx3⟩ : ∃ x, W2.heap.size = x := ⟨_, rfl⟩
        obtain ⟨W3, hW3⟩ : ∃ V, (W2.alloc (.cells #[.string S, .slice (some ⟨gA, 0, none⟩) (K + 1) k2, .slice (some ⟨gB, 0, none⟩) K d2] 25)).drew = V := ⟨_, rfl⟩
        have hX3 : Ext W2 W3 := by rw [← hW3]; exact ((Ext.refl W2).alloc _).drew
        obtain ⟨_, _, hv, _, hss⟩ := HOS.out.slice HFN.out
        injection hv with e1 _ e2
        subst e1; subst e2
        have HF1 := Lib.hid (show LogB W3 x3 (some ⟨gA, 0, none⟩) (K + 1) k2 (some ⟨gB, 0, none⟩) K d2 S (FR.take (K + 1)) (FL.take K) by rw [← hW3, ← hx3]; exact (LogB.new (by have h := HOR.out.rd.take (m := K + 1) (by omega); rw [Nat.mul_one, nV_take] at h; exact h) (hss.take (by omega))).ext (Ext.refl _).drew)
        rw [hx3, hW3]
        have E3 := Lib.hid (E2.out.trans hX3)
        replace HZB := Lib.hid (HZB.out.ext hX3); replace HBX := Lib.hid (HBX.out.ext hX3); replace HOR := Lib.hid (HOR.out.ext hX3); replace HOS := Lib.hid (HOS.out.ext hX3)
        clear hW3 hx3 hX3 hss c0 c1 c2
        obtain ⟨c0, c1, c2⟩ := HF1.out.cells
        go_wp2_with fail
        clear c0 c1 c2
        refine (HM1.out _ E3.out HF1.out).mono ?_; rintro e w3 ⟨rfl, hx3⟩
        have e3 : Ext w w3 := E3.out.trans hx3
        replace HZB := Lib.hid (HZB.out.ext hx3)
        replace HBX := Lib.hid (HBX.out.ext hx3)
        replace HOR := Lib.hid (HOR.out.ext hx3)
        replace HOS := Lib.hid (HOS.out.ext hx3)
        clear hx3
        have z0c : w3.cell? ⟨x5, 0, none⟩ = some (.int .u8 z0) := HZB.out.cell rfl
        have c0 : w3.cell? ⟨x2, 0, none⟩ = some (.string S) := HBX.out.cell rfl; have c1 : w3.cell? ⟨x2, 1, none⟩ = some (.slice (some ⟨gA, 0, none⟩) (FN + 1) k2) := HBX.out.cell rfl; have c2 : w3.cell? ⟨x2, 2, none⟩ = some (.slice (some ⟨gB, 0, none⟩) FN d2) := HBX.out.cell rfl
        have f0 := HBX.out.frozen 0; have f1 := HBX.out.frozen 1
        obtain ⟨_, _, hv5, _, _, _, hcA⟩ := HOR.out.cells (by omega)
        injection hv5 with e1 _ e2
        injection e1 with e1
        injection e1 with e1
        subst e1; subst e2
        have hne := own_ne_box16 HOR.out HBX.out (by decide)
        obtain ⟨curA, fA, hblk⟩ := own_block16 HOR.out
        have hFR0 : 0 < FR.length := by have := HFR.out; omega
        have a0 := hcA 0 (.int .i64 FR[0]) (by unfold nV; rw [List.getElem?_map, List.getElem?_eq_getElem hFR0]; rfl)
        have af := HOR.out.free 0
        have i1 : (0 : Int) < (FN : Int) + 1 := by omega
        obtain ⟨WS, hWS⟩ : ∃ V, w3.setCell ⟨gA, 0, none⟩ (.int .i64 (-1)) = V := ⟨_, rfl⟩
        have hES : Ext w WS := by rw [← hWS]; exact Below.setCell e3 (p := ⟨gA, 0, none⟩) hgA _
        have hLS : LogB WS x2 (some ⟨gA, 0, none⟩) (FN + 1) k2 (some ⟨gB, 0, none⟩) FN d2 S (FR.set 0 (-1)) FL := by
          rw [← hWS]
          refine ⟨HBX.out.other ⟨gA, 0, none⟩ hne _, (by have h := (HOR.out.set (j := 0) (by omega) (.int .i64 (-1))).rd; rw [nV_set16] at h; exact h), ?_⟩
          obtain ⟨_, _, hv, _, hss⟩ := (HOS.out.cell_other (a := ⟨gA, 0, none⟩) hblk (by decide) (by decide) (.int .i64 (-1))).slice HFN.out
          injection hv with e1 _ e2
          subst e1; subst e2
          exact hss
        have HWS := Lib.hid hWS; have HES := Lib.hid hES; have HLS := Lib.hid hLS
        clear hWS hES hLS
        have hsm : SmL S (FR.set 0 (-1)) FL := ⟨HF.out.sm.base, by have := HF.out.sm.revs; rw [List.length_set]; omega, HF.out.sm.segs, HF.out.sm.len, HF.out.sm.sum⟩
        have hlg : logE S (FR.set 0 (-1)) FL = 6 := spoil_3 HF.out hFR0
        have HQ := Lib.hid (HMY.out _ HES.out HLS.out hsm _ hlg)
        clear hsm hlg
        go_wp2_with fail
        rw [HWS.out]
        refine HQ.out.mono ?_; rintro e wF ⟨rfl, hxF⟩
        go_wp2_with fail
        go_ret
        exact ⟨rfl, HES.out.trans hxF⟩
      · have hM2 : z0.tmod 6 = 4 := by rw [Int.tmod_eq_emod_of_nonneg n0]; exact hM
        clear h hls hs hfit hF hFN s0 hok f1 s1 hK
        go_enter Tryd.func5, Tryd.ntmps5
        go_wp2_with fail
        rw [HW1.out, HX1.out]
        refine (HSH.out _ E1.out).mono ?_; rintro e w1 ⟨rfl, hx1⟩
        have e1 : Ext w w1 := E1.out.trans hx1
        replace HZB := Lib.hid (HZB.out.ext hx1)
        clear hx1
        go_wp2_with fail
        refine (HFI.out _ e1).mono ?_; rintro e w2 ⟨hx2, A2, n2, k2, B2, d2, rfl, r2, q2⟩
        have e2 : Ext w w2 := e1.trans hx2
        replace HZB := Lib.hid (HZB.out.ext hx2)
        clear hx2
        have hn2 : n2 = FN + 1 := by have := nV_len r2.rd; rw [HFR.out] at this; omega
        subst hn2
        have hbase : w.heap.size ≤ w1.heap.size := e1.size
        obtain ⟨x2, hx2⟩ : ∃ x, w2.heap.size = x := ⟨_, rfl⟩
        obtain ⟨W2, hW2⟩ : ∃ V, w2.alloc (.cells #[.string S, .slice A2 (FN + 1) k2, .slice B2 FN d2] 25) = V := ⟨_, rfl⟩
        have hX2 : Ext w2 W2 := by rw [← hW2]; exact (Ext.refl w2).alloc _
        have HBX := Lib.hid (show BxT 25 W2 x2 #[.string S, .slice A2 (FN + 1) k2, .slice B2 FN d2] by rw [← hW2, ← hx2]; exact BxT.new w2 25 _)
        have hge : w.heap.size ≤ x2 := by rw [← hx2]; exact e2.size
        have E2 := Lib.hid (e2.trans hX2 : Ext w W2)
        replace HZB := Lib.hid (HZB.out.ext hX2)
        have HOR := Lib.hid ((r2.more hbase).ext hX2); have HOS := Lib.hid ((q2.more hbase).ext hX2)
        have HW2 := Lib.hid hW2; have HX2 := Lib.hid hx2
        clear hW2 hx2 hX2 r2 q2 e2 e1 hbase
        have z1a : (w2.alloc (.cells #[.string S, .slice A2 (FN + 1) k2, .slice B2 FN d2] 25)).cell? ⟨x5, 1, none⟩ = some (.int .u8 z1) := by rw [HW2.out]; exact HZB.out.cell rfl
        go_wp2_with fail
        rw [HW2.out, HX2.out]
        clear z1a
        have c0 : W2.cell? ⟨x2, 0, none⟩ = some (.string S) := HBX.out.cell rfl; have c1 : W2.cell? ⟨x2, 1, none⟩ = some (.slice A2 (FN + 1) k2) := HBX.out.cell rfl; have c2 : W2.cell? ⟨x2, 2, none⟩ = some (.slice B2 FN d2) := HBX.out.cell rfl
        obtain ⟨gA, _, hvA, hcA, hgA, hgA2, hcellA⟩ := HOR.out.cells (by omega)
        injection hvA with e1 _ e2
        subst e1; subst e2
        obtain ⟨gB, u0, hvB, hgB, hgB2, hcellB, hfrB, _⟩ := HOS.out.set (u := .slice none 0 0) (l' := []) HFN.out (by decide) hKN (Own.nil _ _ _ _ HOS.out.base)
        subst hvB
        clear hcellB hfrB u0
        have g0 : (0 : Int) ≤ (K : Int) := by omega
        have g1 : (K : Int) + 1 ≤ (k2 : Int) := by omega
        have hd2 : FN ≤ d2 := by obtain ⟨_, _, hv, hc, _⟩ := HOS.out.slice HFN.out; injection hv with _ _ e; omega
        have g2 : (K : Int) ≤ (d2 : Int) := by omega
        have g3 : (0 : Int) ≤ (K : Int) + 1 := by omega
        have hwk : IntKind.i64.wrap ((K : Int) + 1) = (K : Int) + 1 := by rw [IntKind.wrap_i64]; omega
        have hwt : ((K : Int) + 1).toNat = K + 1 := by omega
        refine region_T (fun V => Ext W2 V ∧ V.cell? ⟨x2, 0, none⟩ = some (.string S) ∧ V.cell? ⟨x2, 1, none⟩ = some (.slice (some ⟨gA, 0, none⟩) (FN + 1) k2) ∧ V.cell? ⟨x2, 2, none⟩ = some (.slice (some ⟨gB, 0, none⟩) FN d2)) 13 (by kernel_rfl) (⟨(Ext.refl _).drew, c0, c1, c2⟩) (fun hHeld => ?_)
        refine wpAnyT_take (i := 0) (v := ?_) rfl (by kernel_rfl) (fun _ _ _ h => h) (Or.inl ⟨by rfl, ?_⟩) (by assumption) ?_
        rotate_left
        · (intro W hSw; (try dsimp only at hSw); go_simp; (try with_reducible rfl))
        try simp only [Act.put, List.getElem_toArray, List.getElem_cons_succ, List.getElem_cons_zero, List.setIfInBounds_toArray, List.set_cons_zero, List.set_cons_succ]
        refine wpAnyT_take (i := 1) (v := ?_) rfl (by kernel_rfl) (fun _ _ _ h => h) (Or.inl ⟨by rfl, ?_⟩) (by assumption) ?_
        rotate_left
        · (intro W hSw; (try dsimp only at hSw); go_simp; (try with_reducible rfl))
        try simp only [Act.put, List.getElem_toArray, List.getElem_cons_succ, List.getElem_cons_zero, List.setIfInBounds_toArray, List.set_cons_zero, List.set_cons_succ]
        refine wpAnyT_take (i := 2) (v := ?_) rfl (by kernel_rfl) (fun _ _ _ h => h) (Or.inl ⟨by rfl, ?_⟩) (by assumption) ?_
        rotate_left
        · (intro W hSw; (try dsimp only at hSw); go_simp; (try with_reducible rfl))
        try simp only [Act.put, List.getElem_toArray, List.getElem_cons_succ, List.getElem_cons_zero, List.setIfInBounds_toArray, List.set_cons_zero, List.set_cons_succ]
        refine wpAnyT_take (i := 3) (v := ?_) rfl (by kernel_rfl) (fun _ _ _ h => h) (Or.inl ⟨by rfl, ?_⟩) (by assumption) ?_
        rotate_left
        · (intro W hSw; (try dsimp only at hSw); go_simp; (try with_reducible rfl))
        try simp only [Act.put, List.getElem_toArray, List.getElem_cons_succ, List.getElem_cons_zero, List.setIfInBounds_toArray, List.set_cons_zero, List.set_cons_succ]
        refine wpAnyT_take (i := 4) (v := ?_) rfl (by kernel_rfl) (fun _ _ _ h => h) (Or.inl ⟨by rfl, ?_⟩) (by assumption) ?_
        rotate_left
        · (intro W hSw; (try dsimp only at hSw); go_simp; (try with_reducible rfl))
        try simp only [Act.put, List.getElem_toArray, List.getElem_cons_succ, List.getElem_cons_zero, List.setIfInBounds_toArray, List.set_cons_zero, List.set_cons_succ]
        refine wpAnyT_take (i := 5) (v := ?_) rfl (by kernel_rfl) (fun _ _ _ h => h) (Or.inl ⟨by rfl, ?_⟩) (by assumption) ?_
        rotate_left
        · (intro W hSw; (try dsimp only at hSw); go_simp; (try with_reducible rfl))
        try simp only [Act.put, List.getElem_toArray, List.getElem_cons_succ, List.getElem_cons_zero, List.setIfInBounds_toArray, List.set_cons_zero, List.set_cons_succ]
        refine wpAnyT_take (i := 6) (v := ?_) rfl (by kernel_rfl) (fun _ _ _ h => h) (Or.inl ⟨by rfl, ?_⟩) (by assumption) ?_
        rotate_left
        · (intro W hSw; (try dsimp only at hSw); go_simp; (try with_reducible rfl))
        try simp only [Act.put, List.getElem_toArray, List.getElem_cons_succ, List.getElem_cons_zero, List.setIfInBounds_toArray, List.set_cons_zero, List.set_cons_succ]
        refine wpAnyT_take (i := 7) (v := ?_) rfl (by kernel_rfl) (fun _ _ _ h => h) (Or.inl ⟨by rfl, ?_⟩) (by assumption) ?_
        rotate_left
        · (intro W hSw; (try dsimp only at hSw); go_simp; (try with_reducible rfl))
        try simp only [Act.put, List.getElem_toArray, List.getElem_cons_succ, List.getElem_cons_zero, List.setIfInBounds_toArray, List.set_cons_zero, List.set_cons_succ]
        refine wpAnyT_take (i := 8) (v := ?_) rfl (by kernel_rfl) (fun _ _ _ h => h) (Or.inl ⟨by rfl, ?_⟩) (by assumption) ?_
        rotate_left
        · (intro W hSw; (try dsimp only at hSw); go_simp; (try with_reducible rfl))
        try simp only [Act.put, List.getElem_toArray, List.getElem_cons_succ, List.getElem_cons_zero, List.setIfInBounds_toArray, List.set_cons_zero, List.set_cons_succ]
        refine wpAnyT_take (i := 9) (v := ?_) rfl (by kernel_rfl) (fun _ _ _ h => h) (Or.inl ⟨by rfl, ?_⟩) (by assumption) ?_
        rotate_left
        · (intro W hSw; (try dsimp only at hSw); go_simp; (try with_reducible rfl))
        try simp only [Act.put, List.getElem_toArray, List.getElem_cons_succ, List.getElem_cons_zero, List.setIfInBounds_toArray, List.set_cons_zero, List.set_cons_succ]
        refine wpAnyT_take (i := 10) (v := ?_) rfl (by kernel_rfl) (fun _ _ _ h => h) (Or.inl ⟨by rfl, ?_⟩) (by assumption) ?_
        rotate_left
        · (intro W hSw; (try dsimp only at hSw); go_simp; (try with_reducible rfl))
        try simp only [Act.put, List.getElem_toArray, List.getElem_cons_succ, List.getElem_cons_zero, List.setIfInBounds_toArray, List.set_cons_zero, List.set_cons_succ]
        refine wpAnyT_take (i := 11) (v := ?_) rfl (by kernel_rfl) (fun _ _ _ h => h) (Or.inl ⟨by rfl, ?_⟩) (by assumption) ?_
        rotate_left
        · (intro W hSw; (try dsimp only at hSw); go_simp; (try with_reducible rfl))
        try simp only [Act.put, List.getElem_toArray, List.getElem_cons_succ, List.getElem_cons_zero, List.setIfInBounds_toArray, List.set_cons_zero, List.set_cons_succ]
        refine wpAnyT_one (i := 12) rfl (by kernel_rfl) (fun K hK => ?_)
        go_simp
        refine hK.out _ _ (fun _ => ⟨hHeld.1.alloc _, ext_cell ((Ext.refl _).alloc _) hHeld.2.1, ext_cell ((Ext.refl _).alloc _) hHeld.2.2.1, ext_cell ((Ext.refl _).alloc _) hHeld.2.2.2⟩) (fun hH => ?_)
        replace hHeld := hH (by decide)
        clear hK K hH
        try simp only [Act.put, List.getElem_toArray, List.getElem_cons_succ, List.getElem_cons_zero, List.setIfInBounds_toArray, List.set_cons_zero, List.set_cons_succ]
        refine wpAnyT_one (i := 13) rfl (by kernel_rfl) (fun K hK => ?_)
        go_simp
        refine hK.out _ _ (fun h => absurd rfl h) (fun _ => ?_)
        clear hK K hHeld
        try simp only [Act.put, List.getElem_toArray, List.getElem_cons_succ, List.getElem_cons_zero, List.setIfInBounds_toArray, List.set_cons_zero, List.set_cons_succ]
        refine wpAnyT_done (by kernel_rfl) ?_ _
        obtain ⟨x3, hx3⟩ : ∃ x, W2.heap.size = x := ⟨_, rfl⟩
        obtain ⟨W3, hW3⟩ : ∃ V, (W2.alloc (.cells #[.string S, .slice (some ⟨gA, 0, none⟩) (K + 1) k2, .slice (some ⟨gB, 0, none⟩) K d2] 25)).drew = V := ⟨_, rfl⟩
        have hX3 : Ext W2 W3 := by rw [← hW3]; exact ((Ext.refl W2).alloc _).drew
        obtain ⟨_, _, hv, _, hss⟩ := HOS.out.slice HFN.out
        injection hv with e1 _ e2
        subst e1; subst e2
        have HF1 := Lib.hid (show LogB W3 x3 (some ⟨gA, 0, none⟩) (K + 1) k2 (some ⟨gB, 0, none⟩) K d2 S (FR.take (K + 1)) (FL.take K) by rw [← hW3, ← hx3]; exact (LogB.new (by have h := HOR.out.rd.take (m := K + 1) (by omega); rw [Nat.mul_one, nV_take] at h; exact h) (hss.take (by omega))).ext (Ext.refl _).drew)
        rw [hx3, hW3]
        have E3 := Lib.hid (E2.out.trans hX3)
        replace HZB := Lib.hid (HZB.out.ext hX3); replace HBX := Lib.hid (HBX.out.ext hX3); replace HOR := Lib.hid (HOR.out.ext hX3); replace HOS := Lib.hid (HOS.out.ext hX3)
        clear hW3 hx3 hX3 hss c0 c1 c2
        obtain ⟨c0, c1, c2⟩ := HF1.out.cells
        go_wp2_with fail
        clear c0 c1 c2
        refine (HM1.out _ E3.out HF1.out).mono ?_; rintro e w3 ⟨rfl, hx3⟩
        have e3 : Ext w w3 := E3.out.trans hx3
        replace HZB := Lib.hid (HZB.out.ext hx3)
        replace HBX := Lib.hid (HBX.out.ext hx3)
        replace HOR := Lib.hid (HOR.out.ext hx3)
        replace HOS := Lib.hid (HOS.out.ext hx3)
        clear hx3
        have z0c : w3.cell? ⟨x5, 0, none⟩ = some (.int .u8 z0) := HZB.out.cell rfl
        have c0 : w3.cell? ⟨x2, 0, none⟩ = some (.string S) := HBX.out.cell rfl; have c1 : w3.cell? ⟨x2, 1, none⟩ = some (.slice (some ⟨gA, 0, none⟩) (FN + 1) k2) := HBX.out.cell rfl; have c2 : w3.cell? ⟨x2, 2, none⟩ = some (.slice (some ⟨gB, 0, none⟩) FN d2) := HBX.out.cell rfl
        have f0 := HBX.out.frozen 0; have f1 := HBX.out.frozen 1
        obtain ⟨gB2, u0, hv5, hgBw, hgBl, _, hfB, _⟩ := HOS.out.set (u := .slice none 0 0) (l' := []) HFN.out (by decide) hKN (Own.nil _ _ _ _ HOS.out.base)
        injection hv5 with hv5; injection hv5 with hv5
        subst hv5
        obtain ⟨_, _, hv6, _, hrs⟩ := HOS.out.slice HFN.out
        injection hv6 with e1 _ e2
        subst e1; subst e2
        have hKL : K < FL.length := by have := HFN.out; omega
        obtain ⟨_, _, a, kc, hv7, _, q0, hr⟩ := hrs.at_ hKN hKL
        injection hv7 with hv7; injection hv7 with e3 e4
        subst e3; subst e4
        rw [Nat.zero_add] at q0
        obtain ⟨l, hl⟩ : ∃ l, FL[K] = l := ⟨_, rfl⟩
        have HLG : Hid (logE S FR (FL.set K (l ++ [((2 : Int), (0 : Int), (⟨#[]⟩ : ByteArray))])) = 8) := Lib.hid (by rw [← hl]; exact spoil_4 HF.out hKL)
        have HL13 := Lib.hid (HF.out.len _ (List.getElem_mem hKL))
        have HSU := Lib.hid (sumT_le16 _ (List.getElem_mem hKL))
        rw [hl] at q0 hr HL13 HSU
        obtain ⟨kl, hkl⟩ : ∃ k, l.length = k := ⟨_, rfl⟩
        have HK13 := HL13.out
        rw [hkl] at q0 hr HK13
        have HKLL := Lib.hid hkl
        clear hl hkl hrs
        obtain ⟨vsB, hoB, heB⟩ := HOS.out
        rw [HFN.out] at hoB
        have hneB := own_ne_box16 hoB HBX.out (by decide)
        obtain ⟨curB, fB, hblkB⟩ := own_block16 hoB
        clear hoB heB
        obtain ⟨ib, hib, hz0, hz1, hz2⟩ := info_parts info_sp5
        have i1 : (K : Int) < (FN : Int) := by omega
        have HHR := Lib.hid hr
        clear hr
        go_wp2_with fail
        refine region_T (fun V => Ext w3 V ∧ V.cell? ⟨x2, 2, none⟩ = some (.slice (some ⟨gB, 0, none⟩) FN d2) ∧ V.cell? ⟨gB, K, none⟩ = some (.slice a kl kc)) 14 (by kernel_rfl) (⟨(Ext.refl _).drew, ((Ext.refl _).drew.cell (p := ⟨x2, 2, none⟩) HBX.out.lt).trans c2, ((Ext.refl _).drew.cell (p := ⟨gB, K, none⟩) hgBl).trans q0⟩) (fun hHeld => ?_)
        obtain ⟨Wd, hWd⟩ : ∃ x, w3.drew = x := ⟨_, rfl⟩
        rw [hWd] at hHeld ⊢
        have hdx : Ext w3 Wd := by rw [← hWd]; exact (Ext.refl _).drew
        clear hWd
        refine wpAnyT_take (i := 0) (v := ?_) rfl (by kernel_rfl) (fun _ _ _ h => h) (Or.inl ⟨by rfl, ?_⟩) (by assumption) ?_
        rotate_left
        · (intro W hSw; (try dsimp only at hSw); go_simp; (try with_reducible rfl))
        try simp only [Act.put, List.getElem_toArray, List.getElem_cons_succ, List.getElem_cons_zero, List.setIfInBounds_toArray, List.set_cons_zero, List.set_cons_succ]
        refine wpAnyT_take (i := 1) (v := ?_) rfl (by kernel_rfl) (fun _ _ _ h => h) (Or.inl ⟨by rfl, ?_⟩) (by assumption) ?_
        rotate_left
        · (intro W hSw; (try dsimp only at hSw); go_simp; (try with_reducible rfl))
        try simp only [Act.put, List.getElem_toArray, List.getElem_cons_succ, List.getElem_cons_zero, List.setIfInBounds_toArray, List.set_cons_zero, List.set_cons_succ]
        refine wpAnyT_take (i := 2) (v := ?_) rfl (by kernel_rfl) (fun _ _ _ h => h) (Or.inl ⟨by rfl, ?_⟩) (by assumption) ?_
        rotate_left
        · (intro W hSw; (try dsimp only at hSw); go_simp; (try with_reducible rfl))
        try simp only [Act.put, List.getElem_toArray, List.getElem_cons_succ, List.getElem_cons_zero, List.setIfInBounds_toArray, List.set_cons_zero, List.set_cons_succ]
        refine wpAnyT_take (i := 4) (v := ?_) rfl (by kernel_rfl) (fun _ _ _ h => h) (Or.inl ⟨by rfl, ?_⟩) (by assumption) ?_
        rotate_left
        · (intro W hSw; (try dsimp only at hSw); go_simp; (try with_reducible rfl))
        try simp only [Act.put, List.getElem_toArray, List.getElem_cons_succ, List.getElem_cons_zero, List.setIfInBounds_toArray, List.set_cons_zero, List.set_cons_succ]
        refine wpAnyT_take (i := 5) (v := ?_) rfl (by kernel_rfl) (fun _ _ _ h => h) (Or.inl ⟨by rfl, ?_⟩) (by assumption) ?_
        rotate_left
        · (intro W hSw; (try dsimp only at hSw); go_simp; (try with_reducible rfl))
        try simp only [Act.put, List.getElem_toArray, List.getElem_cons_succ, List.getElem_cons_zero, List.setIfInBounds_toArray, List.set_cons_zero, List.set_cons_succ]
        refine wpAnyT_take (i := 6) (v := ?_) rfl (by kernel_rfl) (fun _ _ _ h => h) (Or.inl ⟨by rfl, ?_⟩) (by assumption) ?_
        rotate_left
        · (intro W hSw; (try dsimp only at hSw); go_simp; (try with_reducible rfl))
        try simp only [Act.put, List.getElem_toArray, List.getElem_cons_succ, List.getElem_cons_zero, List.setIfInBounds_toArray, List.set_cons_zero, List.set_cons_succ]
        refine wpAnyT_take (i := 7) (v := ?_) rfl (by kernel_rfl) (fun _ _ _ h => h) (Or.inl ⟨by rfl, ?_⟩) (by assumption) ?_
        rotate_left
        · (intro W hSw; (try dsimp only at hSw); go_simp; (try with_reducible rfl))
        try simp only [Act.put, List.getElem_toArray, List.getElem_cons_succ, List.getElem_cons_zero, List.setIfInBounds_toArray, List.set_cons_zero, List.set_cons_succ]
        refine wpAnyT_take (i := 8) (v := ?_) rfl (by kernel_rfl) (fun _ _ _ h => h) (Or.inl ⟨by rfl, ?_⟩) (by assumption) ?_
        rotate_left
        · (intro W hSw; (try dsimp only at hSw); go_simp; (try with_reducible rfl))
        try simp only [Act.put, List.getElem_toArray, List.getElem_cons_succ, List.getElem_cons_zero, List.setIfInBounds_toArray, List.set_cons_zero, List.set_cons_succ]
        refine wpAnyT_take (i := 10) (v := ?_) rfl (by kernel_rfl) (fun _ _ _ h => h) (Or.inl ⟨by rfl, ?_⟩) (by assumption) ?_
        rotate_left
        · (intro W hSw; (try dsimp only at hSw); go_simp; (try with_reducible rfl))
        try simp only [Act.put, List.getElem_toArray, List.getElem_cons_succ, List.getElem_cons_zero, List.setIfInBounds_toArray, List.set_cons_zero, List.set_cons_succ]
        refine wpAnyT_two (i := 3) (j := 11) rfl rfl (by kernel_rfl) (fun KK hK => ?_) (fun KK hK => ?_)
        · go_simp
          refine hK.out _ _ (fun _ => ⟨(hdx.alloc _), ((hdx.alloc _).cell (p := ⟨x2, 2, none⟩) HBX.out.lt).trans c2, ((hdx.alloc _).cell (p := ⟨gB, K, none⟩) hgBl).trans q0⟩) (fun hH => ?_)
          replace hHeld := hH (by decide)
          clear hK KK hH
          try simp only [Act.put, List.getElem_toArray, List.getElem_cons_succ, List.getElem_cons_zero, List.setIfInBounds_toArray, List.set_cons_zero, List.set_cons_succ]
          refine wpAnyT_two (i := 9) (j := 11) rfl rfl (by kernel_rfl) (fun KK hK => ?_) (fun KK hK => ?_)
          · obtain ⟨Wb, hWb⟩ : ∃ V, Wd.alloc (.cells #[] 43) = V := ⟨_, rfl⟩
            rw [hWb]
            have hxb : Ext w3 Wb := by rw [← hWb]; exact hdx.alloc _
            have HA9 := Lib.hid (app_erd (P := Tryd.prog) 39 39 43 ib _ 3 32 Tryd.underlying39 hib hz0 hz1 hz2 rfl (by omega) (by omega) (Below.refl Wb.heap.size Wb) (Nat.le_refl _) (OwnE.nil Wb Wb.heap.size 43 3 (Wd.heap.size)) (by omega) (HHR.out.ext hxb) (by omega) (spCells_one _))
            refine step_append_ex (by rfl) _ _ _ (by rfl) (by rfl) (by rfl) HA9.out ?_
            rintro v1 w10 ⟨ho1, hb1⟩
            have hx1 : Ext w3 w10 := hxb.trans hb1
            refine hK.out _ _ (fun _ => ⟨hx1, (hx1.cell (p := ⟨x2, 2, none⟩) HBX.out.lt).trans c2, (hx1.cell (p := ⟨gB, K, none⟩) hgBl).trans q0⟩) (fun hH => ?_)
            replace hHeld := hH (by decide)
            clear hK KK hH
            try simp only [Act.put, List.getElem_toArray, List.getElem_cons_succ, List.getElem_cons_zero, List.setIfInBounds_toArray, List.set_cons_zero, List.set_cons_succ]
            refine wpAnyT_one (i := 11) rfl (by kernel_rfl) (fun KK hK => ?_)
            go_simp
            refine hK.out _ _ (fun _ => ⟨(hx1.alloc _), ((hx1.alloc _).cell (p := ⟨x2, 2, none⟩) HBX.out.lt).trans c2, ((hx1.alloc _).cell (p := ⟨gB, K, none⟩) hgBl).trans q0⟩) (fun hH => ?_)
            replace hHeld := hH (by decide)
            clear hK KK hH
            try simp only [Act.put, List.getElem_toArray, List.getElem_cons_succ, List.getElem_cons_zero, List.setIfInBounds_toArray, List.set_cons_zero, List.set_cons_succ]
            replace ho1 := ho1.ext ((Ext.refl w10).alloc (.cells #[.int .i64 2, .int .i64 0, .string ⟨#[]⟩] 43))
            have hB2 : Ext Wb (w10.alloc (.cells #[.int .i64 2, .int .i64 0, .string ⟨#[]⟩] 43)) := (show Ext Wb w10 from hb1).alloc _
            have hr2 : Rd (w10.alloc (.cells #[.int .i64 2, .int .i64 0, .string ⟨#[]⟩] 43)) 3 (.slice (some ⟨w10.heap.size, 0, none⟩) 1 1) 1 (spCells [((2 : Int), (0 : Int), (⟨#[]⟩ : ByteArray))]) := (Own.made w10 w10.heap.size 43 3 1 #[.int .i64 2, .int .i64 0, .string ⟨#[]⟩] (Nat.le_refl _) (by omega) rfl).rd
            have HA12 := Lib.hid (app_erd (P := Tryd.prog) 39 39 43 ib _ 3 32 Tryd.underlying39 hib hz0 hz1 hz2 rfl (by omega) (by omega) hB2 hB2.size ho1 (by omega) hr2 (by omega) (spCells_one _))
            refine wpAnyT_one (i := 12) rfl (by kernel_rfl) (fun KK hK => ?_)
            refine step_append_ex (by rfl) _ _ _ (by rfl) (by rfl) (by rfl) HA12.out ?_
            rintro v2 w11 ⟨ho2, hb2⟩
            have hx2 : Ext w3 w11 := hxb.trans hb2
            have ho3 : Own w11 Wb.heap.size 43 3 v2 (kl + 1) (spCells (l ++ [((2 : Int), (0 : Int), (⟨#[]⟩ : ByteArray))])) := by
              rcases ho2 with ⟨hz, _⟩ | ho2
              · omega
              · rw [spCells_append]; rw [Nat.zero_add, List.nil_append] at ho2; exact ho2
            obtain ⟨va, vc, rfl, _⟩ := ho3.len
            have hf4 : w11.frozen? ⟨gB, K, none⟩ = false := (hx2.frozen (p := ⟨gB, K, none⟩) hgBl).trans hfB
            refine hK.out _ _ (fun _ => ⟨hx2, (hx2.cell (p := ⟨x2, 2, none⟩) HBX.out.lt).trans c2, (hx2.cell (p := ⟨gB, K, none⟩) hgBl).trans q0⟩) (fun hH => ?_)
            replace hHeld := hH (by decide)
            clear hK KK hH
            try simp only [Act.put, List.getElem_toArray, List.getElem_cons_succ, List.getElem_cons_zero, List.setIfInBounds_toArray, List.set_cons_zero, List.set_cons_succ]
            refine wpAnyT_take (i := 13) (v := ?_) rfl (by kernel_rfl) (fun _ _ _ h => h) (Or.inl ⟨by rfl, ?_⟩) (by assumption) ?_
            rotate_left
            · (intro W hSw; (try dsimp only at hSw); go_simp; (try with_reducible rfl))
            try simp only [Act.put, List.getElem_toArray, List.getElem_cons_succ, List.getElem_cons_zero, List.setIfInBounds_toArray, List.set_cons_zero, List.set_cons_succ]
            refine wpAnyT_one (i := 14) rfl (by kernel_rfl) (fun KK hK => ?_)
            go_simp
            refine hK.out _ _ (fun h => absurd rfl h) (fun _ => ?_)
            clear hK KK hHeld
            try simp only [Act.put, List.getElem_toArray, List.getElem_cons_succ, List.getElem_cons_zero, List.setIfInBounds_toArray, List.set_cons_zero, List.set_cons_succ]
            refine wpAnyT_done (by kernel_rfl) ?_ _
            have hl2 : (l ++ [((2 : Int), (0 : Int), (⟨#[]⟩ : ByteArray))]).length = kl + 1 := by rw [List.length_append, HKLL.out] <;> rfl
            have ho4 : Own w11 w.heap.size 43 3 (.slice va (kl + 1) vc) (l ++ [((2 : Int), (0 : Int), (⟨#[]⟩ : ByteArray))]).length (spCells (l ++ [((2 : Int), (0 : Int), (⟨#[]⟩ : ByteArray))])) := by rw [hl2]; exact ho3.more (Nat.le_trans HOS.out.base hxb.size)
            obtain ⟨_, _, hv8, _, _, _, _, hset⟩ := (HOS.out.ext hx2).set HFN.out (by decide) hKN ho4
            injection hv8 with hv8; injection hv8 with hv8
            subst hv8
            obtain ⟨WS, hWS⟩ : ∃ V, w11.setCell ⟨gB, K, none⟩ (.slice va (kl + 1) vc) = V := ⟨_, rfl⟩
            have hES : Ext w WS := by rw [← hWS]; exact Below.setCell (e3.trans hx2) (p := ⟨gB, K, none⟩) hgBw _
            have hLS : LogB WS x2 (some ⟨gA, 0, none⟩) (FN + 1) k2 (some ⟨gB, 0, none⟩) FN d2 S FR (FL.set K (l ++ [((2 : Int), (0 : Int), (⟨#[]⟩ : ByteArray))])) := by
              rw [← hWS]
              refine ⟨(HBX.out.ext hx2).other ⟨gB, K, none⟩ hneB _, (own_cell_other (a := ⟨gB, K, none⟩) (HOR.out.ext hx2) ((hx2.block gB hgBl).trans hblkB) (by decide) (.slice va (kl + 1) vc)).rd, ?_⟩
              obtain ⟨_, _, hv, _, hss⟩ := hset.slice (n := FN) (by rw [List.length_set]; exact HFN.out)
              injection hv with e1 _ e2
              subst e1; subst e2
              exact hss
            have HWS := Lib.hid hWS; have HES := Lib.hid hES; have HLS := Lib.hid hLS
            clear hWS hES hLS
            have hsum : sumTT (FL.set K (l ++ [((2 : Int), (0 : Int), (⟨#[]⟩ : ByteArray))])) ≤ 900000000 := by
              have h1 := sumTT_set16 FL K (l ++ [((2 : Int), (0 : Int), (⟨#[]⟩ : ByteArray))])
              have h2 : sumT (l ++ [((2 : Int), (0 : Int), (⟨#[]⟩ : ByteArray))]) = sumT l := by rw [sumT_append] <;> rfl
              have h3 := HSU.out; have h4 := HF.out.sum
              omega
            have hlens : ∀ x ∈ FL.set K (l ++ [((2 : Int), (0 : Int), (⟨#[]⟩ : ByteArray))]), x.length ≤ 1000 := by
              intro x hx
              rcases List.mem_or_eq_of_mem_set hx with hx | rfl
              · exact HF.out.sm.len x hx
              · rw [hl2]; omega
            have hsm : SmL S FR (FL.set K (l ++ [((2 : Int), (0 : Int), (⟨#[]⟩ : ByteArray))])) := ⟨HF.out.sm.base, HF.out.sm.revs, by rw [List.length_set]; exact HF.out.sm.segs, hlens, hsum⟩
            have hlg : logE S FR (FL.set K (l ++ [((2 : Int), (0 : Int), (⟨#[]⟩ : ByteArray))])) = 8 := HLG.out
            have HQ := Lib.hid (HMY.out _ HES.out HLS.out hsm _ hlg)
            clear hsm hlg
            obtain ⟨m0, m1, m2⟩ := HLS.out.cells
            rw [← HWS.out] at m0 m1 m2
            go_wp2_with fail
            rw [HWS.out]
            refine HQ.out.mono ?_; rintro e wF ⟨rfl, hxF⟩
            go_wp2_with fail
            go_ret
            exact ⟨rfl, HES.out.trans hxF⟩
          · go_simp
            refine hK.out _ _ (fun _ => ⟨((hdx.alloc _).alloc _), (((hdx.alloc _).alloc _).cell (p := ⟨x2, 2, none⟩) HBX.out.lt).trans c2, (((hdx.alloc _).alloc _).cell (p := ⟨gB, K, none⟩) hgBl).trans q0⟩) (fun hH => ?_)
            replace hHeld := hH (by decide)
            clear hK KK hH
            try simp only [Act.put, List.getElem_toArray, List.getElem_cons_succ, List.getElem_cons_zero, List.setIfInBounds_toArray, List.set_cons_zero, List.set_cons_succ]
            refine wpAnyT_one (i := 9) rfl (by kernel_rfl) (fun KK hK => ?_)
            obtain ⟨Wb, hWb⟩ : ∃ V, (Wd.alloc (.cells #[] 43)).alloc (.cells #[.int .i64 2, .int .i64 0, .string ⟨#[]⟩] 43) = V := ⟨_, rfl⟩
            rw [hWb]
            have hxb : Ext w3 Wb := by rw [← hWb]; exact (hdx.alloc _).alloc _
            have HA9 := Lib.hid (app_erd (P := Tryd.prog) 39 39 43 ib _ 3 32 Tryd.underlying39 hib hz0 hz1 hz2 rfl (by omega) (by omega) (Below.refl Wb.heap.size Wb) (Nat.le_refl _) (OwnE.nil Wb Wb.heap.size 43 3 (Wd.heap.size)) (by omega) (HHR.out.ext hxb) (by omega) (spCells_one _))
            refine step_append_ex (by rfl) _ _ _ (by rfl) (by rfl) (by rfl) HA9.out ?_
            rintro v1 w10 ⟨ho1, hb1⟩
            have hx1 : Ext w3 w10 := hxb.trans hb1
            refine hK.out _ _ (fun _ => ⟨hx1, (hx1.cell (p := ⟨x2, 2, none⟩) HBX.out.lt).trans c2, (hx1.cell (p := ⟨gB, K, none⟩) hgBl).trans q0⟩) (fun hH => ?_)
            replace hHeld := hH (by decide)
            clear hK KK hH
            try simp only [Act.put, List.getElem_toArray, List.getElem_cons_succ, List.getElem_cons_zero, List.setIfInBounds_toArray, List.set_cons_zero, List.set_cons_succ]
            have hB2 : Ext Wb w10 := hb1
            have hr2 : Rd w10 3 (.slice (some ⟨Wd.heap.size + 1, 0, none⟩) 1 1) 1 (spCells [((2 : Int), (0 : Int), (⟨#[]⟩ : ByteArray))]) := by have h := (Own.made (Wd.alloc (.cells #[] 43)) (Wd.alloc (.cells #[] 43)).heap.size 43 3 1 #[.int .i64 2, .int .i64 0, .string ⟨#[]⟩] (Nat.le_refl _) (by omega) rfl).rd; rw [size_alloc, hWb] at h; exact h.ext hb1
            have HA12 := Lib.hid (app_erd (P := Tryd.prog) 39 39 43 ib _ 3 32 Tryd.underlying39 hib hz0 hz1 hz2 rfl (by omega) (by omega) hB2 hB2.size ho1 (by omega) hr2 (by omega) (spCells_one _))
            refine wpAnyT_one (i := 12) rfl (by kernel_rfl) (fun KK hK => ?_)
            refine step_append_ex (by rfl) _ _ _ (by rfl) (by rfl) (by rfl) HA12.out ?_
            rintro v2 w11 ⟨ho2, hb2⟩
            have hx2 : Ext w3 w11 := hxb.trans hb2
            have ho3 : Own w11 Wb.heap.size 43 3 v2 (kl + 1) (spCells (l ++ [((2 : Int), (0 : Int), (⟨#[]⟩ : ByteArray))])) := by
              rcases ho2 with ⟨hz, _⟩ | ho2
              · omega
              · rw [spCells_append]; rw [Nat.zero_add, List.nil_append] at ho2; exact ho2
            obtain ⟨va, vc, rfl, _⟩ := ho3.len
            have hf4 : w11.frozen? ⟨gB, K, none⟩ = false := (hx2.frozen (p := ⟨gB, K, none⟩) hgBl).trans hfB
            refine hK.out _ _ (fun _ => ⟨hx2, (hx2.cell (p := ⟨x2, 2, none⟩) HBX.out.lt).trans c2, (hx2.cell (p := ⟨gB, K, none⟩) hgBl).trans q0⟩) (fun hH => ?_)
            replace hHeld := hH (by decide)
            clear hK KK hH
            try simp only [Act.put, List.getElem_toArray, List.getElem_cons_succ, List.getElem_cons_zero, List.setIfInBounds_toArray, List.set_cons_zero, List.set_cons_succ]
            refine wpAnyT_take (i := 13) (v := ?_) rfl (by kernel_rfl) (fun _ _ _ h => h) (Or.inl ⟨by rfl, ?_⟩) (by assumption) ?_
            rotate_left
            · (intro W hSw; (try dsimp only at hSw); go_simp; (try with_reducible rfl))
            try simp only [Act.put, List.getElem_toArray, List.getElem_cons_succ, List.getElem_cons_zero, List.setIfInBounds_toArray, List.set_cons_zero, List.set_cons_succ]
            refine wpAnyT_one (i := 14) rfl (by kernel_rfl) (fun KK hK => ?_)
            go_simp
            refine hK.out _ _ (fun h => absurd rfl h) (fun _ => ?_)
            clear hK KK hHeld
            try simp only [Act.put, List.getElem_toArray, List.getElem_cons_succ, List.getElem_cons_zero, List.setIfInBounds_toArray, List.set_cons_zero, List.set_cons_succ]
            refine wpAnyT_done (by kernel_rfl) ?_ _
            have hl2 : (l ++ [((2 : Int), (0 : Int), (⟨#[]⟩ : ByteArray))]).length = kl + 1 := by rw [List.length_append, HKLL.out] <;> rfl
            have ho4 : Own w11 w.heap.size 43 3 (.slice va (kl + 1) vc) (l ++ [((2 : Int), (0 : Int), (⟨#[]⟩ : ByteArray))]).length (spCells (l ++ [((2 : Int), (0 : Int), (⟨#[]⟩ : ByteArray))])) := by rw [hl2]; exact ho3.more (Nat.le_trans HOS.out.base hxb.size)
            obtain ⟨_, _, hv8, _, _, _, _, hset⟩ := (HOS.out.ext hx2).set HFN.out (by decide) hKN ho4
            injection hv8 with hv8; injection hv8 with hv8
            subst hv8
            obtain ⟨WS, hWS⟩ : ∃ V, w11.setCell ⟨gB, K, none⟩ (.slice va (kl + 1) vc) = V := ⟨_, rfl⟩
            have hES : Ext w WS := by rw [← hWS]; exact Below.setCell (e3.trans hx2) (p := ⟨gB, K, none⟩) hgBw _
            have hLS : LogB WS x2 (some ⟨gA, 0, none⟩) (FN + 1) k2 (some ⟨gB, 0, none⟩) FN d2 S FR (FL.set K (l ++ [((2 : Int), (0 : Int), (⟨#[]⟩ : ByteArray))])) := by
              rw [← hWS]
              refine ⟨(HBX.out.ext hx2).other ⟨gB, K, none⟩ hneB _, (own_cell_other (a := ⟨gB, K, none⟩) (HOR.out.ext hx2) ((hx2.block gB hgBl).trans hblkB) (by decide) (.slice va (kl + 1) vc)).rd, ?_⟩
              obtain ⟨_, _, hv, _, hss⟩ := hset.slice (n := FN) (by rw [List.length_set]; exact HFN.out)
              injection hv with e1 _ e2
              subst e1; subst e2
              exact hss
            have HWS := Lib.hid hWS; have HES := Lib.hid hES; have HLS := Lib.hid hLS
            clear hWS hES hLS
            have hsum : sumTT (FL.set K (l ++ [((2 : Int), (0 : Int), (⟨#[]⟩ : ByteArray))])) ≤ 900000000 := by
              have h1 := sumTT_set16 FL K (l ++ [((2 : Int), (0 : Int), (⟨#[]⟩ : ByteArray))])
              have h2 : sumT (l ++ [((2 : Int), (0 : Int), (⟨#[]⟩ : ByteArray))]) = sumT l := by rw [sumT_append] <;> rfl
              have h3 := HSU.out; have h4 := HF.out.sum
              omega
            have hlens : ∀ x ∈ FL.set K (l ++ [((2 : Int), (0 : Int), (⟨#[]⟩ : ByteArray))]), x.length ≤ 1000 := by
              intro x hx
              rcases List.mem_or_eq_of_mem_set hx with hx | rfl
              · exact HF.out.sm.len x hx
              · rw [hl2]; omega
            have hsm : SmL S FR (FL.set K (l ++ [((2 : Int), (0 : Int), (⟨#[]⟩ : ByteArray))])) := ⟨HF.out.sm.base, HF.out.sm.revs, by rw [List.length_set]; exact HF.out.sm.segs, hlens, hsum⟩
            have hlg : logE S FR (FL.set K (l ++ [((2 : Int), (0 : Int), (⟨#[]⟩ : ByteArray))])) = 8 := HLG.out
            have HQ := Lib.hid (HMY.out _ HES.out HLS.out hsm _ hlg)
            clear hsm hlg
            obtain ⟨m0, m1, m2⟩ := HLS.out.cells
            rw [← HWS.out] at m0 m1 m2
            go_wp2_with fail
            rw [HWS.out]
            refine HQ.out.mono ?_; rintro e wF ⟨rfl, hxF⟩
            go_wp2_with fail
            go_ret
            exact ⟨rfl, HES.out.trans hxF⟩
        · go_simp
          refine hK.out _ _ (fun _ => ⟨(hdx.alloc _), ((hdx.alloc _).cell (p := ⟨x2, 2, none⟩) HBX.out.lt).trans c2, ((hdx.alloc _).cell (p := ⟨gB, K, none⟩) hgBl).trans q0⟩) (fun hH => ?_)
          replace hHeld := hH (by decide)
          clear hK KK hH
          try simp only [Act.put, List.getElem_toArray, List.getElem_cons_succ, List.getElem_cons_zero, List.setIfInBounds_toArray, List.set_cons_zero, List.set_cons_succ]
          refine wpAnyT_one (i := 3) rfl (by kernel_rfl) (fun KK hK => ?_)
          go_simp
          refine hK.out _ _ (fun _ => ⟨((hdx.alloc _).alloc _), (((hdx.alloc _).alloc _).cell (p := ⟨x2, 2, none⟩) HBX.out.lt).trans c2, (((hdx.alloc _).alloc _).cell (p := ⟨gB, K, none⟩) hgBl).trans q0⟩) (fun hH => ?_)
          replace hHeld := hH (by decide)
          clear hK KK hH
          try simp only [Act.put, List.getElem_toArray, List.getElem_cons_succ, List.getElem_cons_zero, List.setIfInBounds_toArray, List.set_cons_zero, List.set_cons_succ]
          refine wpAnyT_one (i := 9) rfl (by kernel_rfl) (fun KK hK => ?_)
          obtain ⟨Wb, hWb⟩ : ∃ V, (Wd.alloc (.cells #[.int .i64 2, .int .i64 0, .string ⟨#[]⟩] 43)).alloc (.cells #[] 43) = V := ⟨_, rfl⟩
          rw [hWb]
          have hxb : Ext w3 Wb := by rw [← hWb]; exact (hdx.alloc _).alloc _
          have HA9 := Lib.hid (app_erd (P := Tryd.prog) 39 39 43 ib _ 3 32 Tryd.underlying39 hib hz0 hz1 hz2 rfl (by omega) (by omega) (Below.refl Wb.heap.size Wb) (Nat.le_refl _) (OwnE.nil Wb Wb.heap.size 43 3 (Wd.heap.size + 1)) (by omega) (HHR.out.ext hxb) (by omega) (spCells_one _))
          refine step_append_ex (by rfl) _ _ _ (by rfl) (by rfl) (by rfl) HA9.out ?_
          rintro v1 w10 ⟨ho1, hb1⟩
          have hx1 : Ext w3 w10 := hxb.trans hb1
          refine hK.out _ _ (fun _ => ⟨hx1, (hx1.cell (p := ⟨x2, 2, none⟩) HBX.out.lt).trans c2, (hx1.cell (p := ⟨gB, K, none⟩) hgBl).trans q0⟩) (fun hH => ?_)
          replace hHeld := hH (by decide)
          clear hK KK hH
          try simp only [Act.put, List.getElem_toArray, List.getElem_cons_succ, List.getElem_cons_zero, List.setIfInBounds_toArray, List.set_cons_zero, List.set_cons_succ]
          have hB2 : Ext Wb w10 := hb1
          have hr2 : Rd w10 3 (.slice (some ⟨Wd.heap.size, 0, none⟩) 1 1) 1 (spCells [((2 : Int), (0 : Int), (⟨#[]⟩ : ByteArray))]) := by have h := (Own.made Wd Wd.heap.size 43 3 1 #[.int .i64 2, .int .i64 0, .string ⟨#[]⟩] (Nat.le_refl _) (by omega) rfl).rd; exact (h.ext (by rw [← hWb]; exact (Ext.refl _).alloc _)).ext hb1
          have HA12 := Lib.hid (app_erd (P := Tryd.prog) 39 39 43 ib _ 3 32 Tryd.underlying39 hib hz0 hz1 hz2 rfl (by omega) (by omega) hB2 hB2.size ho1 (by omega) hr2 (by omega) (spCells_one _))
          refine wpAnyT_one (i := 12) rfl (by kernel_rfl) (fun KK hK => ?_)
          refine step_append_ex (by rfl) _ _ _ (by rfl) (by rfl) (by rfl) HA12.out ?_
          rintro v2 w11 ⟨ho2, hb2⟩
          have hx2 : Ext w3 w11 := hxb.trans hb2
          have ho3 : Own w11 Wb.heap.size 43 3 v2 (kl + 1) (spCells (l ++ [((2 : Int), (0 : Int), (⟨#[]⟩ : ByteArray))])) := by
            rcases ho2 with ⟨hz, _⟩ | ho2
            · omega
            · rw [spCells_append]; rw [Nat.zero_add, List.nil_append] at ho2; exact ho2
          obtain ⟨va, vc, rfl, _⟩ := ho3.len
          have hf4 : w11.frozen? ⟨gB, K, none⟩ = false := (hx2.frozen (p := ⟨gB, K, none⟩) hgBl).trans hfB
          refine hK.out _ _ (fun _ => ⟨hx2, (hx2.cell (p := ⟨x2, 2, none⟩) HBX.out.lt).trans c2, (hx2.cell (p := ⟨gB, K, none⟩) hgBl).trans q0⟩) (fun hH => ?_)
          replace hHeld := hH (by decide)
          clear hK KK hH
          try simp only [Act.put, List.getElem_toArray, List.getElem_cons_succ, List.getElem_cons_zero, List.setIfInBounds_toArray, List.set_cons_zero, List.set_cons_succ]
          refine wpAnyT_take (i := 13) (v := ?_) rfl (by kernel_rfl) (fun _ _ _ h => h) (Or.inl ⟨by rfl, ?_⟩) (by assumption) ?_
          rotate_left
          · (intro W hSw; (try dsimp only at hSw); go_simp; (try with_reducible rfl))
          try simp only [Act.put, List.getElem_toArray, List.getElem_cons_succ, List.getElem_cons_zero, List.setIfInBounds_toArray, List.set_cons_zero, List.set_cons_succ]
          refine wpAnyT_one (i := 14) rfl (by kernel_rfl) (fun KK hK => ?_)
          go_simp
          refine hK.out _ _ (fun h => absurd rfl h) (fun _ => ?_)
          clear hK KK hHeld
          try simp only [Act.put, List.getElem_toArray, List.getElem_cons_succ, List.getElem_cons_zero, List.setIfInBounds_toArray, List.set_cons_zero, List.set_cons_succ]
          refine wpAnyT_done (by kernel_rfl) ?_ _
          have hl2 : (l ++ [((2 : Int), (0 : Int), (⟨#[]⟩ : ByteArray))]).length = kl + 1 := by rw [List.length_append, HKLL.out] <;> rfl
          have ho4 : Own w11 w.heap.size 43 3 (.slice va (kl + 1) vc) (l ++ [((2 : Int), (0 : Int), (⟨#[]⟩ : ByteArray))]).length (spCells (l ++ [((2 : Int), (0 : Int), (⟨#[]⟩ : ByteArray))])) := by rw [hl2]; exact ho3.more (Nat.le_trans HOS.out.base hxb.size)
          obtain ⟨_, _, hv8, _, _, _, _, hset⟩ := (HOS.out.ext hx2).set HFN.out (by decide) hKN ho4
          injection hv8 with hv8; injection hv8 with hv8
          subst hv8
          obtain ⟨WS, hWS⟩ : ∃ V, w11.setCell ⟨gB, K, none⟩ (.slice va (kl + 1) vc) = V := ⟨_, rfl⟩
          have hES : Ext w WS := by rw [← hWS]; exact Below.setCell (e3.trans hx2) (p := ⟨gB, K, none⟩) hgBw _
          have hLS : LogB WS x2 (some ⟨gA, 0, none⟩) (FN + 1) k2 (some ⟨gB, 0, none⟩) FN d2 S FR (FL.set K (l ++ [((2 : Int), (0 : Int), (⟨#[]⟩ : ByteArray))])) := by
            rw [← hWS]
            refine ⟨(HBX.out.ext hx2).other ⟨gB, K, none⟩ hneB _, (own_cell_other (a := ⟨gB, K, none⟩) (HOR.out.ext hx2) ((hx2.block gB hgBl).trans hblkB) (by decide) (.slice va (kl + 1) vc)).rd, ?_⟩
            obtain ⟨_, _, hv, _, hss⟩ := hset.slice (n := FN) (by rw [List.length_set]; exact HFN.out)
            injection hv with e1 _ e2
            subst e1; subst e2
            exact hss
          have HWS := Lib.hid hWS; have HES := Lib.hid hES; have HLS := Lib.hid hLS
          clear hWS hES hLS
          have hsum : sumTT (FL.set K (l ++ [((2 : Int), (0 : Int), (⟨#[]⟩ : ByteArray))])) ≤ 900000000 := by
            have h1 := sumTT_set16 FL K (l ++ [((2 : Int), (0 : Int), (⟨#[]⟩ : ByteArray))])
            have h2 : sumT (l ++ [((2 : Int), (0 : Int), (⟨#[]⟩ : ByteArray))]) = sumT l := by rw [sumT_append] <;> rfl
            have h3 := HSU.out; have h4 := HF.out.sum
            omega
          have hlens : ∀ x ∈ FL.set K (l ++ [((2 : Int), (0 : Int), (⟨#[]⟩ : ByteArray))]), x.length ≤ 1000 := by
            intro x hx
            rcases List.mem_or_eq_of_mem_set hx with hx | rfl
            · exact HF.out.sm.len x hx
            · rw [hl2]; omega
          have hsm : SmL S FR (FL.set K (l ++ [((2 : Int), (0 : Int), (⟨#[]⟩ : ByteArray))])) := ⟨HF.out.sm.base, HF.out.sm.revs, by rw [List.length_set]; exact HF.out.sm.segs, hlens, hsum⟩
          have hlg : logE S FR (FL.set K (l ++ [((2 : Int), (0 : Int), (⟨#[]⟩ : ByteArray))])) = 8 := HLG.out
          have HQ := Lib.hid (HMY.out _ HES.out HLS.out hsm _ hlg)
          clear hsm hlg
          obtain ⟨m0, m1, m2⟩ := HLS.out.cells
          rw [← HWS.out] at m0 m1 m2
          go_wp2_with fail
          rw [HWS.out]
          refine HQ.out.mono ?_; rintro e wF ⟨rfl, hxF⟩
          go_wp2_with fail
          go_ret
          exact ⟨rfl, HES.out.trans hxF⟩
      · have hM2 : z0.tmod 6 = 5 := by rw [Int.tmod_eq_emod_of_nonneg n0]; exact hM
        clear h hls hs hfit hF hFN s0 hok f1 s1 hK
        go_enter Tryd.func5, Tryd.ntmps5
        go_wp2_with fail
        rw [HW1.out, HX1.out]
        refine (HSH.out _ E1.out).mono ?_; rintro e w1 ⟨rfl, hx1⟩
        have e1 : Ext w w1 := E1.out.trans hx1
        replace HZB := Lib.hid (HZB.out.ext hx1)
        clear hx1
        go_wp2_with fail
        refine (HFI.out _ e1).mono ?_; rintro e w2 ⟨hx2, A2, n2, k2, B2, d2, rfl, r2, q2⟩
        have e2 : Ext w w2 := e1.trans hx2
        replace HZB := Lib.hid (HZB.out.ext hx2)
        clear hx2
        have hn2 : n2 = FN + 1 := by have := nV_len r2.rd; rw [HFR.out] at this; omega
        subst hn2
        have hbase : w.heap.size ≤ w1.heap.size := e1.size
        obtain ⟨x2, hx2⟩ : ∃ x, w2.heap.size = x := ⟨_, rfl⟩
        obtain ⟨W2, hW2⟩ : ∃ V, w2.alloc (.cells #[.string S, .slice A2 (FN + 1) k2, .slice B2 FN d2] 25) = V := ⟨_, rfl⟩
        have hX2 : Ext w2 W2 := by rw [← hW2]; exact (Ext.refl w2).alloc _
        have HBX := Lib.hid (show BxT 25 W2 x2 #[.string S, .slice A2 (FN + 1) k2, .slice B2 FN d2] by rw [← hW2, ← hx2]; exact BxT.new w2 25 _)
        have hge : w.heap.size ≤ x2 := by rw [← hx2]; exact e2.size
        have E2 := Lib.hid (e2.trans hX2 : Ext w W2)
        replace HZB := Lib.hid (HZB.out.ext hX2)
        have HOR := Lib.hid ((r2.more hbase).ext hX2); have HOS := Lib.hid ((q2.more hbase).ext hX2)
        have HW2 := Lib.hid hW2; have HX2 := Lib.hid hx2
        clear hW2 hx2 hX2 r2 q2 e2 e1 hbase
        have z1a : (w2.alloc (.cells #[.string S, .slice A2 (FN + 1) k2, .slice B2 FN d2] 25)).cell? ⟨x5, 1, none⟩ = some (.int .u8 z1) := by rw [HW2.out]; exact HZB.out.cell rfl
        go_wp2_with fail
        rw [HW2.out, HX2.out]
        clear z1a
        have c0 : W2.cell? ⟨x2, 0, none⟩ = some (.string S) := HBX.out.cell rfl; have c1 : W2.cell? ⟨x2, 1, none⟩ = some (.slice A2 (FN + 1) k2) := HBX.out.cell rfl; have c2 : W2.cell? ⟨x2, 2, none⟩ = some (.slice B2 FN d2) := HBX.out.cell rfl
        obtain ⟨gA, _, hvA, hcA, hgA, hgA2, hcellA⟩ := HOR.out.cells (by omega)
        injection hvA with e1 _ e2
        subst e1; subst e2
        obtain ⟨gB, u0, hvB, hgB, hgB2, hcellB, hfrB, _⟩ := HOS.out.set (u := .slice none 0 0) (l' := []) HFN.out (by decide) hKN (Own.nil _ _ _ _ HOS.out.base)
        subst hvB
        clear hcellB hfrB u0
        have g0 : (0 : Int) ≤ (K : Int) := by omega
        have g1 : (K : Int) + 1 ≤ (k2 : Int) := by omega
        have hd2 : FN ≤ d2 := by obtain ⟨_, _, hv, hc, _⟩ := HOS.out.slice HFN.out; injection hv with _ _ e; omega
        have g2 : (K : Int) ≤ (d2 : Int) := by omega
        have g3 : (0 : Int) ≤ (K : Int) + 1 := by omega
        have hwk : IntKind.i64.wrap ((K : Int) + 1) = (K : Int) + 1 := by rw [IntKind.wrap_i64]; omega
        have hwt : ((K : Int) + 1).toNat = K + 1 := by omega
        refine region_T (fun V => Ext W2 V ∧ V.cell? ⟨x2, 0, none⟩ = some (.string S) ∧ V.cell? ⟨x2, 1, none⟩ = some (.slice (some ⟨gA, 0, none⟩) (FN + 1) k2) ∧ V.cell? ⟨x2, 2, none⟩ = some (.slice (some ⟨gB, 0, none⟩) FN d2)) 13 (by kernel_rfl) (⟨(Ext.refl _).drew, c0, c1, c2⟩) (fun hHeld => ?_)
        refine wpAnyT_take (i := 0) (v := ?_) rfl (by kernel_rfl) (fun _ _ _ h => h) (Or.inl ⟨by rfl, ?_⟩) (by assumption) ?_
        rotate_left
        · (intro W hSw; (try dsimp only at hSw); go_simp; (try with_reducible rfl))
        try simp only [Act.put, List.getElem_toArray, List.getElem_cons_succ, List.getElem_cons_zero, List.setIfInBounds_toArray, List.set_cons_zero, List.set_cons_succ]
        refine wpAnyT_take (i := 1) (v := ?_) rfl (by kernel_rfl) (fun _ _ _ h => h) (Or.inl ⟨by rfl, ?_⟩) (by assumption) ?_
        rotate_left
        · (intro W hSw; (try dsimp only at hSw); go_simp; (try with_reducible rfl))
        try simp only [Act.put, List.getElem_toArray, List.getElem_cons_succ, List.getElem_cons_zero, List.setIfInBounds_toArray, List.set_cons_zero, List.set_cons_succ]
        refine wpAnyT_take (i := 2) (v := ?_) rfl (by kernel_rfl) (fun _ _ _ h => h) (Or.inl ⟨by rfl, ?_⟩) (by assumption) ?_
        rotate_left
        · (intro W hSw; (try dsimp only at hSw); go_simp; (try with_reducible rfl))
        try simp only [Act.put, List.getElem_toArray, List.getElem_cons_succ, List.getElem_cons_zero, List.setIfInBounds_toArray, List.set_cons_zero, List.set_cons_succ]
        refine wpAnyT_take (i := 3) (v := ?_) rfl (by kernel_rfl) (fun _ _ _ h => h) (Or.inl ⟨by rfl, ?_⟩) (by assumption) ?_
        rotate_left
        · (intro W hSw; (try dsimp only at hSw); go_simp; (try with_reducible rfl))
        try simp only [Act.put, List.getElem_toArray, List.getElem_cons_succ, List.getElem_cons_zero, List.setIfInBounds_toArray, List.set_cons_zero, List.set_cons_succ]
        refine wpAnyT_take (i := 4) (v := ?_) rfl (by kernel_rfl) (fun _ _ _ h => h) (Or.inl ⟨by rfl, ?_⟩) (by assumption) ?_
        rotate_left
        · (intro W hSw; (try dsimp only at hSw); go_simp; (try with_reducible rfl))
        try simp only [Act.put, List.getElem_toArray, List.getElem_cons_succ, List.getElem_cons_zero, List.setIfInBounds_toArray, List.set_cons_zero, List.set_cons_succ]
        refine wpAnyT_take (i := 5) (v := ?_) rfl (by kernel_rfl) (fun _ _ _ h => h) (Or.inl ⟨by rfl, ?_⟩) (by assumption) ?_
        rotate_left
        · (intro W hSw; (try dsimp only at hSw); go_simp; (try with_reducible rfl))
        try simp only [Act.put, List.getElem_toArray, List.getElem_cons_succ, List.getElem_cons_zero, List.setIfInBounds_toArray, List.set_cons_zero, List.set_cons_succ]
        refine wpAnyT_take (i := 6) (v := ?_) rfl (by kernel_rfl) (fun _ _ _ h => h) (Or.inl ⟨by rfl, ?_⟩) (by assumption) ?_
        rotate_left
        · (intro W hSw; (try dsimp only at hSw); go_simp; (try with_reducible rfl))
        try simp only [Act.put, List.getElem_toArray, List.getElem_cons_succ, List.getElem_cons_zero, List.setIfInBounds_toArray, List.set_cons_zero, List.set_cons_succ]
        refine wpAnyT_take (i := 7) (v := ?_) rfl (by kernel_rfl) (fun _ _ _ h => h) (Or.inl ⟨by rfl, ?_⟩) (by assumption) ?_
        rotate_left
        · (intro W hSw; (try dsimp only at hSw); go_simp; (try with_reducible rfl))
        try simp only [Act.put, List.getElem_toArray, List.getElem_cons_succ, List.getElem_cons_zero, List.setIfInBounds_toArray, List.set_cons_zero, List.set_cons_succ]
        refine wpAnyT_take (i := 8) (v := ?_) rfl (by kernel_rfl) (fun _ _ _ h => h) (Or.inl ⟨by rfl, ?_⟩) (by assumption) ?_
        rotate_left
        · (intro W hSw; (try dsimp only at hSw); go_simp; (try with_reducible rfl))
        try simp only [Act.put, List.getElem_toArray, List.getElem_cons_succ, List.getElem_cons_zero, List.setIfInBounds_toArray, List.set_cons_zero, List.set_cons_succ]
        refine wpAnyT_take (i := 9) (v := ?_) rfl (by kernel_rfl) (fun _ _ _ h => h) (Or.inl ⟨by rfl, ?_⟩) (by assumption) ?_
        rotate_left
        · (intro W hSw; (try dsimp only at hSw); go_simp; (try with_reducible rfl))
        try simp only [Act.put, List.getElem_toArray, List.getElem_cons_succ, List.getElem_cons_zero, List.setIfInBounds_toArray, List.set_cons_zero, List.set_cons_succ]
        refine wpAnyT_take (i := 10) (v := ?_) rfl (by kernel_rfl) (fun _ _ _ h => h) (Or.inl ⟨by rfl, ?_⟩) (by assumption) ?_
        rotate_left
        · (intro W hSw; (try dsimp only at hSw); go_simp; (try with_reducible rfl))
        try simp only [Act.put, List.getElem_toArray, List.getElem_cons_succ, List.getElem_cons_zero, List.setIfInBounds_toArray, List.set_cons_zero, List.set_cons_succ]
        refine wpAnyT_take (i := 11) (v := ?_) rfl (by kernel_rfl) (fun _ _ _ h => h) (Or.inl ⟨by rfl, ?_⟩) (by assumption) ?_
        rotate_left
        · (intro W hSw; (try dsimp only at hSw); go_simp; (try with_reducible rfl))
        try simp only [Act.put, List.getElem_toArray, List.getElem_cons_succ, List.getElem_cons_zero, List.setIfInBounds_toArray, List.set_cons_zero, List.set_cons_succ]
        refine wpAnyT_one (i := 12) rfl (by kernel_rfl) (fun K hK => ?_)
        go_simp
        refine hK.out _ _ (fun _ => ⟨hHeld.1.alloc _, ext_cell ((Ext.refl _).alloc _) hHeld.2.1, ext_cell ((Ext.refl _).alloc _) hHeld.2.2.1, ext_cell ((Ext.refl _).alloc _) hHeld.2.2.2⟩) (fun hH => ?_)
        replace hHeld := hH (by decide)
        clear hK K hH
        try simp only [Act.put, List.getElem_toArray, List.getElem_cons_succ, List.getElem_cons_zero, List.setIfInBounds_toArray, List.set_cons_zero, List.set_cons_succ]
        refine wpAnyT_one (i := 13) rfl (by kernel_rfl) (fun K hK => ?_)
        go_simp
        refine hK.out _ _ (fun h => absurd rfl h) (fun _ => ?_)
        clear hK K hHeld
        try simp only [Act.put, List.getElem_toArray, List.getElem_cons_succ, List.getElem_cons_zero, List.setIfInBounds_toArray, List.set_cons_zero, List.set_cons_succ]
        refine wpAnyT_done (by kernel_rfl) ?_ _
        obtain ⟨x3, hx3⟩ : ∃ x, W2.heap.size = x := ⟨_, rfl⟩
        obtain ⟨W3, hW3⟩ : ∃ V, (W2.alloc (.cells #[.string S, .slice (some ⟨gA, 0, none⟩) (K + 1) k2, .slice (some ⟨gB, 0, none⟩) K d2] 25)).drew = V := ⟨_, rfl⟩
        have hX3 : Ext W2 W3 := by rw [← hW3]; exact ((Ext.refl W2).alloc _).drew
        obtain ⟨_, _, hv, _, hss⟩ := HOS.out.slice HFN.out
        injection hv with e1 _ e2
        subst e1; subst e2
        have HF1 := Lib.hid (show LogB W3 x3 (some ⟨gA, 0, none⟩) (K + 1) k2 (some ⟨gB, 0, none⟩) K d2 S (FR.take (K + 1)) (FL.take K) by rw [← hW3, ← hx3]; exact (LogB.new (by have h := HOR.out.rd.take (m := K + 1) (by omega); rw [Nat.mul_one, nV_take] at h; exact h) (hss.take (by omega))).ext (Ext.refl _).drew)
        rw [hx3, hW3]
        have E3 := Lib.hid (E2.out.trans hX3)
        replace HZB := Lib.hid (HZB.out.ext hX3); replace HBX := Lib.hid (HBX.out.ext hX3); replace HOR := Lib.hid (HOR.out.ext hX3); replace HOS := Lib.hid (HOS.out.ext hX3)
        clear hW3 hx3 hX3 hss c0 c1 c2
        obtain ⟨c0, c1, c2⟩ := HF1.out.cells
        go_wp2_with fail
        clear c0 c1 c2
        refine (HM1.out _ E3.out HF1.out).mono ?_; rintro e w3 ⟨rfl, hx3⟩
        have e3 : Ext w w3 := E3.out.trans hx3
        replace HZB := Lib.hid (HZB.out.ext hx3)
        replace HBX := Lib.hid (HBX.out.ext hx3)
        replace HOR := Lib.hid (HOR.out.ext hx3)
        replace HOS := Lib.hid (HOS.out.ext hx3)
        clear hx3
        have z0c : w3.cell? ⟨x5, 0, none⟩ = some (.int .u8 z0) := HZB.out.cell rfl
        have c0 : w3.cell? ⟨x2, 0, none⟩ = some (.string S) := HBX.out.cell rfl; have c1 : w3.cell? ⟨x2, 1, none⟩ = some (.slice (some ⟨gA, 0, none⟩) (FN + 1) k2) := HBX.out.cell rfl; have c2 : w3.cell? ⟨x2, 2, none⟩ = some (.slice (some ⟨gB, 0, none⟩) FN d2) := HBX.out.cell rfl
        have f0 := HBX.out.frozen 0; have f1 := HBX.out.frozen 1
        obtain ⟨gB2, u0, hv5, hgBw, hgBl, _, hfB, _⟩ := HOS.out.set (u := .slice none 0 0) (l' := []) HFN.out (by decide) hKN (Own.nil _ _ _ _ HOS.out.base)
        injection hv5 with hv5; injection hv5 with hv5
        subst hv5
        obtain ⟨_, _, hv6, _, hrs⟩ := HOS.out.slice HFN.out
        injection hv6 with e1 _ e2
        subst e1; subst e2
        have hKL : K < FL.length := by have := HFN.out; omega
        obtain ⟨_, _, a, kc, hv7, _, q0, hr⟩ := hrs.at_ hKN hKL
        injection hv7 with hv7; injection hv7 with e3 e4
        subst e3; subst e4
        rw [Nat.zero_add] at q0
        obtain ⟨l, hl⟩ : ∃ l, FL[K] = l := ⟨_, rfl⟩
        have HLG : Hid (logE S FR (FL.set K (l ++ [((3 : Int), (1 : Int), (⟨#[]⟩ : ByteArray))])) = 5) := Lib.hid (by rw [← hl]; exact spoil_5 HF.out hKL)
        have HL13 := Lib.hid (HF.out.len _ (List.getElem_mem hKL))
        have HSU := Lib.hid (sumT_le16 _ (List.getElem_mem hKL))
        rw [hl] at q0 hr HL13 HSU
        obtain ⟨kl, hkl⟩ : ∃ k, l.length = k := ⟨_, rfl⟩
        have HK13 := HL13.out
        rw [hkl] at q0 hr HK13
        have HKLL := Lib.hid hkl
        clear hl hkl hrs
        obtain ⟨vsB, hoB, heB⟩ := HOS.out
        rw [HFN.out] at hoB
        have hneB := own_ne_box16 hoB HBX.out (by decide)
        obtain ⟨curB, fB, hblkB⟩ := own_block16 hoB
        clear hoB heB
        obtain ⟨ib, hib, hz0, hz1, hz2⟩ := info_parts info_sp5
        have i1 : (K : Int) < (FN : Int) := by omega
        have HHR := Lib.hid hr
        clear hr
        go_wp2_with fail
        refine region_T (fun V => Ext w3 V ∧ V.cell? ⟨x2, 2, none⟩ = some (.slice (some ⟨gB, 0, none⟩) FN d2) ∧ V.cell? ⟨gB, K, none⟩ = some (.slice a kl kc)) 14 (by kernel_rfl) (⟨(Ext.refl _).drew, ((Ext.refl _).drew.cell (p := ⟨x2, 2, none⟩) HBX.out.lt).trans c2, ((Ext.refl _).drew.cell (p := ⟨gB, K, none⟩) hgBl).trans q0⟩) (fun hHeld => ?_)
        obtain ⟨Wd, hWd⟩ : ∃ x, w3.drew = x := ⟨_, rfl⟩
        rw [hWd] at hHeld ⊢
        have hdx : Ext w3 Wd := by rw [← hWd]; exact (Ext.refl _).drew
        clear hWd
        refine wpAnyT_take (i := 0) (v := ?_) rfl (by kernel_rfl) (fun _ _ _ h => h) (Or.inl ⟨by rfl, ?_⟩) (by assumption) ?_
        rotate_left
        · (intro W hSw; (try dsimp only at hSw); go_simp; (try with_reducible rfl))
        try simp only [Act.put, List.getElem_toArray, List.getElem_cons_succ, List.getElem_cons_zero, List.setIfInBounds_toArray, List.set_cons_zero, List.set_cons_succ]
        refine wpAnyT_take (i := 1) (v := ?_) rfl (by kernel_rfl) (fun _ _ _ h => h) (Or.inl ⟨by rfl, ?_⟩) (by assumption) ?_
        rotate_left
        · (intro W hSw; (try dsimp only at hSw); go_simp; (try with_reducible rfl))
        try simp only [Act.put, List.getElem_toArray, List.getElem_cons_succ, List.getElem_cons_zero, List.setIfInBounds_toArray, List.set_cons_zero, List.set_cons_succ]
        refine wpAnyT_take (i := 2) (v := ?_) rfl (by kernel_rfl) (fun _ _ _ h => h) (Or.inl ⟨by rfl, ?_⟩) (by assumption) ?_
        rotate_left
        · (intro W hSw; (try dsimp only at hSw); go_simp; (try with_reducible rfl))
        try simp only [Act.put, List.getElem_toArray, List.getElem_cons_succ, List.getElem_cons_zero, List.setIfInBounds_toArray, List.set_cons_zero, List.set_cons_succ]
        refine wpAnyT_take (i := 4) (v := ?_) rfl (by kernel_rfl) (fun _ _ _ h => h) (Or.inl ⟨by rfl, ?_⟩) (by assumption) ?_
        rotate_left
        · (intro W hSw; (try dsimp only at hSw); go_simp; (try with_reducible rfl))
        try simp only [Act.put, List.getElem_toArray, List.getElem_cons_succ, List.getElem_cons_zero, List.setIfInBounds_toArray, List.set_cons_zero, List.set_cons_succ]
        refine wpAnyT_take (i := 5) (v := ?_) rfl (by kernel_rfl) (fun _ _ _ h => h) (Or.inl ⟨by rfl, ?_⟩) (by assumption) ?_
        rotate_left
        · (intro W hSw; (try dsimp only at hSw); go_simp; (try with_reducible rfl))
        try simp only [Act.put, List.getElem_toArray, List.getElem_cons_succ, List.getElem_cons_zero, List.setIfInBounds_toArray, List.set_cons_zero, List.set_cons_succ]
        refine wpAnyT_take (i := 6) (v := ?_) rfl (by kernel_rfl) (fun _ _ _ h => h) (Or.inl ⟨by rfl, ?_⟩) (by assumption) ?_
        rotate_left
        · (intro W hSw; (try dsimp only at hSw); go_simp; (try with_reducible rfl))
        try simp only [Act.put, List.getElem_toArray, List.getElem_cons_succ, List.getElem_cons_zero, List.setIfInBounds_toArray, List.set_cons_zero, List.set_cons_succ]
        refine wpAnyT_take (i := 7) (v := ?_) rfl (by kernel_rfl) (fun _ _ _ h => h) (Or.inl ⟨by rfl, ?_⟩) (by assumption) ?_
        rotate_left
        · (intro W hSw; (try dsimp only at hSw); go_simp; (try with_reducible rfl))
        try simp only [Act.put, List.getElem_toArray, List.getElem_cons_succ, List.getElem_cons_zero, List.setIfInBounds_toArray, List.set_cons_zero, List.set_cons_succ]
        refine wpAnyT_take (i := 8) (v := ?_) rfl (by kernel_rfl) (fun _ _ _ h => h) (Or.inl ⟨by rfl, ?_⟩) (by assumption) ?_
        rotate_left
        · (intro W hSw; (try dsimp only at hSw); go_simp; (try with_reducible rfl))
        try simp only [Act.put, List.getElem_toArray, List.getElem_cons_succ, List.getElem_cons_zero, List.setIfInBounds_toArray, List.set_cons_zero, List.set_cons_succ]
        refine wpAnyT_take (i := 10) (v := ?_) rfl (by kernel_rfl) (fun _ _ _ h => h) (Or.inl ⟨by rfl, ?_⟩) (by assumption) ?_
        rotate_left
        · (intro W hSw; (try dsimp only at hSw); go_simp; (try with_reducible rfl))
        try simp only [Act.put, List.getElem_toArray, List.getElem_cons_succ, List.getElem_cons_zero, List.setIfInBounds_toArray, List.set_cons_zero, List.set_cons_succ]
        refine wpAnyT_two (i := 3) (j := 11) rfl rfl (by kernel_rfl) (fun KK hK => ?_) (fun KK hK => ?_)
        · go_simp
          refine hK.out _ _ (fun _ => ⟨(hdx.alloc _), ((hdx.alloc _).cell (p := ⟨x2, 2, none⟩) HBX.out.lt).trans c2, ((hdx.alloc _).cell (p := ⟨gB, K, none⟩) hgBl).trans q0⟩) (fun hH => ?_)
          replace hHeld := hH (by decide)
          clear hK KK hH
          try simp only [Act.put, List.getElem_toArray, List.getElem_cons_succ, List.getElem_cons_zero, List.setIfInBounds_toArray, List.set_cons_zero, List.set_cons_succ]
          refine wpAnyT_two (i := 9) (j := 11) rfl rfl (by kernel_rfl) (fun KK hK => ?_) (fun KK hK => ?_)
          · obtain ⟨Wb, hWb⟩ : ∃ V, Wd.alloc (.cells #[] 43) = V := ⟨_, rfl⟩
            rw [hWb]
            have hxb : Ext w3 Wb := by rw [← hWb]; exact hdx.alloc _
            have HA9 := Lib.hid (app_erd (P := Tryd.prog) 39 39 43 ib _ 3 32 Tryd.underlying39 hib hz0 hz1 hz2 rfl (by omega) (by omega) (Below.refl Wb.heap.size Wb) (Nat.le_refl _) (OwnE.nil Wb Wb.heap.size 43 3 (Wd.heap.size)) (by omega) (HHR.out.ext hxb) (by omega) (spCells_one _))
            refine step_append_ex (by rfl) _ _ _ (by rfl) (by rfl) (by rfl) HA9.out ?_
            rintro v1 w10 ⟨ho1, hb1⟩
            have hx1 : Ext w3 w10 := hxb.trans hb1
            refine hK.out _ _ (fun _ => ⟨hx1, (hx1.cell (p := ⟨x2, 2, none⟩) HBX.out.lt).trans c2, (hx1.cell (p := ⟨gB, K, none⟩) hgBl).trans q0⟩) (fun hH => ?_)
            replace hHeld := hH (by decide)
            clear hK KK hH
            try simp only [Act.put, List.getElem_toArray, List.getElem_cons_succ, List.getElem_cons_zero, List.setIfInBounds_toArray, List.set_cons_zero, List.set_cons_succ]
            refine wpAnyT_one (i := 11) rfl (by kernel_rfl) (fun KK hK => ?_)
            go_simp
            refine hK.out _ _ (fun _ => ⟨(hx1.alloc _), ((hx1.alloc _).cell (p := ⟨x2, 2, none⟩) HBX.out.lt).trans c2, ((hx1.alloc _).cell (p := ⟨gB, K, none⟩) hgBl).trans q0⟩) (fun hH => ?_)
            replace hHeld := hH (by decide)
            clear hK KK hH
            try simp only [Act.put, List.getElem_toArray, List.getElem_cons_succ, List.getElem_cons_zero, List.setIfInBounds_toArray, List.set_cons_zero, List.set_cons_succ]
            replace ho1 := ho1.ext ((Ext.refl w10).alloc (.cells #[.int .i64 3, .int .i64 1, .string ⟨#[]⟩] 43))
            have hB2 : Ext Wb (w10.alloc (.cells #[.int .i64 3, .int .i64 1, .string ⟨#[]⟩] 43)) := (show Ext Wb w10 from hb1).alloc _
            have hr2 : Rd (w10.alloc (.cells #[.int .i64 3, .int .i64 1, .string ⟨#[]⟩] 43)) 3 (.slice (some ⟨w10.heap.size, 0, none⟩) 1 1) 1 (spCells [((3 : Int), (1 : Int), (⟨#[]⟩ : ByteArray))]) := (Own.made w10 w10.heap.size 43 3 1 #[.int .i64 3, .int .i64 1, .string ⟨#[]⟩] (Nat.le_refl _) (by omega) rfl).rd
            have HA12 := Lib.hid (app_erd (P := Tryd.prog) 39 39 43 ib _ 3 32 Tryd.underlying39 hib hz0 hz1 hz2 rfl (by omega) (by omega) hB2 hB2.size ho1 (by omega) hr2 (by omega) (spCells_one _))
            refine wpAnyT_one (i := 12) rfl (by kernel_rfl) (fun KK hK => ?_)
            refine step_append_ex (by rfl) _ _ _ (by rfl) (by rfl) (by rfl) HA12.out ?_
            rintro v2 w11 ⟨ho2, hb2⟩
            have hx2 : Ext w3 w11 := hxb.trans hb2
            have ho3 : Own w11 Wb.heap.size 43 3 v2 (kl + 1) (spCells (l ++ [((3 : Int), (1 : Int), (⟨#[]⟩ : ByteArray))])) := by
              rcases ho2 with ⟨hz, _⟩ | ho2
              · omega
              · rw [spCells_append]; rw [Nat.zero_add, List.nil_append] at ho2; exact ho2
            obtain ⟨va, vc, rfl, _⟩ := ho3.len
            have hf4 : w11.frozen? ⟨gB, K, none⟩ = false := (hx2.frozen (p := ⟨gB, K, none⟩) hgBl).trans hfB
            refine hK.out _ _ (fun _ => ⟨hx2, (hx2.cell (p := ⟨x2, 2, none⟩) HBX.out.lt).trans c2, (hx2.cell (p := ⟨gB, K, none⟩) hgBl).trans q0⟩) (fun hH => ?_)
            replace hHeld := hH (by decide)
            clear hK KK hH
            try simp only [Act.put, List.getElem_toArray, List.getElem_cons_succ, List.getElem_cons_zero, List.setIfInBounds_toArray, List.set_cons_zero, List.set_cons_succ]
            refine wpAnyT_take (i := 13) (v := ?_) rfl (by kernel_rfl) (fun _ _ _ h => h) (Or.inl ⟨by rfl, ?_⟩) (by assumption) ?_
            rotate_left
            · (intro W hSw; (try dsimp only at hSw); go_simp; (try with_reducible rfl))
            try simp only [Act.put, List.getElem_toArray, List.getElem_cons_succ, List.getElem_cons_zero, List.setIfInBounds_toArray, List.set_cons_zero, List.set_cons_succ]
            refine wpAnyT_one (i := 14) rfl (by kernel_rfl) (fun KK hK => ?_)
            go_simp
            refine hK.out _ _ (fun h => absurd rfl h) (fun _ => ?_)
            clear hK KK hHeld
            try simp only [Act.put, List.getElem_toArray, List.getElem_cons_succ, List.getElem_cons_zero, List.setIfInBounds_toArray, List.set_cons_zero, List.set_cons_succ]
            refine wpAnyT_done (by kernel_rfl) ?_ _
            have hl2 : (l ++ [((3 : Int), (1 : Int), (⟨#[]⟩ : ByteArray))]).length = kl + 1 := by rw [List.length_append, HKLL.out] <;> rfl
            have ho4 : Own w11 w.heap.size 43 3 (.slice va (kl + 1) vc) (l ++ [((3 : Int), (1 : Int), (⟨#[]⟩ : ByteArray))]).length (spCells (l ++ [((3 : Int), (1 : Int), (⟨#[]⟩ : ByteArray))])) := by rw [hl2]; exact ho3.more (Nat.le_trans HOS.out.base hxb.size)
            obtain ⟨_, _, hv8, _, _, _, _, hset⟩ := (HOS.out.ext hx2).set HFN.out (by decide) hKN ho4
            injection hv8 with hv8; injection hv8 with hv8
            subst hv8
            obtain ⟨WS, hWS⟩ : ∃ V, w11.setCell ⟨gB, K, none⟩ (.slice va (kl + 1) vc) = V := ⟨_, rfl⟩
            have hES : Ext w WS := by rw [← hWS]; exact Below.setCell (e3.trans hx2) (p := ⟨gB, K, none⟩) hgBw _
            have hLS : LogB WS x2 (some ⟨gA, 0, none⟩) (FN + 1) k2 (some ⟨gB, 0, none⟩) FN d2 S FR (FL.set K (l ++ [((3 : Int), (1 : Int), (⟨#[]⟩ : ByteArray))])) := by
              rw [← hWS]
              refine ⟨(HBX.out.ext hx2).other ⟨gB, K, none⟩ hneB _, (own_cell_other (a := ⟨gB, K, none⟩) (HOR.out.ext hx2) ((hx2.block gB hgBl).trans hblkB) (by decide) (.slice va (kl + 1) vc)).rd, ?_⟩
              obtain ⟨_, _, hv, _, hss⟩ := hset.slice (n := FN) (by rw [List.length_set]; exact HFN.out)
              injection hv with e1 _ e2
              subst e1; subst e2
              exact hss
            have HWS := Lib.hid hWS; have HES := Lib.hid hES; have HLS := Lib.hid hLS
            clear hWS hES hLS
            have hsum : sumTT (FL.set K (l ++ [((3 : Int), (1 : Int), (⟨#[]⟩ : ByteArray))])) ≤ 900000000 := by
              have h1 := sumTT_set16 FL K (l ++ [((3 : Int), (1 : Int), (⟨#[]⟩ : ByteArray))])
              have h2 : sumT (l ++ [((3 : Int), (1 : Int), (⟨#[]⟩ : ByteArray))]) = sumT l := by rw [sumT_append] <;> rfl
              have h3 := HSU.out; have h4 := HF.out.sum
              omega
            have hlens : ∀ x ∈ FL.set K (l ++ [((3 : Int), (1 : Int), (⟨#[]⟩ : ByteArray))]), x.length ≤ 1000 := by
              intro x hx
              rcases List.mem_or_eq_of_mem_set hx with hx | rfl
              · exact HF.out.sm.len x hx
              · rw [hl2]; omega
            have hsm : SmL S FR (FL.set K (l ++ [((3 : Int), (1 : Int), (⟨#[]⟩ : ByteArray))])) := ⟨HF.out.sm.base, HF.out.sm.revs, by rw [List.length_set]; exact HF.out.sm.segs, hlens, hsum⟩
            have hlg : logE S FR (FL.set K (l ++ [((3 : Int), (1 : Int), (⟨#[]⟩ : ByteArray))])) = 5 := HLG.out
            have HQ := Lib.hid (HMY.out _ HES.out HLS.out hsm _ hlg)
            clear hsm hlg
            obtain ⟨m0, m1, m2⟩ := HLS.out.cells
            rw [← HWS.out] at m0 m1 m2
            go_wp2_with fail
            rw [HWS.out]
            refine HQ.out.mono ?_; rintro e wF ⟨rfl, hxF⟩
            go_wp2_with fail
            go_ret
            exact ⟨rfl, HES.out.trans hxF⟩
          · go_simp
            refine hK.out _ _ (fun _ => ⟨((hdx.alloc _).alloc _), (((hdx.alloc _).alloc _).cell (p := ⟨x2, 2, none⟩) HBX.out.lt).trans c2, (((hdx.alloc _).alloc _).cell (p := ⟨gB, K, none⟩) hgBl).trans q0⟩) (fun hH => ?_)
            replace hHeld := hH (by decide)
            clear hK KK hH
            try simp only [Act.put, List.getElem_toArray, List.getElem_cons_succ, List.getElem_cons_zero, List.setIfInBounds_toArray, List.set_cons_zero, List.set_cons_succ]
            refine wpAnyT_one (i := 9) rfl (by kernel_rfl) (fun KK hK => ?_)
            obtain ⟨Wb, hWb⟩ : ∃ V, (Wd.alloc (.cells #[] 43)).alloc (.cells #[.int .i64 3, .int .i64 1, .string ⟨#[]⟩] 43) = V := ⟨_, rfl⟩
            rw [hWb]
            have hxb : Ext w3 Wb := by rw [← hWb]; exact (hdx.alloc _).alloc _
            have HA9 := Lib.hid (app_erd (P := Tryd.prog) 39 39 43 ib _ 3 32 Tryd.underlying39 hib hz0 hz1 hz2 rfl (by omega) (by omega) (Below.refl Wb.heap.size Wb) (Nat.le_refl _) (OwnE.nil Wb Wb.heap.size 43 3 (Wd.heap.size)) (by omega) (HHR.out.ext hxb) (by omega) (spCells_one _))
            refine step_append_ex (by rfl) _ _ _ (by rfl) (by rfl) (by rfl) HA9.out ?_
            rintro v1 w10 ⟨ho1, hb1⟩
            have hx1 : Ext w3 w10 := hxb.trans hb1
            refine hK.out _ _ (fun _ => ⟨hx1, (hx1.cell (p := ⟨x2, 2, none⟩) HBX.out.lt).trans c2, (hx1.cell (p := ⟨gB, K, none⟩) hgBl).trans q0⟩) (fun hH => ?_)
            replace hHeld := hH (by decide)
            clear hK KK hH
            try simp only [Act.put, List.getElem_toArray, List.getElem_cons_succ, List.getElem_cons_zero, List.setIfInBounds_toArray, List.set_cons_zero, List.set_cons_succ]
            have hB2 : Ext Wb w10 := hb1
            have hr2 : Rd w10 3 (.slice (some ⟨Wd.heap.size + 1, 0, none⟩) 1 1) 1 (spCells [((3 : Int), (1 : Int), (⟨#[]⟩ : ByteArray))]) := by have h := (Own.made (Wd.alloc (.cells #[] 43)) (Wd.alloc (.cells #[] 43)).heap.size 43 3 1 #[.int .i64 3, .int .i64 1, .string ⟨#[]⟩] (Nat.le_refl _) (by omega) rfl).rd; rw [size_alloc, hWb] at h; exact h.ext hb1
            have HA12 := Lib.hid (app_erd (P := Tryd.prog) 39 39 43 ib _ 3 32 Tryd.underlying39 hib hz0 hz1 hz2 rfl (by omega) (by omega) hB2 hB2.size ho1 (by omega) hr2 (by omega) (spCells_one _))
            refine wpAnyT_one (i := 12) rfl (by kernel_rfl) (fun KK hK => ?_)
            refine step_append_ex (by rfl) _ _ _ (by rfl) (by rfl) (by rfl) HA12.out ?_
            rintro v2 w11 ⟨ho2, hb2⟩
            have hx2 : Ext w3 w11 := hxb.trans hb2
            have ho3 : Own w11 Wb.heap.size 43 3 v2 (kl + 1) (spCells (l ++ [((3 : Int), (1 : Int), (⟨#[]⟩ : ByteArray))])) := by
              rcases ho2 with ⟨hz, _⟩ | ho2
              · omega
              · rw [spCells_append]; rw [Nat.zero_add, List.nil_append] at ho2; exact ho2
            obtain ⟨va, vc, rfl, _⟩ := ho3.len
            have hf4 : w11.frozen? ⟨gB, K, none⟩ = false := (hx2.frozen (p := ⟨gB, K, none⟩) hgBl).trans hfB
            refine hK.out _ _ (fun _ => ⟨hx2, (hx2.cell (p := ⟨x2, 2, none⟩) HBX.out.lt).trans c2, (hx2.cell (p := ⟨gB, K, none⟩) hgBl).trans q0⟩) (fun hH => ?_)
            replace hHeld := hH (by decide)
            clear hK KK hH
            try simp only [Act.put, List.getElem_toArray, List.getElem_cons_succ, List.getElem_cons_zero, List.setIfInBounds_toArray, List.set_cons_zero, List.set_cons_succ]
            refine wpAnyT_take (i := 13) (v := ?_) rfl (by kernel_rfl) (fun _ _ _ h => h) (Or.inl ⟨by rfl, ?_⟩) (by assumption) ?_
            rotate_left
            · (intro W hSw; (try dsimp only at hSw); go_simp; (try with_reducible rfl))
            try simp only [Act.put, List.getElem_toArray, List.getElem_cons_succ, List.getElem_cons_zero, List.setIfInBounds_toArray, List.set_cons_zero, List.set_cons_succ]
            refine wpAnyT_one (i := 14) rfl (by kernel_rfl) (fun KK hK => ?_)
            go_simp
            refine hK.out _ _ (fun h => absurd rfl h) (fun _ => ?_)
            clear hK KK hHeld
            try simp only [Act.put, List.getElem_toArray, List.getElem_cons_succ, List.getElem_cons_zero, List.setIfInBounds_toArray, List.set_cons_zero, List.set_cons_succ]
            refine wpAnyT_done (by kernel_rfl) ?_ _
            have hl2 : (l ++ [((3 : Int), (1 : Int), (⟨#[]⟩ : ByteArray))]).length = kl + 1 := by rw [List.length_append, HKLL.out] <;> rfl
            have ho4 : Own w11 w.heap.size 43 3 (.slice va (kl + 1) vc) (l ++ [((3 : Int), (1 : Int), (⟨#[]⟩ : ByteArray))]).length (spCells (l ++ [((3 : Int), (1 : Int), (⟨#[]⟩ : ByteArray))])) := by rw [hl2]; exact ho3.more (Nat.le_trans HOS.out.base hxb.size)
            obtain ⟨_, _, hv8, _, _, _, _, hset⟩ := (HOS.out.ext hx2).set HFN.out (by decide) hKN ho4
            injection hv8 with hv8; injection hv8 with hv8
            subst hv8
            obtain ⟨WS, hWS⟩ : ∃ V, w11.setCell ⟨gB, K, none⟩ (.slice va (kl + 1) vc) = V := ⟨_, rfl⟩
            have hES : Ext w WS := by rw [← hWS]; exact Below.setCell (e3.trans hx2) (p := ⟨gB, K, none⟩) hgBw _
            have hLS : LogB WS x2 (some ⟨gA, 0, none⟩) (FN + 1) k2 (some ⟨gB, 0, none⟩) FN d2 S FR (FL.set K (l ++ [((3 : Int), (1 : Int), (⟨#[]⟩ : ByteArray))])) := by
              rw [← hWS]
              refine ⟨(HBX.out.ext hx2).other ⟨gB, K, none⟩ hneB _, (own_cell_other (a := ⟨gB, K, none⟩) (HOR.out.ext hx2) ((hx2.block gB hgBl).trans hblkB) (by decide) (.slice va (kl + 1) vc)).rd, ?_⟩
              obtain ⟨_, _, hv, _, hss⟩ := hset.slice (n := FN) (by rw [List.length_set]; exact HFN.out)
              injection hv with e1 _ e2
              subst e1; subst e2
              exact hss
            have HWS := Lib.hid hWS; have HES := Lib.hid hES; have HLS := Lib.hid hLS
            clear hWS hES hLS
            have hsum : sumTT (FL.set K (l ++ [((3 : Int), (1 : Int), (⟨#[]⟩ : ByteArray))])) ≤ 900000000 := by
              have h1 := sumTT_set16 FL K (l ++ [((3 : Int), (1 : Int), (⟨#[]⟩ : ByteArray))])
              have h2 : sumT (l ++ [((3 : Int), (1 : Int), (⟨#[]⟩ : ByteArray))]) = sumT l := by rw [sumT_append] <;> rfl
              have h3 := HSU.out; have h4 := HF.out.sum
              omega
            have hlens : ∀ x ∈ FL.set K (l ++ [((3 : Int), (1 : Int), (⟨#[]⟩ : ByteArray))]), x.length ≤ 1000 := by
              intro x hx
              rcases List.mem_or_eq_of_mem_set hx with hx | rfl
              · exact HF.out.sm.len x hx
              · rw [hl2]; omega
            have hsm : SmL S FR (FL.set K (l ++ [((3 : Int), (1 : Int), (⟨#[]⟩ : ByteArray))])) := ⟨HF.out.sm.base, HF.out.sm.revs, by rw [List.length_set]; exact HF.out.sm.segs, hlens, hsum⟩
            have hlg : logE S FR (FL.set K (l ++ [((3 : Int), (1 : Int), (⟨#[]⟩ : ByteArray))])) = 5 := HLG.out
            have HQ := Lib.hid (HMY.out _ HES.out HLS.out hsm _ hlg)
            clear hsm hlg
            obtain ⟨m0, m1, m2⟩ := HLS.out.cells
            rw [← HWS.out] at m0 m1 m2
            go_wp2_with fail
            rw [HWS.out]
            refine HQ.out.mono ?_; rintro e wF ⟨rfl, hxF⟩
            go_wp2_with fail
            go_ret
            exact ⟨rfl, HES.out.trans hxF⟩
        · go_simp
          refine hK.out _ _ (fun _ => ⟨(hdx.alloc _), ((hdx.alloc _).cell (p := ⟨x2, 2, none⟩) HBX.out.lt).trans c2, ((hdx.alloc _).cell (p := ⟨gB, K, none⟩) hgBl).trans q0⟩) (fun hH => ?_)
          replace hHeld := hH (by decide)
          clear hK KK hH
          try simp only [Act.put, List.getElem_toArray, List.getElem_cons_succ, List.getElem_cons_zero, List.setIfInBounds_toArray, List.set_cons_zero, List.set_cons_succ]
          refine wpAnyT_one (i := 3) rfl (by kernel_rfl) (fun KK hK => ?_)
          go_simp
          refine hK.out _ _ (fun _ => ⟨((hdx.alloc _).alloc _), (((hdx.alloc _).alloc _).cell (p := ⟨x2, 2, none⟩) HBX.out.lt).trans c2, (((hdx.alloc _).alloc _).cell (p := ⟨gB, K, none⟩) hgBl).trans q0⟩) (fun hH => ?_)
          replace hHeld := hH (by decide)
          clear hK KK hH
          try simp only [Act.put, List.getElem_toArray, List.getElem_cons_succ, List.getElem_cons_zero, List.setIfInBounds_toArray, List.set_cons_zero, List.set_cons_succ]
          refine wpAnyT_one (i := 9) rfl (by kernel_rfl) (fun KK hK => ?_)
          obtain ⟨Wb, hWb⟩ : ∃ V, (Wd.alloc (.cells #[.int .i64 3, .int .i64 1, .string ⟨#[]⟩] 43)).alloc (.cells #[] 43) = V := ⟨_, rfl⟩
          rw [hWb]
          have hxb : Ext w3 Wb := by rw [← hWb]; exact (hdx.alloc _).alloc _
          have HA9 := Lib.hid (app_erd (P := Tryd.prog) 39 39 43 ib _ 3 32 Tryd.underlying39 hib hz0 hz1 hz2 rfl (by omega) (by omega) (Below.refl Wb.heap.size Wb) (Nat.le_refl _) (OwnE.nil Wb Wb.heap.size 43 3 (Wd.heap.size + 1)) (by omega) (HHR.out.ext hxb) (by omega) (spCells_one _))
          refine step_append_ex (by rfl) _ _ _ (by rfl) (by rfl) (by rfl) HA9.out ?_
          rintro v1 w10 ⟨ho1, hb1⟩
          have hx1 : Ext w3 w10 := hxb.trans hb1
          refine hK.out _ _ (fun _ => ⟨hx1, (hx1.cell (p := ⟨x2, 2, none⟩) HBX.out.lt).trans c2, (hx1.cell (p := ⟨gB, K, none⟩) hgBl).trans q0⟩) (fun hH => ?_)
          replace hHeld := hH (by decide)
          clear hK KK hH
          try simp only [Act.put, List.getElem_toArray, List.getElem_cons_succ, List.getElem_cons_zero, List.setIfInBounds_toArray, List.set_cons_zero, List.set_cons_succ]
          have hB2 : Ext Wb w10 := hb1
          have hr2 : Rd w10 3 (.slice (some ⟨Wd.heap.size, 0, none⟩) 1 1) 1 (spCells [((3 : Int), (1 : Int), (⟨#[]⟩ : ByteArray))]) := by have h := (Own.made Wd Wd.heap.size 43 3 1 #[.int .i64 3, .int .i64 1, .string ⟨#[]⟩] (Nat.le_refl _) (by omega) rfl).rd; exact (h.ext (by rw [← hWb]; exact (Ext.refl _).alloc _)).ext hb1
          have HA12 := Lib.hid (app_erd (P := Tryd.prog) 39 39 43 ib _ 3 32 Tryd.underlying39 hib hz0 hz1 hz2 rfl (by omega) (by omega) hB2 hB2.size ho1 (by omega) hr2 (by omega) (spCells_one _))
          refine wpAnyT_one (i := 12) rfl (by kernel_rfl) (fun KK hK => ?_)
          refine step_append_ex (by rfl) _ _ _ (by rfl) (by rfl) (by rfl) HA12.out ?_
          rintro v2 w11 ⟨ho2, hb2⟩
          have hx2 : Ext w3 w11 := hxb.trans hb2
          have ho3 : Own w11 Wb.heap.size 43 3 v2 (kl + 1) (spCells (l ++ [((3 : Int), (1 : Int), (⟨#[]⟩ : ByteArray))])) := by
            rcases ho2 with ⟨hz, _⟩ | ho2
            · omega
            · rw [spCells_append]; rw [Nat.zero_add, List.nil_append] at ho2; exact ho2
          obtain ⟨va, vc, rfl, _⟩ := ho3.len
          have hf4 : w11.frozen? ⟨gB, K, none⟩ = false := (hx2.frozen (p := ⟨gB, K, none⟩) hgBl).trans hfB
          refine hK.out _ _ (fun _ => ⟨hx2, (hx2.cell (p := ⟨x2, 2, none⟩) HBX.out.lt).trans c2, (hx2.cell (p := ⟨gB, K, none⟩) hgBl).trans q0⟩) (fun hH => ?_)
          replace hHeld := hH (by decide)
          clear hK KK hH
          try simp only [Act.put, List.getElem_toArray, List.getElem_cons_succ, List.getElem_cons_zero, List.setIfInBounds_toArray, List.set_cons_zero, List.set_cons_succ]
          refine wpAnyT_take (i := 13) (v := ?_) rfl (by kernel_rfl) (fun _ _ _ h => h) (Or.inl ⟨by rfl, ?_⟩) (by assumption) ?_
          rotate_left
          · (intro W hSw; (try dsimp only at hSw); go_simp; (try with_reducible rfl))
          try simp only [Act.put, List.getElem_toArray, List.getElem_cons_succ, List.getElem_cons_zero, List.setIfInBounds_toArray, List.set_cons_zero, List.set_cons_succ]
          refine wpAnyT_one (i := 14) rfl (by kernel_rfl) (fun KK hK => ?_)
          go_simp
          refine hK.out _ _ (fun h => absurd rfl h) (fun _ => ?_)
          clear hK KK hHeld
          try simp only [Act.put, List.getElem_toArray, List.getElem_cons_succ, List.getElem_cons_zero, List.setIfInBounds_toArray, List.set_cons_zero, List.set_cons_succ]
          refine wpAnyT_done (by kernel_rfl) ?_ _
          have hl2 : (l ++ [((3 : Int), (1 : Int), (⟨#[]⟩ : ByteArray))]).length = kl + 1 := by rw [List.length_append, HKLL.out] <;> rfl
          have ho4 : Own w11 w.heap.size 43 3 (.slice va (kl + 1) vc) (l ++ [((3 : Int), (1 : Int), (⟨#[]⟩ : ByteArray))]).length (spCells (l ++ [((3 : Int), (1 : Int), (⟨#[]⟩ : ByteArray))])) := by rw [hl2]; exact ho3.more (Nat.le_trans HOS.out.base hxb.size)
          obtain ⟨_, _, hv8, _, _, _, _, hset⟩ := (HOS.out.ext hx2).set HFN.out (by decide) hKN ho4
          injection hv8 with hv8; injection hv8 with hv8
          subst hv8
          obtain ⟨WS, hWS⟩ : ∃ V, w11.setCell ⟨gB, K, none⟩ (.slice va (kl + 1) vc) = V := ⟨_, rfl⟩
          have hES : Ext w WS := by rw [← hWS]; exact Below.setCell (e3.trans hx2) (p := ⟨gB, K, none⟩) hgBw _
          have hLS : LogB WS x2 (some ⟨gA, 0, none⟩) (FN + 1) k2 (some ⟨gB, 0, none⟩) FN d2 S FR (FL.set K (l ++ [((3 : Int), (1 : Int), (⟨#[]⟩ : ByteArray))])) := by
            rw [← hWS]
            refine ⟨(HBX.out.ext hx2).other ⟨gB, K, none⟩ hneB _, (own_cell_other (a := ⟨gB, K, none⟩) (HOR.out.ext hx2) ((hx2.block gB hgBl).trans hblkB) (by decide) (.slice va (kl + 1) vc)).rd, ?_⟩
            obtain ⟨_, _, hv, _, hss⟩ := hset.slice (n := FN) (by rw [List.length_set]; exact HFN.out)
            injection hv with e1 _ e2
            subst e1; subst e2
            exact hss
          have HWS := Lib.hid hWS; have HES := Lib.hid hES; have HLS := Lib.hid hLS
          clear hWS hES hLS
          have hsum : sumTT (FL.set K (l ++ [((3 : Int), (1 : Int), (⟨#[]⟩ : ByteArray))])) ≤ 900000000 := by
            have h1 := sumTT_set16 FL K (l ++ [((3 : Int), (1 : Int), (⟨#[]⟩ : ByteArray))])
            have h2 : sumT (l ++ [((3 : Int), (1 : Int), (⟨#[]⟩ : ByteArray))]) = sumT l := by rw [sumT_append] <;> rfl
            have h3 := HSU.out; have h4 := HF.out.sum
            omega
          have hlens : ∀ x ∈ FL.set K (l ++ [((3 : Int), (1 : Int), (⟨#[]⟩ : ByteArray))]), x.length ≤ 1000 := by
            intro x hx
            rcases List.mem_or_eq_of_mem_set hx with hx | rfl
            · exact HF.out.sm.len x hx
            · rw [hl2]; omega
          have hsm : SmL S FR (FL.set K (l ++ [((3 : Int), (1 : Int), (⟨#[]⟩ : ByteArray))])) := ⟨HF.out.sm.base, HF.out.sm.revs, by rw [List.length_set]; exact HF.out.sm.segs, hlens, hsum⟩
          have hlg : logE S FR (FL.set K (l ++ [((3 : Int), (1 : Int), (⟨#[]⟩ : ByteArray))])) = 5 := HLG.out
          have HQ := Lib.hid (HMY.out _ HES.out HLS.out hsm _ hlg)
          clear hsm hlg
          obtain ⟨m0, m1, m2⟩ := HLS.out.cells
          rw [← HWS.out] at m0 m1 m2
          go_wp2_with fail
          rw [HWS.out]
          refine HQ.out.mono ?_; rintro e wF ⟨rfl, hxF⟩
          go_wp2_with fail
          go_ret
          exact ⟨rfl, HES.out.trans hxF⟩
end Go.Proofs.YtejgkhmpmnjgaaaDoor
