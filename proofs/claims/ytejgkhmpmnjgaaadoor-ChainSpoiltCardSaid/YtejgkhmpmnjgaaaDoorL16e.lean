/- Layer 16, ChainCut. -/
import Derived.Test.YtejgkhmpmnjgaaaDoorL16d
namespace Go.Proofs.YtejgkhmpmnjgaaaDoor
open Go.RowKit
set_option maxRecDepth 100000
set_option maxHeartbeats 4000000
set_option linter.unusedSimpArgs false
theorem nV_take (l : List Int) (k : Nat) : (nV l).take k = nV (l.take k) := by unfold nV; rw [List.map_take]
theorem nV_drop (l : List Int) (k : Nat) : (nV l).drop k = nV (l.drop k) := by unfold nV; rw [List.map_drop]
theorem Rd.from {w : World} {A : Option Addr} {n c : Nat} {xs : List Value} (h : Rd w 1 (.slice A n c) n xs) {k : Nat} (hk : k ≤ n) : Rd w 1 (.slice (if c = k then A else Option.map (fun x => x.add k) A) (n - k) (c - k)) (n - k) (xs.drop k) := by
  obtain ⟨h1, A', c', hv, hc, h2⟩ := h
  injection hv with e1 e2 e3
  subst e1; subst e3
  refine ⟨by rw [List.length_drop]; omega, _, _, rfl, by omega, fun h0 => ?_⟩
  obtain ⟨b, off, hA, hb, hcell⟩ := h2 (by omega)
  have hne : c ≠ k := by omega
  rw [if_neg hne, hA]
  refine ⟨b, off + k, ?_, hb, fun j u hu => ?_⟩
  · simp only [Option.map_some, Addr.add]
    by_cases hz : k = 0
    · subst hz; rfl
    · rw [if_neg hz]
  · rw [List.getElem?_drop] at hu
    rw [show off + k + j = off + (k + j) by omega]
    exact hcell _ u hu
theorem RdSS.from {w : World} {A : Option Addr} {n c : Nat} {ls : List (List Sp)} (h : RdSS w A n c ls) {k : Nat} (hk : k ≤ n) : RdSS w (if c = k then A else Option.map (fun x => x.add k) A) (n - k) (c - k) (ls.drop k) := by
  obtain ⟨h1, vs, h2, h3⟩ := h
  refine ⟨by rw [List.length_drop, h1], vs.drop k, h2.from hk, fun i l hl => ?_⟩
  rw [List.getElem?_drop] at hl ⊢
  exact h3 _ l hl
theorem sumTT_take16 (ls : List (List Sp)) (k : Nat) : sumTT (ls.take k) ≤ sumTT ls ∧ sumTT (ls.drop k) ≤ sumTT ls := by
  have e : sumTT (ls.take k ++ ls.drop k) = sumTT (ls.take k) + sumTT (ls.drop k) := by unfold sumTT; rw [List.map_append, List.sum_append]
  rw [List.take_append_drop] at e
  omega
theorem FitLog.first {S : ByteArray} {FR : List Int} {FL : List (List Sp)} (h : FitLog S FR FL) (k : Nat) : SmL S (FR.take (k + 1)) (FL.take k) := by
  have hs := h.sm
  exact ⟨hs.base, by have := hs.revs; rw [List.length_take]; omega, by have := hs.segs; rw [List.length_take]; omega, fun l hl => hs.len l (List.mem_of_mem_take hl), by have := (sumTT_take16 FL k).1; have := hs.sum; omega⟩
theorem FitLog.rest {S : ByteArray} {FR : List Int} {FL : List (List Sp)} (h : FitLog S FR FL) (k : Nat) : SmL (allL S (FL.take k)).1 (FR.drop k) (FL.drop k) := by
  have hs := h.sm
  refine ⟨?_, by have := hs.revs; rw [List.length_drop]; omega, by have := hs.segs; rw [List.length_drop]; omega, fun l hl => hs.len l (List.mem_of_mem_drop hl), by have := (sumTT_take16 FL k).2; have := hs.sum; omega⟩
  have h1 := allL_size (s := S) (ls := FL.take k)
  have h2 := (sumTT_take16 FL k).1
  have := h.txt; have := h.sum
  omega
theorem chainCut_c (s : ByteArray) (A : Option Addr) (n c : Nat) (ls : List (List Sp)) (a : Int) (w : World) [Tab w] (hs : s.size ≤ maxLen) (h : RdSS w A n c ls) (hls : ∀ l ∈ ls, ∀ x ∈ l, x.2.2.size ≤ maxLen) (ha : (Lit.int .u8 a).wf = true) :
    Calls Tryd.prog 6 #[.string s, .slice A n c, .int .u8 a] w fun e w' => e = .returned (.bool true) ∧ Ext w w' := by
  obtain ⟨S, FR, FL, hF, hfit⟩ := fitG16 s A n c ls w hs h hls
  have HSH := Lib.hid (fun w' (hx : Ext w w') => have hTb := tab_ext hx; shown16_c w')
  have HFI := Lib.hid hfit
  have HF := Lib.hid hF
  obtain ⟨FN, hFN⟩ : ∃ n, FL.length = n := ⟨_, rfl⟩
  have h20 := hF.n20
  rw [hFN] at HFI h20
  have HFN := Lib.hid hFN
  obtain ⟨o0, o1⟩ := bounds_u8 ha
  obtain ⟨K, hK, hKN⟩ : ∃ K : Nat, a % ((FN : Int) + 1) = (K : Int) ∧ K ≤ FN := by
    have h1 := Int.emod_nonneg a (show ((FN : Int) + 1) ≠ 0 by omega)
    have h2 := Int.emod_lt_of_pos a (show (0 : Int) < (FN : Int) + 1 by omega)
    exact ⟨(a % ((FN : Int) + 1)).toNat, by omega, by omega⟩
  have hK2 : a.tmod ((FN : Int) + 1) = (K : Int) := by rw [Int.tmod_eq_emod_of_nonneg o0]; exact hK
  have hnz : ((FN : Int) + 1 == 0) = false := by rw [beq_eq_false_iff_ne]; omega
  have hnz2 : ¬ (FN : Int) + 1 = 0 := by omega
  have HFR : Hid (FR.length = FN + 1) := Lib.hid (by rw [hF.rev, revL_len, hFN])
  have hok := hF.ok
  have hKL : K ≤ FL.length := by omega
  obtain ⟨a1, _⟩ := log_at hok hF.lens hKL
  obtain ⟨a3, _⟩ := log_at hok hF.lens (Nat.le_refl FL.length)
  rw [List.take_length, hFN] at a3
  have f1 := log_first hok hKL
  have f2 := log_rest hok hF.lens hKL
  have f3 := log_end hok hF.lens hKL
  have hl1 : (FL.take K).length = K := by rw [List.length_take]; omega
  have hl2 : (FL.drop K).length = FN - K := by rw [List.length_drop, hFN]
  obtain ⟨b1, _⟩ := log_at f1 (fun l hl => hF.lens l (List.mem_of_mem_take hl)) (Nat.le_refl _)
  obtain ⟨b2, _⟩ := log_at f2 (fun l hl => hF.lens l (List.mem_of_mem_drop hl)) (Nat.le_refl _)
  rw [List.take_length, hl1] at b1
  rw [List.take_length, f3, hl2] at b2
  have s0 := hF.sm
  have s1 := hF.first K
  have s2 := hF.rest K
  generalize (allL S (FL.take K)).1 = TK at *
  generalize (allL S FL).1 = TE at *
  obtain ⟨R', hR'⟩ : ∃ r, FN - K = r := ⟨_, rfl⟩
  obtain ⟨R1', hR1'⟩ : ∃ r, FN + 1 - K = r := ⟨_, rfl⟩
  rw [hR'] at b2
  have HA : Hid (∀ V, Ext w V → ∀ {x A nn c B d}, LogB V x A nn c B FN d S FR FL → Calls Tryd.prog 11 #[.agg #[.string S, .slice A nn c, .slice B FN d], .int .i64 (K : Int)] V fun e w' => e = .returned (.tuple #[.string TK, .int .i64 0]) ∧ Ext V w') := Lib.hid fun V hx _ _ _ _ _ _ hl => by
    have hTb := tab_ext hx
    have h := atP16_c _ _ _ _ _ _ S FR FL (K : Int) V hl.rev hl.seg s0
    unfold atV at h
    rw [a1] at h; exact h
  have HT1 : Hid (∀ V, Ext w V → ∀ {x A c B d}, LogB V x A (K + 1) c B K d S (FR.take (K + 1)) (FL.take K) → Calls Tryd.prog 11 #[.agg #[.string S, .slice A (K + 1) c, .slice B K d], .int .i64 (K : Int)] V fun e w' => e = .returned (.tuple #[.string TK, .int .i64 0]) ∧ Ext V w') := Lib.hid fun V hx _ _ _ _ _ hl => by
    have hTb := tab_ext hx
    have h := atP16_c _ _ _ _ _ _ S (FR.take (K + 1)) (FL.take K) (K : Int) V hl.rev hl.seg s1
    unfold atV at h
    rw [b1] at h; exact h
  have HT2 : Hid (∀ V, Ext w V → ∀ {x A nn c B d}, LogB V x A nn c B R' d TK (FR.drop K) (FL.drop K) → Calls Tryd.prog 11 #[.agg #[.string TK, .slice A nn c, .slice B R' d], .int .i64 (R' : Int)] V fun e w' => e = .returned (.tuple #[.string TE, .int .i64 0]) ∧ Ext V w') := Lib.hid fun V hx _ _ _ _ _ _ hl => by
    have hTb := tab_ext hx
    have h := atP16_c _ _ _ _ _ _ TK (FR.drop K) (FL.drop K) (R' : Int) V hl.rev hl.seg s2
    unfold atV at h
    rw [b2] at h; exact h
  have HT3 : Hid (∀ V, Ext w V → ∀ {x A nn c B d}, LogB V x A nn c B FN d S FR FL → Calls Tryd.prog 11 #[.agg #[.string S, .slice A nn c, .slice B FN d], .int .i64 (FN : Int)] V fun e w' => e = .returned (.tuple #[.string TE, .int .i64 0]) ∧ Ext V w') := Lib.hid fun V hx _ _ _ _ _ _ hl => by
    have hTb := tab_ext hx
    have h := atP16_c _ _ _ _ _ _ S FR FL (FN : Int) V hl.rev hl.seg s0
    unfold atV at h
    rw [a3] at h; exact h
  have HM1 : Hid (∀ V, Ext w V → ∀ {x A c B d}, LogB V x A (K + 1) c B K d S (FR.take (K + 1)) (FL.take K) → Calls Tryd.prog 15 #[.agg #[.string S, .slice A (K + 1) c, .slice B K d]] V fun e w' => e = .returned (.int .i64 0) ∧ Ext V w') := Lib.hid fun V hx _ _ _ _ _ hl => by
    have hTb := tab_ext hx
    have h := mayP16_c _ _ _ _ _ _ S (FR.take (K + 1)) (FL.take K) V hl.rev hl.seg s1
    rw [f1] at h; exact h
  have HM2 : Hid (∀ V, Ext w V → ∀ {x A nn c B d}, LogB V x A nn c B R' d TK (FR.drop K) (FL.drop K) → Calls Tryd.prog 15 #[.agg #[.string TK, .slice A nn c, .slice B R' d]] V fun e w' => e = .returned (.int .i64 0) ∧ Ext V w') := Lib.hid fun V hx _ _ _ _ _ _ hl => by
    have hTb := tab_ext hx
    have h := mayP16_c _ _ _ _ _ _ TK (FR.drop K) (FL.drop K) V hl.rev hl.seg s2
    rw [f2] at h; exact h
  clear a1 a3 b1 b2 f1 f2 f3 s0 s1 s2 hl1 hl2 hok hKL hK
  have HKQ := Lib.hid hR'; have HKQ1 := Lib.hid hR1'
  clear h hls hs hfit hF hFN
  go_enter Tryd.func6, Tryd.ntmps6
  go_wp2_with fail
  refine (HSH.out _ (Ext.refl _)).mono ?_; rintro e w1 ⟨rfl, hx1⟩
  have e1 : Ext w w1 := hx1
  clear hx1
  go_wp2_with fail
  refine (HFI.out _ e1).mono ?_; rintro e w2 ⟨hx2, A2, n2, k2, B2, d2, rfl, r2, q2⟩
  have e2 : Ext w w2 := e1.trans hx2
  clear hx2
  obtain ⟨x2, hx2⟩ : ∃ x, w2.heap.size = x := ⟨_, rfl⟩
  obtain ⟨W2, hW2⟩ : ∃ V, w2.alloc (.cells #[.string S, .slice A2 n2 k2, .slice B2 FN d2] 25) = V := ⟨_, rfl⟩
  have hX2 : Ext w2 W2 := by rw [← hW2]; exact (Ext.refl w2).alloc _
  have HB := Lib.hid (show LogB W2 x2 A2 n2 k2 B2 FN d2 S FR FL by rw [← hW2, ← hx2]; exact LogB.new r2 q2)
  have E2 := Lib.hid (e2.trans hX2 : Ext w W2)
  have HW2 := Lib.hid hW2; have HX2 := Lib.hid hx2
  clear hW2 hx2 hX2
  have hn2 := nV_len r2
  rw [HFR.out] at hn2
  subst hn2
  have hk2 : FN + 1 ≤ k2 := by obtain ⟨_, _, hv, hc⟩ := r2.len; injection hv with _ _ e; omega
  have hd2 : FN ≤ d2 := by obtain ⟨_, _, ⟨_, _, _, hv, hc, _⟩, _⟩ := q2; injection hv with _ _ e; omega
  clear r2 q2
  have g0 : (0 : Int) ≤ (K : Int) := by omega
  have g1 : (K : Int) + 1 ≤ (k2 : Int) := by omega
  have g2 : (K : Int) ≤ (d2 : Int) := by omega
  have g3 : (0 : Int) ≤ (K : Int) + 1 := by omega
  have hwk : IntKind.i64.wrap ((K : Int) + 1) = (K : Int) + 1 := by rw [IntKind.wrap_i64]; omega
  have hwt : ((K : Int) + 1).toNat = K + 1 := by omega
  have g4 : (K : Int) ≤ (FN : Int) + 1 := by omega
  have g5 : (FN : Int) + 1 ≤ (k2 : Int) := by omega
  have g6 : (K : Int) ≤ (FN : Int) := by omega
  have g7 : (FN : Int) ≤ (d2 : Int) := by omega
  obtain ⟨AR, hAR⟩ : ∃ x : Option Addr, (if k2 = K then A2 else Option.map (fun x => x.add K) A2) = x := ⟨_, rfl⟩
  obtain ⟨BR, hBR⟩ : ∃ x : Option Addr, (if d2 = K then B2 else Option.map (fun x => x.add K) B2) = x := ⟨_, rfl⟩
  have hR := hR'
  have hR1 := hR1'
  have HR0 := Lib.hid hR; have HR10 := Lib.hid hR1; have HAR := Lib.hid hAR; have HBR := Lib.hid hBR
  obtain ⟨c0, c1, c2⟩ := HB.out.cells
  go_wp2_with fail
  rw [HW2.out, HX2.out]
  clear c0 c1 c2
  refine (HA.out _ E2.out HB.out).mono ?_; rintro e w3 ⟨rfl, hx3⟩
  have e3 : Ext w w3 := E2.out.trans hx3
  replace HB := Lib.hid (HB.out.ext hx3)
  clear hx3
  go_wp2_with fail
  obtain ⟨c0, c1, c2⟩ := HB.out.cells
  go_wp2_with fail
  refine region_T (fun V => Ext w3 V ∧ V.cell? ⟨x2, 0, none⟩ = some (.string S) ∧ V.cell? ⟨x2, 1, none⟩ = some (.slice A2 (FN + 1) k2) ∧ V.cell? ⟨x2, 2, none⟩ = some (.slice B2 FN d2)) 13 (by kernel_rfl) (⟨(Ext.refl _).drew, c0, c1, c2⟩) (fun hHeld => ?_)
  refine wpAnyT_take (i := 0) (v := ?_) rfl (by kernel_rfl) (fun _ _ _ h => h) (Or.inl ⟨by rfl, ?_⟩) (by assumption) ?_
  rotate_left
  · (intro W hSw; (try dsimp only at hSw); go_simp; (try with_reducible rfl))
  try simp only [Act.put, List.getElem_toArray, List.getElem_cons_succ, List.getElem_cons_zero, List.setIfInBounds_toArray, List.set_cons_zero, List.set_cons_succ]
  refine wpAnyT_take (i := 1) (v := ?_) rfl (by kernel_rfl) (fun _ _ _ h => h) (Or.inl ⟨by rfl, ?_⟩) (by assumption) ?_
  rotate_left
  · (intro W hSw; (try dsimp only at hSw); go_simp; (try with_reducible rfl))
  try simp only [Act.put, List.getElem_toArray, List.getElem_cons_succ, List.getElem_cons_zero, List.setIfInBounds_toArray, List.set_cons_zero, List.set_cons_succ]
  refine wpAnyT_take (i := 2) (v := ?_) rfl (by kernel_rfl) (fun _ _ _ h => h) (Or.inl ⟨by rfl, ?_⟩) (by assumption) ?_
  rotate_left
  · (intro W hSw; (try dsimp only at hSw); go_simp; (try with_reducible rfl))
  try simp only [Act.put, List.getElem_toArray, List.getElem_cons_succ, List.getElem_cons_zero, List.setIfInBounds_toArray, List.set_cons_zero, List.set_cons_succ]
  refine wpAnyT_take (i := 3) (v := ?_) rfl (by kernel_rfl) (fun _ _ _ h => h) (Or.inl ⟨by rfl, ?_⟩) (by assumption) ?_
  rotate_left
  · (intro W hSw; (try dsimp only at hSw); go_simp; (try with_reducible rfl))
  try simp only [Act.put, List.getElem_toArray, List.getElem_cons_succ, List.getElem_cons_zero, List.setIfInBounds_toArray, List.set_cons_zero, List.set_cons_succ]
  refine wpAnyT_take (i := 4) (v := ?_) rfl (by kernel_rfl) (fun _ _ _ h => h) (Or.inl ⟨by rfl, ?_⟩) (by assumption) ?_
  rotate_left
  · (intro W hSw; (try dsimp only at hSw); go_simp; (try with_reducible rfl))
  try simp only [Act.put, List.getElem_toArray, List.getElem_cons_succ, List.getElem_cons_zero, List.setIfInBounds_toArray, List.set_cons_zero, List.set_cons_succ]
  refine wpAnyT_take (i := 5) (v := ?_) rfl (by kernel_rfl) (fun _ _ _ h => h) (Or.inl ⟨by rfl, ?_⟩) (by assumption) ?_
  rotate_left
  · (intro W hSw; (try dsimp only at hSw); go_simp; (try with_reducible rfl))
  try simp only [Act.put, List.getElem_toArray, List.getElem_cons_succ, List.getElem_cons_zero, List.setIfInBounds_toArray, List.set_cons_zero, List.set_cons_succ]
  refine wpAnyT_take (i := 6) (v := ?_) rfl (by kernel_rfl) (fun _ _ _ h => h) (Or.inl ⟨by rfl, ?_⟩) (by assumption) ?_
  rotate_left
  · (intro W hSw; (try dsimp only at hSw); go_simp; (try with_reducible rfl))
  try simp only [Act.put, List.getElem_toArray, List.getElem_cons_succ, List.getElem_cons_zero, List.setIfInBounds_toArray, List.set_cons_zero, List.set_cons_succ]
  refine wpAnyT_take (i := 7) (v := ?_) rfl (by kernel_rfl) (fun _ _ _ h => h) (Or.inl ⟨by rfl, ?_⟩) (by assumption) ?_
  rotate_left
  · (intro W hSw; (try dsimp only at hSw); go_simp; (try with_reducible rfl))
  try simp only [Act.put, List.getElem_toArray, List.getElem_cons_succ, List.getElem_cons_zero, List.setIfInBounds_toArray, List.set_cons_zero, List.set_cons_succ]
  refine wpAnyT_take (i := 8) (v := ?_) rfl (by kernel_rfl) (fun _ _ _ h => h) (Or.inl ⟨by rfl, ?_⟩) (by assumption) ?_
  rotate_left
  · (intro W hSw; (try dsimp only at hSw); go_simp; (try with_reducible rfl))
  try simp only [Act.put, List.getElem_toArray, List.getElem_cons_succ, List.getElem_cons_zero, List.setIfInBounds_toArray, List.set_cons_zero, List.set_cons_succ]
  refine wpAnyT_take (i := 9) (v := ?_) rfl (by kernel_rfl) (fun _ _ _ h => h) (Or.inl ⟨by rfl, ?_⟩) (by assumption) ?_
  rotate_left
  · (intro W hSw; (try dsimp only at hSw); go_simp; (try with_reducible rfl))
  try simp only [Act.put, List.getElem_toArray, List.getElem_cons_succ, List.getElem_cons_zero, List.setIfInBounds_toArray, List.set_cons_zero, List.set_cons_succ]
  refine wpAnyT_take (i := 10) (v := ?_) rfl (by kernel_rfl) (fun _ _ _ h => h) (Or.inl ⟨by rfl, ?_⟩) (by assumption) ?_
  rotate_left
  · (intro W hSw; (try dsimp only at hSw); go_simp; (try with_reducible rfl))
  try simp only [Act.put, List.getElem_toArray, List.getElem_cons_succ, List.getElem_cons_zero, List.setIfInBounds_toArray, List.set_cons_zero, List.set_cons_succ]
  refine wpAnyT_take (i := 11) (v := ?_) rfl (by kernel_rfl) (fun _ _ _ h => h) (Or.inl ⟨by rfl, ?_⟩) (by assumption) ?_
  rotate_left
  · (intro W hSw; (try dsimp only at hSw); go_simp; (try with_reducible rfl))
  try simp only [Act.put, List.getElem_toArray, List.getElem_cons_succ, List.getElem_cons_zero, List.setIfInBounds_toArray, List.set_cons_zero, List.set_cons_succ]
  refine wpAnyT_one (i := 12) rfl (by kernel_rfl) (fun K hK => ?_)
  go_simp
  refine hK.out _ _ (fun _ => ⟨hHeld.1.alloc _, ext_cell ((Ext.refl _).alloc _) hHeld.2.1, ext_cell ((Ext.refl _).alloc _) hHeld.2.2.1, ext_cell ((Ext.refl _).alloc _) hHeld.2.2.2⟩) (fun hH => ?_)
  replace hHeld := hH (by decide)
  clear hK K hH
  try simp only [Act.put, List.getElem_toArray, List.getElem_cons_succ, List.getElem_cons_zero, List.setIfInBounds_toArray, List.set_cons_zero, List.set_cons_succ]
  refine wpAnyT_one (i := 13) rfl (by kernel_rfl) (fun K hK => ?_)
  go_simp
  refine hK.out _ _ (fun h => absurd rfl h) (fun _ => ?_)
  clear hK K hHeld
  try simp only [Act.put, List.getElem_toArray, List.getElem_cons_succ, List.getElem_cons_zero, List.setIfInBounds_toArray, List.set_cons_zero, List.set_cons_succ]
  refine wpAnyT_done (by kernel_rfl) ?_ _
  obtain ⟨x3, hx3⟩ : ∃ x, w3.heap.size = x := ⟨_, rfl⟩
  obtain ⟨W3, hW3⟩ : ∃ V, (w3.alloc (.cells #[.string S, .slice A2 (K + 1) k2, .slice B2 K d2] 25)).drew = V := ⟨_, rfl⟩
  have hX3 : Ext w3 W3 := by rw [← hW3]; exact ((Ext.refl w3).alloc _).drew
  have HF1 := Lib.hid (show LogB W3 x3 A2 (K + 1) k2 B2 K d2 S (FR.take (K + 1)) (FL.take K) by rw [← hW3, ← hx3]; exact (LogB.new (by have h := HB.out.rev.take (m := K + 1) (by omega); rw [Nat.mul_one, nV_take] at h; exact h) (HB.out.seg.take (by omega))).ext (Ext.refl _).drew)
  rw [hx3, hW3]
  have E3 := Lib.hid (e3.trans hX3 : Ext w W3)
  replace HB := Lib.hid (HB.out.ext hX3)
  clear hW3 hx3 hX3 c0 c1 c2
  obtain ⟨c0, c1, c2⟩ := HB.out.cells
  go_wp2_with fail
  refine region_T (fun V => Ext W3 V ∧ V.cell? ⟨x2, 0, none⟩ = some (.string S) ∧ V.cell? ⟨x2, 1, none⟩ = some (.slice A2 (FN + 1) k2) ∧ V.cell? ⟨x2, 2, none⟩ = some (.slice B2 FN d2)) 11 (by kernel_rfl) (⟨(Ext.refl _).drew, c0, c1, c2⟩) (fun hHeld => ?_)
  refine wpAnyT_take (i := 0) (v := ?_) rfl (by kernel_rfl) (fun _ _ _ h => h) (Or.inl ⟨by rfl, ?_⟩) (by assumption) ?_
  rotate_left
  · (intro W hSw; (try dsimp only at hSw); go_simp; (try with_reducible rfl))
  try simp only [Act.put, List.getElem_toArray, List.getElem_cons_succ, List.getElem_cons_zero, List.setIfInBounds_toArray, List.set_cons_zero, List.set_cons_succ]
  refine wpAnyT_take (i := 1) (v := ?_) rfl (by kernel_rfl) (fun _ _ _ h => h) (Or.inl ⟨by rfl, ?_⟩) (by assumption) ?_
  rotate_left
  · (intro W hSw; (try dsimp only at hSw); go_simp; (try with_reducible rfl))
  try simp only [Act.put, List.getElem_toArray, List.getElem_cons_succ, List.getElem_cons_zero, List.setIfInBounds_toArray, List.set_cons_zero, List.set_cons_succ]
  refine wpAnyT_take (i := 2) (v := ?_) rfl (by kernel_rfl) (fun _ _ _ h => h) (Or.inl ⟨by rfl, ?_⟩) (by assumption) ?_
  rotate_left
  · (intro W hSw; (try dsimp only at hSw); go_simp; (try with_reducible rfl))
  try simp only [Act.put, List.getElem_toArray, List.getElem_cons_succ, List.getElem_cons_zero, List.setIfInBounds_toArray, List.set_cons_zero, List.set_cons_succ]
  refine wpAnyT_take (i := 3) (v := ?_) rfl (by kernel_rfl) (fun _ _ _ h => h) (Or.inl ⟨by rfl, ?_⟩) (by assumption) ?_
  rotate_left
  · (intro W hSw; (try dsimp only at hSw); go_simp; (try with_reducible rfl))
  try simp only [Act.put, List.getElem_toArray, List.getElem_cons_succ, List.getElem_cons_zero, List.setIfInBounds_toArray, List.set_cons_zero, List.set_cons_succ]
  refine wpAnyT_take (i := 4) (v := ?_) rfl (by kernel_rfl) (fun _ _ _ h => h) (Or.inl ⟨by rfl, ?_⟩) (by assumption) ?_
  rotate_left
  · (intro W hSw; (try dsimp only at hSw); go_simp; (try with_reducible rfl))
  try simp only [Act.put, List.getElem_toArray, List.getElem_cons_succ, List.getElem_cons_zero, List.setIfInBounds_toArray, List.set_cons_zero, List.set_cons_succ]
  refine wpAnyT_take (i := 5) (v := ?_) rfl (by kernel_rfl) (fun _ _ _ h => h) (Or.inl ⟨by rfl, ?_⟩) (by assumption) ?_
  rotate_left
  · (intro W hSw; (try dsimp only at hSw); go_simp; (try with_reducible rfl))
  try simp only [Act.put, List.getElem_toArray, List.getElem_cons_succ, List.getElem_cons_zero, List.setIfInBounds_toArray, List.set_cons_zero, List.set_cons_succ]
  refine wpAnyT_take (i := 6) (v := ?_) rfl (by kernel_rfl) (fun _ _ _ h => h) (Or.inl ⟨by rfl, ?_⟩) (by assumption) ?_
  rotate_left
  · (intro W hSw; (try dsimp only at hSw); go_simp; (try with_reducible rfl))
  try simp only [Act.put, List.getElem_toArray, List.getElem_cons_succ, List.getElem_cons_zero, List.setIfInBounds_toArray, List.set_cons_zero, List.set_cons_succ]
  refine wpAnyT_take (i := 7) (v := ?_) rfl (by kernel_rfl) (fun _ _ _ h => h) (Or.inl ⟨by rfl, ?_⟩) (by assumption) ?_
  rotate_left
  · (intro W hSw; (try dsimp only at hSw); go_simp; (try with_reducible rfl))
  try simp only [Act.put, List.getElem_toArray, List.getElem_cons_succ, List.getElem_cons_zero, List.setIfInBounds_toArray, List.set_cons_zero, List.set_cons_succ]
  refine wpAnyT_take (i := 8) (v := ?_) rfl (by kernel_rfl) (fun _ _ _ h => h) (Or.inl ⟨by rfl, ?_⟩) (by assumption) ?_
  rotate_left
  · (intro W hSw; (try dsimp only at hSw); go_simp; (try with_reducible rfl))
  try simp only [Act.put, List.getElem_toArray, List.getElem_cons_succ, List.getElem_cons_zero, List.setIfInBounds_toArray, List.set_cons_zero, List.set_cons_succ]
  refine wpAnyT_take (i := 9) (v := ?_) rfl (by kernel_rfl) (fun _ _ _ h => h) (Or.inl ⟨by rfl, ?_⟩) (by assumption) ?_
  rotate_left
  · (intro W hSw; (try dsimp only at hSw); go_simp; (try with_reducible rfl))
  try simp only [Act.put, List.getElem_toArray, List.getElem_cons_succ, List.getElem_cons_zero, List.setIfInBounds_toArray, List.set_cons_zero, List.set_cons_succ]
  refine wpAnyT_one (i := 10) rfl (by kernel_rfl) (fun K hK => ?_)
  go_simp
  refine hK.out _ _ (fun _ => ⟨hHeld.1.alloc _, ext_cell ((Ext.refl _).alloc _) hHeld.2.1, ext_cell ((Ext.refl _).alloc _) hHeld.2.2.1, ext_cell ((Ext.refl _).alloc _) hHeld.2.2.2⟩) (fun hH => ?_)
  replace hHeld := hH (by decide)
  clear hK K hH
  try simp only [Act.put, List.getElem_toArray, List.getElem_cons_succ, List.getElem_cons_zero, List.setIfInBounds_toArray, List.set_cons_zero, List.set_cons_succ]
  refine wpAnyT_one (i := 11) rfl (by kernel_rfl) (fun K hK => ?_)
  go_simp
  refine hK.out _ _ (fun h => absurd rfl h) (fun _ => ?_)
  clear hK K hHeld
  try simp only [Act.put, List.getElem_toArray, List.getElem_cons_succ, List.getElem_cons_zero, List.setIfInBounds_toArray, List.set_cons_zero, List.set_cons_succ]
  refine wpAnyT_done (by kernel_rfl) ?_ _
  obtain ⟨x4, hx4⟩ : ∃ x, W3.heap.size = x := ⟨_, rfl⟩
  obtain ⟨W4, hW4⟩ : ∃ V, (W3.alloc (.cells #[.string TK, .slice AR R1' (k2 - K), .slice BR R' (d2 - K)] 25)).drew = V := ⟨_, rfl⟩
  have hX4 : Ext W3 W4 := by rw [← hW4]; exact ((Ext.refl W3).alloc _).drew
  have HF2 := Lib.hid (show LogB W4 x4 AR R1' (k2 - K) BR R' (d2 - K) TK (FR.drop K) (FL.drop K) by rw [← hW4, ← hx4]; exact (LogB.new (by rw [← HAR.out, ← HR10.out]; have h := HB.out.rev.from (k := K) (by omega); rw [nV_drop] at h; exact h) (by rw [← HBR.out, ← HR0.out]; exact HB.out.seg.from (by omega))).ext (Ext.refl _).drew)
  rw [hx4, hW4]
  have E4 := Lib.hid (E3.out.trans hX4 : Ext w W4)
  replace HB := Lib.hid (HB.out.ext hX4)
  replace HF1 := Lib.hid (HF1.out.ext hX4)
  clear hW4 hx4 hX4 c0 c1 c2
  clear hAR hBR
  obtain ⟨c0, c1, c2⟩ := HF1.out.cells
  go_wp2_with fail
  clear c0 c1 c2
  refine (HT1.out _ E4.out HF1.out).mono ?_; rintro e w4 ⟨rfl, hx4⟩
  have e4 : Ext w w4 := E4.out.trans hx4
  replace HB := Lib.hid (HB.out.ext hx4)
  replace HF1 := Lib.hid (HF1.out.ext hx4)
  replace HF2 := Lib.hid (HF2.out.ext hx4)
  obtain ⟨c0, c1, c2⟩ := HF2.out.cells
  clear hx4
  go_wp2_with fail
  clear c0 c1 c2
  refine (HT2.out _ e4 HF2.out).mono ?_; rintro e w5 ⟨rfl, hx5⟩
  have e5 : Ext w w5 := e4.trans hx5
  replace HB := Lib.hid (HB.out.ext hx5)
  replace HF1 := Lib.hid (HF1.out.ext hx5)
  replace HF2 := Lib.hid (HF2.out.ext hx5)
  obtain ⟨c0, c1, c2⟩ := HB.out.cells
  clear hx5
  go_wp2_with fail
  clear c0 c1 c2
  refine (HT3.out _ e5 HB.out).mono ?_; rintro e w6 ⟨rfl, hx6⟩
  have e6 : Ext w w6 := e5.trans hx6
  replace HB := Lib.hid (HB.out.ext hx6)
  replace HF1 := Lib.hid (HF1.out.ext hx6)
  replace HF2 := Lib.hid (HF2.out.ext hx6)
  obtain ⟨c0, c1, c2⟩ := HF1.out.cells
  clear hx6
  go_wp2_with fail
  clear c0 c1 c2
  refine (HM1.out _ e6 HF1.out).mono ?_; rintro e w7 ⟨rfl, hx7⟩
  have e7 : Ext w w7 := e6.trans hx7
  replace HB := Lib.hid (HB.out.ext hx7)
  replace HF1 := Lib.hid (HF1.out.ext hx7)
  replace HF2 := Lib.hid (HF2.out.ext hx7)
  obtain ⟨c0, c1, c2⟩ := HF2.out.cells
  clear hx7
  go_wp2_with fail
  clear c0 c1 c2
  refine (HM2.out _ e7 HF2.out).mono ?_; rintro e w8 ⟨rfl, hx8⟩
  have e8 : Ext w w8 := e7.trans hx8
  replace HB := Lib.hid (HB.out.ext hx8)
  replace HF1 := Lib.hid (HF1.out.ext hx8)
  replace HF2 := Lib.hid (HF2.out.ext hx8)
  clear hx8
  go_wp2_with fail
  go_ret
  exact ⟨rfl, e8⟩
end Go.Proofs.YtejgkhmpmnjgaaaDoor
