/- Layer 4, OpBounds. -/
import Derived.Test.YthfkchpbbjpenaaDoorL4a
import Derived.Deep.QuietTactic
import Derived.BigQuiet
namespace Go.Proofs.YthfkchpbbjpenaaDoor
open Go.RowKit
set_option maxRecDepth 100000
set_option maxHeartbeats 1000000
/-- What is left, and the parts so far. -/
def bp (all : Int) (k : Nat) : Nat → Int × List Sp
  | 0 => (all, [])
  | i + 1 => ((bp all k i).1 - (bp all k i).1 / ((k : Int) - i), (bp all k i).2 ++ [(if i % 2 = 1 then 3 else 1, (bp all k i).1 / ((k : Int) - i), ⟨#[]⟩)])
theorem div_le_self (a b : Int) (ha : 0 ≤ a) (hb : 0 < b) : 0 ≤ a / b ∧ a / b ≤ a :=
  ⟨Int.ediv_nonneg ha (by omega), Int.ediv_le_self _ ha⟩
theorem bp_left (all : Int) (k : Nat) (h : 0 ≤ all) (i : Nat) (hi : i ≤ k) : 0 ≤ (bp all k i).1 ∧ (bp all k i).1 ≤ all := by
  induction i with
  | zero => exact ⟨h, Int.le_refl _⟩
  | succ i ih =>
    have h1 := ih (by omega)
    have h2 := div_le_self (bp all k i).1 ((k : Int) - i) h1.1 (by omega)
    simp only [bp]; omega
theorem bp_in (all : Int) (k : Nat) (i : Nat) : inL (bp all k i).2 = all - (bp all k i).1 := by
  induction i with
  | zero => simp [bp, inL]
  | succ i ih =>
    have e : inS (if i % 2 = 1 then 3 else 1) ((bp all k i).1 / ((k : Int) - i)) = (bp all k i).1 / ((k : Int) - i) := by unfold inS; rw [if_pos]; split <;> simp
    simp only [bp]
    unfold inL at ih ⊢
    rw [List.map_append, List.sum_append, ih]
    simp only [List.map_cons, List.map_nil, List.sum_cons, List.sum_nil, e]
    omega
theorem bp_len (all : Int) (k i : Nat) : (bp all k i).2.length = i := by
  induction i with
  | zero => rfl
  | succ i ih => simp [bp, ih]
theorem bp_end (all : Int) (k : Nat) (hk : 1 ≤ k) : (bp all k k).1 = 0 := by
  obtain ⟨j, rfl⟩ : ∃ j, k = j + 1 := ⟨k - 1, by omega⟩
  have e : ((j + 1 : Nat) : Int) - (j : Int) = 1 := by omega
  simp only [bp, e, Int.ediv_one]; omega
theorem bp_mem (all : Int) (k : Nat) (h0 : 0 ≤ all) (h1 : all ≤ 1048591) (hk2 : 2 ≤ k) (hk8 : k ≤ 8) (i : Nat) (hi : i ≤ k) (hlow : 1000000 ≤ all) :
    (∀ s ∈ (bp all k i).2, (s.1 = 1 ∨ s.1 = 3) ∧ 0 ≤ s.2.1 ∧ s.2.1 ≤ 1048576 ∧ s.2.2 = ⟨#[]⟩) ∧ (1 ≤ i → (bp all k i).1 ≤ 1048576) := by
  induction i with
  | zero => exact ⟨by simp [bp], by omega⟩
  | succ i ih =>
    obtain ⟨h2, h3⟩ := ih (by omega)
    have h4 := bp_left all k h0 i (by omega)
    have h5 := div_le_self (bp all k i).1 ((k : Int) - i) h4.1 (by omega)
    have h6 : (bp all k i).1 / ((k : Int) - i) ≤ 1048576 ∧ (bp all k i).1 - (bp all k i).1 / ((k : Int) - i) ≤ 1048576 := by
      by_cases hi0 : i = 0
      · subst hi0
        have e : (bp all k 0).1 = all := rfl
        rw [e]
        rcases (by omega : k = 2 ∨ k = 3 ∨ k = 4 ∨ k = 5 ∨ k = 6 ∨ k = 7 ∨ k = 8) with rfl | rfl | rfl | rfl | rfl | rfl | rfl
        all_goals omega
      · have := h3 (by omega); omega
    refine ⟨?_, fun _ => by simp only [bp]; exact h6.2⟩
    intro s hs
    simp only [bp] at hs
    rcases List.mem_append.1 hs with hs | hs
    · exact h2 s hs
    · rw [List.mem_singleton] at hs
      subst hs
      exact ⟨by simp only; split <;> simp, h5.1, h6.1, rfl⟩
theorem dec_one (o : UInt8) (h : o.toNat < 128) : dec [o] = some [o.toNat] := by
  have e : [o] = encs [o.toNat] := by rw [encs_single]; unfold enc1; rw [if_pos h, u8_of]
  rw [e]
  exact dec_encs (fun c hc => by rw [List.mem_singleton] at hc; subst hc; unfold IsCp; omega)
theorem bp_text (all : Int) (k i : Nat) : ∀ s ∈ (bp all k i).2, s.2.2 = ⟨#[]⟩ := by
  induction i with
  | zero => simp [bp]
  | succ i ih =>
    intro s hs
    simp only [bp] at hs
    rcases List.mem_append.1 hs with hs | hs
    · exact ih s hs
    · rw [List.mem_singleton] at hs; subst hs; rfl
/-- The operation that OpBounds makes. -/
def fullL (o : UInt8) (all : Int) (k : Nat) : List Sp := (2, 0, mkS [o]) :: (bp all k k).2
theorem fullL_in (o : UInt8) (all : Int) (k : Nat) (hk : 1 ≤ k) : inL (fullL o all k) = all := by
  have h := bp_in all k k
  rw [bp_end all k hk] at h
  have e : inL (fullL o all k) = 0 + inL (bp all k k).2 := rfl
  rw [e, h]; omega
theorem fullL_ts (o : UInt8) (all : Int) (k : Nat) : ∀ s ∈ fullL o all k, s.2.2.size ≤ 1000000000 := by
  intro s hs
  rcases List.mem_cons.1 hs with rfl | hs
  · show (mkS [o]).size ≤ _
    rw [size_mkS]; simp
  · rw [bp_text all k k s hs]; exact Nat.zero_le _
theorem fullL_may (o : UInt8) (ho : o.toNat < 128) (all : Int) (k : Nat) (hk : 1 ≤ k) (hk8 : k ≤ 8) (h0 : 1048561 ≤ all) (h1 : all ≤ 1048591) : mayL (fullL o all k) = if all ≤ 1048576 then 0 else if k = 1 then 2 else 4 := by
  have hw : wrap64 all = all := by unfold wrap64; omega
  have hput : mayS 2 0 (mkS [o]) = 0 := by unfold mayS; rw [if_neg (by omega), if_pos rfl, if_pos rfl, bs_mkS, dec_one o ho]; rfl
  have he : errL (fullL o all k) = errL (bp all k k).2 := by
    show errL ((2, 0, mkS [o]) :: (bp all k k).2) = _
    rw [errL, if_pos hput]
  unfold mayL
  rw [he, fullL_in o all k hk, hw]
  by_cases h2 : 2 ≤ k
  · have hm := (bp_mem all k (by omega) h1 h2 hk8 k (Nat.le_refl _) (by omega)).1
    rw [errL_all _ (fun s hs => by
      obtain ⟨a, b, c, d⟩ := hm s hs
      unfold mayS
      rw [if_pos a, if_neg (by omega), d]; rfl), if_pos rfl]
    by_cases h3 : all ≤ 1048576
    · rw [if_pos h3, if_neg (by omega)]
    · rw [if_neg h3, if_pos (show 1048576 < all by omega), if_neg (show ¬ k = 1 by omega)]
  · obtain rfl : k = 1 := by omega
    have e : (bp all 1 1).2 = [(1, all, ⟨#[]⟩)] := by
      have e1 : ((1 : Nat) : Int) - ((0 : Nat) : Int) = 1 := by omega
      simp only [bp, e1, Int.ediv_one]; rfl
    rw [e]
    by_cases h3 : all ≤ 1048576
    · have e2 : errL [((1 : Int), all, (⟨#[]⟩ : ByteArray))] = 0 := errL_all _ (by
        intro s hs
        rw [List.mem_singleton] at hs; subst hs
        unfold mayS; rw [if_pos (by simp), if_neg (by simp; omega)]; rfl)
      rw [e2, if_pos rfl, if_neg (by omega), if_pos h3]
    · have e3 : mayS 1 all ⟨#[]⟩ = 2 := by unfold mayS; rw [if_pos (by simp), if_pos (by omega)]
      have e2 : errL [((1 : Int), all, (⟨#[]⟩ : ByteArray))] = 2 := by rw [errL, if_neg (by rw [e3]; omega), e3]
      rw [e2, if_neg (by omega), if_neg h3, if_pos rfl]
theorem opBounds_c (n cuts ch : Int) (w : World) [Tab w] (hn : (Lit.int .u8 n).wf = true) (hcu : (Lit.int .u8 cuts).wf = true) (hch : (Lit.int .u8 ch).wf = true) :
    Calls Tryd.prog 6 #[.int .u8 n, .int .u8 cuts, .int .u8 ch] w fun e w' => e = .returned (.bool true) ∧ Below w.heap.size w w' := by
  obtain ⟨n0, n1⟩ := bounds_u8 hn
  obtain ⟨u0, u1⟩ := bounds_u8 hcu
  obtain ⟨c0, c1⟩ := bounds_u8 hch
  obtain ⟨o, ho, ho1⟩ : ∃ o : UInt8, 97 + ch % 26 = (o.toNat : Int) ∧ o.toNat < 128 := by
    refine ⟨u8 (97 + ch % 26).toNat, ?_, ?_⟩
    · rw [u8_toNat (by omega)]; omega
    · rw [u8_toNat (by omega)]; omega
  obtain ⟨all, hall⟩ : ∃ all, 1048561 + n % 31 = all := ⟨_, rfl⟩
  obtain ⟨k, hk⟩ : ∃ k : Nat, 1 + cuts % 8 = (k : Int) := ⟨(1 + cuts % 8).toNat, by omega⟩
  obtain ⟨i, hi, hz0, hz1, hz2⟩ := info_parts info_sp4
  have hk1 : 1 ≤ k := by omega
  have hk8 : k ≤ 8 := by omega
  have ha0 : 1048561 ≤ all := by omega
  have ha1 : all ≤ 1048591 := by omega
  have HRUN := Lib.hid (fun w' : World => run_str (P := Tryd.prog) (w'.alloc (.cells #[.int .u8 (o.toNat : Int)] 5)) 39 9 5 Tryd.underlying39 Tryd.underlying5 Tryd.underlying9
    (v := .slice (some ⟨w'.heap.size, 0, none⟩) 1 1) (n := 1) (l := [o]) (Own.made w' w'.heap.size 5 1 1 #[.int .u8 (o.toNat : Int)] (Nat.le_refl _) (by omega) rfl).rd)
  clear hn hcu hch
  go_enter Tryd.func6, Tryd.ntmps6
  go_wp2_with fail
  refine (shown4_c _).mono ?_; rintro e w1 ⟨rfl, hx1⟩; have ht1 := tab_ext hx1
  go_wp2_with (with_reducible refine wpList_convert_run rfl rfl (HRUN.out _) rfl ?_)
  have hx2 : Ext w ((w1.alloc (.cells #[.int .u8 (o.toNat : Int)] 5)).alloc (.cells #[.int .i64 2, .int .i64 0, .string (mkS [o])] 34)) := (hx1.alloc _).alloc _
  have hown0 := Own.made (w1.alloc (.cells #[.int .u8 (o.toNat : Int)] 5)) w.heap.size 34 3 1 #[.int .i64 2, .int .i64 0, .string (mkS [o])] (by have := hx1.size; simp; omega) (by omega) rfl
  rw [size_alloc] at hown0
  have HR0 := Lib.hid (And.intro hown0 hx2)
  have HO := Lib.hid ho; have HALL := Lib.hid hall; have HKK := Lib.hid hk
  clear hown0 hx2 ho hall hk n0 n1 u0 u1 c0 c1 hx1
  go_loopw [10, 11, 12] (fun v left z wr => ∃ j : Nat, j ≤ k ∧ z = .int .i64 j ∧ left = .int .i64 (bp all k j).1 ∧ Own wr w.heap.size 34 3 v (1 + j) (spCells ((2, 0, mkS [o]) :: (bp all k j).2)) ∧ Below w.heap.size w wr) (fun _ _ z _ => k - (intOf z).toNat)
  case atStart => exact ⟨0, by omega, rfl, rfl, HR0.out.1, HR0.out.2⟩
  case round =>
    obtain ⟨j, hj, rfl, rfl, hown, hbel⟩ := hrel
    have htr := tab_ext hbel
    by_cases hlt : j < k
    · have hl := bp_left all k (by omega) j hj
      obtain ⟨d, hd⟩ : ∃ d : Int, (k : Int) - (j : Int) = d := ⟨_, rfl⟩
      have hst : bp all k (j + 1) = ((bp all k j).1 - (bp all k j).1 / ((k : Int) - j), (bp all k j).2 ++ [(if j % 2 = 1 then 3 else 1, (bp all k j).1 / ((k : Int) - j), ⟨#[]⟩)]) := rfl
      obtain ⟨R1, hR1⟩ : ∃ R1, bp all k (j + 1) = R1 := ⟨_, rfl⟩
      rw [hR1, hd] at hst
      have hd0 : 0 < d := by omega
      generalize (bp all k j).1 = L at *
      generalize (bp all k j).2 = xs at *
      obtain ⟨l0, l1⟩ := hl
      obtain ⟨p0, p1⟩ := div_le_self L d l0 hd0
      have ht : L.tdiv d = L / d := Int.tdiv_eq_ediv_of_nonneg l0
      obtain ⟨pt, hpt⟩ : ∃ pt, L / d = pt := ⟨_, rfl⟩
      rw [hpt] at hst p0 p1 ht
      have hdz : (d == 0) = false := by rw [beq_eq_false_iff_ne]; omega
      have hdz' : ¬ d = 0 := by omega
      have HR1 := Lib.hid hR1
      have dn : decide (j < k) = true := by rw [decide_eq_true_eq]; exact hlt
      clear hR1
      rcases (by omega : j % 2 = 1 ∨ j % 2 = 0) with hm | hm
      · rw [if_pos hm] at hst
        have HST := Lib.hid hst
        have hmi : (j : Int) % 2 = 1 := by omega
        clear hst hm
        obtain ⟨v', w', happ, hown', hbel'⟩ := app_new (P := Tryd.prog) 22 22 34 i _ 3 32 Tryd.underlying22 hi hz0 hz1 hz2 rfl (by omega) (by omega)
          hbel hown (by omega) 1 #[.int .i64 3, .int .i64 pt, .string ⟨#[]⟩] rfl (by omega) (by simp [Value.oneCell']) 34
        have HAP := Lib.hid happ
        have hown2 : Own w' w.heap.size 34 3 v' (1 + (j + 1)) (spCells ((2, 0, mkS [o]) :: R1.2)) := by
          rw [HST.out, ← List.cons_append, spCells_append]; exact hown'
        clear happ hown'
        go_wp2_with (at_builtin; refine wpList_append_run rfl rfl HAP.out rfl rfl ?_)
        go_roundw
        case rel => exact ⟨j + 1, by omega, by go_num, by rw [HR1.out, HST.out], by rw [HR1.out]; exact hown2, hbel'⟩
        case measure => simp [intOf]; omega
      · rw [if_neg (by omega)] at hst
        have HST := Lib.hid hst
        have hmi : (j : Int) % 2 = 0 := by omega
        clear hst hm
        obtain ⟨v', w', happ, hown', hbel'⟩ := app_new (P := Tryd.prog) 22 22 34 i _ 3 32 Tryd.underlying22 hi hz0 hz1 hz2 rfl (by omega) (by omega)
          hbel hown (by omega) 1 #[.int .i64 1, .int .i64 pt, .string ⟨#[]⟩] rfl (by omega) (by simp [Value.oneCell']) 34
        have HAP := Lib.hid happ
        have hown2 : Own w' w.heap.size 34 3 v' (1 + (j + 1)) (spCells ((2, 0, mkS [o]) :: R1.2)) := by
          rw [HST.out, ← List.cons_append, spCells_append]; exact hown'
        clear happ hown'
        go_wp2_with (at_builtin; refine wpList_append_run rfl rfl HAP.out rfl rfl ?_)
        go_roundw
        case rel => exact ⟨j + 1, by omega, by go_num, by rw [HR1.out, HST.out], by rw [HR1.out]; exact hown2, hbel'⟩
        case measure => simp [intOf]; omega
    · obtain rfl : j = k := by omega
      have dn : decide (j < j) = false := by rw [decide_eq_false_iff_not]; exact hlt
      clear hlt
      have hfl : (2, 0, mkS [o]) :: (bp all j j).2 = fullL o all j := rfl
      rw [hfl] at hown
      have hlen : (fullL o all j).length = 1 + j := by unfold fullL; rw [List.length_cons, bp_len]; omega
      have hwa : wrap64 all = all := by unfold wrap64; omega
      obtain ⟨A, c, rfl, _⟩ := hown.len
      have HRD := Lib.hid hown.rd
      have HI : Hid (∀ w', Ext wr w' → Calls Tryd.prog 13 #[.slice A (1 + j) c] w' fun e w'' => e = .returned (.int .i64 all) ∧ Ext w' w'') := Lib.hid fun w' hx => by
        have hTb := tab_ext hx
        have h := in4_c A (1 + j) c _ w' (HRD.out.ext hx) hlen (by omega); rw [fullL_in o all j hk1, hwa] at h; exact h
      have HM : Hid (∀ w', Ext wr w' → Calls Tryd.prog 11 #[.slice A (1 + j) c] w' fun e w'' => e = .returned (.int .i64 (if all ≤ 1048576 then 0 else if j = 1 then 2 else 4)) ∧ Ext w' w'') := Lib.hid fun w' hx => by
        have hTb := tab_ext hx
        have h := may4_c A (1 + j) c _ w' (HRD.out.ext hx) hlen (by omega) (fullL_ts o all j); rw [fullL_may o ho1 all j hk1 hk8 ha0 ha1] at h; exact h
      have HB : Hid (∀ w', Ext wr w' → Below w.heap.size w w') := Lib.hid fun w' hx => hbel.trans (hx.below.mono (by have := hown.2; exact this))
      clear hfl hown hlen hwa hbel
      rcases (by omega : all ≤ 1048576 ∨ (1048576 < all ∧ j = 1) ∨ (1048576 < all ∧ 2 ≤ j)) with hc | ⟨hc, rfl⟩ | ⟨hc, hj2⟩
      · rw [if_pos hc] at HM
        have d1 : decide (1048576 < all) = false := by rw [decide_eq_false_iff_not]; omega
        clear hc ha0 ha1
        go_wp2_with fail
        refine (HI.out _ (Ext.refl _)).mono ?_; rintro e w2 ⟨rfl, hx2⟩; have ht2 := tab_ext hx2
        go_wp2_with fail
        refine (HM.out _ hx2).mono ?_; rintro e w3 ⟨rfl, hx3⟩; have ht3 := tab_ext hx3
        go_wp2_with fail
        go_ret
        exact ⟨rfl, HB.out _ (hx2.trans hx3)⟩
      · rw [if_neg (by omega), if_pos rfl] at HM
        have d1 : decide (1048576 < all) = true := by rw [decide_eq_true_eq]; omega
        clear hc ha0 ha1
        go_wp2_with fail
        refine (HI.out _ (Ext.refl _)).mono ?_; rintro e w2 ⟨rfl, hx2⟩; have ht2 := tab_ext hx2
        go_wp2_with fail
        refine (HM.out _ hx2).mono ?_; rintro e w3 ⟨rfl, hx3⟩; have ht3 := tab_ext hx3
        go_wp2_with fail
        go_ret
        exact ⟨rfl, HB.out _ (hx2.trans hx3)⟩
      · rw [if_neg (by omega), if_neg (by omega)] at HM
        have d1 : decide (1048576 < all) = true := by rw [decide_eq_true_eq]; omega
        have d2 : ((j : Int) == 1) = false := by rw [beq_eq_false_iff_ne]; omega
        clear hc ha0 ha1
        go_wp2_with fail
        refine (HI.out _ (Ext.refl _)).mono ?_; rintro e w2 ⟨rfl, hx2⟩; have ht2 := tab_ext hx2
        go_wp2_with fail
        refine (HM.out _ hx2).mono ?_; rintro e w3 ⟨rfl, hx3⟩; have ht3 := tab_ext hx3
        go_wp2_with fail
        go_ret
        exact ⟨rfl, HB.out _ (hx2.trans hx3)⟩
end Go.Proofs.YthfkchpbbjpenaaDoor
