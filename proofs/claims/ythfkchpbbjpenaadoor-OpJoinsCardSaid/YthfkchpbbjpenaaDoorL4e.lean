/- Layer 4, OpJoins. -/
import Derived.Test.YthfkchpbbjpenaaDoorL4a
import Derived.Test.YthfkchpbbjpenaaDoorC4d
import Derived.Test.YthfkchpbbjpenaaDoorMf
import Derived.Deep.QuietTactic
import Derived.BigQuiet
namespace Go.Proofs.YthfkchpbbjpenaaDoor
open Go.RowKit
set_option maxRecDepth 100000
set_option maxHeartbeats 1000000
theorem opJoins_c (A : Option Addr) (q c : Nat) (l : List Sp) (A' : Option Addr) (q' c' : Nat) (l' : List Sp) (n : Int) (w : World) [Tab w] (h : Rd w 3 (.slice A q c) q (spCells l)) (hl : l.length = q) (hs : ∀ s ∈ l, s.2.2.size ≤ maxLen)
    (h' : Rd w 3 (.slice A' q' c') q' (spCells l')) (hl' : l'.length = q') (hs' : ∀ s ∈ l', s.2.2.size ≤ maxLen) (hn : (Lit.int .u8 n).wf = true) :
    Calls Tryd.prog 4 #[.slice A q c, .slice A' q' c', .int .u8 n] w fun e w' => e = .returned (.bool true) ∧ Below w.heap.size w w' := by
  obtain ⟨n0, n1⟩ := bounds_u8 hn
  obtain ⟨i, hi, hz0, hz1, hz2⟩ := info_parts info_sp4
  have HF : Hid (∀ w', Ext w w' → _) := Lib.hid fun w' hx => few4_c A q c l w' (h.ext hx) hl hs
  have HF' : Hid (∀ w', Ext w w' → _) := Lib.hid fun w' hx => few4_c A' q' c' l' w' (h'.ext hx) hl' hs'
  go_enter Tryd.func4, Tryd.ntmps4
  go_wp2_with fail
  refine (shown4_c _).mono ?_; rintro e w1 ⟨rfl, hx1⟩; have ht1 := tab_ext hx1
  go_wp2_with fail
  refine (HF.out _ hx1).mono ?_; rintro e w2 ⟨v2, rfl, hx2, hown2⟩; have ht2 := tab_ext hx2
  obtain ⟨a2, c2, rfl, _⟩ := hown2.len
  go_wp2_with fail
  refine (HF'.out _ (hx1.trans hx2)).mono ?_; rintro e w3 ⟨v3, rfl, hx3, hown3⟩; have ht3 := tab_ext hx3
  obtain ⟨a3, c3, rfl, _⟩ := hown3.len
  have hlx : (fewL4 l).length ≤ 20 := by rw [fewL4_len]; omega
  have hly : (fewL4 l').length ≤ 20 := by rw [fewL4_len]; omega
  have htx : ∀ s ∈ fewL4 l ++ fewL4 l', s.2.2.size ≤ 1000000000 := by
    intro s hs
    rcases List.mem_append.1 hs with hs | hs
    · have := fewL4_size l s hs; omega
    · have := fewL4_size l' s hs; omega
  obtain ⟨m, hm, hm0, hm1⟩ : ∃ m : Int, n % 64 = m ∧ 0 ≤ m ∧ m ≤ 63 := ⟨_, rfl, by omega, by omega⟩
  have HFIT : Hid (∀ w', Ext w w' → _) := Lib.hid fun w' hx => fitR4_c A q c l m w' (h.ext hx) hl hs hm0 (by omega)
  generalize fewL4 l = xs at *
  generalize fewL4 l' = ys at *
  obtain ⟨nx, hnx⟩ : ∃ nx, xs.length = nx := ⟨_, rfl⟩
  obtain ⟨ny, hny⟩ : ∃ ny, ys.length = ny := ⟨_, rfl⟩
  rw [hnx] at hown2 hlx ⊢
  rw [hny] at hown3 hly ⊢
  have hw3 : Below w.heap.size w w3 := (hx1.trans hx2).trans hx3
  have ho0 := Own.made w3 w3.heap.size 34 3 0 #[] (Nat.le_refl _) (by omega) rfl
  have hb0 : Below w3.heap.size w3 (w3.alloc (.cells #[] 34)) := (Ext.refl w3).alloc _
  have hrx : Rd (w3.alloc (.cells #[] 34)) 3 (.slice a2 nx c2) nx (spCells xs) := hown2.rd.ext (hx3.alloc _)
  obtain ⟨v4, w4, happ4, hown4, hbel4⟩ := app_rd (P := Tryd.prog) 22 22 34 i _ 3 32 Tryd.underlying22 hi hz0 hz1 hz2 rfl (by omega) (by omega)
    hb0 ho0 (by omega) hrx (by omega) (spCells_one xs)
  obtain ⟨v5, w5, happ5, hown5, hbel5⟩ := app_rd (P := Tryd.prog) 22 22 34 i _ 3 32 Tryd.underlying22 hi hz0 hz1 hz2 rfl (by omega) (by omega)
    hbel4 hown4 (by omega) (hown3.rd.ext hbel4) (by omega) (spCells_one ys)
  have hcat : #[].toList ++ spCells xs ++ spCells ys = spCells (xs ++ ys) := by rw [spCells_append]; rfl
  rw [hcat] at hown5
  obtain ⟨a5, c5, rfl, _⟩ := hown5.len
  obtain ⟨N, hN⟩ : ∃ N, 0 + nx + ny = N := ⟨_, rfl⟩
  rw [hN] at hown5 happ5
  have hlall : (xs ++ ys).length = N := by rw [List.length_append]; omega
  have HRX := Lib.hid (hown2.rd.ext (hx3.trans hbel5)); have HRY := Lib.hid (hown3.rd.ext hbel5); have HRA := Lib.hid hown5.rd
  have HAP4 := Lib.hid happ4; have HAP5 := Lib.hid happ5
  have hx5 : Ext w w5 := hw3.trans (hbel5.mono hw3.size)
  have HX5 := Lib.hid hx5
  have hT5 := tab_ext hx5
  have hwa : wrap64 (wrap64 (inL xs) + wrap64 (inL ys)) = wrap64 (inL (xs ++ ys)) := by rw [wrap_two, inL_append]
  have hwo : wrap64 (wrap64 (outL xs) + wrap64 (outL ys)) = wrap64 (outL (xs ++ ys)) := by rw [wrap_two, outL_append]
  have htX : ∀ s ∈ xs, s.2.2.size ≤ 1000000000 := fun s hs => htx s (List.mem_append_left _ hs)
  have htY : ∀ s ∈ ys, s.2.2.size ≤ 1000000000 := fun s hs => htx s (List.mem_append_right _ hs)
  have HIA : Hid (∀ w', Ext w5 w' → _) := Lib.hid fun w' hx => have hTb := tab_ext hx; in4_c a5 N c5 (xs ++ ys) w' (HRA.out.ext hx) hlall (by omega)
  have HIX : Hid (∀ w', Ext w5 w' → _) := Lib.hid fun w' hx => have hTb := tab_ext hx; in4_c a2 nx c2 xs w' (HRX.out.ext hx) hnx (by omega)
  have HIY : Hid (∀ w', Ext w5 w' → _) := Lib.hid fun w' hx => have hTb := tab_ext hx; in4_c a3 ny c3 ys w' (HRY.out.ext hx) hny (by omega)
  have HOA : Hid (∀ w', Ext w5 w' → _) := Lib.hid fun w' hx => have hTb := tab_ext hx; out4_c a5 N c5 (xs ++ ys) w' (HRA.out.ext hx) hlall (by omega) htx
  have HOX : Hid (∀ w', Ext w5 w' → _) := Lib.hid fun w' hx => have hTb := tab_ext hx; out4_c a2 nx c2 xs w' (HRX.out.ext hx) hnx (by omega) htX
  have HOY : Hid (∀ w', Ext w5 w' → _) := Lib.hid fun w' hx => have hTb := tab_ext hx; out4_c a3 ny c3 ys w' (HRY.out.ext hx) hny (by omega) htY
  have HMA : Hid (∀ w', Ext w5 w' → _) := Lib.hid fun w' hx => have hTb := tab_ext hx; may4_c a5 N c5 (xs ++ ys) w' (HRA.out.ext hx) hlall (by omega) htx
  have hfl := fitL_len l m
  have hfm := fitL_may l m hm0 (by omega)
  have hfi : wrap64 (inL (fitL l m)) = m := by rw [(fitL_all l m hm0 (by omega)).2]; unfold wrap64; omega
  have HIF : Hid (∀ a k c' w' [Tab w'], (fitL l m).length = k → Rd w' 3 (.slice a k c') k (spCells (fitL l m)) → Calls Tryd.prog 13 #[.slice a k c'] w' fun e w'' => e = .returned (.int .i64 m) ∧ Ext w' w'') := Lib.hid fun a k c' w' _ hk hr => by
    have h := in4_c a k c' _ w' hr hk (by omega); rw [hfi] at h; exact h
  have HMF : Hid (∀ a k c' w' [Tab w'], (fitL l m).length = k → Rd w' 3 (.slice a k c') k (spCells (fitL l m)) → Calls Tryd.prog 11 #[.slice a k c'] w' fun e w'' => e = .returned (.int .i64 0) ∧ Ext w' w'') := Lib.hid fun a k c' w' _ hk hr => by
    have h := may4_c a k c' _ w' hr hk (by omega) (fun s hs => by have := fitL_text l m s hs; omega); rw [hfm] at h; exact h
  generalize fitL l m = fl at *
  have hmay : mayL (xs ++ ys) = if errL (xs ++ ys) = 0 then (if 1048576 < wrap64 (inL (xs ++ ys)) then 4 else 0) else errL (xs ++ ys) := rfl
  have HMAY := Lib.hid hmay
  have hN40 : N ≤ 40 := by omega
  clear hfl hfm hfi hmay htX htY
  have HTX := Lib.hid htx; have HNX := Lib.hid hnx; have HNY := Lib.hid hny; have HLA := Lib.hid hlall
  generalize wrap64 (inL xs) = X at *
  generalize wrap64 (inL ys) = Y at *
  generalize wrap64 (outL xs) = XO at *
  generalize wrap64 (outL ys) = YO at *
  generalize wrap64 (inL (xs ++ ys)) = G at *
  generalize wrap64 (outL (xs ++ ys)) = GO at *
  generalize mayL (xs ++ ys) = ML at *
  have HWA := Lib.hid hwa; have HWO := Lib.hid hwo
  generalize xs ++ ys = zs at *
  clear happ4 happ5 hcat hrx hb0 ho0 hown4 hbel4 hbel5 hown5 hw3 hx5 htx hnx hny hlall hown2 hown3 hx1 hx2 hx3 HF HF' h h' hs hs' hl hl' hwa hwo hN
  go_wp2_with (at_builtin; first | (with_reducible refine wpList_append_run rfl rfl HAP4.out rfl rfl ?_) | (with_reducible refine wpList_append_run rfl rfl HAP5.out rfl rfl ?_))
  go_loopw [11, 12] (fun f z wr => ∃ j : Nat, j ≤ N ∧ z = .int .i64 j ∧ f = .int .i64 (errL (zs.take j)) ∧ Ext w5 wr) (fun _ z _ => N - (intOf z).toNat)
  case atStart => exact ⟨0, by omega, rfl, rfl, Ext.refl _⟩
  case round =>
    obtain ⟨j, hj, rfl, rfl, hxr⟩ := hrel
    have htr := tab_ext hxr
    by_cases hgo : j < N ∧ errL (zs.take j) = 0
    · obtain ⟨hlt, hz⟩ := hgo
      have hjl : j < zs.length := by have := HLA.out; omega
      obtain ⟨b, off, rfl, hb, q0, q1, q2⟩ := sp_at (HRA.out.ext hxr) HLA.out hlt
      have dn : decide (j < N) = true := by rw [decide_eq_true_eq]; exact hlt
      have i0 : (0 : Int) ≤ (j : Int) := by omega
      have i1 : (j : Int) < (N : Int) := by omega
      have hst := errL_take zs j hjl
      rw [if_pos hz] at hst
      have HM := Lib.hid (fun (w' : World) [Tab w'] => may_c zs[j].1 zs[j].2.1 zs[j].2.2 w' (HTX.out _ (List.getElem_mem hjl)))
      unfold spanV at HM
      rw [hz]
      have HST := Lib.hid hst
      clear hst hz
      generalize zs[j].1 = a1 at *
      generalize zs[j].2.1 = a2' at *
      generalize zs[j].2.2 = a3' at *
      go_wp2_with fail
      refine (HM.out _).mono ?_; rintro e w6 ⟨rfl, hx6⟩; have ht6 := tab_ext hx6
      go_wp2_with fail
      go_roundw
      case rel => exact ⟨j + 1, by omega, by go_num, by rw [HST.out], hxr.trans hx6⟩
      case measure => simp [intOf]; omega
    · have hF : errL (zs.take j) = errL zs := by
        by_cases hjN : j < N
        · exact (errL_pre zs j (fun h => hgo ⟨hjN, h⟩)).symm
        · have e : j = zs.length := by have := HLA.out; omega
          rw [e, List.take_length]
      rw [hF]
      have hcase : (decide (j < N) = false ∧ errL zs = 0 ∧ decide (1048576 < G) = true ∧ ML = 4) ∨ (decide (j < N) = false ∧ errL zs = 0 ∧ decide (1048576 < G) = false ∧ ML = 0) ∨
          (decide (j < N) = false ∧ (errL zs == 0) = false ∧ ML = errL zs) ∨ (decide (j < N) = true ∧ (errL zs == 0) = false ∧ ML = errL zs) := by
        have h := HMAY.out
        by_cases h0 : errL zs = 0
        · have hjN : ¬ j < N := fun hj => hgo ⟨hj, by rw [hF]; exact h0⟩
          have d : decide (j < N) = false := by rw [decide_eq_false_iff_not]; exact hjN
          rw [if_pos h0] at h
          by_cases hG : 1048576 < G
          · rw [if_pos hG] at h
            exact .inl ⟨d, h0, by rw [decide_eq_true_eq]; exact hG, h⟩
          · rw [if_neg hG] at h
            exact .inr (.inl ⟨d, h0, by rw [decide_eq_false_iff_not]; exact hG, h⟩)
        · rw [if_neg h0] at h
          have d0 : (errL zs == 0) = false := by rw [beq_eq_false_iff_ne]; exact h0
          by_cases hjN : j < N
          · exact .inr (.inr (.inr ⟨by rw [decide_eq_true_eq]; exact hjN, d0, h⟩))
          · exact .inr (.inr (.inl ⟨by rw [decide_eq_false_iff_not]; exact hjN, d0, h⟩))
      clear hF hgo
      have hWA := HWA.out; have hWO := HWO.out
      clear HWA HWO HMAY
      generalize errL zs = F at *
      have hgb : decide (1048576 < G) = decide (1048576 < G) := rfl
      rcases hcase with ⟨d1, rfl, d2, rfl⟩ | ⟨d1, rfl, d2, rfl⟩ | ⟨d1, d2, rfl⟩ | ⟨d1, d2, rfl⟩
      all_goals
        go_wp2_with fail
        refine (HMA.out _ hxr).mono ?_; rintro e w6 ⟨rfl, hx6⟩; have ht6 := tab_ext hx6
        have e6 := hxr.trans hx6
        go_wp2_with fail
        refine (HIA.out _ e6).mono ?_; rintro e w7 ⟨rfl, hx7⟩; have ht7 := tab_ext hx7
        have e7 := e6.trans hx7
        go_wp2_with fail
        refine (HFIT.out _ (HX5.out.trans e7)).mono ?_; rintro e w8 ⟨vf, rfl, hx8, hownf⟩; have ht8 := tab_ext hx8
        obtain ⟨af, cf, rfl, _⟩ := hownf.len
        have e8 := e7.trans hx8
        obtain ⟨nf, hnf⟩ : ∃ nf, fl.length = nf := ⟨_, rfl⟩
        rw [hnf] at hownf ⊢
        have HRF := Lib.hid hownf.rd; have HNF := Lib.hid hnf
        clear hownf hnf
        go_wp2_with fail
        refine (HIA.out _ e8).mono ?_; rintro e w9 ⟨rfl, hx9⟩; have ht9 := tab_ext hx9
        have e9 := e8.trans hx9
        go_wp2_with fail
        refine (HIX.out _ e9).mono ?_; rintro e wA ⟨rfl, hxA⟩; have htA := tab_ext hxA
        have eA := e9.trans hxA
        go_wp2_with fail
        refine (HIY.out _ eA).mono ?_; rintro e wB ⟨rfl, hxB⟩; have htB := tab_ext hxB
        have eB := eA.trans hxB
        go_wp2_with fail
        refine (HOA.out _ eB).mono ?_; rintro e wC ⟨rfl, hxC⟩; have htC := tab_ext hxC
        have eC := eB.trans hxC
        go_wp2_with fail
        refine (HOX.out _ eC).mono ?_; rintro e wD ⟨rfl, hxD⟩; have htD := tab_ext hxD
        have eD := eC.trans hxD
        go_wp2_with fail
        refine (HOY.out _ eD).mono ?_; rintro e wE ⟨rfl, hxE⟩; have htE := tab_ext hxE
        have eE := eD.trans hxE
        have f8E : Ext w8 wE := ((((hx9.trans hxA).trans hxB).trans hxC).trans hxD).trans hxE
        go_wp2_with fail
        refine (HMF.out _ _ _ _ HNF.out (HRF.out.ext f8E)).mono ?_; rintro e wF ⟨rfl, hxF⟩; have htF := tab_ext hxF
        go_wp2_with fail
        refine (HIF.out _ _ _ _ HNF.out (HRF.out.ext (f8E.trans hxF))).mono ?_; rintro e wG ⟨rfl, hxG⟩; have htG := tab_ext hxG
        go_wp2_with fail
        go_ret
        exact ⟨rfl, HX5.out.trans ((eE.trans hxF).trans hxG)⟩
end Go.Proofs.YthfkchpbbjpenaaDoor
