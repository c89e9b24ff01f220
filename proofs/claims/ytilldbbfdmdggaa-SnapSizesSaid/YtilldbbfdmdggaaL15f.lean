/- Layer 15, SnapSizes. -/
import Derived.Test.YtilldbbfdmdggaaL15a
import Derived.Test.YtilldbbfdmdggaaC1h
namespace Go.Proofs.Ytilldbbfdmdggaa
open Go.RowKit
set_option maxRecDepth 100000
set_option maxHeartbeats 4000000
set_option linter.unusedSimpArgs false
theorem fit15 (s : ByteArray) (T : Nat) (hT : T ≤ 100) (hs : T ≤ s.size) : ∃ U : ByteArray, U.size ≤ 400 ∧ snE U = 0 ∧ snB U = snL U ∧ ∀ w', Calls Try.prog 20 #[.string (s.extract 0 T)] w' fun e w'' => e = .returned (.string U) ∧ Ext w' w'' := by
  have hz : (s.extract 0 T).size ≤ 100 := by simp; omega
  have hl : (fitC (bs (s.extract 0 T))).length ≤ 100 := by rw [fitC_length, bs_length]; exact hz
  have hle := encs_le (fitC (bs (s.extract 0 T)))
  have hU : (mkS (encs (fitC (bs (s.extract 0 T))))).size ≤ 400 := by rw [size_mkS]; omega
  have hE : snE (mkS (encs (fitC (bs (s.extract 0 T))))) = 0 := by
    unfold snE; rw [bs_mkS, dec_fit, if_neg (by simp), if_neg (by omega)]
  exact ⟨_, hU, hE, by unfold snB; rw [if_pos hE], fun w' => fit_c _ w' (by omega)⟩
theorem and127 (n : Int) (h0 : 0 ≤ n) (h1 : n ≤ 255) : ∃ F : Nat, bits .and .u8 n 127 = (F : Int) ∧ F < 128 := by
  obtain ⟨a, rfl⟩ := Int.eq_ofNat_of_zero_le h0
  have ha : a ≤ 255 := by omega
  refine ⟨a % 128, ?_, by omega⟩
  have h : ∀ a : Fin 256, bits .and .u8 ((a.val : Nat) : Int) 127 = ((a.val % 128 : Nat) : Int) := by decide +kernel
  exact h ⟨a, by omega⟩
theorem putL_one {n : Nat} (h : n < 128) : putL n = [u8 n] := by unfold putL putF; rw [if_pos h]
theorem putL_two {n : Nat} (h : 128 ≤ n) (h2 : n < 16384) : (putL n).length = 2 := by
  unfold putL putF
  rw [if_neg (by omega)]
  unfold putF
  rw [if_pos (by omega)]; rfl
/-- Numbers next to each other. -/
def rowF (F n : Nat) : List Int := (List.range n).map fun i => ((F + i : Nat) : Int)
theorem rowF_len (F n : Nat) : (rowF F n).length = n := by simp [rowF]
theorem rowF_succ (F n : Nat) : rowF F (n + 1) = rowF F n ++ [((F + n : Nat) : Int)] := by unfold rowF; rw [List.range_succ, List.map_append]; rfl
theorem rowF_cons (F n : Nat) : rowF F (n + 1) = (F : Int) :: rowF (F + 1) n := by
  unfold rowF
  rw [List.range_succ_eq_map, List.map_cons, List.map_map]
  refine congr (congrArg _ (by simp)) ?_
  apply List.map_congr_left
  intro i _
  simp only [Function.comp_apply]
  congr 1
  omega
theorem rowF_rises (n : Nat) : ∀ (F : Nat) (was : Int), was < F → F + n ≤ 268435456 → rises was (rowF F n) := by
  induction n with
  | zero => intro F was _ _; exact trivial
  | succ n ih =>
    intro F was h h2
    rw [rowF_cons]
    exact ⟨h, by omega, ih (F + 1) _ (by omega) (by omega)⟩
theorem rowF_next (n : Nat) : ∀ (F : Nat), rsL (F : Int) (rowF (F + 1) n) = List.replicate n 0 := by
  induction n with
  | zero => intro F; rfl
  | succ n ih =>
    intro F
    rw [rowF_cons]
    show rS (F : Int) ((F + 1 : Nat) : Int) ++ rsL ((F + 1 : Nat) : Int) (rowF (F + 1 + 1) n) = _
    rw [ih (F + 1), List.replicate_succ]
    unfold rS
    rw [show (((F + 1 : Nat) : Int) - (F : Int) - 1).toNat = 0 by omega, putL_one (by omega)]
    rfl
theorem rowF_bytes {F n : Nat} (hF : F < 128) (hn : n < 127) : rowE (rowF F (n + 1)) = 0 ∧ rwB (rowF F (n + 1)) = u8 (n + 1) :: u8 F :: List.replicate n 0 := by
  have hr := rowF_rises (n + 1) F (-1) (by omega) (by omega)
  have hE : rowE (rowF F (n + 1)) = 0 := if_pos ⟨by rw [rowF_cons]; simp, by rw [rowF_len]; omega, hr⟩
  refine ⟨hE, ?_⟩
  unfold rwB rwL
  rw [if_pos hE, rowF_len, putL_one (by omega), rowF_cons]
  show [u8 (n + 1)] ++ (rS (-1) (F : Int) ++ rsL (F : Int) (rowF (F + 1) n)) = _
  rw [rowF_next]
  unfold rS
  rw [show ((F : Int) - -1 - 1).toNat = F by omega, putL_one hF]
  rfl
theorem snapSizes_c (s : ByteArray) (fr mn : Int) (w : World) (hs : s.size ≤ maxLen) (hf : (Lit.int .u8 fr).wf = true) (hm : (Lit.int .u8 mn).wf = true) :
    Calls Try.prog 7 #[.string s, .int .u8 fr, .int .u8 mn] w fun e w' => e = .returned (.bool true) ∧ Below w.heap.size w w' := by
  unfold maxLen at hs
  obtain ⟨f0, f1⟩ := bounds_u8 hf
  obtain ⟨m0, m1⟩ := bounds_u8 hm
  obtain ⟨F, hF, hF1⟩ := and127 fr f0 f1
  obtain ⟨n, hn, hn1⟩ : ∃ n : Nat, 1 + mn % 100 = ((n + 1 : Nat) : Int) ∧ n < 100 := ⟨(mn % 100).toNat, by omega, by omega⟩
  obtain ⟨N, hN⟩ : ∃ N, n + 1 = N := ⟨_, rfl⟩
  rw [hN] at hn
  obtain ⟨T, hT⟩ : ∃ T, min s.size 100 = T := ⟨_, rfl⟩
  have hmn : min (s.size : Int) 100 = (T : Int) := by omega
  have hmi : (if (100 : Int) < (s.size : Int) then (100 : Int) else (s.size : Int)) = (T : Int) := by split <;> omega
  have hT0 : (0 : Int) ≤ (T : Int) := by omega
  have hT1 : (T : Int) ≤ (s.size : Int) := by omega
  obtain ⟨U, u1, u2, u3, hft⟩ := fit15 s T (by omega) (by omega)
  have HFT := Lib.hid hft
  obtain ⟨k, hk1, hk2⟩ : ∃ k : Nat, (putL U.size).length = k ∧ ((k = 1 ∧ U.size < 128) ∨ (k = 2 ∧ 128 ≤ U.size)) := by
    by_cases h : U.size < 128
    · exact ⟨1, by rw [putL_one h]; rfl, .inl ⟨rfl, h⟩⟩
    · exact ⟨2, putL_two (by omega) (by omega), .inr ⟨rfl, by omega⟩⟩
  obtain ⟨B, hB⟩ : ∃ B, (snL U).length = B := ⟨_, rfl⟩
  have hB2 : B = k + U.size := by rw [← hB]; unfold snL; rw [List.length_append, bs_length, hk1]
  have hdr : (snL U).drop k = bs U := by unfold snL; rw [← hk1, List.drop_left]
  have HP : Hid (∀ w', Calls Try.prog 9 #[.string U] w' fun e w'' => Ext w' w'' ∧ ∃ b o c, e = .returned (.tuple #[.slice (some ⟨b, o, none⟩) B c, .int .i64 0]) ∧ B ≤ c ∧ Rd w'' 1 (.slice (some ⟨b, o, none⟩) B c) B (Lib.byteCells (snL U))) := Lib.hid fun w' => by
    refine (snPutP_c U w' (by omega)).mono ?_
    rintro e w'' ⟨hx, v, rfl, ho⟩
    rw [u3, hB] at ho
    obtain ⟨A', c', rfl, hc⟩ := ho.len
    obtain ⟨_, A2, c2, hv, _, h2⟩ := ho.rd
    obtain ⟨b, o, hA, _⟩ := h2 (by omega)
    injection hv with e1
    subst e1; subst hA
    rw [u2]
    exact ⟨hx, b, o, c', rfl, hc, ho.rd⟩
  obtain ⟨p1, p2⟩ := rowF_bytes hF1 (show n < 127 by omega)
  rw [hN] at p1 p2
  have HR : Hid (∀ A c w', Rd w' 1 (.slice A N c) N (nV (rowF F N)) → Calls Try.prog 14 #[.slice A N c] w' fun e w'' => Ext w' w'' ∧ ∃ b o c', e = .returned (.tuple #[.slice (some ⟨b, o, none⟩) (N + 1) c', .int .i64 0]) ∧ Rd w'' 1 (.slice (some ⟨b, o, none⟩) (N + 1) c') (N + 1) (Lib.byteCells (u8 N :: u8 F :: List.replicate n 0))) := Lib.hid fun A c w' hr => by
    refine (rwPutP_c A N c _ w' hr (by omega)).mono ?_
    rintro e w'' ⟨hx, v, rfl, ho⟩
    have hl : (u8 N :: u8 F :: List.replicate n 0).length = N + 1 := by simp; omega
    rw [p2, hl] at ho
    obtain ⟨A', c', rfl, hc⟩ := ho.len
    obtain ⟨_, A2, c2, hv, _, h2⟩ := ho.rd
    obtain ⟨b, o, hA, _⟩ := h2 (by omega)
    injection hv with e1
    subst e1; subst hA
    rw [p1]
    exact ⟨hx, b, o, c', rfl, ho.rd⟩
  obtain ⟨i, hi, hz0, hz1, hz2⟩ := info_parts info_int
  have hkB : k ≤ B := by omega
  have HDR := Lib.hid hdr
  have hk0 : k = 1 ∨ k = 2 := by omega
  have HNn := Lib.hid hN
  have hUB : (B : Int) = (U.size : Int) + (k : Int) := by omega
  clear hf hm hk1 hB hB2 hdr p1 p2 u2 u3 hft hT hN
  go_enter Try.func7, Try.ntmps7
  go_wp2_with fail
  refine (shown15_c _).mono ?_; rintro e w1 ⟨rfl, hx1⟩
  go_wp2_with fail
  refine (HFT.out _).mono ?_; rintro e w2 ⟨rfl, hx2⟩
  go_wp2_with fail
  refine (HP.out _).mono ?_; rintro e w3 ⟨hx3, bP, oP, cP, rfl, hcP, rP⟩
  have RP := Lib.hid rP
  have E3 := Lib.hid ((hx1.trans hx2).trans hx3)
  clear hx1 hx2 hx3 rP
  have hZ := Lib.hid (Own.made w3 w3.heap.size 3 1 0 #[] (Nat.le_refl _) (by omega) rfl)
  have hZX := Lib.hid ((Ext.refl w3).alloc (.cells #[] 3))
  have hU400 : U.size ≤ 400 := u1
  have hn101 : N ≤ 101 := by have := HNn.out; omega
  have hN1 : 1 ≤ N := by have := HNn.out; omega
  have hF0 : (F : Int) ≤ 127 := by omega
  rcases hk2 with ⟨rfl, hk3⟩ | ⟨rfl, hk3⟩
  · have t1 : decide ((128 : Int) ≤ (U.size : Int)) = decide (128 ≤ U.size) := by congr 1; simp only [eq_iff_iff]; omega
    have t2 : decide (128 ≤ U.size) = false := by rw [decide_eq_false_iff_not]; omega
    go_wp2_with fail
    go_loopw [12, 14] (fun o z wr => ∃ j : Nat, j ≤ N ∧ z = .int .i64 j ∧ Own wr w3.heap.size 3 1 o j (nV (rowF F j)) ∧ Ext w3 wr) (fun _ z _ => N - (intOf z).toNat)
    case atStart => exact ⟨0, by omega, rfl, hZ.out, hZX.out⟩
    case round =>
      obtain ⟨j, hj, rfl, own, hxr⟩ := hrel
      by_cases hlt : j < N
      · have dn : decide (j < N) = true := by rw [decide_eq_true_eq]; exact hlt
        have dn2 : (j : Int) < (N : Int) := by omega
        obtain ⟨v', w', happ, hown', hbel'⟩ := app_new (P := Try.prog) 31 31 3 i _ 1 8 Try.underlying31 hi hz0 hz1 hz2 rfl (by omega) (by omega)
          hxr own (by omega) 1 #[.int .i64 ((F : Int) + (j : Int))] rfl (by omega) (by simp [Value.oneCell']) 3
        have HAP := Lib.hid happ
        have HOWN : Hid (Own w' w3.heap.size 3 1 v' (j + 1) (nV (rowF F (j + 1)))) := Lib.hid (by
          rw [rowF_succ, nV_append]
          have e : nV [((F + j : Nat) : Int)] = [.int .i64 ((F : Int) + (j : Int))] := by simp [nV]
          rw [e]; exact hown')
        have HBEL := Lib.hid hbel'
        clear happ hown' hbel' own hxr
        go_wp2_with (at_builtin; refine wpList_append_run rfl rfl HAP.out rfl rfl ?_)
        go_roundw
        case rel => exact ⟨j + 1, by omega, by go_num, HOWN.out, HBEL.out⟩
        case measure => simp [intOf]; omega
      · obtain rfl : j = N := by omega
        have dn : decide (j < j) = false := by rw [decide_eq_false_iff_not]; omega
        obtain ⟨aR, cR, rfl, _⟩ := own.len
        have RR := Lib.hid own.rd
        have HXR := Lib.hid hxr
        clear own hxr hlt
        go_wp2_with fail
        refine (HR.out _ _ _ RR.out).mono ?_; rintro e w4 ⟨hx4, bQ, oQ, cQ, rfl, rQ⟩
        obtain ⟨b1, o1, hA1, y0, _⟩ := byte_at rQ (j := 0) (by omega)
        obtain ⟨b2, o2, hA2, y1, _⟩ := byte_at rQ (j := 1) (by omega)
        injection hA1 with hA1; injection hA1 with q1 q2; subst q1; subst q2
        injection hA2 with hA2; injection hA2 with q1 q2; subst q1; subst q2
        have n0 : nth (u8 j :: u8 F :: List.replicate n 0) 0 = j := by
          show (u8 j).toNat = j
          rw [u8_toNat (by omega)]
        have n1 : nth (u8 j :: u8 F :: List.replicate n 0) 1 = F := by
          show (u8 F).toNat = F
          rw [u8_toNat (by omega)]
        rw [n0, Nat.add_zero] at y0
        rw [n1] at y1
        have RQ := Lib.hid rQ
        have E4 := Lib.hid (E3.out.trans (HXR.out.trans hx4))
        have RP4 := Lib.hid (RP.out.ext (HXR.out.trans hx4))
        have i0 : (0 : Int) < (j : Int) + 1 := by omega
        have i1 : (1 : Int) < (j : Int) + 1 := by omega
        clear rQ n0 n1 hx4 RR RP
        go_wp2_with fail
        go_loop [17] (fun z => ∃ t : Nat, 2 ≤ t ∧ t ≤ j + 1 ∧ z = .int .i64 t) (fun z => j + 1 - (intOf z).toNat)
        case atStart => exact ⟨2, by omega, by omega, rfl⟩
        case round =>
          obtain ⟨t, ht2, ht, rfl⟩ := hrel
          by_cases hlt : t < j + 1
          · have d0 : decide (t < j + 1) = true := by rw [decide_eq_true_eq]; exact hlt
            have d1 : decide ((t : Int) < (j : Int) + 1) = true := by rw [decide_eq_true_eq]; omega
            obtain ⟨b3, o3, hA3, y3, _⟩ := byte_at RQ.out (j := t) hlt
            injection hA3 with hA3; injection hA3 with q1 q2; subst q1; subst q2
            have n3 : nth (u8 j :: u8 F :: List.replicate n 0) t = 0 := by
              obtain ⟨r, rfl⟩ : ∃ r, t = r + 2 := ⟨t - 2, by omega⟩
              show ((List.replicate n (0 : UInt8)).getD r 0).toNat = 0
              rw [List.getD_eq_getElem?_getD, List.getElem?_replicate]
              split <;> rfl
            rw [n3] at y3
            have i2 : (0 : Int) ≤ (t : Int) := by omega
            have i3 : (t : Int) < (j : Int) + 1 := by omega
            go_wp2_with fail
            go_round
            case rel => exact ⟨t + 1, by omega, by omega, by go_num⟩
            case measure => simp [intOf]; omega
          · obtain rfl : t = j + 1 := by omega
            have d0 : decide (j + 1 < j + 1) = false := by rw [decide_eq_false_iff_not]; omega
            have hbd := bytes_behind RP4.out hkB
            rw [HDR.out] at hbd
            obtain ⟨AD, hAD⟩ : ∃ AD : Option Addr, (if cP = 1 then some ⟨bP, oP, none⟩ else some ⟨bP, oP + 1, none⟩) = AD := ⟨_, rfl⟩
            rw [hAD] at hbd
            have HCV : Hid ((convert 22 9 (.slice AD (B - 1) (cP - 1))).run Try.prog w4 = .ok (.string U) w4) := Lib.hid (by
              have h := str_run15 w4 hbd
              rw [show mkS (bs U) = U from bs_inj (bs_mkS _)] at h
              exact h)
            have z1 : (1 : Int) ≤ (B : Int) := by omega
            have z2 : (B : Int) ≤ (cP : Int) := by omega
            have z3 : (1 : Int) ≤ (cP : Int) := by omega
            clear hbd y0 y1
            go_wp2_with (with_reducible refine wpList_convert_run rfl rfl HCV.out rfl ?_)
            go_ret
            exact ⟨rfl, E4.out⟩
  · have t1 : decide ((128 : Int) ≤ (U.size : Int)) = decide (128 ≤ U.size) := by congr 1; simp only [eq_iff_iff]; omega
    have t2 : decide (128 ≤ U.size) = true := by rw [decide_eq_true_eq]; omega
    go_wp2_with fail
    go_loopw [12, 14] (fun o z wr => ∃ j : Nat, j ≤ N ∧ z = .int .i64 j ∧ Own wr w3.heap.size 3 1 o j (nV (rowF F j)) ∧ Ext w3 wr) (fun _ z _ => N - (intOf z).toNat)
    case atStart => exact ⟨0, by omega, rfl, hZ.out, hZX.out⟩
    case round =>
      obtain ⟨j, hj, rfl, own, hxr⟩ := hrel
      by_cases hlt : j < N
      · have dn : decide (j < N) = true := by rw [decide_eq_true_eq]; exact hlt
        have dn2 : (j : Int) < (N : Int) := by omega
        obtain ⟨v', w', happ, hown', hbel'⟩ := app_new (P := Try.prog) 31 31 3 i _ 1 8 Try.underlying31 hi hz0 hz1 hz2 rfl (by omega) (by omega)
          hxr own (by omega) 1 #[.int .i64 ((F : Int) + (j : Int))] rfl (by omega) (by simp [Value.oneCell']) 3
        have HAP := Lib.hid happ
        have HOWN : Hid (Own w' w3.heap.size 3 1 v' (j + 1) (nV (rowF F (j + 1)))) := Lib.hid (by
          rw [rowF_succ, nV_append]
          have e : nV [((F + j : Nat) : Int)] = [.int .i64 ((F : Int) + (j : Int))] := by simp [nV]
          rw [e]; exact hown')
        have HBEL := Lib.hid hbel'
        clear happ hown' hbel' own hxr
        go_wp2_with (at_builtin; refine wpList_append_run rfl rfl HAP.out rfl rfl ?_)
        go_roundw
        case rel => exact ⟨j + 1, by omega, by go_num, HOWN.out, HBEL.out⟩
        case measure => simp [intOf]; omega
      · obtain rfl : j = N := by omega
        have dn : decide (j < j) = false := by rw [decide_eq_false_iff_not]; omega
        obtain ⟨aR, cR, rfl, _⟩ := own.len
        have RR := Lib.hid own.rd
        have HXR := Lib.hid hxr
        clear own hxr hlt
        go_wp2_with fail
        refine (HR.out _ _ _ RR.out).mono ?_; rintro e w4 ⟨hx4, bQ, oQ, cQ, rfl, rQ⟩
        obtain ⟨b1, o1, hA1, y0, _⟩ := byte_at rQ (j := 0) (by omega)
        obtain ⟨b2, o2, hA2, y1, _⟩ := byte_at rQ (j := 1) (by omega)
        injection hA1 with hA1; injection hA1 with q1 q2; subst q1; subst q2
        injection hA2 with hA2; injection hA2 with q1 q2; subst q1; subst q2
        have n0 : nth (u8 j :: u8 F :: List.replicate n 0) 0 = j := by
          show (u8 j).toNat = j
          rw [u8_toNat (by omega)]
        have n1 : nth (u8 j :: u8 F :: List.replicate n 0) 1 = F := by
          show (u8 F).toNat = F
          rw [u8_toNat (by omega)]
        rw [n0, Nat.add_zero] at y0
        rw [n1] at y1
        have RQ := Lib.hid rQ
        have E4 := Lib.hid (E3.out.trans (HXR.out.trans hx4))
        have RP4 := Lib.hid (RP.out.ext (HXR.out.trans hx4))
        have i0 : (0 : Int) < (j : Int) + 1 := by omega
        have i1 : (1 : Int) < (j : Int) + 1 := by omega
        clear rQ n0 n1 hx4 RR RP
        go_wp2_with fail
        go_loop [17] (fun z => ∃ t : Nat, 2 ≤ t ∧ t ≤ j + 1 ∧ z = .int .i64 t) (fun z => j + 1 - (intOf z).toNat)
        case atStart => exact ⟨2, by omega, by omega, rfl⟩
        case round =>
          obtain ⟨t, ht2, ht, rfl⟩ := hrel
          by_cases hlt : t < j + 1
          · have d0 : decide (t < j + 1) = true := by rw [decide_eq_true_eq]; exact hlt
            have d1 : decide ((t : Int) < (j : Int) + 1) = true := by rw [decide_eq_true_eq]; omega
            obtain ⟨b3, o3, hA3, y3, _⟩ := byte_at RQ.out (j := t) hlt
            injection hA3 with hA3; injection hA3 with q1 q2; subst q1; subst q2
            have n3 : nth (u8 j :: u8 F :: List.replicate n 0) t = 0 := by
              obtain ⟨r, rfl⟩ : ∃ r, t = r + 2 := ⟨t - 2, by omega⟩
              show ((List.replicate n (0 : UInt8)).getD r 0).toNat = 0
              rw [List.getD_eq_getElem?_getD, List.getElem?_replicate]
              split <;> rfl
            rw [n3] at y3
            have i2 : (0 : Int) ≤ (t : Int) := by omega
            have i3 : (t : Int) < (j : Int) + 1 := by omega
            go_wp2_with fail
            go_round
            case rel => exact ⟨t + 1, by omega, by omega, by go_num⟩
            case measure => simp [intOf]; omega
          · obtain rfl : t = j + 1 := by omega
            have d0 : decide (j + 1 < j + 1) = false := by rw [decide_eq_false_iff_not]; omega
            have hbd := bytes_behind RP4.out hkB
            rw [HDR.out] at hbd
            obtain ⟨AD, hAD⟩ : ∃ AD : Option Addr, (if cP = 2 then some ⟨bP, oP, none⟩ else some ⟨bP, oP + 2, none⟩) = AD := ⟨_, rfl⟩
            rw [hAD] at hbd
            have HCV : Hid ((convert 22 9 (.slice AD (B - 2) (cP - 2))).run Try.prog w4 = .ok (.string U) w4) := Lib.hid (by
              have h := str_run15 w4 hbd
              rw [show mkS (bs U) = U from bs_inj (bs_mkS _)] at h
              exact h)
            have z1 : (2 : Int) ≤ (B : Int) := by omega
            have z2 : (B : Int) ≤ (cP : Int) := by omega
            have z3 : (2 : Int) ≤ (cP : Int) := by omega
            clear hbd y0 y1
            go_wp2_with (with_reducible refine wpList_convert_run rfl rfl HCV.out rfl ?_)
            go_ret
            exact ⟨rfl, E4.out⟩
end Go.Proofs.Ytilldbbfdmdggaa
