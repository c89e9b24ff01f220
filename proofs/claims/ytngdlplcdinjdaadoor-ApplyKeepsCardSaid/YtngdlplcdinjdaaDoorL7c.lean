/- Layer 7, ApplyKeeps. -/
import Derived.Test.YtngdlplcdinjdaaDoorL7a
import Derived.Test.YtngdlplcdinjdaaDoorL4a
import Derived.Test.YtngdlplcdinjdaaDoorBs
namespace Go.Proofs.YtngdlplcdinjdaaDoor
open Go.RowKit
set_option maxRecDepth 100000
set_option maxHeartbeats 4000000
theorem keep7 (n : Int) (h0 : 0 ≤ n) (h1 : n ≤ 1048576) : mayL (keepL n) = 0 ∧ inL (keepL n) = n ∧ tok (keepL n) = List.replicate n.toNat Tok.keep ∧ (keepL n).length ≤ 1 ∧ (∀ s ∈ keepL n, s.2.2.size ≤ 1000000000) ∧ sumT (keepL n) ≤ 1000000000 := by
  by_cases h : n = 0
  · subst h
    exact ⟨by decide +kernel, rfl, rfl, by decide, fun s hs => (by cases hs), by decide⟩
  · have e : keepL n = [(1, n, ⟨#[]⟩)] := by unfold keepL; rw [if_neg h]
    have hm : ∀ s ∈ [((1 : Int), n, (⟨#[]⟩ : ByteArray))], mayS s.1 s.2.1 s.2.2 = 0 := by
      intro s hs
      rw [List.mem_singleton] at hs
      subst hs
      unfold mayS; rw [if_pos (by simp), if_neg (by simp only; omega)]; rfl
    have hi : inL [((1 : Int), n, (⟨#[]⟩ : ByteArray))] = n := by
      rw [inL_cons]
      show n + 0 = n
      omega
    have e0 : (⟨#[]⟩ : ByteArray).size = 0 := rfl
    rw [e]
    refine ⟨mayL_ok _ hm (by omega) (by omega), hi, ?_, by simp, ?_, ?_⟩
    · rw [tok_cons, tok_nil, tokS_num _ _ _ (by decide), List.append_nil]; rfl
    · intro s hs
      rw [List.mem_singleton] at hs
      subst hs
      simp only [e0]; omega
    · show 0 + 0 ≤ _
      omega
theorem dec_ff : dec (bs ⟨#[255]⟩) = none := by decide +kernel
theorem applyKeeps_c (s : ByteArray) (n : Int) (w : World) [Tab w] (hs : s.size ≤ maxLen) (hn : (Lit.int .u8 n).wf = true) :
    Calls Tryd.prog 7 #[.string s, .int .u8 n] w fun e w' => e = .returned (.bool true) ∧ Below w.heap.size w w' := by
  obtain ⟨n0, n1⟩ := bounds_u8 hn
  obtain ⟨T, cs, hm1, hm2, hTl, hT0, hsz, HFIT, HCP, hcl, hUs, HD⟩ := cut_fit s 60 60 rfl (by omega) hs
  have HKO : Hid (∀ m : Int, 0 ≤ m → m ≤ 1000 → ∀ w', Calls Tryd.prog 24 #[.int .i64 m] w' fun e w'' => (∃ A n c, e = .returned (.tuple #[.slice A n c, .int .i64 0]) ∧ RdO w'' A n c (keepL m)) ∧ Ext w' w'') := Lib.hid fun m h0 h1 w' => by
    refine (keep_ok m h0 (by omega) w').mono ?_
    rintro e w'' ⟨A, c, rfl, hx, hr⟩
    exact ⟨⟨A, _, c, rfl, rfl, hr⟩, hx⟩
  have hTO : ∀ m : Int, 0 ≤ m → m ≤ 1000 → ∀ (x : ByteArray), x.size ≤ 1000 → ∀ A n k w', Ext w w' → RdO w' A n k (keepL m) → Calls Tryd.prog 10 #[.slice A n k, .string x] w' fun e w'' => e = .returned (toV (keepL m) x) ∧ Ext w' w'' := fun m h0 h1 x hx A n k w' he hr => by
    have hTb := tab_ext he
    obtain ⟨_, _, _, k4, k5, k6⟩ := keep7 m h0 (by omega)
    exact to_c A n k (keepL m) x w' hr.2 hr.1 (by have := hr.1; omega) k5 k6 (by omega)
  obtain ⟨M, hM⟩ : ∃ M, cs.length = M := ⟨_, rfl⟩
  have hv1 : toV (keepL (M : Int)) (mkS (encs cs)) = .tuple #[.string (mkS (encs cs)), .int .i64 0] := by
    obtain ⟨k1, k2, k3, _⟩ := keep7 (M : Int) (by omega) (by omega)
    obtain ⟨g1, g2⟩ := to_ok (l := keepL (M : Int)) (s := mkS (encs cs)) k1 HD.out (by rw [k2, hM])
    unfold toV
    rw [g1, g2, k3, apT_keep, Int.toNat_natCast, ← hM, List.take_length]
  have hv2 : n ≠ (M : Int) → toV (keepL n) (mkS (encs cs)) = .tuple #[.string ⟨#[]⟩, .int .i64 5] := fun hne => by
    obtain ⟨k1, k2, k3, _⟩ := keep7 n (by omega) (by omega)
    exact to_len k1 HD.out (by rw [k2, hM]; omega)
  have hv3 : toV (keepL n) ⟨#[255]⟩ = .tuple #[.string ⟨#[]⟩, .int .i64 3] := by
    obtain ⟨k1, _⟩ := keep7 n (by omega) (by omega)
    exact to_none k1 dec_ff
  have hcU := cnt_U cs _ HD.out
  rw [hM] at hcU hcl
  have HCU : Hid (∀ w', Calls Tryd.prog 15 #[.string (mkS (encs cs))] w' fun e w'' => e = .returned (.int .i64 (M : Int)) ∧ Ext w' w'') := Lib.hid fun w' => by
    have h := count_c (mkS (encs cs)) w' (by omega); rw [hcU] at h; exact h
  have HK1 := Lib.hid (HKO.out (M : Int) (by omega) (by omega)); have HK2 := Lib.hid (HKO.out n (by omega) (by omega))
  have ht1 := hTO (M : Int) (by omega) (by omega) (mkS (encs cs)) (by omega); have ht2 := hTO n (by omega) (by omega) (mkS (encs cs)) (by omega); have ht3 := hTO n (by omega) (by omega) ⟨#[255]⟩ (by decide)
  rw [hv1] at ht1
  rw [hv3] at ht3
  have HT1 := Lib.hid ht1; have HT3 := Lib.hid ht3
  by_cases hc : n = (M : Int)
  · subst hc
    rw [hv1] at ht2
    have HT2 := Lib.hid ht2
    clear hTO hv1 hv2 hv3 hcU ht1 ht2 ht3 hM HCP HD hUs HKO hs hn
    generalize mkS (encs cs) = U at *
    generalize keepL (M : Int) = KL at *
    go_enter Tryd.func7, Tryd.ntmps7
    go_wp2_with fail
    refine (shown7_c _).mono ?_; rintro e w1 ⟨rfl, hx1⟩
    have e1 : Ext w w1 := hx1
    clear hx1
    go_wp2_with fail
    refine (HFIT.out _).mono ?_; rintro e w2 ⟨rfl, hx2⟩
    have e2 : Ext w w2 := e1.trans hx2
    clear hx2
    go_wp2_with fail
    refine (HCU.out _).mono ?_; rintro e w3 ⟨rfl, hx3⟩
    have e3 : Ext w w3 := e2.trans hx3
    clear hx3
    go_wp2_with fail
    refine (HK1.out _).mono ?_; rintro e w4 ⟨⟨aX, nX, cX, rfl, rX⟩, hx4⟩
    have e4 : Ext w w4 := e3.trans hx4
    have RX := Lib.hid rX
    clear rX
    clear hx4
    go_wp2_with fail
    refine (HT1.out _ _ _ _ e4 RX.out).mono ?_; rintro e w5 ⟨rfl, hx5⟩
    have e5 : Ext w w5 := e4.trans hx5
    replace RX := Lib.hid (RX.out.ext hx5)
    clear hx5
    go_wp2_with fail
    refine (HK2.out _).mono ?_; rintro e w6 ⟨⟨aN, nN, cN, rfl, rN⟩, hx6⟩
    have e6 : Ext w w6 := e5.trans hx6
    replace RX := Lib.hid (RX.out.ext hx6)
    have RN := Lib.hid rN
    clear rN
    clear hx6
    go_wp2_with fail
    refine (HT2.out _ _ _ _ e6 RN.out).mono ?_; rintro e w7 ⟨rfl, hx7⟩
    have e7 : Ext w w7 := e6.trans hx7
    replace RX := Lib.hid (RX.out.ext hx7)
    replace RN := Lib.hid (RN.out.ext hx7)
    clear hx7
    go_wp2_with fail
    refine (HT3.out _ _ _ _ e7 RN.out).mono ?_; rintro e w8 ⟨rfl, hx8⟩
    have e8 : Ext w w8 := e7.trans hx8
    replace RX := Lib.hid (RX.out.ext hx8)
    replace RN := Lib.hid (RN.out.ext hx8)
    clear hx8
    go_wp2_with fail
    refine (HCU.out _).mono ?_; rintro e w9 ⟨rfl, hx9⟩
    have e9 : Ext w w9 := e8.trans hx9
    replace RX := Lib.hid (RX.out.ext hx9)
    replace RN := Lib.hid (RN.out.ext hx9)
    clear hx9
    go_wp2_with fail
    go_ret
    exact ⟨rfl, e9⟩
  · have ht2' := ht2
    rw [hv2 hc] at ht2'
    have HT2 := Lib.hid ht2'
    have hb1 : (n == (M : Int)) = false := by rw [beq_eq_false_iff_ne]; exact hc
    clear hTO hv1 hv2 hv3 hcU ht1 ht2 ht2' ht3 hM HCP HD hUs HKO hs hn hc
    generalize mkS (encs cs) = U at *
    generalize keepL (M : Int) = KL at *
    generalize keepL n = KN at *
    go_enter Tryd.func7, Tryd.ntmps7
    go_wp2_with fail
    refine (shown7_c _).mono ?_; rintro e w1 ⟨rfl, hx1⟩
    have e1 : Ext w w1 := hx1
    clear hx1
    go_wp2_with fail
    refine (HFIT.out _).mono ?_; rintro e w2 ⟨rfl, hx2⟩
    have e2 : Ext w w2 := e1.trans hx2
    clear hx2
    go_wp2_with fail
    refine (HCU.out _).mono ?_; rintro e w3 ⟨rfl, hx3⟩
    have e3 : Ext w w3 := e2.trans hx3
    clear hx3
    go_wp2_with fail
    refine (HK1.out _).mono ?_; rintro e w4 ⟨⟨aX, nX, cX, rfl, rX⟩, hx4⟩
    have e4 : Ext w w4 := e3.trans hx4
    have RX := Lib.hid rX
    clear rX
    clear hx4
    go_wp2_with fail
    refine (HT1.out _ _ _ _ e4 RX.out).mono ?_; rintro e w5 ⟨rfl, hx5⟩
    have e5 : Ext w w5 := e4.trans hx5
    replace RX := Lib.hid (RX.out.ext hx5)
    clear hx5
    go_wp2_with fail
    refine (HK2.out _).mono ?_; rintro e w6 ⟨⟨aN, nN, cN, rfl, rN⟩, hx6⟩
    have e6 : Ext w w6 := e5.trans hx6
    replace RX := Lib.hid (RX.out.ext hx6)
    have RN := Lib.hid rN
    clear rN
    clear hx6
    go_wp2_with fail
    refine (HT2.out _ _ _ _ e6 RN.out).mono ?_; rintro e w7 ⟨rfl, hx7⟩
    have e7 : Ext w w7 := e6.trans hx7
    replace RX := Lib.hid (RX.out.ext hx7)
    replace RN := Lib.hid (RN.out.ext hx7)
    clear hx7
    go_wp2_with fail
    refine (HT3.out _ _ _ _ e7 RN.out).mono ?_; rintro e w8 ⟨rfl, hx8⟩
    have e8 : Ext w w8 := e7.trans hx8
    replace RX := Lib.hid (RX.out.ext hx8)
    replace RN := Lib.hid (RN.out.ext hx8)
    clear hx8
    go_wp2_with fail
    refine (HCU.out _).mono ?_; rintro e w9 ⟨rfl, hx9⟩
    have e9 : Ext w w9 := e8.trans hx9
    replace RX := Lib.hid (RX.out.ext hx9)
    replace RN := Lib.hid (RN.out.ext hx9)
    clear hx9
    go_wp2_with fail
    go_ret
    exact ⟨rfl, e9⟩
end Go.Proofs.YtngdlplcdinjdaaDoor
