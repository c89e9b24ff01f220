/- Layer 12, UnderTie. -/
import Derived.Test.YtmhkglkpkpkpoaaDoorL12a
import Derived.Test.YtmhkglkpkpkpoaaDoorL11f
import Derived.Test.YtmhkglkpkpkpoaaDoorL7a
namespace Go.Proofs.YtmhkglkpkpkpoaaDoor
open Go.RowKit
set_option maxRecDepth 100000
set_option maxHeartbeats 4000000
theorem tie12 (us vs : List Nat) (a b N : Nat) (hu : ∀ c ∈ us, IsCp c) (hv : ∀ c ∈ vs, IsCp c) (lu : (encs us).length ≤ 1000) (lv : (encs vs).length ≤ 1000) (nu : us.length ≤ 20) (nv : vs.length ≤ 20) (hab : a + b = N) (hN : N ≤ 63) :
    Good (putL a (mkS (encs us)) b) ∧ Good (putL a (mkS (encs vs)) b) ∧ inL (putL a (mkS (encs vs)) b) = inL (putL a (mkS (encs us)) b) ∧
    Good (putL ((a : Int) + (us.length : Int)) (mkS (encs vs)) b) ∧ Good (putL a (mkS (encs us)) ((vs.length : Int) + (N : Int) - (a : Int))) ∧
    overL (putL a (mkS (encs vs)) b) (putL a (mkS (encs us)) b) = normL (putL ((a : Int) + (us.length : Int)) (mkS (encs vs)) b) ∧
    underL (putL a (mkS (encs us)) b) (putL a (mkS (encs vs)) b) = normL (putL a (mkS (encs us)) ((vs.length : Int) + (N : Int) - (a : Int))) := by
  obtain ⟨a1, a2, a3⟩ := putL_all a b us hu lu (by omega)
  obtain ⟨b1, b2, b3⟩ := putL_all a b vs hv lv (by omega)
  obtain ⟨c1, c2, c3⟩ := putL_all (a + us.length) b vs hv lv (by omega)
  obtain ⟨d1, d2, d3⟩ := putL_all a (vs.length + b) us hu lu (by omega)
  rw [show ((a : Int) + (us.length : Int)) = ((a + us.length : Nat) : Int) by omega, show ((vs.length : Int) + (N : Int) - (a : Int)) = ((vs.length + b : Nat) : Int) by omega]
  refine ⟨a1, b1, by omega, c1, d1, ?_, ?_⟩
  · unfold overL
    rw [a3, b3, tie_over, norm_tok _ c1.ok, c3]
  · unfold underL
    rw [a3, b3, tie_under, norm_tok _ d1.ok, d3]
theorem underTie_c (s t : ByteArray) (z : List Int) (w : World) [Tab w] (hs : s.size ≤ maxLen) (ht : t.size ≤ maxLen) (hz : z.length = 2) (hw : ∀ x ∈ z, (Lit.int .u8 x).wf = true) :
    Calls Tryd.prog 6 #[.string s, .string t, .agg (z.map (Value.int .u8)).toArray] w fun e w' => e = .returned (.bool true) ∧ Below w.heap.size w w' := by
  match z, hz with
  | [z0, z1], _ =>
    obtain ⟨a0, a1⟩ := bounds_u8 (hw z0 (by simp))
    obtain ⟨b0, b1⟩ := bounds_u8 (hw z1 (by simp))
    obtain ⟨T1, us, hm1, hm2, hTl, hT0, hsz, HF1, HC1, hcl, hUs, HD1⟩ := cut_fit s 20 20 rfl (by omega) hs
    obtain ⟨T2, vs, gm1, gm2, gTl, gT0, gsz, HF2, HC2, gcl, gUs, HD2⟩ := cut_fit t 20 20 rfl (by omega) ht
    obtain ⟨N, hN⟩ : ∃ N : Nat, z0 % 64 = (N : Int) := ⟨(z0 % 64).toNat, by omega⟩
    have hN63 : N ≤ 63 := by omega
    obtain ⟨a, ha⟩ : ∃ a : Nat, z1 % ((N : Int) + 1) = (a : Int) := ⟨(z1 % ((N : Int) + 1)).toNat, by have := Int.emod_nonneg z1 (show ((N : Int) + 1) ≠ 0 by omega); omega⟩
    have haN : a ≤ N := by have := Int.emod_lt_of_pos z1 (show 0 < ((N : Int) + 1) by omega); omega
    obtain ⟨b, hb⟩ : ∃ b : Nat, (N : Int) - (a : Int) = (b : Int) := ⟨N - a, by omega⟩
    have hab : a + b = N := by omega
    have lu : (encs us).length ≤ 1000 := by have := encs_le us; omega
    have lv : (encs vs).length ≤ 1000 := by have := encs_le vs; omega
    obtain ⟨g1, g2, hi, g3, g4, e1', e2'⟩ := tie12 us vs a b N HC1.out HC2.out lu lv hcl gcl hab hN63
    have hn1 := cnt_U us _ HD1.out
    have hn2 := cnt_U vs _ HD2.out
    have CU : Hid (∀ w', Calls Tryd.prog 18 #[.string (mkS (encs us))] w' fun e w'' => e = .returned (.int .i64 (us.length : Int)) ∧ Ext w' w'') := Lib.hid fun w' => by
      have h := count_c (mkS (encs us)) w' (by omega); rw [hn1] at h; exact h
    have CV : Hid (∀ w', Calls Tryd.prog 18 #[.string (mkS (encs vs))] w' fun e w'' => e = .returned (.int .i64 (vs.length : Int)) ∧ Ext w' w'') := Lib.hid fun w' => by
      have h := count_c (mkS (encs vs)) w' (by omega); rw [hn2] at h; exact h
    generalize hU : mkS (encs us) = U at *
    generalize hV : mkS (encs vs) = V at *
    obtain ⟨n1, hu1⟩ : ∃ n, us.length = n := ⟨_, rfl⟩
    obtain ⟨n2, hv1⟩ : ∃ n, vs.length = n := ⟨_, rfl⟩
    rw [hu1] at CU g3 e1' hcl
    rw [hv1] at CV g4 e2' gcl
    have HOV : Hid (∀ A n k B m d w', Ext w w' → RdO w' A n k (putL a V b) → RdO w' B m d (putL a U b) → Calls Tryd.prog 26 #[.slice A n k, .slice B m d] w' (TellsE w' (normL (putL ((a : Int) + (n1 : Int)) V b)))) := Lib.hid fun A n k B m d w' hx hr hs => by
      have h := overG g2 g1 hi hx hr hs
      rw [e1'] at h; exact h
    have HUN : Hid (∀ A n k B m d w', Ext w w' → RdO w' A n k (putL a U b) → RdO w' B m d (putL a V b) → Calls Tryd.prog 11 #[.slice A n k, .slice B m d] w' (TellsE w' (normL (putL a U ((n2 : Int) + (N : Int) - (a : Int)))))) := Lib.hid fun A n k B m d w' hx hr hs => by
      have h := underG g1 g2 hi.symm hx hr hs
      rw [e2'] at h; exact h
    have LP : Hid ((normL (putL ((a : Int) + (n1 : Int)) V b)).length ≤ 300) := Lib.hid (by have := norm_len (putL ((a : Int) + (n1 : Int)) V b); have := g3.len; omega)
    have LQ : Hid ((normL (putL a U ((n2 : Int) + (N : Int) - (a : Int)))).length ≤ 300) := Lib.hid (by have := norm_len (putL a U ((n2 : Int) + (N : Int) - (a : Int))); have := g4.len; omega)
    have hb63 : b ≤ 63 := by omega
    have ha63 : a ≤ 63 := by omega
    have HBX : Hid (∀ (w' : World), Ext (w.alloc (.cells #[.int .u8 z0, .int .u8 z1] 45)) w' → ∀ (q : Nat) (u : Value), (#[Value.int .u8 z0, Value.int .u8 z1])[q]? = some u → w'.cell? ⟨w.heap.size, q, none⟩ = some u) :=
      Lib.hid fun w' hx q u hu => box_at _ _ _ _ hx q u hu
    have HA := Lib.hid ha
    clear ha hab lu lv hi g1 g2 e1' e2' hn1 hn2 hU hV hu1 hv1 hUs gUs
    go_enter Tryd.func6, Tryd.ntmps6
    go_wp2_with fail
    refine (shown12_c _).mono ?_; rintro r w1 ⟨rfl, hx1⟩
    have q0 := HBX.out w1 hx1 0 _ rfl
    have q1 := HBX.out w1 hx1 1 _ rfl
    have e1 : Ext w w1 := ((Ext.refl w).alloc _).trans hx1
    have ha := HA.out
    clear hx1 HBX
    go_wp2_with fail
    (try simp only [HA.out])
    refine (HF1.out _).mono ?_; rintro e w2 ⟨rfl, hx2⟩
    have e2 : Ext w w2 := e1.trans hx2
    clear hx2
    clear ha q0 q1
    go_wp2_with fail
    (try simp only [HA.out])
    refine (HF2.out _).mono ?_; rintro e w3 ⟨rfl, hx3⟩
    have e3 : Ext w w3 := e2.trans hx3
    clear hx3
    go_wp2_with fail
    (try simp only [HA.out])
    have RF := Lib.hid (rdO_put w3 47 a b U)
    have e4 : Ext w (w3.alloc (.cells #[.int .i64 1, .int .i64 (a : Int), .string ⟨#[]⟩, .int .i64 2, .int .i64 0, .string U, .int .i64 1, .int .i64 (b : Int), .string ⟨#[]⟩] 47)) := e3.alloc _
    have RO := Lib.hid (rdO_put (w3.alloc (.cells #[.int .i64 1, .int .i64 (a : Int), .string ⟨#[]⟩, .int .i64 2, .int .i64 0, .string U, .int .i64 1, .int .i64 (b : Int), .string ⟨#[]⟩] 47)) 47 a b V)
    replace RF := Lib.hid (RF.out.ext ((Ext.refl (w3.alloc (.cells #[.int .i64 1, .int .i64 (a : Int), .string ⟨#[]⟩, .int .i64 2, .int .i64 0, .string U, .int .i64 1, .int .i64 (b : Int), .string ⟨#[]⟩] 47))).alloc (.cells #[.int .i64 1, .int .i64 (a : Int), .string ⟨#[]⟩, .int .i64 2, .int .i64 0, .string V, .int .i64 1, .int .i64 (b : Int), .string ⟨#[]⟩] 47)))
    have e5 : Ext w ((w3.alloc (.cells #[.int .i64 1, .int .i64 (a : Int), .string ⟨#[]⟩, .int .i64 2, .int .i64 0, .string U, .int .i64 1, .int .i64 (b : Int), .string ⟨#[]⟩] 47)).alloc (.cells #[.int .i64 1, .int .i64 (a : Int), .string ⟨#[]⟩, .int .i64 2, .int .i64 0, .string V, .int .i64 1, .int .i64 (b : Int), .string ⟨#[]⟩] 47)) := e4.alloc _
    try rw [size_alloc] at RO
    refine (HOV.out _ _ _ _ _ _ _ e5 RO.out RF.out).mono ?_; rintro e w6 ⟨hx6, aA, nA, cA, rfl, rA⟩
    have e6 : Ext w w6 := e5.trans hx6
    replace RF := Lib.hid (RF.out.ext hx6)
    replace RO := Lib.hid (RO.out.ext hx6)
    have RA := Lib.hid rA
    clear hx6 rA
    go_wp2_with fail
    (try simp only [HA.out])
    refine (HUN.out _ _ _ _ _ _ _ e6 RF.out RO.out).mono ?_; rintro e w7 ⟨hx7, aB, nB, cB, rfl, rB⟩
    have e7 : Ext w w7 := e6.trans hx7
    replace RF := Lib.hid (RF.out.ext hx7)
    replace RO := Lib.hid (RO.out.ext hx7)
    replace RA := Lib.hid (RA.out.ext hx7)
    have RB := Lib.hid rB
    clear hx7 rB
    clear RF RO
    go_wp2_with fail
    (try simp only [HA.out])
    refine (CU.out _).mono ?_; rintro e w8 ⟨rfl, hx8⟩
    have e8 : Ext w w8 := e7.trans hx8
    replace RA := Lib.hid (RA.out.ext hx8)
    replace RB := Lib.hid (RB.out.ext hx8)
    clear hx8
    go_wp2_with fail
    (try simp only [HA.out])
    have RP := Lib.hid (rdO_put w8 47 ((a : Int) + (n1 : Int)) b V)
    replace RA := Lib.hid (RA.out.ext ((Ext.refl w8).alloc (.cells #[.int .i64 1, .int .i64 ((a : Int) + (n1 : Int)), .string ⟨#[]⟩, .int .i64 2, .int .i64 0, .string V, .int .i64 1, .int .i64 (b : Int), .string ⟨#[]⟩] 47)))
    replace RB := Lib.hid (RB.out.ext ((Ext.refl w8).alloc (.cells #[.int .i64 1, .int .i64 ((a : Int) + (n1 : Int)), .string ⟨#[]⟩, .int .i64 2, .int .i64 0, .string V, .int .i64 1, .int .i64 (b : Int), .string ⟨#[]⟩] 47)))
    have e9 : Ext w (w8.alloc (.cells #[.int .i64 1, .int .i64 ((a : Int) + (n1 : Int)), .string ⟨#[]⟩, .int .i64 2, .int .i64 0, .string V, .int .i64 1, .int .i64 (b : Int), .string ⟨#[]⟩] 47)) := e8.alloc _
    refine (CV.out _).mono ?_; rintro e w10 ⟨rfl, hx10⟩
    have e10 : Ext w w10 := e9.trans hx10
    replace RA := Lib.hid (RA.out.ext hx10)
    replace RB := Lib.hid (RB.out.ext hx10)
    replace RP := Lib.hid (RP.out.ext hx10)
    clear hx10
    go_wp2_with fail
    (try simp only [HA.out])
    have RQ := Lib.hid (rdO_put w10 47 a ((n2 : Int) + (N : Int) - (a : Int)) U)
    replace RA := Lib.hid (RA.out.ext ((Ext.refl w10).alloc (.cells #[.int .i64 1, .int .i64 (a : Int), .string ⟨#[]⟩, .int .i64 2, .int .i64 0, .string U, .int .i64 1, .int .i64 ((n2 : Int) + (N : Int) - (a : Int)), .string ⟨#[]⟩] 47)))
    replace RB := Lib.hid (RB.out.ext ((Ext.refl w10).alloc (.cells #[.int .i64 1, .int .i64 (a : Int), .string ⟨#[]⟩, .int .i64 2, .int .i64 0, .string U, .int .i64 1, .int .i64 ((n2 : Int) + (N : Int) - (a : Int)), .string ⟨#[]⟩] 47)))
    replace RP := Lib.hid (RP.out.ext ((Ext.refl w10).alloc (.cells #[.int .i64 1, .int .i64 (a : Int), .string ⟨#[]⟩, .int .i64 2, .int .i64 0, .string U, .int .i64 1, .int .i64 ((n2 : Int) + (N : Int) - (a : Int)), .string ⟨#[]⟩] 47)))
    have e11 : Ext w (w10.alloc (.cells #[.int .i64 1, .int .i64 (a : Int), .string ⟨#[]⟩, .int .i64 2, .int .i64 0, .string U, .int .i64 1, .int .i64 ((n2 : Int) + (N : Int) - (a : Int)), .string ⟨#[]⟩] 47)) := e10.alloc _
    refine (normG g3 RP.out).mono ?_; rintro e w12 ⟨hx12, aC, nC, cC, rfl, rC⟩
    have e12 : Ext w w12 := e11.trans hx12
    replace RA := Lib.hid (RA.out.ext hx12)
    replace RB := Lib.hid (RB.out.ext hx12)
    replace RP := Lib.hid (RP.out.ext hx12)
    replace RQ := Lib.hid (RQ.out.ext hx12)
    have RC := Lib.hid rC
    clear hx12 rC
    go_wp2_with fail
    refine (sameTrueG rfl LP.out RA.out RC.out).mono ?_; rintro e w13 ⟨rfl, hx13⟩
    have e13 : Ext w w13 := e12.trans hx13
    replace RA := Lib.hid (RA.out.ext hx13)
    replace RB := Lib.hid (RB.out.ext hx13)
    replace RP := Lib.hid (RP.out.ext hx13)
    replace RQ := Lib.hid (RQ.out.ext hx13)
    replace RC := Lib.hid (RC.out.ext hx13)
    clear hx13
    go_wp2_with fail
    refine (normG g4 RQ.out).mono ?_; rintro e w14 ⟨hx14, aD, nD, cD, rfl, rD⟩
    have e14 : Ext w w14 := e13.trans hx14
    replace RA := Lib.hid (RA.out.ext hx14)
    replace RB := Lib.hid (RB.out.ext hx14)
    replace RP := Lib.hid (RP.out.ext hx14)
    replace RQ := Lib.hid (RQ.out.ext hx14)
    replace RC := Lib.hid (RC.out.ext hx14)
    have RD := Lib.hid rD
    clear hx14 rD
    go_wp2_with fail
    refine (sameTrueG rfl LQ.out RB.out RD.out).mono ?_; rintro e w15 ⟨rfl, hx15⟩
    have e15 : Ext w w15 := e14.trans hx15
    replace RA := Lib.hid (RA.out.ext hx15)
    replace RB := Lib.hid (RB.out.ext hx15)
    replace RP := Lib.hid (RP.out.ext hx15)
    replace RQ := Lib.hid (RQ.out.ext hx15)
    replace RC := Lib.hid (RC.out.ext hx15)
    replace RD := Lib.hid (RD.out.ext hx15)
    clear hx15
    go_wp2_with fail
    go_ret
    exact ⟨rfl, e15⟩
end Go.Proofs.YtmhkglkpkpkpoaaDoor
