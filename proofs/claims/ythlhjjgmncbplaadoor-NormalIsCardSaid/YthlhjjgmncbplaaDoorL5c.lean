/- Layer 5, NormalIs. -/
import Derived.Test.YthlhjjgmncbplaaDoorL5b
import Derived.Test.YthlhjjgmncbplaaDoorMm
import Derived.Test.YthlhjjgmncbplaaDoorP4
namespace Go.Proofs.YthlhjjgmncbplaaDoor
open Go.RowKit
set_option maxRecDepth 100000
set_option maxHeartbeats 1000000
theorem normalIs_c (A : Option Addr) (q c : Nat) (l : List Sp) (n : Int) (w : World) [Tab w] (h : Rd w 3 (.slice A q c) q (spCells l)) (hl : l.length = q) (hs : ∀ s ∈ l, s.2.2.size ≤ maxLen) (hn : (Lit.int .u8 n).wf = true) :
    Calls Tryd.prog 3 #[.slice A q c, .int .u8 n] w fun e w' => e = .returned (.bool true) ∧ Below w.heap.size w w' := by
  obtain ⟨n0, n1⟩ := bounds_u8 hn
  obtain ⟨m, hm, hm0, hm1⟩ : ∃ m : Int, n % 64 = m ∧ 0 ≤ m ∧ m ≤ 63 := ⟨_, rfl, by omega, by omega⟩
  have HFIT : Hid (∀ w', Ext w w' → _) := Lib.hid fun w' hx => fitR4_c A q c l m w' (h.ext hx) hl hs hm0 (by omega)
  have hok := fit_ok l m hm0 (by omega)
  have hfl := fitL_len l m
  obtain ⟨hmay, hin⟩ := fitL_all l m hm0 (by omega)
  have HOK := Lib.hid hok
  generalize fitL l m = fl at *
  have hnl := norm_len fl
  have hsum : sumN fl ≤ 1048576 := by unfold sumN; rw [(may_sum fl hmay).2, hin]; omega
  have hnm := norm_may fl hmay hsum
  have hin2 := inL_norm fl
  have hout2 := outL_norm fl hmay hsum
  have hml := mayL_ok (normL fl) hnm (by rw [hin2, hin]; exact hm0) (by rw [hin2, hin]; omega)
  have hisn := norm_is fl hok.pos
  have hidem := is_norm (normL fl) hisn
  have hdec : decide (isN fl) = decide (normL fl = fl) := decide_eq_decide.2 (is_iff fl hok.pos)
  have htf : ∀ s ∈ fl, s.2.2.size ≤ 1000000000 := fun s hs => by have := le_sumT fl s hs; have := hok.t; omega
  have htn : ∀ s ∈ normL fl, s.2.2.size ≤ 1000000000 := fun s hs => by have := le_sumT _ s hs; have := hok.norm.t; omega
  have HOF : Hid (∀ A k c w', fl.length = k → Rd w' 3 (.slice A k c) k (spCells fl) → _) := Lib.hid fun A k c w' hk hr => of5_c A k c fl w' hr hk (by omega) HOK.out
  have HON : Hid (∀ A k c w', (normL fl).length = k → Rd w' 3 (.slice A k c) k (spCells (normL fl)) → _) := Lib.hid fun A k c w' hk hr => of5_c A k c (normL fl) w' hr hk (by omega) HOK.out.norm
  have HISF : Hid (∀ A k c w', fl.length = k → Rd w' 3 (.slice A k c) k (spCells fl) → _) := Lib.hid fun A k c w' hk hr => is_dec A k c fl w' hr hk (by omega)
  have HISN : Hid (∀ A k c w', (normL fl).length = k → Rd w' 3 (.slice A k c) k (spCells (normL fl)) → _) := Lib.hid fun A k c w' hk hr => is_yes A k c (normL fl) w' hr hk (by omega) hisn
  have HMN : Hid (∀ A k c w' [Tab w'], (normL fl).length = k → Rd w' 3 (.slice A k c) k (spCells (normL fl)) → _) := Lib.hid fun A k c w' _ hk hr => may4_c A k c (normL fl) w' hr hk (by omega) htn
  have HIN : Hid (∀ A k c w' [Tab w'], (normL fl).length = k → Rd w' 3 (.slice A k c) k (spCells (normL fl)) → _) := Lib.hid fun A k c w' _ hk hr => in4_c A k c (normL fl) w' hr hk (by omega)
  have HIF : Hid (∀ A k c w' [Tab w'], fl.length = k → Rd w' 3 (.slice A k c) k (spCells fl) → _) := Lib.hid fun A k c w' _ hk hr => in4_c A k c fl w' hr hk (by omega)
  have HUN : Hid (∀ A k c w' [Tab w'], (normL fl).length = k → Rd w' 3 (.slice A k c) k (spCells (normL fl)) → _) := Lib.hid fun A k c w' _ hk hr => out4_c A k c (normL fl) w' hr hk (by omega) htn
  have HUF : Hid (∀ A k c w' [Tab w'], fl.length = k → Rd w' 3 (.slice A k c) k (spCells fl) → _) := Lib.hid fun A k c w' _ hk hr => out4_c A k c fl w' hr hk (by omega) htf
  have HSN : Hid (∀ A B k c d w', (normL fl).length = k → Rd w' 3 (.slice A k c) k (spCells (normL fl)) → Rd w' 3 (.slice B k d) k (spCells (normL fl)) → _) :=
    Lib.hid fun A B k c d w' hk h1 h2 => sameR4_c A B k c d _ w' h1 h2 hk (by omega)
  have HSF : Hid (∀ A B k c j d w', (normL fl).length = k → fl.length = j → Rd w' 3 (.slice A k c) k (spCells (normL fl)) → Rd w' 3 (.slice B j d) j (spCells fl) → _) :=
    Lib.hid fun A B k c j d w' hk hj h1 h2 => sameG_c A B k c j d _ _ w' h1 h2 hk hj (by omega)
  rw [hidem] at HON
  rw [hml] at HMN
  rw [hin2] at HIN
  rw [hout2] at HUN
  rw [← hdec] at HSF
  generalize decide (isN fl) = b at *
  generalize wrap64 (inL fl) = yi at *
  generalize wrap64 (outL fl) = yo at *
  have HNL := Lib.hid hnl
  clear h hl hs hok hn hfl hmay hin hsum hnm hin2 hout2 hml hisn hidem hdec htf htn hnl
  generalize normL fl = nl at *
  go_enter Tryd.func3, Tryd.ntmps3
  go_wp2_with fail
  refine (shown5_c _).mono ?_; rintro e w1 ⟨rfl, hx1⟩; have ht1 := tab_ext hx1
  go_wp2_with fail
  refine (HFIT.out _ hx1).mono ?_; rintro e w2 ⟨v2, rfl, hx2, hown2⟩; have ht2 := tab_ext hx2
  obtain ⟨a2, c2, rfl, _⟩ := hown2.len
  obtain ⟨k2, hk2⟩ : ∃ k2, fl.length = k2 := ⟨_, rfl⟩
  rw [hk2] at hown2 ⊢
  have HR2 := Lib.hid hown2.rd; have HK2 := Lib.hid hk2
  clear hown2 hk2
  go_wp2_with fail
  refine (HOF.out _ _ _ _ HK2.out HR2.out).mono ?_; rintro e w3 ⟨v3, rfl, hx3, hown3⟩; have ht3 := tab_ext hx3
  obtain ⟨a3, c3, rfl, _⟩ := hown3.len
  obtain ⟨k3, hk3⟩ : ∃ k3, nl.length = k3 := ⟨_, rfl⟩
  rw [hk3] at hown3 ⊢
  have HR3 := Lib.hid hown3.rd; have HK3 := Lib.hid hk3
  have hle : (k3 : Int) ≤ (k2 : Int) := by have := HNL.out; have := HK2.out; omega
  clear hown3 hk3
  go_wp2_with fail
  refine (HISN.out _ _ _ _ HK3.out HR3.out).mono ?_; rintro e w4 ⟨rfl, hx4⟩; have ht4 := tab_ext hx4
  have e34 := hx4
  go_wp2_with fail
  refine (HMN.out _ _ _ _ HK3.out (HR3.out.ext e34)).mono ?_; rintro e w5 ⟨rfl, hx5⟩; have ht5 := tab_ext hx5
  have e35 := e34.trans hx5
  go_wp2_with fail
  refine (HIN.out _ _ _ _ HK3.out (HR3.out.ext e35)).mono ?_; rintro e w6 ⟨rfl, hx6⟩; have ht6 := tab_ext hx6
  have e36 := e35.trans hx6
  go_wp2_with fail
  refine (HIF.out _ _ _ _ HK2.out (HR2.out.ext (hx3.trans e36))).mono ?_; rintro e w7 ⟨rfl, hx7⟩; have ht7 := tab_ext hx7
  have e37 := e36.trans hx7
  go_wp2_with fail
  refine (HUN.out _ _ _ _ HK3.out (HR3.out.ext e37)).mono ?_; rintro e w8 ⟨rfl, hx8⟩; have ht8 := tab_ext hx8
  have e38 := e37.trans hx8
  go_wp2_with fail
  refine (HUF.out _ _ _ _ HK2.out (HR2.out.ext (hx3.trans e38))).mono ?_; rintro e w9 ⟨rfl, hx9⟩; have ht9 := tab_ext hx9
  have e39 := e38.trans hx9
  go_wp2_with fail
  refine (HON.out _ _ _ _ HK3.out (HR3.out.ext e39)).mono ?_; rintro e wA ⟨vA, rfl, hxA, hownA⟩; have htA := tab_ext hxA
  obtain ⟨aA, cA, rfl, _⟩ := hownA.len
  rw [HK3.out] at hownA ⊢
  have HRA := Lib.hid hownA.rd
  have e3A := e39.trans hxA
  clear hownA
  go_wp2_with fail
  refine (HSN.out _ _ _ _ _ _ HK3.out HRA.out (HR3.out.ext e3A)).mono ?_; rintro e wB ⟨rfl, hxB⟩; have htB := tab_ext hxB
  have e3B := e3A.trans hxB
  go_wp2_with fail
  refine (HISF.out _ _ _ _ HK2.out (HR2.out.ext (hx3.trans e3B))).mono ?_; rintro e wC ⟨rfl, hxC⟩; have htC := tab_ext hxC
  have e3C := e3B.trans hxC
  go_wp2_with fail
  refine (HSF.out _ _ _ _ _ _ _ HK3.out HK2.out (HR3.out.ext e3C) (HR2.out.ext (hx3.trans e3C))).mono ?_; rintro e wD ⟨rfl, hxD⟩; have htD := tab_ext hxD
  go_wp2_with fail
  go_ret
  exact ⟨rfl, (((hx1.trans hx2).trans hx3).trans e3C).trans hxD⟩
end Go.Proofs.YthlhjjgmncbplaaDoor
