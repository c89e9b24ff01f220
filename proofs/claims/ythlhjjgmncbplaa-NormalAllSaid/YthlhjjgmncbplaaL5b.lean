/- Layer 5, NormalAll. -/
import Derived.Test.YthlhjjgmncbplaaL5a
import Derived.Test.YthlhjjgmncbplaaMf
namespace Go.Proofs.Ythlhjjgmncbplaa
open Go.RowKit
set_option maxRecDepth 100000
set_option maxHeartbeats 1000000
theorem sumT_le (l : List Sp) (b : Nat) (h : ∀ s ∈ l, s.2.2.size ≤ b) : sumT l ≤ l.length * b := by
  induction l with
  | nil => simp [sumT]
  | cons a t ih =>
    have h1 := h a (by simp)
    have h2 := ih (fun s hs => h s (by simp [hs]))
    have e : sumT (a :: t) = a.2.2.size + sumT t := rfl
    rw [e, List.length_cons, Nat.add_mul, Nat.one_mul]; omega
/-- Operations that Fit makes may be asked for their shortest form. -/
theorem fit_ok (l : List Sp) (n : Int) (h0 : 0 ≤ n) (h1 : n ≤ 1048576) : Ok (fitL l n) := by
  obtain ⟨h2, h3⟩ := fitL_all l n h0 h1
  obtain ⟨h4, h5⟩ := may_sum _ h2
  have h6 := sumT_le _ 24 (fitL_text l n)
  have h7 := fitL_len l n
  exact ⟨h4, by unfold sumN; rw [h5, h3]; omega, by omega⟩
theorem normalAll_c (A : Option Addr) (q c : Nat) (l : List Sp) (n : Int) (w : World) (h : Rd w 3 (.slice A q c) q (spCells l)) (hl : l.length = q) (hs : ∀ s ∈ l, s.2.2.size ≤ maxLen) (hn : (Lit.int .u8 n).wf = true) :
    Calls Try.prog 3 #[.slice A q c, .int .u8 n] w fun e w' => e = .returned (.bool true) ∧ Below w.heap.size w w' := by
  obtain ⟨n0, n1⟩ := bounds_u8 hn
  obtain ⟨m, hm, hm0, hm1⟩ : ∃ m : Int, n % 64 = m ∧ 0 ≤ m ∧ m ≤ 63 := ⟨_, rfl, by omega, by omega⟩
  have HFIT : Hid (∀ w', Ext w w' → _) := Lib.hid fun w' hx => fitR4_c A q c l m w' (h.ext hx) hl hs hm0 (by omega)
  have hok := fit_ok l m hm0 (by omega)
  have hfl := fitL_len l m
  have HOK := Lib.hid hok
  generalize fitL l m = fl at *
  have hnl := norm_len fl
  have HOF : Hid (∀ A k c w', fl.length = k → Rd w' 3 (.slice A k c) k (spCells fl) → _) := Lib.hid fun A k c w' hk hr => of5_c A k c fl w' hr hk (by omega) HOK.out
  have HOR : Hid (∀ A k c w', fl.length = k → Rd w' 3 (.slice A k c) k (spCells fl) → _) := Lib.hid fun A k c w' hk hr => ofR5_c A k c fl w' hr hk (by omega) HOK.out
  have HIS : Hid (∀ A k c w', fl.length = k → Rd w' 3 (.slice A k c) k (spCells fl) → _) := Lib.hid fun A k c w' hk hr => is_dec A k c fl w' hr hk (by omega)
  have HIR : Hid (∀ A k c w', fl.length = k → Rd w' 3 (.slice A k c) k (spCells fl) → _) := Lib.hid fun A k c w' hk hr => isR_dec A k c fl w' hr hk (by omega)
  have HS : Hid (∀ A B k c d w', (normL fl).length = k → Rd w' 3 (.slice A k c) k (spCells (normL fl)) → Rd w' 3 (.slice B k d) k (spCells (normL fl)) → _) :=
    Lib.hid fun A B k c d w' hk h1 h2 => sameR4_c A B k c d _ w' h1 h2 hk (by omega)
  generalize decide (isN fl) = b at *
  generalize normL fl = nl at *
  clear h hl hs hok hn hfl hnl
  go_enter Try.func3, Try.ntmps3
  go_wp2_with fail
  refine (shown5_c _).mono ?_; rintro e w1 ⟨rfl, hx1⟩
  go_wp2_with fail
  refine (HFIT.out _ hx1).mono ?_; rintro e w2 ⟨v2, rfl, hx2, hown2⟩
  obtain ⟨a2, c2, rfl, _⟩ := hown2.len
  obtain ⟨k2, hk2⟩ : ∃ k2, fl.length = k2 := ⟨_, rfl⟩
  rw [hk2] at hown2 ⊢
  have HR2 := Lib.hid hown2.rd; have HK2 := Lib.hid hk2
  clear hown2 hk2
  go_wp2_with fail
  refine (HOF.out _ _ _ _ HK2.out HR2.out).mono ?_; rintro e w3 ⟨v3, rfl, hx3, hown3⟩
  obtain ⟨a3, c3, rfl, _⟩ := hown3.len
  obtain ⟨k3, hk3⟩ : ∃ k3, nl.length = k3 := ⟨_, rfl⟩
  rw [hk3] at hown3 ⊢
  have HR3 := Lib.hid hown3.rd; have HK3 := Lib.hid hk3
  clear hown3
  go_wp2_with fail
  refine (HOR.out _ _ _ _ HK2.out (HR2.out.ext hx3)).mono ?_; rintro e w4 ⟨v4, rfl, hx4, hown4⟩
  obtain ⟨a4, c4, rfl, _⟩ := hown4.len
  rw [hk3] at hown4 ⊢
  have HR4 := Lib.hid hown4.rd
  clear hown4 hk3
  go_wp2_with fail
  refine (HS.out _ _ _ _ _ _ HK3.out (HR3.out.ext hx4) HR4.out).mono ?_; rintro e w5 ⟨rfl, hx5⟩
  have e25 := (hx3.trans hx4).trans hx5
  go_wp2_with fail
  refine (HIS.out _ _ _ _ HK2.out (HR2.out.ext e25)).mono ?_; rintro e w6 ⟨rfl, hx6⟩
  have e26 := e25.trans hx6
  go_wp2_with fail
  refine (HIR.out _ _ _ _ HK2.out (HR2.out.ext e26)).mono ?_; rintro e w7 ⟨rfl, hx7⟩
  go_wp2_with fail
  go_ret
  exact ⟨rfl, ((hx1.trans hx2).trans e26).trans hx7⟩
end Go.Proofs.Ythlhjjgmncbplaa
