/- Layer 2, NumberAll. -/
import Derived.Test.YtnljmfhiglajcaaL2a
namespace Go.Proofs.Ytnljmfhiglajcaa
open Go.RowKit
set_option maxRecDepth 100000
set_option maxHeartbeats 1000000

theorem rd_nil_bytes (w : World) : Rd w 1 (.slice none 0 0) 0 (Lib.byteCells []) := Rd.nil w 1

theorem numberAll_c (n : Int) (A : Option Addr) (k c : Nat) (zs : List Int) (w : World) (_hn : (Lit.int .i64 n).wf = true) (h : IsInts .u8 w A k c zs) :
    Calls Try.prog 3 #[.int .i64 n, .slice A k c] w fun e w' => e = .returned (.bool true) ∧ Below w.heap.size w w' := by
  obtain ⟨m, l, hm, hl, hrd, hfew⟩ := few2_in h
  have hm20 : m ≤ 20 := by omega
  have H5 : Hid (∀ w', Ext w w' → Calls Try.prog 12 #[.slice A m c] w' fun e w'' => e = .returned (takeV (takeL l)) ∧ Ext w' w'') := Lib.hid fun w' hx => take_c A m c l w' (hrd.ext hx) (by omega)
  have H6 : Hid (∀ w', Ext w w' → Calls Try.prog 14 #[.slice A m c] w' fun e w'' => e = .returned (takeV (takeL l)) ∧ Ext w' w'') := Lib.hid fun w' hx => takeR_c A m c l w' (hrd.ext hx) (by omega)
  unfold takeV at H5 H6
  generalize (takeL l).1 = t1 at *
  generalize (takeL l).2.1 = t2 at *
  generalize (takeL l).2.2 = t3 at *
  have HF := Lib.hid hfew
  have HP := Lib.hid (fun w' => put_c n w')
  have HQ := Lib.hid (fun w' => putR_c n w')
  clear h hm hl hrd hfew
  go_enter Try.func3, Try.ntmps3
  go_wp2_with fail
  refine (shown2_c _).mono ?_; rintro e w1 ⟨rfl, hx1⟩
  go_wp2_with fail
  refine (HP.out _).mono ?_; rintro e w2 ⟨hx2, hp⟩
  have hpp : ∃ (p : Value) (er : Int) (r : List UInt8) (q : Nat), e = .returned (.tuple #[p, .int .i64 er]) ∧ Rd w2 1 p q (Lib.byteCells r) ∧ ((n < 0 ∨ 268435455 < n) ∧ er = 2 ∧ r = [] ∨ ∃ m : Nat, n = (m : Int) ∧ m < 268435456 ∧ er = 0 ∧ r = putL m) := by
    rcases hp with ⟨h, he⟩ | ⟨m, v, h1, h2, he, hr⟩
    · exact ⟨_, _, [], 0, he, rd_nil_bytes w2, .inl ⟨h, rfl, rfl⟩⟩
    · exact ⟨_, _, _, _, he, hr, .inr ⟨m, h1, h2, rfl, rfl⟩⟩
  obtain ⟨p, er, r, q, rfl, hrp, hspec⟩ := hpp
  have HSP := Lib.hid hspec
  clear hp hspec
  go_wp2_with fail
  refine (HQ.out _).mono ?_; rintro e w3 ⟨hx3, hp⟩
  have hqq : ∃ (p' : Value) (q' : Nat), e = .returned (.tuple #[p', .int .i64 er]) ∧ Rd w3 1 p' q' (Lib.byteCells r) := by
    rcases hp with ⟨h, he⟩ | ⟨m, v, h1, h2, he, hr⟩ <;> rcases HSP.out with ⟨g, g1, g2⟩ | ⟨m', g1, g2, g3, g4⟩
    · exact ⟨_, 0, by rw [g1]; exact he, by rw [g2]; exact rd_nil_bytes w3⟩
    · omega
    · omega
    · obtain rfl : m = m' := by omega
      exact ⟨v, _, by rw [g3]; exact he, by rw [g4]; exact hr⟩
  obtain ⟨p', q', rfl, hrp'⟩ := hqq
  clear hp
  go_wp2_with fail
  refine (HF.out _).mono ?_; rintro e w' ⟨rfl, rfl⟩
  go_wp2_with fail
  refine (H5.out _ ((hx1.trans hx2).trans hx3)).mono ?_; rintro e w4 ⟨rfl, hx4⟩
  go_wp2_with fail
  refine (HF.out _).mono ?_; rintro e w' ⟨rfl, rfl⟩
  go_wp2_with fail
  refine (H6.out _ (((hx1.trans hx2).trans hx3).trans hx4)).mono ?_; rintro e w5 ⟨rfl, hx5⟩
  have HS1 := Lib.hid (str_run w5 (((hrp.ext hx3).ext hx4).ext hx5))
  have HS2 := Lib.hid (str_run w5 ((hrp'.ext hx4).ext hx5))
  generalize mkS r = S at *
  go_wp2_with (first | ((with_reducible refine wpList_convert_g ?_ rfl HS1.out rfl ?_); rfl) | ((with_reducible refine wpList_convert_g ?_ rfl HS2.out rfl ?_); rfl))
  go_ret
  exact ⟨rfl, (((hx1.trans hx2).trans hx3).trans hx4).trans hx5⟩
end Go.Proofs.Ytnljmfhiglajcaa
