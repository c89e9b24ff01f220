/- Layer 12, UnderDrops. -/
import Derived.Test.YtmhkglkpkpkpoaaDoorL12a
import Derived.Test.YtmhkglkpkpkpoaaDoorMx
namespace Go.Proofs.YtmhkglkpkpkpoaaDoor
open Go.RowKit
set_option maxRecDepth 100000
set_option maxHeartbeats 4000000
theorem dlT_append (a b : List Tok) : dlT (a ++ b) = dlT a + dlT b := by simp [dlT]
theorem dlT_inss (us : List Nat) : dlT (us.map Tok.ins) = 0 := by
  induction us with
  | nil => rfl
  | cons u us ih => rw [List.map_cons, dlT_ins, ih]
theorem dlT_keeps (n : Nat) : dlT (List.replicate n Tok.keep) = 0 := by
  induction n with
  | zero => rfl
  | succ n ih => rw [List.replicate_succ, dlT_keep, ih]
theorem dlT_dels (n : Nat) : dlT (List.replicate n Tok.del) = n := by
  induction n with
  | zero => rfl
  | succ n ih => rw [List.replicate_succ, dlT_del, ih]
theorem dlT_le (ts : List Tok) : dlT ts ≤ tin ts := by
  induction ts with
  | nil => exact Nat.le_refl _
  | cons t ts ih => cases t <;> simp only [dlT_ins, dlT_keep, dlT_del, tin_ins, tin_keep, tin_del] <;> omega
theorem dlT_take_le (X : List Sp) (j : Nat) : dlT (tok (X.take j)) ≤ dlT (tok X) := by
  have h := List.take_append_drop j X
  have h2 : dlT (tok X) = dlT (tok (X.take j)) + dlT (tok (X.drop j)) := by rw [← dlT_append, ← tok_append, h]
  omega
theorem drop_at12 {X : List Sp} (gX : Good X) {j : Nat} (hj : j < X.length) : ∃ a1 a2 a3, X[j] = (a1, a2, a3) ∧
    ((a1 = 3 ∧ ∃ D : Nat, a2 = (D : Int) ∧ dlT (tok (X.take (j + 1))) = dlT (tok (X.take j)) + D) ∨ (a1 ≠ 3 ∧ dlT (tok (X.take (j + 1))) = dlT (tok (X.take j)))) := by
  have hst := tok_take X j hj
  have ok := gX.ok _ (List.getElem_mem hj)
  have hmn : dlT (tok (X.take (j + 1))) = dlT (tok (X.take j)) + dlT (tokS X[j]) := by rw [hst, dlT_append]
  obtain ⟨sp, hsp⟩ : ∃ sp, X[j] = sp := ⟨_, rfl⟩
  rw [hsp] at hmn ok ⊢
  obtain ⟨a1, a2, a3⟩ := sp
  refine ⟨a1, a2, a3, rfl, ?_⟩
  unfold OkW at ok
  simp only at ok
  rcases ok with ⟨k1, n1, us, hu⟩ | ⟨k1, n1, t1e⟩
  · subst k1
    rw [tokS_text _ _ hu, dlT_inss] at hmn
    exact .inr ⟨by decide, hmn⟩
  · obtain ⟨D, rfl⟩ := Int.eq_ofNat_of_zero_le n1
    rcases k1 with k1 | k1
    · subst k1
      rw [tokS_num _ _ _ (by decide), if_neg (by decide), dlT_keeps] at hmn
      exact .inr ⟨by decide, hmn⟩
    · subst k1
      rw [tokS_num _ _ _ (by decide), if_pos rfl, dlT_dels, Int.toNat_natCast] at hmn
      exact .inl ⟨rfl, D, rfl, hmn⟩
theorem drops12_c {X : List Sp} (gX : Good X) {A : Option Addr} {q c : Nat} (w : World) (hX : RdO w A q c X) :
    Calls Tryd.prog 29 #[.slice A q c] w fun e w' => e = .returned (.int .i64 ((dlT (tok X) : Nat) : Int)) ∧ Ext w w' := by
  have H := Lib.hid hX.2; have HL := Lib.hid hX.1
  have hq : q ≤ 300 := by have := gX.len; have := hX.1; omega
  clear hX
  go_enter Tryd.func29, Tryd.ntmps29
  go_wp2_with fail
  go_loopw [3, 4] (fun n z wr => ∃ j m : Nat, j ≤ q ∧ z = .int .i64 j ∧ n = .int .i64 m ∧ Hid (m = dlT (tok (X.take j))) ∧ Ext w wr) (fun _ z _ => q - (intOf z).toNat)
  case atStart => exact ⟨0, 0, by omega, rfl, rfl, Lib.hid rfl, Ext.refl _⟩
  case round =>
    obtain ⟨j, m, hj, rfl, rfl, HM, hxr⟩ := hrel
    by_cases hlt : j < q
    · have hjl : j < X.length := by have := HL.out; omega
      obtain ⟨b, off, rfl, hb, q0, q1, q2⟩ := sp_at (H.out.ext hxr) HL.out hlt
      have dn : decide (j < q) = true := by rw [decide_eq_true_eq]; exact hlt
      have i0 : (0 : Int) ≤ (j : Int) := by omega
      have i1 : (j : Int) < (q : Int) := by omega
      have t1 := dlT_take_le X j
      have t2 := dlT_take_le X (j + 1)
      have t3 := dlT_le (tok X)
      have t4 := gX.tin
      have t5 := gX.inb
      obtain ⟨a1, a2, a3, hsp, hk⟩ := drop_at12 gX hjl
      rw [hsp] at q0 q1 q2
      simp only at q0 q1 q2
      clear hsp
      have hM := HM.out
      rcases hk with ⟨rfl, D, rfl, hmn⟩ | ⟨hk, hmn⟩
      · have HMN : Hid (m + D = dlT (tok (X.take (j + 1)))) := Lib.hid (by omega)
        have hm1 : m ≤ 100000 := by omega
        have hd1 : D ≤ 100000 := by omega
        clear hmn hM t1 t2 t3 t4 t5
        go_wp2_with fail
        go_roundw
        case rel => exact ⟨j + 1, m + D, by omega, by go_num, by go_num, HMN, hxr⟩
        case measure => simp [intOf]; omega
      · have HMN : Hid (m = dlT (tok (X.take (j + 1)))) := Lib.hid (by omega)
        have hkk : (a1 == 3) = false := by rw [beq_eq_false_iff_ne]; exact hk
        clear hmn hM t1 t2 t3 t4 t5 hk
        go_wp2_with fail
        go_roundw
        case rel => exact ⟨j + 1, m, by omega, by go_num, rfl, HMN, hxr⟩
        case measure => simp [intOf]; omega
    · obtain rfl : j = q := by omega
      have hall : X.take j = X := by rw [← HL.out]; exact List.take_length
      have dn : decide (j < j) = false := by rw [decide_eq_false_iff_not]; omega
      have hM := HM.out
      rw [hall] at hM
      have HM2 := Lib.hid hM
      clear hM hall HM
      go_wp2_with fail
      go_ret
      rw [HM2.out]
      exact ⟨rfl, hxr⟩
theorem underDrops_c (A0 : Option Addr) (q0 c0 : Nat) (l0 : List Sp) (A1 : Option Addr) (q1 c1 : Nat) (l1 : List Sp) (n : Int) (w : World) [Tab w] (h0 : Rd w 3 (.slice A0 q0 c0) q0 (spCells l0)) (hl0 : l0.length = q0) (hls0 : ∀ s ∈ l0, s.2.2.size ≤ maxLen) (h1 : Rd w 3 (.slice A1 q1 c1) q1 (spCells l1)) (hl1 : l1.length = q1) (hls1 : ∀ s ∈ l1, s.2.2.size ≤ maxLen) (hn : (Lit.int .u8 n).wf = true) :
    Calls Tryd.prog 8 #[.slice A0 q0 c0, .slice A1 q1 c1, .int .u8 n] w fun e w' => e = .returned (.bool true) ∧ Below w.heap.size w w' := by
  obtain ⟨n0, n1⟩ := bounds_u8 hn
  obtain ⟨M, hM, hM0, hM1⟩ : ∃ M : Int, n % 64 = M ∧ 0 ≤ M ∧ M ≤ 63 := ⟨n % 64, rfl, by omega, by omega⟩
  have HFX : Hid (∀ w', Ext w w' → Calls Tryd.prog 10 #[.slice A0 q0 c0, .int .i64 M] w' (TellsL w' (fitL l0 M))) := Lib.hid fun w' hx => fitG A0 q0 c0 l0 M h0 hl0 hls0 hM0 (by omega) hx
  have HFY : Hid (∀ w', Ext w w' → Calls Tryd.prog 10 #[.slice A1 q1 c1, .int .i64 M] w' (TellsL w' (fitL l1 M))) := Lib.hid fun w' hx => fitG A1 q1 c1 l1 M h1 hl1 hls1 hM0 (by omega) hx
  obtain ⟨gX, iX, oX0, oX1, lX, tX⟩ := good_fit l0 M hM0 (by omega)
  obtain ⟨gY, iY, oY0, oY1, lY, tY⟩ := good_fit l1 M hM0 (by omega)
  clear h0 hl0 hls0 h1 hl1 hls1 hn
  generalize fitL l0 M = X at *
  generalize fitL l1 M = Y at *
  obtain ⟨gB, B2, B3, B4, B5, B6⟩ := good_over gX gY (by omega) (by omega) (by omega)
  obtain ⟨gA, A2, A3, A4, A5, A6⟩ := good_under gY gX (by omega) (by omega) (by omega)
  have hm := meet_out (tok X) (tok Y) (by have := gX.tin; have := gY.tin; omega)
  have hob : outL (overL X Y) = outL (underL Y X) := by
    have h1 := gB.tout; have h2 := gA.tout
    rw [B2] at h1; rw [A2] at h2
    omega
  have e1 := dlT_le (tok X); have e2 := dlT_le (tok Y); have e3 := dlT_le (tok (overL X Y)); have e4 := dlT_le (tok (underL Y X))
  have t1 := gX.tin; have t2 := gY.tin; have t3 := gB.tin; have t4 := gA.tin
  have ib := gB.inb; have ia := gA.inb
  have HM : Hid (∀ A n k B m d w', Ext w w' → RdO w' A n k X → RdO w' B m d Y → Calls Tryd.prog 14 #[.slice A n k, .slice B m d] w' (TellsM w' (overL X Y) (underL Y X))) := Lib.hid fun A n k B m d w' hx hr hs => meetG gX gY (by omega) hx hr hs
  have CB : Hid (∀ A n k w', Ext w w' → RdO w' A n k (overL X Y) → Calls Tryd.prog 20 #[.slice A n k] w' fun e w'' => e = .returned (.int .i64 (outL Y)) ∧ Ext w' w'') := Lib.hid fun A n k w' hx hr => by
    have h := inG gB hx hr
    rw [B4] at h; exact h
  have CA : Hid (∀ A n k w', Ext w w' → RdO w' A n k (underL Y X) → Calls Tryd.prog 20 #[.slice A n k] w' fun e w'' => e = .returned (.int .i64 (outL X)) ∧ Ext w' w'') := Lib.hid fun A n k w' hx hr => by
    have h := inG gA hx hr
    rw [A4] at h; exact h
  have OB : Hid (∀ A n k w', Ext w w' → RdO w' A n k (overL X Y) → Calls Tryd.prog 21 #[.slice A n k] w' fun e w'' => e = .returned (.int .i64 (outL (underL Y X))) ∧ Ext w' w'') := Lib.hid fun A n k w' hx hr => by
    have h := outG gB hx hr
    rw [hob] at h; exact h
  have OA : Hid (∀ A n k w', Ext w w' → RdO w' A n k (underL Y X) → Calls Tryd.prog 21 #[.slice A n k] w' fun e w'' => e = .returned (.int .i64 (outL (underL Y X))) ∧ Ext w' w'') := Lib.hid fun A n k w' hx hr => outG gA hx hr
  have DX : Hid (∀ A n k w', RdO w' A n k X → _) := Lib.hid fun A n k w' hr => drops12_c gX w' hr
  have DY : Hid (∀ A n k w', RdO w' A n k Y → _) := Lib.hid fun A n k w' hr => drops12_c gY w' hr
  have DB : Hid (∀ A n k w', RdO w' A n k (overL X Y) → _) := Lib.hid fun A n k w' hr => drops12_c gB w' hr
  have DA : Hid (∀ A n k w', RdO w' A n k (underL Y X) → _) := Lib.hid fun A n k w' hr => drops12_c gA w' hr
  rw [B2] at DB e3; rw [A2] at DA e4
  obtain ⟨d1, hd1⟩ : ∃ d, dlT (tok Y) = d := ⟨_, rfl⟩
  obtain ⟨d2, hd2⟩ : ∃ d, dlT (overT (tok X) (tok Y)) = d := ⟨_, rfl⟩
  obtain ⟨d3, hd3⟩ : ∃ d, dlT (tok X) = d := ⟨_, rfl⟩
  obtain ⟨d4, hd4⟩ : ∃ d, dlT (underT (tok Y) (tok X)) = d := ⟨_, rfl⟩
  rw [hd1, hd2, hd3, hd4] at hm
  rw [hd3] at DX e1; rw [hd1] at DY e2; rw [hd2] at DB e3; rw [hd4] at DA e4
  have b1 : d1 ≤ 200000 := by omega
  have b2 : d2 ≤ 200000 := by rw [B2] at t3; omega
  have b3 : d3 ≤ 200000 := by omega
  have b4 : d4 ≤ 200000 := by rw [A2] at t4; omega
  have hsum : (d1 : Int) + (d2 : Int) = (d3 : Int) + (d4 : Int) := by omega
  have hbq : ((d1 : Int) + (d2 : Int) == (d3 : Int) + (d4 : Int)) = true := by rw [beq_iff_eq]; exact hsum
  clear iX oX1 lX tX iY oY1 lY tY B2 B3 B4 B5 B6 A2 A3 A4 A5 A6 hm hob e1 e2 e3 e4 t1 t2 t3 t4 ib ia hd1 hd2 hd3 hd4 hsum gA gB
  generalize overL X Y = B at *
  generalize underL Y X = Z at *
  go_enter Tryd.func8, Tryd.ntmps8
  go_wp2_with fail
  refine (shown12_c _).mono ?_; rintro e w1 ⟨rfl, hx1⟩
  have e1 : Ext w w1 := hx1
  clear hx1
  go_wp2_with fail
  refine (HFX.out _ e1).mono ?_; rintro e w2 ⟨hx2, aX, nX, cX, rfl, rX⟩
  have e2 : Ext w w2 := e1.trans hx2
  have RX := Lib.hid rX
  clear hx2 rX
  go_wp2_with fail
  refine (HFY.out _ e2).mono ?_; rintro e w3 ⟨hx3, aY, nY, cY, rfl, rY⟩
  have e3 : Ext w w3 := e2.trans hx3
  replace RX := Lib.hid (RX.out.ext hx3)
  have RY := Lib.hid rY
  clear hx3 rY
  go_wp2_with fail
  refine (HM.out _ _ _ _ _ _ _ e3 RX.out RY.out).mono ?_; rintro e w4 ⟨hx4, aB, nB, cB, aZ, nZ, cZ, rfl, rB, rZ⟩
  have e4 : Ext w w4 := e3.trans hx4
  replace RX := Lib.hid (RX.out.ext hx4)
  replace RY := Lib.hid (RY.out.ext hx4)
  have RB := Lib.hid rB; have RZ := Lib.hid rZ
  clear hx4 rB rZ
  go_wp2_with fail
  refine (CB.out _ _ _ _ e4 RB.out).mono ?_; rintro e w5 ⟨rfl, hx5⟩
  have e5 : Ext w w5 := e4.trans hx5
  replace RX := Lib.hid (RX.out.ext hx5)
  replace RY := Lib.hid (RY.out.ext hx5)
  replace RB := Lib.hid (RB.out.ext hx5)
  replace RZ := Lib.hid (RZ.out.ext hx5)
  clear hx5
  go_wp2_with fail
  refine (outG gY e5 RY.out).mono ?_; rintro e w6 ⟨rfl, hx6⟩
  have e6 : Ext w w6 := e5.trans hx6
  replace RX := Lib.hid (RX.out.ext hx6)
  replace RY := Lib.hid (RY.out.ext hx6)
  replace RB := Lib.hid (RB.out.ext hx6)
  replace RZ := Lib.hid (RZ.out.ext hx6)
  clear hx6
  go_wp2_with fail
  refine (CA.out _ _ _ _ e6 RZ.out).mono ?_; rintro e w7 ⟨rfl, hx7⟩
  have e7 : Ext w w7 := e6.trans hx7
  replace RX := Lib.hid (RX.out.ext hx7)
  replace RY := Lib.hid (RY.out.ext hx7)
  replace RB := Lib.hid (RB.out.ext hx7)
  replace RZ := Lib.hid (RZ.out.ext hx7)
  clear hx7
  go_wp2_with fail
  refine (outG gX e7 RX.out).mono ?_; rintro e w8 ⟨rfl, hx8⟩
  have e8 : Ext w w8 := e7.trans hx8
  replace RX := Lib.hid (RX.out.ext hx8)
  replace RY := Lib.hid (RY.out.ext hx8)
  replace RB := Lib.hid (RB.out.ext hx8)
  replace RZ := Lib.hid (RZ.out.ext hx8)
  clear hx8
  go_wp2_with fail
  refine (OB.out _ _ _ _ e8 RB.out).mono ?_; rintro e w9 ⟨rfl, hx9⟩
  have e9 : Ext w w9 := e8.trans hx9
  replace RX := Lib.hid (RX.out.ext hx9)
  replace RY := Lib.hid (RY.out.ext hx9)
  replace RB := Lib.hid (RB.out.ext hx9)
  replace RZ := Lib.hid (RZ.out.ext hx9)
  clear hx9
  go_wp2_with fail
  refine (OA.out _ _ _ _ e9 RZ.out).mono ?_; rintro e w10 ⟨rfl, hx10⟩
  have e10 : Ext w w10 := e9.trans hx10
  replace RX := Lib.hid (RX.out.ext hx10)
  replace RY := Lib.hid (RY.out.ext hx10)
  replace RB := Lib.hid (RB.out.ext hx10)
  replace RZ := Lib.hid (RZ.out.ext hx10)
  clear hx10
  go_wp2_with fail
  refine (DY.out _ _ _ _ RY.out).mono ?_; rintro e w11 ⟨rfl, hx11⟩
  have e11 : Ext w w11 := e10.trans hx11
  replace RX := Lib.hid (RX.out.ext hx11)
  replace RY := Lib.hid (RY.out.ext hx11)
  replace RB := Lib.hid (RB.out.ext hx11)
  replace RZ := Lib.hid (RZ.out.ext hx11)
  clear hx11
  go_wp2_with fail
  refine (DB.out _ _ _ _ RB.out).mono ?_; rintro e w12 ⟨rfl, hx12⟩
  have e12 : Ext w w12 := e11.trans hx12
  replace RX := Lib.hid (RX.out.ext hx12)
  replace RY := Lib.hid (RY.out.ext hx12)
  replace RB := Lib.hid (RB.out.ext hx12)
  replace RZ := Lib.hid (RZ.out.ext hx12)
  clear hx12
  go_wp2_with fail
  refine (DX.out _ _ _ _ RX.out).mono ?_; rintro e w13 ⟨rfl, hx13⟩
  have e13 : Ext w w13 := e12.trans hx13
  replace RX := Lib.hid (RX.out.ext hx13)
  replace RY := Lib.hid (RY.out.ext hx13)
  replace RB := Lib.hid (RB.out.ext hx13)
  replace RZ := Lib.hid (RZ.out.ext hx13)
  clear hx13
  go_wp2_with fail
  refine (DA.out _ _ _ _ RZ.out).mono ?_; rintro e w14 ⟨rfl, hx14⟩
  have e14 : Ext w w14 := e13.trans hx14
  replace RX := Lib.hid (RX.out.ext hx14)
  replace RY := Lib.hid (RY.out.ext hx14)
  replace RB := Lib.hid (RB.out.ext hx14)
  replace RZ := Lib.hid (RZ.out.ext hx14)
  clear hx14
  go_wp2_with fail
  go_ret
  exact ⟨rfl, e14⟩
end Go.Proofs.YtmhkglkpkpkpoaaDoor
