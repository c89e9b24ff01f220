/- Layer 10, FuseAll. -/
import Derived.Test.YtcelgdoaohkgnaaDoorL10a
namespace Go.Proofs.YtcelgdoaohkgnaaDoor
open Go.RowKit
set_option maxRecDepth 100000
set_option maxHeartbeats 4000000
/-- What a function answers that tells a row of operations. -/
def TellsSS (w : World) (L : List (List Sp)) (e : Ending) (w' : World) : Prop := Ext w w' ∧ ∃ A n c, e = .returned (.slice A n c) ∧ RdSS w' A n c L
def TellsX (w : World) (E : Int) (L : List Sp) (e : Ending) (w' : World) : Prop := Ext w w' ∧ ∃ A n c, e = .returned (.tuple #[.slice A n c, .int .i64 E]) ∧ RdO w' A n c L
theorem OpR.fuse {w w' : World} {e : Ending} {m : Int} {ls : List (List Sp)} (h : OpR w (chainE m ls) (fuseL m ls) e w') : TellsX w (chainE m ls) (fuseL m ls) e w' := by
  obtain ⟨hx, A, n, c, rfl, hr⟩ := h
  refine ⟨hx, A, n, c, rfl, ?_⟩
  have e : (if chainE m ls = 0 then fuseL m ls else []) = fuseL m ls := by
    by_cases h : chainE m ls = 0
    · rw [if_pos h]
    · rw [if_neg h]; unfold fuseL; rw [if_neg h]
  rw [e] at hr
  exact hr
theorem lenS_le (ls : List (List Sp)) (k : Nat) (h : ∀ l ∈ ls, l.length ≤ k) : lenS ls ≤ ls.length * k := by
  induction ls with
  | nil => exact Nat.zero_le _
  | cons l r ih =>
    have h1 := h l (List.mem_cons_self ..)
    have h2 := ih fun x hx => h x (List.mem_cons_of_mem _ hx)
    rw [lenS_cons, List.length_cons, Nat.add_mul]; omega
theorem fewS_small (ls : List (List Sp)) : Small (fewS ls) ∧ lenS (fewS ls) ≤ 160 := by
  have hl := fewS_len ls
  have hm : ∀ l ∈ fewS ls, l.length ≤ 20 ∧ sumT l ≤ 1200 := fun l hl => by
    unfold fewS at hl
    obtain ⟨x, _, rfl⟩ := List.mem_map.1 hl
    have h1 := fewL10_len x
    have h2 := sumT_le (fewL10 x) 60 (fewL10_size x)
    omega
  have h1 := lenS_le _ 20 fun l hl => (hm l hl).1
  have h2 := sumTT_le _ 1200 fun l hl => (hm l hl).2
  exact ⟨⟨by omega, by omega, by omega⟩, by omega⟩
theorem few10G {A : Option Addr} {q c : Nat} {ls : List (List Sp)} {w' : World} (h : RdSS w' A q c ls) (hs : ∀ l ∈ ls, ∀ s ∈ l, s.2.2.size ≤ maxLen) :
    Calls Tryd.prog 21 #[.slice A q c] w' (TellsSS w' (fewS ls)) := by
  refine (few10_c A q c ls w' h hs).mono ?_
  rintro e w'' ⟨v, rfl, hx, ho⟩
  obtain ⟨A', c', rfl, _, hr⟩ := ho.rd
  exact ⟨hx, A', _, c', rfl, hr⟩
theorem chainRG {A : Option Addr} {q c : Nat} {ls : List (List Sp)} {M : Int} {w' : World} (h : RdSS w' A q c ls) (hs : ∀ l ∈ ls, ∀ s ∈ l, s.2.2.size ≤ maxLen) (h0 : 0 ≤ M) (h1 : M ≤ 1000) :
    Calls Tryd.prog 25 #[.slice A q c, .int .i64 M] w' (TellsSS w' (chainL (ls.take 20) M)) := by
  refine (chainR4_c A q c ls M w' h hs h0 h1).mono ?_
  rintro e w'' ⟨v, rfl, hx, ho⟩
  obtain ⟨A', c', rfl, _, hr⟩ := ho.rd
  exact ⟨hx, A', _, c', rfl, hr⟩
/-- A chain that was made, and what it comes to. -/
theorem made_chain (ls : List (List Sp)) (M : Int) (h0 : 0 ≤ M) (h1 : M ≤ 1000) : ∃ k, Small (chainL (ls.take 20) M) ∧ Thru M (chainL (ls.take 20) M) k ∧ lenS (chainL (ls.take 20) M) ≤ 260 ∧ sumTT (chainL (ls.take 20) M) ≤ 6240 ∧ (chainL (ls.take 20) M).length ≤ 20 := by
  have hl : (ls.take 20).length ≤ 20 := by rw [List.length_take]; omega
  obtain ⟨a1, a2⟩ := chainL_lenS (ls.take 20) M
  exact ⟨_, small_chain _ M hl, fit_chain _ M h0 (by omega), by omega, by omega, by rw [chainL_len]; exact hl⟩
theorem fuseAll_c (n : Int) (A0 : Option Addr) (q0 c0 : Nat) (ls : List (List Sp)) (m : Int) (w : World) [Tab w] (_hn : (Lit.int .i64 n).wf = true) (h0 : RdSS w A0 q0 c0 ls) (hls : ∀ l ∈ ls, ∀ s ∈ l, s.2.2.size ≤ maxLen) (hm : (Lit.int .u8 m).wf = true) :
    Calls Tryd.prog 4 #[.int .i64 n, .slice A0 q0 c0, .int .u8 m] w fun e w' => e = .returned (.bool true) ∧ Below w.heap.size w w' := by
  obtain ⟨n0, n1⟩ := bounds_u8 hm
  obtain ⟨M, hM, hM0, hM1⟩ : ∃ M : Int, m % 64 = M ∧ 0 ≤ M ∧ M ≤ 63 := ⟨m % 64, rfl, by omega, by omega⟩
  have HF : Hid (∀ w', Ext w w' → Calls Tryd.prog 21 #[.slice A0 q0 c0] w' (TellsSS w' (fewS ls))) := Lib.hid fun w' hx => few10G (h0.ext hx) hls
  have HW : Hid (∀ w', Ext w w' → Calls Tryd.prog 25 #[.slice A0 q0 c0, .int .i64 M] w' (TellsSS w' (chainL (ls.take 20) M))) := Lib.hid fun w' hx => chainRG (h0.ext hx) hls hM0 (by omega)
  obtain ⟨SF, lF⟩ := fewS_small ls
  obtain ⟨k, SW, TW, lW, tW, nW⟩ := made_chain ls M hM0 (by omega)
  have OF : Hid (∀ A k c w', Ext w w' → RdSS w' A k c (fewS ls) → Calls Tryd.prog 20 #[.int .i64 n, .slice A k c] w' (TellsX w' (chainE n (fewS ls)) (fuseL n (fewS ls)))) := Lib.hid fun A k c w' hx hr => have hTb := tab_ext hx; (of10_c A k c _ n w' hr SF).mono fun _ _ h => h.fuse
  have OR : Hid (∀ A k c w', RdSS w' A k c (fewS ls) → Calls Tryd.prog 22 #[.int .i64 n, .slice A k c] w' (TellsX w' (chainE n (fewS ls)) (fuseL n (fewS ls)))) := Lib.hid fun A k c w' hr => (ofR10_c A k c _ n w' hr SF).mono fun _ _ h => h.fuse
  have CF : Hid (∀ A k c w', Ext w w' → RdSS w' A k c (fewS ls) → _) := Lib.hid fun A k c w' hx hr => have hTb := tab_ext hx; chain10_c A k c _ n w' hr SF.each SF.txt (by have := hr.1; have := SF.num; omega)
  have CR : Hid (∀ A k c w', RdSS w' A k c (fewS ls) → _) := Lib.hid fun A k c w' hr => chainR10_c A k c _ n w' hr SF.each SF.txt (by have := hr.1; have := SF.num; omega)
  obtain ⟨e1, e2, e3⟩ := thru_chainE TW (by omega)
  have OW : Hid (∀ A k c w', Ext w w' → RdSS w' A k c (chainL (ls.take 20) M) → Calls Tryd.prog 20 #[.int .i64 M, .slice A k c] w' (TellsE w' (spT (fR M (chainL (ls.take 20) M))))) := Lib.hid fun A k c w' hx hr => fuseG SW TW (by omega) hx hr
  have OS : Hid (∀ A k c w', RdSS w' A k c (chainL (ls.take 20) M) → Calls Tryd.prog 22 #[.int .i64 M, .slice A k c] w' (TellsE w' (spT (fR M (chainL (ls.take 20) M))))) := Lib.hid fun A k c w' hr => by
    refine (ofR10_c A k c _ M w' hr SW).mono ?_
    rintro e w'' ⟨hx, A', n', c', rfl, hr⟩
    rw [e1, if_pos rfl, e3] at hr
    rw [e1]
    exact ⟨hx, A', n', c', rfl, hr⟩
  have LF : Hid ((fuseL n (fewS ls)).length ≤ 300) := Lib.hid (by
    unfold fuseL
    split
    · rename_i h
      obtain ⟨a1, a2⟩ := chain_thru h SF.each
      have := (fR_small a2 a1.2).2.2.2.2.2.1
      omega
    · simp)
  have LW : Hid ((spT (fR M (chainL (ls.take 20) M))).length ≤ 300) := Lib.hid (by
    have := (fR_small TW (by omega)).2.2.2.2.2.1
    omega)
  clear SF lF SW TW lW tW nW e1 e2 e3 h0 hls hm
  generalize fuseL n (fewS ls) = X at *
  generalize chainE n (fewS ls) = E at *
  generalize chainN n (fewS ls) = N at *
  generalize spT (fR M (chainL (ls.take 20) M)) = Y at *
  generalize chainL (ls.take 20) M = CW at *
  generalize fewS ls = FS at *
  go_enter Tryd.func4, Tryd.ntmps4
  go_wp2_with fail
  refine (shown10_c _).mono ?_; rintro e w1 ⟨rfl, hx1⟩
  have e1 : Ext w w1 := hx1
  clear hx1
  go_wp2_with fail
  refine (HF.out _ e1).mono ?_; rintro e w2 ⟨hx2, aP, nP, cP, rfl, rP⟩
  have e2 : Ext w w2 := e1.trans hx2
  have RP := Lib.hid rP
  clear hx2 rP
  go_wp2_with fail
  refine (OF.out _ _ _ _ e2 RP.out).mono ?_; rintro e w3 ⟨hx3, aX, nX, cX, rfl, rX⟩
  have e3 : Ext w w3 := e2.trans hx3
  replace RP := Lib.hid (RP.out.ext hx3)
  have RX := Lib.hid rX
  clear hx3 rX
  clear RP
  go_wp2_with fail
  refine (HF.out _ e3).mono ?_; rintro e w4 ⟨hx4, aQ, nQ, cQ, rfl, rQ⟩
  have e4 : Ext w w4 := e3.trans hx4
  replace RX := Lib.hid (RX.out.ext hx4)
  have RQ := Lib.hid rQ
  clear hx4 rQ
  go_wp2_with fail
  refine (OR.out _ _ _ _ RQ.out).mono ?_; rintro e w5 ⟨hx5, aZ, nZ, cZ, rfl, rZ⟩
  have e5 : Ext w w5 := e4.trans hx5
  replace RX := Lib.hid (RX.out.ext hx5)
  replace RQ := Lib.hid (RQ.out.ext hx5)
  have RZ := Lib.hid rZ
  clear hx5 rZ
  clear RQ
  go_wp2_with fail
  refine (HF.out _ e5).mono ?_; rintro e w6 ⟨hx6, aS, nS, cS, rfl, rS⟩
  have e6 : Ext w w6 := e5.trans hx6
  replace RX := Lib.hid (RX.out.ext hx6)
  replace RZ := Lib.hid (RZ.out.ext hx6)
  have RS := Lib.hid rS
  clear hx6 rS
  go_wp2_with fail
  refine (CF.out _ _ _ _ e6 RS.out).mono ?_; rintro e w7 ⟨rfl, hx7⟩
  have e7 : Ext w w7 := e6.trans hx7
  replace RX := Lib.hid (RX.out.ext hx7)
  replace RZ := Lib.hid (RZ.out.ext hx7)
  replace RS := Lib.hid (RS.out.ext hx7)
  clear hx7
  clear RS
  go_wp2_with fail
  refine (HF.out _ e7).mono ?_; rintro e w8 ⟨hx8, aT, nT, cT, rfl, rT⟩
  have e8 : Ext w w8 := e7.trans hx8
  replace RX := Lib.hid (RX.out.ext hx8)
  replace RZ := Lib.hid (RZ.out.ext hx8)
  have RT := Lib.hid rT
  clear hx8 rT
  go_wp2_with fail
  refine (CR.out _ _ _ _ RT.out).mono ?_; rintro e w9 ⟨rfl, hx9⟩
  have e9 : Ext w w9 := e8.trans hx9
  replace RX := Lib.hid (RX.out.ext hx9)
  replace RZ := Lib.hid (RZ.out.ext hx9)
  replace RT := Lib.hid (RT.out.ext hx9)
  clear hx9
  clear RT
  go_wp2_with fail
  refine (HW.out _ e9).mono ?_; rintro e w10 ⟨hx10, aW, nW, cW, rfl, rW⟩
  have e10 : Ext w w10 := e9.trans hx10
  replace RX := Lib.hid (RX.out.ext hx10)
  replace RZ := Lib.hid (RZ.out.ext hx10)
  have RW := Lib.hid rW
  clear hx10 rW
  go_wp2_with fail
  refine (OW.out _ _ _ _ e10 RW.out).mono ?_; rintro e w11 ⟨hx11, aY, nY, cY, rfl, rY⟩
  have e11 : Ext w w11 := e10.trans hx11
  replace RX := Lib.hid (RX.out.ext hx11)
  replace RZ := Lib.hid (RZ.out.ext hx11)
  replace RW := Lib.hid (RW.out.ext hx11)
  have RY := Lib.hid rY
  clear hx11 rY
  go_wp2_with fail
  refine (OS.out _ _ _ _ RW.out).mono ?_; rintro e w12 ⟨hx12, aV, nV, cV, rfl, rV⟩
  have e12 : Ext w w12 := e11.trans hx12
  replace RX := Lib.hid (RX.out.ext hx12)
  replace RZ := Lib.hid (RZ.out.ext hx12)
  replace RW := Lib.hid (RW.out.ext hx12)
  replace RY := Lib.hid (RY.out.ext hx12)
  have RV := Lib.hid rV
  clear hx12 rV
  clear RW
  go_wp2_with fail
  refine (sameTrueG rfl LF.out RX.out RZ.out).mono ?_; rintro e w13 ⟨rfl, hx13⟩
  have e13 : Ext w w13 := e12.trans hx13
  replace RX := Lib.hid (RX.out.ext hx13)
  replace RZ := Lib.hid (RZ.out.ext hx13)
  replace RY := Lib.hid (RY.out.ext hx13)
  replace RV := Lib.hid (RV.out.ext hx13)
  clear hx13
  go_wp2_with fail
  refine (sameTrueG rfl LW.out RY.out RV.out).mono ?_; rintro e w14 ⟨rfl, hx14⟩
  have e14 : Ext w w14 := e13.trans hx14
  replace RX := Lib.hid (RX.out.ext hx14)
  replace RZ := Lib.hid (RZ.out.ext hx14)
  replace RY := Lib.hid (RY.out.ext hx14)
  replace RV := Lib.hid (RV.out.ext hx14)
  clear hx14
  go_wp2_with fail
  go_ret
  exact ⟨rfl, e14⟩
end Go.Proofs.YtcelgdoaohkgnaaDoor
