/- Layer 7, ApplyNormal. -/
import Derived.Test.YtngdlplcdinjdaaDoorL7a
import Derived.Test.YtngdlplcdinjdaaDoorL6b
import Derived.Test.YtngdlplcdinjdaaDoorBs
namespace Go.Proofs.YtngdlplcdinjdaaDoor
open Go.RowKit
set_option maxRecDepth 100000
set_option maxHeartbeats 4000000
theorem sumT_gt (l : List Sp) : ∀ s ∈ l, s.2.2.size ≤ sumT l := by
  induction l with
  | nil => intro s hs; cases hs
  | cons a t ih =>
    intro s hs
    have e : sumT (a :: t) = a.2.2.size + sumT t := rfl
    rcases List.mem_cons.1 hs with rfl | hs
    · omega
    · have := ih s hs; omega
theorem to_norm (X : List Sp) (U : ByteArray) (h : ∀ s ∈ X, mayS s.1 s.2.1 s.2.2 = 0) (h0 : 0 ≤ inL X) (h1 : inL X ≤ 1048576) : toV (normL X) U = toV X U := by
  have hs : sumN X = inL X := (may_sum X h).2
  have hm := norm_may X h (by omega)
  have ha : mayL X = 0 := mayL_ok X h h0 h1
  have hb : mayL (normL X) = 0 := mayL_ok _ hm (by rw [inL_norm]; exact h0) (by rw [inL_norm]; exact h1)
  have ht : tok (normL X) = tok X := tok_norm X fun s hs => okW_of_may (h s hs)
  have he : toE (normL X) U = toE X U := by unfold toE; rw [ha, hb, inL_norm]
  unfold toV toS
  rw [he, ht]
theorem applyNormal_c (s : ByteArray) (A : Option Addr) (q c : Nat) (l : List Sp) (w : World) [Tab w] (hs : s.size ≤ maxLen) (h : Rd w 3 (.slice A q c) q (spCells l)) (hl : l.length = q) (hls : ∀ s ∈ l, s.2.2.size ≤ maxLen) :
    Calls Tryd.prog 5 #[.string s, .slice A q c] w fun e w' => e = .returned (.bool true) ∧ Below w.heap.size w w' := by
  obtain ⟨T, cs, hm1, hm2, hTl, hT0, hsz, HFIT, HCP, hcl, hUs, HD⟩ := cut_fit s 60 60 rfl (by omega) hs
  have hV := to_fit l cs (mkS (encs cs)) HD.out (by omega)
  have hN : toV (normL (fitL l cs.length)) (mkS (encs cs)) = toV (fitL l cs.length) (mkS (encs cs)) := by
    obtain ⟨h1, h2⟩ := fitL_all l (cs.length : Int) (by omega) (by omega)
    exact to_norm _ _ h1 (by omega) (by omega)
  rw [hV] at hN
  obtain ⟨f1, f2, f3, f4, f5, f6, f7⟩ := fit_all l cs.length (by omega) (by omega)
  have hap := apT_length (tok (fitL l cs.length)) cs (by have := (tin_ok _ f1).1; omega)
  have hto := (tin_ok _ f1).2
  have hob := outL_le _ f1
  have h312 := fit_sumT l cs.length
  have hcpa := apT_cp (tok (fitL l cs.length)) cs (tok_okT _ f1) HCP.out
  have hraw := raw_norm _ f1
  have hse := spansE_gaps _ f1 (by omega)
  have HFL : Hid (∀ w', Ext w w' → _) := Lib.hid fun w' hx => fitR4_c A q c l cs.length w' (h.ext hx) hl hls (by omega) (by omega)
  generalize fitL l cs.length = X at *
  have hwo : wrap64 (outL X) = outL X := by unfold wrap64; omega
  obtain ⟨cs', hcs'⟩ : ∃ cs', apT (tok X) cs = cs' := ⟨_, rfl⟩
  rw [hcs'] at hV hN hap hcpa
  have hcn : cntF (bs (mkS (encs cs'))) = outL X := by rw [cntF_some (by rw [bs_mkS]; exact dec_encs hcpa)]; omega
  have hss : (mkS (encs cs')).size ≤ 1000000000 := by rw [size_mkS]; have := encs_le cs'; omega
  have hplen : (putC (gpP (tok X))).length = cs.length + 1 := by
    have := (tin_ok X f1).1
    rw [← gpD_length, f2] at this
    rw [putC_length, gpP_length]; omega
  have hdlen : (gpD (tok X)).length = cs.length := by
    have := (tin_ok X f1).1
    rw [← gpD_length, f2] at this; omega
  have hpt : ∀ t ∈ putC (gpP (tok X)), t.size ≤ 1000000000 := by
    intro t ht
    obtain ⟨p, hp, rfl⟩ := List.mem_map.1 ht
    have := gpP_le _ p hp
    have := insT_sum X f1
    rw [size_mkS]; omega
  have hpsum : ((putC (gpP (tok X))).map fun t => t.size).sum ≤ 1000000000 := by
    have := insT_sum X f1
    rw [gpP_sum]; omega
  have hnl := norm_len X
  have hok2 := f4.norm
  have hnsz : ∀ s ∈ normL X, s.2.2.size ≤ 1000000000 := by
    have h3 : sumT (normL X) ≤ 1000000000 := by rw [sumT_norm]; exact f7
    intro s hs
    have h4 : s.2.2.size ≤ sumT (normL X) := sumT_gt _ s hs
    omega
  obtain ⟨M, hM⟩ : ∃ M, cs.length = M := ⟨_, rfl⟩
  have hcU := cnt_U cs _ HD.out
  rw [hM] at hcU hplen hdlen f2 HFL
  have HCU : Hid (∀ w', Calls Tryd.prog 15 #[.string (mkS (encs cs))] w' fun e w'' => e = .returned (.int .i64 (M : Int)) ∧ Ext w' w'') := Lib.hid fun w' => by
    have h := count_c (mkS (encs cs)) w' (by omega); rw [hcU] at h; exact h
  have HCS : Hid (∀ w', Calls Tryd.prog 15 #[.string (mkS (encs cs'))] w' fun e w'' => e = .returned (.int .i64 (outL X)) ∧ Ext w' w'') := Lib.hid fun w' => by
    have h := count_c (mkS (encs cs')) w' hss; rw [hcn] at h; exact h
  have HOX : Hid (∀ A n k w', Ext w w' → RdO w' A n k X → Calls Tryd.prog 22 #[.slice A n k] w' fun e w'' => e = .returned (.int .i64 (outL X)) ∧ Ext w' w'') := Lib.hid fun A n k w' hx hr => by
    have hTb := tab_ext hx
    have h := out4_c A n k X w' hr.2 hr.1 (by have := hr.1; omega) f6
    rw [hwo] at h; exact h
  have HTX : Hid (∀ A n k w', Ext w w' → RdO w' A n k X → Calls Tryd.prog 10 #[.slice A n k, .string (mkS (encs cs))] w' fun e w'' => e = .returned (.tuple #[.string (mkS (encs cs')), .int .i64 0]) ∧ Ext w' w'') := Lib.hid fun A n k w' hx hr => by
    have hTb := tab_ext hx
    have h := to_c A n k X (mkS (encs cs)) w' hr.2 hr.1 (by have := hr.1; omega) f6 f7 (by omega)
    rw [hV] at h; exact h
  have HTN : Hid (∀ A n k w', Ext w w' → RdO w' A n k (normL X) → Calls Tryd.prog 10 #[.slice A n k, .string (mkS (encs cs))] w' fun e w'' => e = .returned (.tuple #[.string (mkS (encs cs')), .int .i64 0]) ∧ Ext w' w'') := Lib.hid fun A n k w' hx hr => by
    have hTb := tab_ext hx
    have h := to_c A n k (normL X) (mkS (encs cs)) w' hr.2 hr.1 (by have := hr.1; omega) hnsz (by rw [sumT_norm]; exact f7) (by omega)
    rw [hN] at h; exact h
  have HNO : Hid (∀ A n k w', RdO w' A n k X → Calls Tryd.prog 19 #[.slice A n k] w' fun e w'' => (∃ A n c, e = .returned (.slice A n c) ∧ RdO w'' A n c (normL X)) ∧ Ext w' w'') := Lib.hid fun A n k w' hr => by
    refine (of5_c A n k X w' hr.2 hr.1 (by have := hr.1; omega) f4).mono ?_
    rintro e w'' ⟨v, rfl, hx, ho⟩
    obtain ⟨A, n, c, rfl, hro⟩ := rdO_own ho
    exact ⟨⟨A, n, c, rfl, hro⟩, hx⟩
  have HG : Hid (∀ A n k w', Ext w w' → RdO w' A n k X → _) := Lib.hid fun A n k w' hx hr => have hTb := tab_ext hx; (gaps_c A n k X w' hr.2 hr.1 (by have := hr.1; omega) f6 f7).mono fun e w'' h => h.ok f3 f2
  have HS : Hid (∀ A c B d w', Ext w w' → Rd w' 1 (.slice A (M + 1) c) (M + 1) ((putC (gpP (tok X))).map Value.string) → Rd w' 1 (.slice B M d) M ((gpD (tok X)).map Value.bool) → Calls Tryd.prog 21 #[.agg #[.slice A (M + 1) c, .slice B M d]] w' fun e w'' => (∃ A n c, e = .returned (.tuple #[.slice A n c, .int .i64 0]) ∧ RdO w'' A n c (normL X)) ∧ Ext w' w'') := Lib.hid fun A c B d w' hx hr1 hr2 => by
    have hTb := tab_ext hx
    refine (spans_c A B (M + 1) c M d _ _ w' hr1 hr2 hplen hdlen (by omega) (by omega) hpt hpsum).mono ?_
    rintro e w'' ⟨hx, ⟨h1, _⟩ | ⟨_, v, rfl, hr⟩⟩
    · exact absurd hse h1
    · rw [hraw] at hr
      obtain ⟨A, n, c, rfl, hro⟩ := rdO_rd hr
      exact ⟨⟨A, n, c, rfl, hro⟩, hx⟩
  clear h hl hls hs hV hN f1 f2 f3 f4 f6 f7 hap hto hcpa hraw hse hcn hss hplen hdlen hpt hpsum hnl hok2 hnsz hM hcU hcs' HCP HD hob h312 hwo
  generalize normL X = Y at *
  generalize outL X = OX at *
  generalize mkS (encs cs) = U at *
  generalize mkS (encs cs') = S at *
  generalize (putC (gpP (tok X))).map Value.string = PS at *
  generalize (gpD (tok X)).map Value.bool = DS at *
  go_enter Tryd.func5, Tryd.ntmps5
  go_wp2_with fail
  refine (shown7_c _).mono ?_; rintro e w1 ⟨rfl, hx1⟩
  have e1 : Ext w w1 := hx1
  clear hx1
  go_wp2_with fail
  refine (HFIT.out _).mono ?_; rintro e w2 ⟨rfl, hx2⟩
  have e2 : Ext w w2 := e1.trans hx2
  clear hx2
  go_wp2_with fail
  refine (HCU.out _).mono ?_; rintro e w3 ⟨rfl, hx3⟩
  have e3 : Ext w w3 := e2.trans hx3
  clear hx3
  go_wp2_with fail
  refine (HFL.out _ e3).mono ?_; rintro e w4 ⟨v4, rfl, hx4, o4⟩
  have e4 : Ext w w4 := e3.trans hx4
  obtain ⟨aX, nX, cX, rfl, rX⟩ := rdO_own o4
  have RX := Lib.hid rX
  clear o4 rX
  clear hx4
  go_wp2_with fail
  refine (HTX.out _ _ _ _ e4 RX.out).mono ?_; rintro e w5 ⟨rfl, hx5⟩
  have e5 : Ext w w5 := e4.trans hx5
  replace RX := Lib.hid (RX.out.ext hx5)
  clear hx5
  go_wp2_with fail
  refine (HNO.out _ _ _ _ RX.out).mono ?_; rintro e w6 ⟨⟨aN, nN, cN, rfl, rN⟩, hx6⟩
  have e6 : Ext w w6 := e5.trans hx6
  replace RX := Lib.hid (RX.out.ext hx6)
  have RN := Lib.hid rN
  clear rN
  clear hx6
  go_wp2_with fail
  refine (HTN.out _ _ _ _ e6 RN.out).mono ?_; rintro e w7 ⟨rfl, hx7⟩
  have e7 : Ext w w7 := e6.trans hx7
  replace RX := Lib.hid (RX.out.ext hx7)
  replace RN := Lib.hid (RN.out.ext hx7)
  clear hx7
  clear RN
  go_wp2_with fail
  refine (HG.out _ _ _ _ e7 RX.out).mono ?_; rintro e w8 ⟨gA, gc, gB, gd, rfl, hx8, rP, rD⟩
  have e8 : Ext w w8 := e7.trans hx8
  replace RX := Lib.hid (RX.out.ext hx8)
  have RP := Lib.hid rP; have RD := Lib.hid rD
  clear rP rD
  clear hx8
  have BG := Lib.hid (BoxG.made w8 #[.slice gA (M + 1) gc, .slice gB M gd] 40)
  replace RX := Lib.hid (RX.out.ext ((Ext.refl w8).alloc (.cells #[.slice gA (M + 1) gc, .slice gB M gd] 40)))
  replace RP := Lib.hid (RP.out.ext ((Ext.refl w8).alloc (.cells #[.slice gA (M + 1) gc, .slice gB M gd] 40)))
  replace RD := Lib.hid (RD.out.ext ((Ext.refl w8).alloc (.cells #[.slice gA (M + 1) gc, .slice gB M gd] 40)))
  have e9 : Ext w (w8.alloc (.cells #[.slice gA (M + 1) gc, .slice gB M gd] 40)) := e8.alloc _
  have q0 : (w8.alloc (.cells #[.slice gA (M + 1) gc, .slice gB M gd] 40)).cell? ⟨w8.heap.size, 0, none⟩ = some (.slice gA (M + 1) gc) := BG.out.2 0 _ rfl
  have q1 : (w8.alloc (.cells #[.slice gA (M + 1) gc, .slice gB M gd] 40)).cell? ⟨w8.heap.size, 1, none⟩ = some (.slice gB M gd) := BG.out.2 1 _ rfl
  go_wp2_with fail
  refine (HS.out _ _ _ _ _ e9 RP.out RD.out).mono ?_; rintro e w10 ⟨⟨aK, nK, cK, rfl, rK⟩, hx10⟩
  have e10 : Ext w w10 := e9.trans hx10
  replace RX := Lib.hid (RX.out.ext hx10)
  replace RP := Lib.hid (RP.out.ext hx10)
  replace RD := Lib.hid (RD.out.ext hx10)
  replace BG := Lib.hid (BG.out.ext hx10)
  have RK := Lib.hid rK
  clear rK q0 q1
  clear hx10
  go_wp2_with fail
  refine (HTN.out _ _ _ _ e10 RK.out).mono ?_; rintro e w11 ⟨rfl, hx11⟩
  have e11 : Ext w w11 := e10.trans hx11
  replace RX := Lib.hid (RX.out.ext hx11)
  replace RP := Lib.hid (RP.out.ext hx11)
  replace RD := Lib.hid (RD.out.ext hx11)
  replace BG := Lib.hid (BG.out.ext hx11)
  replace RK := Lib.hid (RK.out.ext hx11)
  clear hx11
  go_wp2_with fail
  refine (HCS.out _).mono ?_; rintro e w12 ⟨rfl, hx12⟩
  have e12 : Ext w w12 := e11.trans hx12
  replace RX := Lib.hid (RX.out.ext hx12)
  replace RP := Lib.hid (RP.out.ext hx12)
  replace RD := Lib.hid (RD.out.ext hx12)
  replace BG := Lib.hid (BG.out.ext hx12)
  replace RK := Lib.hid (RK.out.ext hx12)
  clear hx12
  go_wp2_with fail
  refine (HOX.out _ _ _ _ e12 RX.out).mono ?_; rintro e w13 ⟨rfl, hx13⟩
  have e13 : Ext w w13 := e12.trans hx13
  replace RX := Lib.hid (RX.out.ext hx13)
  replace RP := Lib.hid (RP.out.ext hx13)
  replace RD := Lib.hid (RD.out.ext hx13)
  replace BG := Lib.hid (BG.out.ext hx13)
  replace RK := Lib.hid (RK.out.ext hx13)
  clear hx13
  go_wp2_with fail
  go_ret
  exact ⟨rfl, e13⟩
end Go.Proofs.YtngdlplcdinjdaaDoor
