/- Layer 10, FuseDoes. -/
import Derived.Test.YtcelgdoaohkgnaaDoorL10b
import Derived.Test.YtcelgdoaohkgnaaDoorL7a
namespace Go.Proofs.YtcelgdoaohkgnaaDoor
open Go.RowKit
set_option maxRecDepth 100000
set_option maxHeartbeats 4000000
theorem toE10 {X : List Sp} (hok : ∀ s ∈ X, OkW s) (cs : List Nat) (hcp : ∀ c ∈ cs, IsCp c) (hl : (cs.length : Int) = inL X) (hb : inL X ≤ 1048576) : toE X (mkS (encs cs)) = 0 ∧ toS X (mkS (encs cs)) = mkS (encs (apT (tok X) cs)) := by
  have hd : dec (bs (mkS (encs cs))) = some cs := by rw [bs_mkS]; exact dec_encs hcp
  have hE : toE X (mkS (encs cs)) = 0 := by unfold toE; rw [if_pos (okW_mayL X hok hb).1, hd]; exact if_pos hl
  refine ⟨hE, ?_⟩
  unfold toS
  rw [hE, if_pos rfl, hd]
  rfl
/-- All, one behind the other, or the one that they come to. -/
theorem all_fR {ls : List (List Sp)} {n m : Int} (h : Thru n ls m) (cs : List Nat) (hcp : ∀ c ∈ cs, IsCp c) (hl : (cs.length : Int) = n) : allL (mkS (encs cs)) ls = (mkS (encs (apT (fR n ls) cs)), 0) ∧ ((apT (fR n ls) cs).length : Int) = m ∧ ∀ c ∈ apT (fR n ls) cs, IsCp c := by
  induction ls generalizing n cs with
  | nil =>
    obtain ⟨rfl, h0⟩ := h
    have e : apT (fR n []) cs = cs := by
      show apT (List.replicate n.toNat Tok.keep) cs = cs
      rw [apT_keep, List.take_of_length_le (by omega)]
    rw [e]
    exact ⟨rfl, hl, hcp⟩
  | cons l r ih =>
    obtain ⟨h1, h2, h3, h4, h5⟩ := h
    obtain ⟨t1, t2⟩ := toE10 h1 cs hcp (by omega) (by omega)
    have tl := tin_ok l h1
    have hap := apT_length (tok l) cs (by omega)
    have hcp2 := apT_cp (tok l) cs (tok_okT l h1) hcp
    obtain ⟨g1, g2, g3⟩ := ih h5 (apT (tok l) cs) hcp2 (by omega)
    have t3 := fR_len h5
    have e : apT (fR n (l :: r)) cs = apT (fR (outL l) r) (apT (tok l) cs) := by
      show apT (compT (tok l) (fR (outL l) r)) cs = _
      exact apT_comp _ _ _ _ (Nat.le_refl _) (by omega) (by omega)
    rw [e]
    refine ⟨?_, g2, g3⟩
    rw [allL, if_pos t1, t2]
    exact g1
def insS (ls : List (List Sp)) : Nat := (ls.map fun l => (insT (tok l)).length).sum
theorem sum_take (f : List Sp → Nat) (ls : List (List Sp)) (j : Nat) (h : j < ls.length) : ((ls.take (j + 1)).map f).sum = ((ls.take j).map f).sum + f ls[j] := by
  rw [take_snoc h, List.map_append, List.sum_append]
  simp
theorem sum_le (f : List Sp → Nat) (ls : List (List Sp)) (k : Nat) (h : ∀ l ∈ ls, f l ≤ k) (j : Nat) : ((ls.take j).map f).sum ≤ j * k := by
  induction ls generalizing j with
  | nil => simp
  | cons l r ih =>
    cases j with
    | zero => simp
    | succ j =>
      have h1 := h l (List.mem_cons_self ..)
      have h2 := ih (fun x hx => h x (List.mem_cons_of_mem _ hx)) j
      rw [List.take_succ_cons, List.map_cons, List.sum_cons, Nat.add_mul]
      omega
theorem good_of {l : List Sp} (ho : ∀ s ∈ l, OkW s) (hl : l.length ≤ 300) (ht : sumT l ≤ 100000) (hi : inL l ≤ 100000) : Good l := ⟨ho, hl, ht, hi⟩
/-- Each of a chain that was made. -/
theorem chain_each (ls : List (List Sp)) (M : Int) (h0 : 0 ≤ M) (h1 : M + 312 * ls.length ≤ 50000) : ∀ l ∈ chainL ls M, Good l ∧ l.length ≤ 13 ∧ sumT l ≤ 312 := by
  induction ls generalizing M with
  | nil => exact fun l hl => by cases hl
  | cons x r ih =>
    rw [List.length_cons] at h1
    obtain ⟨g, g1, g2, g3, g4, g5⟩ := good_fit x M h0 (by omega)
    intro l hl
    rcases List.mem_cons.1 hl with rfl | hl
    · exact ⟨g, g4, g5⟩
    · exact ih _ g2 (by omega) l hl
theorem fuseDoes_c (s : ByteArray) (A0 : Option Addr) (q0 c0 : Nat) (ls : List (List Sp)) (w : World) [Tab w] (hs : s.size ≤ maxLen) (h0 : RdSS w A0 q0 c0 ls) (hls : ∀ l ∈ ls, ∀ s ∈ l, s.2.2.size ≤ maxLen) :
    Calls Tryd.prog 5 #[.string s, .slice A0 q0 c0] w fun e w' => e = .returned (.bool true) ∧ Below w.heap.size w w' := by
  obtain ⟨T, cs, hm1, hm2, hTl, hT0, hsz, HFIT, HCP, hcl, hUs, HD⟩ := cut_fit s 30 30 rfl (by omega) hs
  obtain ⟨M, hM⟩ : ∃ M : Nat, cs.length = M := ⟨_, rfl⟩
  obtain ⟨k, SW, TW, lW, tW, nW⟩ := made_chain ls (M : Int) (by omega) (by omega)
  have each := chain_each (ls.take 20) (M : Int) (by omega) (by rw [List.length_take]; omega)
  obtain ⟨a1, a2, a3, a4, a5, a6, a7⟩ := fR_small TW (by omega)
  have gL : Good (spT (fR (M : Int) (chainL (ls.take 20) M))) := ⟨a1, by omega, by omega, by omega⟩
  obtain ⟨b1, b2, b3⟩ := all_fR TW cs HCP.out (by omega)
  have HW : Hid (∀ w', Ext w w' → Calls Tryd.prog 25 #[.slice A0 q0 c0, .int .i64 (M : Int)] w' (TellsSS w' (chainL (ls.take 20) M))) := Lib.hid fun w' hx => chainRG (h0.ext hx) hls (by omega) (by omega)
  have OW : Hid (∀ A k c w', Ext w w' → RdSS w' A k c (chainL (ls.take 20) M) → Calls Tryd.prog 20 #[.int .i64 (M : Int), .slice A k c] w' (TellsE w' (spT (fR (M : Int) (chainL (ls.take 20) M))))) := Lib.hid fun A k c w' hx hr => fuseG SW TW (by omega) hx hr
  have CH : Hid (∀ A n c w', Ext w w' → RdSS w' A n c (chainL (ls.take 20) M) → Calls Tryd.prog 23 #[.int .i64 (M : Int), .slice A n c] w' fun e w'' => e = .returned (.tuple #[.int .i64 k, .int .i64 0]) ∧ Ext w' w'') := Lib.hid fun A n c w' hx hr => chainG SW TW (by omega) hx hr
  have HTO : Hid (∀ A n k w', Ext w w' → RdO w' A n k (spT (fR (M : Int) (chainL (ls.take 20) M))) → _) := Lib.hid fun A n k w' hx hr => @toG _ gL cs HCP.out (by omega) w w' _ hx A n k hr
  rw [a2] at HTO
  have hv : allV (mkS (encs cs)) (chainL (ls.take 20) M) = .tuple #[.string (mkS (encs (apT (fR (M : Int) (chainL (ls.take 20) M)) cs))), .int .i64 0] := by
    unfold allV allR
    rw [if_neg]
    · rw [b1]
    · rintro ⟨_, h2⟩
      rw [HD.out] at h2; cases h2
  have HALL : Hid (∀ A n c w', Ext w w' → RdSS w' A n c (chainL (ls.take 20) M) → _) := Lib.hid fun A n c w' hx hr => have hTb := tab_ext hx; all_c A n c (chainL (ls.take 20) M) (mkS (encs cs)) w' hr (fun l hl => by have := (each l hl).2.1; omega) (fun l hl => (each l hl).1.size) (by omega) (by have := hr.1; omega)
  rw [hv] at HALL
  have hcn := cnt_U cs _ HD.out
  have HC : Hid (∀ w', Calls Tryd.prog 15 #[.string (mkS (encs cs))] w' fun e w'' => e = .returned (.int .i64 (M : Int)) ∧ Ext w' w'') := Lib.hid fun w' => by
    have h := count_c (mkS (encs cs)) w' (by omega); rw [hcn, hM] at h; exact h
  have hdo : dec (bs (mkS (encs (apT (fR (M : Int) (chainL (ls.take 20) M)) cs)))) = some (apT (fR (M : Int) (chainL (ls.take 20) M)) cs) := by rw [bs_mkS]; exact dec_encs b3
  have hso : (mkS (encs (apT (fR (M : Int) (chainL (ls.take 20) M)) cs))).size ≤ 1000000000 := by
    have h1 := apT_size (fR (M : Int) (chainL (ls.take 20) M)) cs
    have h2 := encs_le cs
    have h3 := a7
    rw [sumT_spT] at h3
    rw [size_mkS]; omega
  have HCO : Hid (∀ w', Calls Tryd.prog 15 #[.string (mkS (encs (apT (fR (M : Int) (chainL (ls.take 20) M)) cs)))] w' fun e w'' => e = .returned (.int .i64 k) ∧ Ext w' w'') := Lib.hid fun w' => by
    have h := count_c (mkS (encs (apT (fR (M : Int) (chainL (ls.take 20) M)) cs))) w' hso
    rw [cntF_some hdo, b2] at h; exact h
  have NA := Lib.hid a3
  have LA : Hid ((spT (fR (M : Int) (chainL (ls.take 20) M))).length ≤ 300) := Lib.hid (by omega)
  have hput : (insT (tok (spT (fR (M : Int) (chainL (ls.take 20) M))))).length ≤ insS (chainL (ls.take 20) M) := by
    have h := fR_ins (fun _ => 1) TW
    rw [a2, len_insW]
    refine Nat.le_trans h (Nat.le_of_eq ?_)
    unfold insS
    congr 1
    exact List.map_congr_left fun l _ => (len_insW (tok l)).symm
  have hlen : chainL (ls.take 20) (M : Int) ≠ [] → (spT (fR (M : Int) (chainL (ls.take 20) M))).length ≤ nlenS (chainL (ls.take 20) M) := fR_len2 TW
  have HPUT := Lib.hid hput; have HLEN := Lib.hid hlen; have HGL := Lib.hid gL
  have HE : Hid (∀ l ∈ chainL (ls.take 20) (M : Int), Good l ∧ (normL l).length ≤ 13 ∧ (insT (tok l)).length ≤ 312) := Lib.hid fun l hl => by
    obtain ⟨g, g1, g2⟩ := each l hl
    have h1 := norm_len l
    have h2 := insT_len10 (tok l)
    have h3 := insT_sum l g.ok
    exact ⟨g, by omega, by omega⟩
  have HN := Lib.hid nW
  clear gL each a1 a2 a3 a4 a5 a6 a7 b1 b2 b3 hv hcn hdo hso SW TW lW tW nW h0 hls hput hlen HCP HD hs hM
  generalize mkS (encs (apT (fR (M : Int) (chainL (ls.take 20) M)) cs)) = P at *
  generalize spT (fR (M : Int) (chainL (ls.take 20) M)) = L at *
  generalize chainL (ls.take 20) (M : Int) = CW at *
  generalize mkS (encs cs) = U at *
  go_enter Tryd.func5, Tryd.ntmps5
  go_wp2_with fail
  refine (shown10_c _).mono ?_; rintro e w1 ⟨rfl, hx1⟩
  have e1 : Ext w w1 := hx1
  clear hx1
  go_wp2_with fail
  refine (HFIT.out _).mono ?_; rintro e w2 ⟨rfl, hx2⟩
  have e2 : Ext w w2 := e1.trans hx2
  clear hx2
  go_wp2_with fail
  refine (HC.out _).mono ?_; rintro e w3 ⟨rfl, hx3⟩
  have e3 : Ext w w3 := e2.trans hx3
  clear hx3
  go_wp2_with fail
  refine (HW.out _ e3).mono ?_; rintro e w4 ⟨hx4, aW, nW, cW, rfl, rW⟩
  have e4 : Ext w w4 := e3.trans hx4
  have RW := Lib.hid rW
  clear hx4 rW
  go_wp2_with fail
  refine (OW.out _ _ _ _ e4 RW.out).mono ?_; rintro e w5 ⟨hx5, aA, nA, cA, rfl, rA⟩
  have e5 : Ext w w5 := e4.trans hx5
  replace RW := Lib.hid (RW.out.ext hx5)
  have RA := Lib.hid rA
  clear hx5 rA
  go_wp2_with fail
  refine (HTO.out _ _ _ _ e5 RA.out).mono ?_; rintro e w6 ⟨rfl, hx6⟩
  have e6 : Ext w w6 := e5.trans hx6
  replace RW := Lib.hid (RW.out.ext hx6)
  replace RA := Lib.hid (RA.out.ext hx6)
  clear hx6
  go_wp2_with fail
  refine (HALL.out _ _ _ _ e6 RW.out).mono ?_; rintro e w7 ⟨rfl, hx7⟩
  have e7 : Ext w w7 := e6.trans hx7
  replace RW := Lib.hid (RW.out.ext hx7)
  replace RA := Lib.hid (RA.out.ext hx7)
  clear hx7
  go_wp2_with fail
  refine (CH.out _ _ _ _ e7 RW.out).mono ?_; rintro e w8 ⟨rfl, hx8⟩
  have e8 : Ext w w8 := e7.trans hx8
  replace RW := Lib.hid (RW.out.ext hx8)
  replace RA := Lib.hid (RA.out.ext hx8)
  clear hx8
  go_wp2_with fail
  have eb := Lib.hid e8
  clear e1 e2 e3 e4 e5 e6 e7 e8
  have hn20 : nW ≤ 20 := by have := RW.out.1; have := HN.out; omega
  go_loopw [17, 18, 19] (fun x y z wr => ∃ j a b : Nat, j ≤ nW ∧ z = .int .i64 j ∧ x = .int .i64 a ∧ y = .int .i64 b ∧ Hid (a = ((CW.take j).map fun l => (normL l).length).sum) ∧ Hid (b = ((CW.take j).map fun l => (insT (tok l)).length).sum) ∧ Hid (Ext w wr) ∧ Hid (RdSS wr aW nW cW CW) ∧ Hid (RdO wr aA nA cA L)) (fun _ _ z _ => nW - (intOf z).toNat)
  case atStart => exact ⟨0, 0, 0, by omega, rfl, rfl, rfl, Lib.hid (by simp), Lib.hid (by simp), eb, RW, RA⟩
  case round =>
    clear RW RA eb
    obtain ⟨j, a, b, hj, rfl, rfl, rfl, HA, HB, hxr, RW, RA⟩ := hrel
    have exr := hxr.out
    by_cases hlt : j < nW
    · have hjl : j < CW.length := by have := RW.out.1; omega
      have hs1 := sum_take (fun l => (normL l).length) CW j hjl
      have hs2 := sum_take (fun l => (insT (tok l)).length) CW j hjl
      have hb1 := sum_le (fun l => (normL l).length) CW 13 (fun l hl => (HE.out l hl).2.1) j
      have hb2 := sum_le (fun l => (insT (tok l)).length) CW 312 (fun l hl => (HE.out l hl).2.2) j
      rw [← HA.out] at hs1 hb1
      rw [← HB.out] at hs2 hb2
      have ha1 : a ≤ 1000 := by omega
      have hbb1 : b ≤ 10000 := by omega
      obtain ⟨g, g1, g2⟩ := HE.out _ (List.getElem_mem hjl)
      obtain ⟨bb, off, aj, kc, rfl, hbk, q0, hr⟩ := RW.out.at_ hlt hjl
      have Q0 := Lib.hid q0
      have dn : decide (j < nW) = true := by rw [decide_eq_true_eq]; exact hlt
      have i0 : (0 : Int) ≤ (j : Int) := by omega
      have i1 : (j : Int) < (nW : Int) := by omega
      obtain ⟨l, hl⟩ : ∃ l, CW[j] = l := ⟨_, rfl⟩
      rw [hl] at g g1 g2 hr hs1 hs2
      simp only [hl] at Q0
      have RJ : Hid (RdO wr aj l.length kc l) := Lib.hid ⟨rfl, hr⟩
      obtain ⟨nl, hnl⟩ : ∃ nl, l.length = nl := ⟨_, rfl⟩
      rw [hnl] at RJ Q0
      obtain ⟨pl, hpl⟩ : ∃ pl, (insT (tok l)).length = pl := ⟨_, rfl⟩
      have GL := Lib.hid g
      have CP : Hid (∀ w', RdO w' aj nl kc l → _) := Lib.hid fun w' hr => @put10_c l g aj nl kc w' hr
      rw [hpl] at CP g2 hs2
      have HS1 := Lib.hid hs1; have HS2 := Lib.hid hs2
      clear hs1 hs2 hb1 hb2 hr hbk hl hnl hpl g q0 HA HB dn
      have dn : decide (j < nW) = true := by rw [decide_eq_true_eq]; exact hlt
      have q0 := Q0.out
      go_wp2_with fail
      refine (normG GL.out RJ.out).mono ?_; rintro e w1 ⟨hx1, aN, nN, cN, rfl, rN⟩
      have e1 : Ext w w1 := exr.trans hx1
      replace RW := Lib.hid (RW.out.ext hx1)
      replace RA := Lib.hid (RA.out.ext hx1)
      replace RJ := Lib.hid (RJ.out.ext hx1)
      replace q0 := ext_cell hx1 q0
      have RN := Lib.hid rN
      clear hx1 rN
      have HN1 := Lib.hid RN.out.1
      have hN : nN ≤ 13 := by have := HN1.out; omega
      clear RN
      go_wp2_with fail
      refine (CP.out _ RJ.out).mono ?_; rintro e w2 ⟨rfl, hx2⟩
      have e2 : Ext w w2 := e1.trans hx2
      replace RW := Lib.hid (RW.out.ext hx2)
      replace RA := Lib.hid (RA.out.ext hx2)
      replace RJ := Lib.hid (RJ.out.ext hx2)
      replace q0 := ext_cell hx2 q0
      clear hx2
      go_wp2_with fail
      have eb := Lib.hid e2
      clear e1 e2
      go_roundw
      case rel => exact ⟨j + 1, a + nN, b + pl, by omega, by go_num, by go_num, by go_num, Lib.hid (by rw [HS1.out, HN1.out]), Lib.hid (by rw [HS2.out]), eb, RW, RA⟩
      case measure => simp [intOf]; omega
    · obtain rfl : j = nW := by omega
      have hall : CW.take j = CW := by rw [← RW.out.1]; exact List.take_length
      rw [hall] at HA HB
      have hle : (insT (tok L)).length ≤ b := by rw [HB.out]; exact HPUT.out
      have dn : decide (j < j) = false := by rw [decide_eq_false_iff_not]; omega
      have CPL : Hid (∀ w', RdO w' aA nA cA L → _) := Lib.hid fun w' hr => @put10_c L HGL.out aA nA cA w' hr
      have hbb : b ≤ 10000 := by
        have h := sum_le (fun l => (insT (tok l)).length) CW 312 (fun l hl => (HE.out l hl).2.2) j
        rw [hall, ← HB.out] at h
        omega
      have hcase : (((j : Int) == 0) = true) ∨ (((j : Int) == 0) = false ∧ nA ≤ a) := by
        by_cases hz : j = 0
        · exact .inl (by rw [beq_iff_eq]; omega)
        · refine .inr ⟨by rw [beq_eq_false_iff_ne]; omega, ?_⟩
          have h := HLEN.out (fun h => by have := RW.out.1; rw [h] at this; simp at this; omega)
          rw [HA.out, ← RA.out.1]
          exact h
      clear hall hlt hj HA HB
      obtain ⟨pl, hpl⟩ : ∃ pl, (insT (tok L)).length = pl := ⟨_, rfl⟩
      rw [hpl] at CPL hle
      have hle2 : (pl : Int) ≤ (b : Int) := by omega
      clear hpl
      rcases hcase with d1 | ⟨d1, d2⟩
      · skip
        go_wp2_with fail
        refine (HCO.out _).mono ?_; rintro e w1 ⟨rfl, hx1⟩
        have e1 : Ext w w1 := exr.trans hx1
        replace RW := Lib.hid (RW.out.ext hx1)
        replace RA := Lib.hid (RA.out.ext hx1)
        clear hx1
        go_wp2_with fail
        refine (isG NA.out LA.out RA.out).mono ?_; rintro e w2 ⟨rfl, hx2⟩
        have e2 : Ext w w2 := e1.trans hx2
        replace RW := Lib.hid (RW.out.ext hx2)
        replace RA := Lib.hid (RA.out.ext hx2)
        clear hx2
        go_wp2_with fail
        refine (CPL.out _ RA.out).mono ?_; rintro e w3 ⟨rfl, hx3⟩
        have e3 : Ext w w3 := e2.trans hx3
        replace RW := Lib.hid (RW.out.ext hx3)
        replace RA := Lib.hid (RA.out.ext hx3)
        clear hx3
        go_wp2_with fail
        go_ret
        exact ⟨rfl, e3⟩
      · have d3 : (nA : Int) ≤ (a : Int) := by omega
        go_wp2_with fail
        refine (HCO.out _).mono ?_; rintro e w1 ⟨rfl, hx1⟩
        have e1 : Ext w w1 := exr.trans hx1
        replace RW := Lib.hid (RW.out.ext hx1)
        replace RA := Lib.hid (RA.out.ext hx1)
        clear hx1
        go_wp2_with fail
        refine (isG NA.out LA.out RA.out).mono ?_; rintro e w2 ⟨rfl, hx2⟩
        have e2 : Ext w w2 := e1.trans hx2
        replace RW := Lib.hid (RW.out.ext hx2)
        replace RA := Lib.hid (RA.out.ext hx2)
        clear hx2
        go_wp2_with fail
        refine (CPL.out _ RA.out).mono ?_; rintro e w3 ⟨rfl, hx3⟩
        have e3 : Ext w w3 := e2.trans hx3
        replace RW := Lib.hid (RW.out.ext hx3)
        replace RA := Lib.hid (RA.out.ext hx3)
        clear hx3
        go_wp2_with fail
        go_ret
        exact ⟨rfl, e3⟩
end Go.Proofs.YtcelgdoaohkgnaaDoor
