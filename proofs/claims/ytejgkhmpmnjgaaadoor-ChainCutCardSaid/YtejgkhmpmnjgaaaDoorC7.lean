/- Layer 7, the reference: All. -/
import Derived.Test.YtejgkhmpmnjgaaaDoorM7
import Derived.Test.YtejgkhmpmnjgaaaDoorC6
import Derived.Deep.QuietTactic
import Derived.BigQuiet
import Derived.Test.YtejgkhmpmnjgaaaDoorBs
import Derived.Test.YtejgkhmpmnjgaaaDoorC4d
namespace Go.Proofs.YtejgkhmpmnjgaaaDoor
open Go.RowKit
set_option maxRecDepth 100000
set_option maxHeartbeats 4000000
theorem toR_c (A : Option Addr) (q c : Nat) (l : List Sp) (s : ByteArray) (w : World) (h : Rd w 3 (.slice A q c) q (spCells l)) (hl : l.length = q) (hq : q ≤ 1000) (hts : ∀ s ∈ l, s.2.2.size ≤ 1000000000) (hT : sumT l ≤ 1000000000) (hs : s.size ≤ 1000000000) :
    Calls Tryd.prog 40 #[.slice A q c, .string s] w fun e w' => e = .returned (toV l s) ∧ Ext w w' := by
  have HM : Hid (∀ w', Ext w w' → _) := Lib.hid fun w' hx => mayR4_c A q c l w' (h.ext hx) hl hq hts
  have HI : Hid (∀ w', Ext w w' → _) := Lib.hid fun w' hx => inR4_c A q c l w' (h.ext hx) hl hq
  have HST := Lib.hid (fun w' => starts_c s w' hs)
  by_cases hm : mayL l = 0
  · obtain ⟨hall, hi0, hi1⟩ := mayL_all hm (by omega)
    have hok : ∀ s ∈ l, OkW s := fun s hs => okW_of_may (hall s hs)
    have hwi : wrap64 (inL l) = inL l := by unfold wrap64; omega
    have htin := (tin_ok l hok).1
    rw [hm] at HM
    rw [hwi] at HI
    cases hd : dec (bs s) with
    | none =>
      have HV := Lib.hid (to_none hm hd)
      clear h hl hts hT hm hall hok hwi htin
      go_enter Tryd.func40, Tryd.ntmps40
      go_wp2_with fail
      refine (HM.out _ (Ext.refl _)).mono ?_; rintro e w1 ⟨rfl, hx1⟩
      go_wp2_with fail
      refine (HST.out _).mono ?_; rintro e w2 ⟨hx2, ⟨_, rfl⟩ | ⟨cs, v, hc, _, _⟩⟩
      · clear hd
        go_wp2_with fail
        go_ret2
        rw [HV.out]
        exact ⟨rfl, hx1.trans hx2⟩
      · rw [hd] at hc; cases hc
    | some cs =>
      have hcs : cs.length ≤ 1000000000 := by
        have h1 := length_le_encs cs
        rw [← (dec_some hd).2, bs_length] at h1; omega
      by_cases hn : (cs.length : Int) = inL l
      · obtain ⟨hE, hS⟩ := to_ok hm hd hn
        have HV : Hid (toV l s = .tuple #[.string (mkS (encs (apT (tok l) cs))), .int .i64 0]) := Lib.hid (by unfold toV; rw [hE, hS])
        have HSZ : Hid (∀ j, (encs (apT (tok (l.take j)) cs)).length ≤ 2000000000) := Lib.hid fun j => by
          have h1 := apT_size (tok (l.take j)) cs
          have h2 := insT_sum (l.take j) fun s hs => hok s (List.mem_of_mem_take hs)
          have h3 : sumT (l.take j) ≤ sumT l := by
            have e : sumT (l.take j) + sumT (l.drop j) = sumT l := by rw [← sumT_append, List.take_append_drop]
            omega
          have h4 : (encs cs).length = s.size := by rw [← (dec_some hd).2, bs_length]
          omega
        obtain ⟨N, hN⟩ : ∃ N, cs.length = N := ⟨_, rfl⟩
        have hNi : (N : Int) = inL l := by omega
        rw [← hNi] at HI
        have htN : tin (tok l) = N := by omega
        have hN9 : N ≤ 1000000000 := by omega
        have hwn3 : wrap64 (N : Int) = (N : Int) := by unfold wrap64; omega
        have HD := Lib.hid hd
        have HB : Hid (bs s = encs cs) := Lib.hid (dec_some hd).2
        have HOK := Lib.hid hok; have HN := Lib.hid hN; have HTN := Lib.hid htN
        have H := Lib.hid h; have HL := Lib.hid hl
        have hsz0 := hs
        clear h hl hts hT hm hall hwi htin hn hE hS hok hN hd hi0 hi1 hNi htN
        go_enter Tryd.func40, Tryd.ntmps40
        go_wp2_with fail
        refine (HM.out _ (Ext.refl _)).mono ?_; rintro e w1 ⟨rfl, hx1⟩
        go_wp2_with fail
        refine (HST.out _).mono ?_; rintro e w2 ⟨hx2, ⟨hc, _⟩ | ⟨cs', v, hc, rfl, hown⟩⟩
        · rw [HD.out] at hc; cases hc
        obtain rfl : cs' = cs := by rw [HD.out] at hc; injection hc with hc; exact hc.symm
        rw [HN.out] at hown
        obtain ⟨g, cap, rfl, hcc, _, hgb, hcell⟩ := hown.cells (by omega)
        have HCELL := Lib.hid hcell
        have hx12 := hx1.trans hx2
        have hwn : ((N + 1 : Nat) : Int) - 1 = (N : Int) := by omega
        have hwn2 : IntKind.i64.wrap ((N : Int) + 1 - 1) = (N : Int) := by rw [IntKind.wrap_i64]; omega
        clear hc hown hcell hx1 hx2
        go_wp2_with fail
        refine (HI.out _ hx12).mono ?_; rintro e w3 ⟨rfl, hx3⟩
        have HX3 := Lib.hid hx3
        have HXW := Lib.hid (hx12.trans hx3)
        clear hx3 hx12
        go_wp2_with fail
        go_loopw [9, 10, 11] (fun o a z wr => ∃ j : Nat, j ≤ q ∧ z = .int .i64 j ∧ a = .int .i64 ((tin (tok (l.take j)) : Nat) : Int) ∧ o = .string (mkS (encs (apT (tok (l.take j)) cs'))) ∧ Ext w3 wr) (fun _ _ z _ => q - (intOf z).toNat)
        case atStart => exact ⟨0, by omega, rfl, by rw [List.take_zero]; rfl, by rw [List.take_zero]; rfl, Ext.refl _⟩
        case round =>
          obtain ⟨j, hj, rfl, rfl, rfl, hxr⟩ := hrel
          by_cases hlt : j < q
          · have hjl : j < l.length := by have := HL.out; omega
            obtain ⟨b, off, rfl, hb, q0, q1, q2⟩ := sp_at (H.out.ext (HXW.out.trans hxr)) HL.out hlt
            have dn : decide (j < q) = true := by rw [decide_eq_true_eq]; exact hlt
            have i0 : (0 : Int) ≤ (j : Int) := by omega
            have i1 : (j : Int) < (q : Int) := by omega
            have hstk := tok_take l j hjl
            have hle1 := tin_le_of_take l j
            have hle2 := tin_le_of_take l (j + 1)
            rw [HTN.out] at hle1 hle2
            have hok := HOK.out _ (List.getElem_mem hjl)
            have hs1 := HSZ.out j
            have hs2 := HSZ.out (j + 1)
            have hap := apT_append (tok (l.take j)) (tokS l[j]) cs'
            rw [← hstk] at hap
            have htn := tin_append (tok (l.take j)) (tokS l[j])
            rw [← hstk] at htn
            unfold OkW at hok
            obtain ⟨sp, hsp⟩ : ∃ sp, l[j] = sp := ⟨_, rfl⟩
            rw [hsp] at q0 q1 q2 hok hap htn hstk
            clear hsp
            obtain ⟨a1, a2, a3⟩ := sp
            simp only at q0 q1 q2 hok
            obtain ⟨TJ, hTJ⟩ : ∃ TJ, tok (l.take (j + 1)) = TJ := ⟨_, rfl⟩
            rw [hTJ] at hap htn hs2 hle2 hstk
            have HTJ := Lib.hid hTJ
            clear hTJ hstk
            obtain ⟨X, hX⟩ : ∃ X, apT (tok (l.take j)) cs' = X := ⟨_, rfl⟩
            obtain ⟨Y, hY⟩ : ∃ Y, apT TJ cs' = Y := ⟨_, rfl⟩
            obtain ⟨at0, hat⟩ : ∃ at0, tin (tok (l.take j)) = at0 := ⟨_, rfl⟩
            obtain ⟨at1, hat1⟩ : ∃ at1, tin TJ = at1 := ⟨_, rfl⟩
            rw [hX, hY, hat] at hap
            rw [hat, hat1] at htn
            rw [hX] at hs1 ⊢
            rw [hY] at hs2
            rw [hat] at hle1 ⊢
            rw [hat1] at hle2
            have HY := Lib.hid hY; have HA1 := Lib.hid hat1
            clear hX hY hat hat1
            rcases hok with ⟨k1, n1, us, hu⟩ | ⟨k1, n1, t1⟩
            · subst k1
              rw [tokS_text _ _ hu, apT_ins] at hap
              rw [tokS_text _ _ hu, tin_map_ins] at htn
              have hcat := ap_text X us a3 hu
              rw [← hap] at hcat
              have hsc : (mkS (encs X)).size + a3.size = (mkS (encs Y)).size := by rw [← hcat, ByteArray.size_append]
              have hsb : ¬ 9223372036854775807 < (mkS (encs X)).size + a3.size := by rw [hsc, size_mkS]; omega
              have HC := Lib.hid hcat
              have hat2 : at1 = at0 := by omega
              subst hat2
              clear hu hap htn hcat hsc hs1 hs2
              generalize mkS (encs X) = SX at *
              go_wp2_with fail
              go_roundw
              case rel => exact ⟨j + 1, by omega, by go_num, by rw [HTJ.out, HA1.out], by rw [HTJ.out, HY.out, ← HC.out], hxr⟩
              case measure => simp [intOf]; omega
            · obtain ⟨k, rfl⟩ := Int.eq_ofNat_of_zero_le n1
              rcases k1 with k1 | k1
              · subst k1
                rw [tokS_num _ _ _ (by decide), if_neg (by decide), Int.toNat_natCast, apT_keep] at hap
                rw [tokS_num _ _ _ (by decide), if_neg (by decide), Int.toNat_natCast, tin_rep _ (.inl rfl)] at htn
                have hsum : IntKind.i64.wrap ((at0 : Int) + (k : Int)) = (at0 : Int) + (k : Int) := by rw [IntKind.wrap_i64]; omega
                have c1 := ext_cell (HX3.out.trans hxr) (HCELL.out at0 _ (startsV_at cs' at0 (by have := HN.out; omega)))
                have c2 := ext_cell (HX3.out.trans hxr) (HCELL.out (at0 + k) _ (startsV_at cs' (at0 + k) (by have := HN.out; omega)))
                have hle := encs_take_le cs' at0 (at0 + k) (by omega)
                have hle3 : (encs (cs'.take (at0 + k))).length ≤ s.size := by
                  have := encs_take_le cs' (at0 + k) cs'.length (by have := HN.out; omega)
                  rw [List.take_length, ← HB.out, bs_length] at this; exact this
                have hout : s.extract (encs (cs'.take at0)).length (encs (cs'.take (at0 + k))).length = mkS (encs ((cs'.drop at0).take k)) := by
                  refine mkS_of ?_
                  rw [bs_extract, HB.out, encs_cut cs' at0 (at0 + k) (by omega), List.drop_take]
                  congr 2; omega
                have hcat : mkS (encs X) ++ s.extract (encs (cs'.take at0)).length (encs (cs'.take (at0 + k))).length = mkS (encs Y) := by
                  rw [hout]
                  apply bs_inj
                  rw [bs_append, bs_mkS, bs_mkS, bs_mkS, hap, encs_append]
                have hsc := congrArg ByteArray.size hcat
                rw [ByteArray.size_append] at hsc
                have hsb : ¬ 9223372036854775807 < (mkS (encs X)).size + (s.extract (encs (cs'.take at0)).length (encs (cs'.take (at0 + k))).length).size := by rw [hsc, size_mkS]; omega
                have HC := Lib.hid hcat
                have b0 : (0 : Int) ≤ (at0 : Int) := by omega
                have b1 : (at0 : Int) < (N : Int) + 1 := by omega
                have b2 : (0 : Int) ≤ (at0 : Int) + (k : Int) := by omega
                have b3 : (at0 : Int) + (k : Int) < (N : Int) + 1 := by omega
                have HA2 : Hid ((at0 : Int) + (k : Int) = (at1 : Int)) := Lib.hid (by omega)
                clear hap htn hcat hsc hs1 hs2 hout
                generalize mkS (encs X) = SX at *
                generalize (encs (cs'.take at0)).length = p0 at *
                generalize (encs (cs'.take (at0 + k))).length = p1 at *
                go_wp2_with fail
                go_quiet (fail)
                go_wp2_with fail
                go_roundw
                case rel => exact ⟨j + 1, by omega, by go_num, by rw [HTJ.out, HA1.out, ← HA2.out], by rw [HTJ.out, HY.out, ← HC.out], hxr.drewN _⟩
                case measure => simp [intOf]; omega
              · subst k1
                rw [tokS_num _ _ _ (by decide), if_pos rfl, Int.toNat_natCast, apT_del, List.append_nil] at hap
                rw [tokS_num _ _ _ (by decide), if_pos rfl, Int.toNat_natCast, tin_rep _ (.inr rfl)] at htn
                have HA2 : Hid ((at0 : Int) + (k : Int) = (at1 : Int)) := Lib.hid (by omega)
                have HC := Lib.hid hap
                have hk2 : at0 + k ≤ 1000000000 := by omega
                have hsum : wrap64 ((at0 : Int) + (k : Int)) = (at0 : Int) + (k : Int) := by unfold wrap64; omega
                clear hap htn hs1 hs2
                go_wp2_with fail
                go_roundw
                case rel => exact ⟨j + 1, by omega, by go_num, by rw [HTJ.out, HA1.out, ← HA2.out, hsum], by rw [HTJ.out, HY.out, HC.out], hxr⟩
                case measure => simp [intOf]; omega
          · obtain rfl : j = q := by omega
            have hall : l.take j = l := by rw [← HL.out]; exact List.take_length
            rw [hall]
            clear hlt hj hall
            have dn : decide (j < j) = false := by rw [decide_eq_false_iff_not]; omega
            generalize apT (tok l) cs' = X at *
            generalize tin (tok l) = TT at *
            go_wp2_with fail
            go_ret2
            rw [HV.out]
            exact ⟨rfl, HXW.out.trans hxr⟩
      · have HV := Lib.hid (to_len hm hd hn)
        obtain ⟨N, hN⟩ : ∃ N, cs.length = N := ⟨_, rfl⟩
        rw [hN] at hn hcs
        have hwn3 : wrap64 (N : Int) = (N : Int) := by unfold wrap64; omega
        have HD := Lib.hid hd; have HN := Lib.hid hN
        have hbn : ((N : Int) == inL l) = false := by rw [beq_eq_false_iff_ne]; exact hn
        have hbn2 : ((N : Int) != inL l) = true := by rw [bne_iff_ne]; exact hn
        clear h hl hts hT hm hall hok hwi htin hN hd
        generalize inL l = IL at *
        go_enter Tryd.func40, Tryd.ntmps40
        go_wp2_with fail
        refine (HM.out _ (Ext.refl _)).mono ?_; rintro e w1 ⟨rfl, hx1⟩
        go_wp2_with fail
        refine (HST.out _).mono ?_; rintro e w2 ⟨hx2, ⟨hc, _⟩ | ⟨cs', v, hc, rfl, hown⟩⟩
        · rw [HD.out] at hc; cases hc
        obtain rfl : cs' = cs := by rw [HD.out] at hc; injection hc with hc; exact hc.symm
        rw [HN.out] at hown
        obtain ⟨a2, c2, rfl, _⟩ := hown.len
        have hwn : ((N + 1 : Nat) : Int) - 1 = (N : Int) := by omega
        have hwn2 : IntKind.i64.wrap ((N : Int) + 1 - 1) = (N : Int) := by rw [IntKind.wrap_i64]; omega
        clear hc hown
        go_wp2_with fail
        refine (HI.out _ (hx1.trans hx2)).mono ?_; rintro e w3 ⟨rfl, hx3⟩
        go_wp2_with fail
        go_ret2
        rw [HV.out]
        exact ⟨rfl, (hx1.trans hx2).trans hx3⟩
  · have HV := Lib.hid (to_may (s := s) hm)
    have hb1 : (mayL l != 0) = true := by rw [bne_iff_ne]; exact hm
    have hb2 : (mayL l == 0) = false := by rw [beq_eq_false_iff_ne]; exact hm
    clear h hl hts hT hm
    generalize mayL l = ML at *
    go_enter Tryd.func40, Tryd.ntmps40
    go_wp2_with fail
    refine (HM.out _ (Ext.refl _)).mono ?_; rintro e w1 ⟨rfl, hx1⟩
    go_wp2_with fail
    go_ret2
    rw [HV.out]
    exact ⟨rfl, hx1⟩
end Go.Proofs.YtejgkhmpmnjgaaaDoor
namespace Go.Proofs.YtejgkhmpmnjgaaaDoor
open Go.RowKit
set_option maxRecDepth 100000
set_option maxHeartbeats 4000000
theorem info_ss : (Tryd.prog.info? 39).map (fun i => (i.zero, i.size, i.bytes)) = some (some (.slice none 0 0), 1, 24) := by kernel_rfl
theorem chainR4_c (A : Option Addr) (n c : Nat) (ls : List (List Sp)) (m : Int) (w : World) (h : RdSS w A n c ls) (hs : ∀ l ∈ ls, ∀ s ∈ l, s.2.2.size ≤ maxLen) (h0 : 0 ≤ m) (h1 : m ≤ 1000) :
    Calls Tryd.prog 34 #[.slice A n c, .int .i64 m] w fun e w' => ∃ v, e = .returned v ∧ Ext w w' ∧ OwnSS w' w.heap.size 39 43 v (chainL (ls.take 20) m) := by
  obtain ⟨i, hi, hz0, hz1, hz2⟩ := info_parts info_ss
  have hln := h.1
  have hrel0 : OwnSS (w.alloc (.cells #[] 39)) w.heap.size 39 43 (.slice (some ⟨w.heap.size, 0, none⟩) 0 0) (chainL (ls.take 0) m) :=
    ⟨[], Own.made w w.heap.size 39 1 0 #[] (Nat.le_refl _) (by omega) rfl, fun i l hl => by rw [List.take_zero] at hl; cases hl⟩
  have HR0 := Lib.hid hrel0
  have HX0 := Lib.hid ((Ext.refl w).alloc (.cells #[] 39))
  have H := Lib.hid h; have HS := Lib.hid hs; have HLN := Lib.hid hln
  clear h hs hrel0 hln
  go_enter Tryd.func34, Tryd.ntmps34
  go_wp2_with fail
  go_loopw [1, 5, 6] (fun k o z wr => ∃ j : Nat, j ≤ n ∧ j ≤ 20 ∧ z = .int .i64 j ∧ k = .int .i64 (endL (ls.take j) m) ∧ OwnSS wr w.heap.size 39 43 o (chainL (ls.take j) m) ∧ Ext w wr) (fun _ _ z _ => 20 - (intOf z).toNat)
  case atStart => exact ⟨0, by omega, by omega, rfl, by rw [List.take_zero]; rfl, HR0.out, HX0.out⟩
  case round =>
    obtain ⟨j, hj, hj20, rfl, rfl, hown, hxr⟩ := hrel
    by_cases hlt : j < n ∧ j < 20
    · have hjl : j < ls.length := by have := HLN.out; omega
      obtain ⟨b, off, a, kc, rfl, hb, q0, hr⟩ := (H.out.ext hxr).at_ hlt.1 hjl
      have dn : decide (j < n) = true := by rw [decide_eq_true_eq]; exact hlt.1
      have d20 : decide ((j : Int) < 20) = true := by rw [decide_eq_true_eq]; omega
      have i0 : (0 : Int) ≤ (j : Int) := by omega
      have i1 : (j : Int) < (n : Int) := by omega
      have htk : ls.take (j + 1) = ls.take j ++ [ls[j]] := by rw [List.take_add_one, List.getElem?_eq_getElem hjl]; rfl
      have hst1 := chainL_snoc (ls.take j) ls[j] m
      have hst2 := endL_snoc (ls.take j) ls[j] m
      rw [← htk] at hst1 hst2
      have htl : (ls.take j).length = j := by rw [List.length_take]; omega
      obtain ⟨e0, e1⟩ := endL_le (ls.take j) m h0 (by rw [htl]; omega)
      rw [htl] at e1
      have hcl : (chainL (ls.take j) m).length = j := by rw [chainL_len, htl]
      have hsj := HS.out _ (List.getElem_mem hjl)
      obtain ⟨k, hk⟩ : ∃ k, ls[j].length = k := ⟨_, rfl⟩
      rw [hk] at q0 hr
      generalize endL (ls.take j) m = E at *
      have HFIT := Lib.hid (fitR4_c a k kc ls[j] E wr hr hk hsj e0 (by omega))
      obtain ⟨fm, fi⟩ := fitL_all ls[j] E e0 (by omega)
      obtain ⟨o0, o1⟩ := fit_out ls[j] E e0 (by omega)
      have ft := fitL_text ls[j] E
      have fl := fitL_len ls[j] E
      generalize fitL ls[j] E = F at *
      have HST1 := Lib.hid hst1; have HST2 := Lib.hid hst2
      obtain ⟨vs, hrow, hel⟩ := hown
      rw [hcl] at hrow
      have HROW := Lib.hid hrow; have HEL := Lib.hid hel; have HCL := Lib.hid hcl; have HXR := Lib.hid hxr
      clear hr hk hsj hst1 hst2 htk htl hcl hrow hel hxr fm fi
      generalize chainL (ls.take j) m = CL at *
      go_wp2_with fail
      refine HFIT.out.mono ?_; rintro e w1 ⟨v1, rfl, hx1, own1⟩
      obtain ⟨a1, c1, rfl, _⟩ := own1.len
      obtain ⟨nF, hnF⟩ : ∃ nF, F.length = nF := ⟨_, rfl⟩
      rw [hnF] at own1 ⊢
      obtain ⟨v', w', happ, hown', hbel', hoth⟩ := app_newo (P := Tryd.prog) 23 23 39 i _ 1 24 Tryd.underlying23 hi hz0 hz1 hz2 rfl (by omega) (by omega)
        (hx1.mono HXR.out.size) (HROW.out.ext hx1) (by omega) 1 #[.slice a1 nF c1] rfl (by omega) (by simp [Value.oneCell']) 39
      have own1' := hoth.own (by decide) own1
      have HAP := Lib.hid happ
      have HOUT := Lib.hid (outR4_c a1 nF c1 F w' own1'.rd hnF (by omega) (fun s hs => by have := ft s hs; omega))
      have hwo : wrap64 (outL F) = outL F := by unfold wrap64; omega
      rw [hwo] at HOUT
      have hxw' : Ext w w' := Below.trans HXR.out hbel'
      have hss : OwnSS w' w.heap.size 39 43 v' (CL ++ [F]) := by
        refine ⟨vs ++ [.slice a1 nF c1], by rw [List.length_append, HCL.out]; exact hown', fun q l hl => ?_⟩
        have hvl : vs.length = CL.length := by have := HROW.out.1.1; rw [HCL.out]; omega
        rw [List.getElem?_append] at hl
        split at hl
        · obtain ⟨u, g1, g2⟩ := HEL.out q l hl
          exact ⟨u, by rw [List.getElem?_append_left (by omega)]; exact g1, hoth.own (by decide) (g2.ext hx1)⟩
        · have hq : q = CL.length := by
            rcases Nat.lt_trichotomy q CL.length with h | h | h
            · omega
            · exact h
            · rw [List.getElem?_eq_none (by simp; omega)] at hl; cases hl
          subst hq
          simp at hl
          subst hl
          refine ⟨.slice a1 nF c1, by rw [List.getElem?_append_right (by omega), hvl]; simp, ?_⟩
          rw [hnF]
          exact own1'.more HXR.out.size
      have HSS := Lib.hid hss
      clear happ hown' hbel' hoth own1 own1' hwo hss hnF HFIT
      generalize outL F = OF at *
      go_wp2_with (at_builtin; with_reducible refine wpList_append_run rfl rfl HAP.out rfl rfl ?_)
      refine HOUT.out.mono ?_; rintro e w3 ⟨rfl, hx3⟩
      go_wp2_with fail
      go_roundw
      case rel => exact ⟨j + 1, by omega, by omega, by go_num, by rw [HST2.out], by rw [HST1.out]; exact HSS.out.ext hx3, hxw'.trans hx3⟩
      case measure => simp [intOf]; omega
    · have hall : ls.take j = ls.take 20 := by
        rcases (by omega : j = 20 ∨ j = n) with e | e
        · rw [e]
        · have e2 := HLN.out
          rw [List.take_of_length_le (by omega), List.take_of_length_le (by omega)]
      have hcase : (decide (j < n) = false) ∨ (decide (j < n) = true ∧ decide ((j : Int) < 20) = false) := by
        by_cases e : j < n
        · exact .inr ⟨by rw [decide_eq_true_eq]; exact e, by rw [decide_eq_false_iff_not]; omega⟩
        · exact .inl (by rw [decide_eq_false_iff_not]; exact e)
      rw [hall] at hown ⊢
      clear hall hlt
      generalize endL (ls.take 20) m = E at *
      rcases hcase with d1 | ⟨d1, d2⟩
      all_goals
        go_wp2_with fail
        go_ret
        exact ⟨_, rfl, hxr, hown⟩
end Go.Proofs.YtejgkhmpmnjgaaaDoor
namespace Go.Proofs.YtejgkhmpmnjgaaaDoor
open Go.RowKit
set_option maxRecDepth 100000
set_option maxHeartbeats 4000000
def sumTT (ls : List (List Sp)) : Nat := (ls.map sumT).sum
def allL : ByteArray → List (List Sp) → ByteArray × Int
  | s, [] => (s, 0)
  | s, l :: r => if toE l s = 0 then allL (toS l s) r else (⟨#[]⟩, toE l s)
open Classical in
noncomputable def allR (s : ByteArray) (ls : List (List Sp)) : ByteArray × Int := if ls = [] ∧ dec (bs s) = none then (⟨#[]⟩, 3) else allL s ls
noncomputable def allV (s : ByteArray) (ls : List (List Sp)) : Value := .tuple #[.string (allR s ls).1, .int .i64 (allR s ls).2]
theorem errL_zero (l : List Sp) (h : errL l = 0) : ∀ s ∈ l, mayS s.1 s.2.1 s.2.2 = 0 := by
  induction l with
  | nil => intro s hs; cases hs
  | cons a t ih =>
    unfold errL at h
    by_cases ha : mayS a.1 a.2.1 a.2.2 = 0
    · rw [if_pos ha] at h
      intro s hs
      rcases List.mem_cons.1 hs with rfl | hs
      · exact ha
      · exact ih h s hs
    · rw [if_neg ha] at h; exact absurd h ha
theorem toS_size (l : List Sp) (s : ByteArray) : (toS l s).size ≤ s.size + sumT l := by
  unfold toS
  split
  · rename_i h
    unfold toE at h
    by_cases hm : mayL l = 0
    · rw [if_pos hm] at h
      cases hd : dec (bs s) with
      | none => rw [hd] at h; cases h
      | some cs =>
        have he : ∀ s ∈ l, mayS s.1 s.2.1 s.2.2 = 0 := by
          unfold mayL at hm
          by_cases h0 : errL l = 0
          · exact errL_zero l h0
          · rw [if_neg h0] at hm; exact absurd hm h0
        have h1 := apT_size (tok l) cs
        have h2 := insT_sum l fun s hs => okW_of_may (he s hs)
        have h4 : (encs cs).length = s.size := by rw [← (dec_some hd).2, bs_length]
        rw [size_mkS]
        show (encs (apT (tok l) cs)).length ≤ _
        omega
    · rw [if_neg hm] at h; exact absurd h hm
  · have : (⟨#[]⟩ : ByteArray).size = 0 := rfl
    omega
theorem allR_c (A : Option Addr) (n c : Nat) (ls : List (List Sp)) (s : ByteArray) (w : World) (h : RdSS w A n c ls) (hq : ∀ l ∈ ls, l.length ≤ 1000) (hts : ∀ l ∈ ls, ∀ s ∈ l, s.2.2.size ≤ 1000000000) (hT : s.size + sumTT ls ≤ 1000000000) (hn : n ≤ 1000000) :
    Calls Tryd.prog 23 #[.string s, .slice A n c] w fun e w' => e = .returned (allV s ls) ∧ Ext w w' := by
  have HV := Lib.hid (fun w' => validR_c s w' (by omega))
  have HTO : Hid (∀ (l : List Sp) (x : ByteArray) a k c' w', Ext w w' → l ∈ ls → l.length = k → Rd w' 3 (.slice a k c') k (spCells l) → x.size + sumT l ≤ 1000000000 → _) := Lib.hid fun l x a k c' w' hx hl hk hr hb => toR_c a k c' l x w' hr hk (by have := hq l hl; omega) (hts l hl) (by omega) (by omega)
  have hln := h.1
  have hinit : allL s ls = allL s (ls.drop 0) := by rw [List.drop_zero]
  have hsum0 : s.size + sumTT (ls.drop 0) ≤ 1000000000 := by rw [List.drop_zero]; exact hT
  have H := Lib.hid h; have HLN := Lib.hid hln; have HI := Lib.hid hinit
  by_cases hb : (dec (bs s)).isSome = true ∨ n ≠ 0
  · have hres : allV s ls = .tuple #[.string (allL s ls).1, .int .i64 (allL s ls).2] := by
      unfold allV allR
      rw [if_neg]
      rintro ⟨h1, h2⟩
      rcases hb with hb | hb
      · rw [h2] at hb; cases hb
      · rw [h1] at hln; exact hb hln.symm
    have HRES := Lib.hid hres
    have hb2 : (dec (bs s)).isSome = true ∨ ((dec (bs s)).isSome = false ∧ ((n : Int) == 0) = false) := by
      cases hd : (dec (bs s)).isSome with
      | true => exact .inl rfl
      | false =>
        rcases hb with hb | hb
        · rw [hd] at hb; cases hb
        · exact .inr ⟨rfl, by rw [beq_eq_false_iff_ne]; omega⟩
    obtain ⟨bb, hbb⟩ : ∃ bb, (dec (bs s)).isSome = bb := ⟨_, rfl⟩
    rw [hbb] at HV hb2
    clear hres hb hbb h hln hinit hT hq hts
    rcases hb2 with rfl | ⟨rfl, hn0⟩
    all_goals
      go_enter Tryd.func23, Tryd.ntmps23
      go_wp2_with fail
      refine (HV.out _).mono ?_; rintro e w1 ⟨rfl, hx1⟩
      have HX1 := Lib.hid hx1
      clear hx1
      go_wp2_with fail
      go_loopw [0, 6] (fun x z wr => ∃ (j : Nat) (si : ByteArray), j ≤ n ∧ z = .int .i64 j ∧ x = .string si ∧ allL s ls = allL si (ls.drop j) ∧ si.size + sumTT (ls.drop j) ≤ 1000000000 ∧ Ext w wr) (fun _ z _ => n - (intOf z).toNat)
      case atStart => exact ⟨0, s, by omega, rfl, rfl, HI.out, hsum0, HX1.out⟩
      case round =>
        obtain ⟨j, si, hj, rfl, rfl, hal, hsz, hxr⟩ := hrel
        by_cases hlt : j < n
        · have hjl : j < ls.length := by have := HLN.out; omega
          obtain ⟨b, off, a, kc, rfl, hb, q0, hr⟩ := (H.out.ext hxr).at_ hlt hjl
          have dn : decide (j < n) = true := by rw [decide_eq_true_eq]; exact hlt
          have i0 : (0 : Int) ≤ (j : Int) := by omega
          have i1 : (j : Int) < (n : Int) := by omega
          have hdr : ls.drop j = ls[j] :: ls.drop (j + 1) := List.drop_eq_getElem_cons hjl
          rw [hdr, allL] at hal
          rw [hdr] at hsz
          have hs2 : sumTT (ls[j] :: ls.drop (j + 1)) = sumT ls[j] + sumTT (ls.drop (j + 1)) := rfl
          have hc := HTO.out ls[j] si a _ kc wr hxr (List.getElem_mem hjl) rfl hr (by omega)
          have hgr := toS_size ls[j] si
          rw [hs2] at hsz
          have HC := Lib.hid hc
          clear hc hdr hs2 hr hb
          obtain ⟨k, hk⟩ : ∃ k, ls[j].length = k := ⟨_, rfl⟩
          rw [hk] at q0 HC
          clear hk
          generalize ls[j] = l at *
          by_cases he : toE l si = 0
          · rw [if_pos he] at hal
            have hv : toV l si = .tuple #[.string (toS l si), .int .i64 0] := by unfold toV; rw [he]
            rw [hv] at HC
            have HAL := Lib.hid hal
            clear hal hv he
            have hsz2 : (toS l si).size + sumTT (ls.drop (j + 1)) ≤ 1000000000 := by omega
            generalize toS l si = sj at *
            go_wp2_with fail
            refine HC.out.mono ?_; rintro e w2 ⟨rfl, hx2⟩
            go_wp2_with fail
            go_roundw
            case rel => exact ⟨j + 1, sj, by omega, by go_num, rfl, HAL.out, hsz2, hxr.trans hx2⟩
            case measure => simp [intOf]; omega
          · rw [if_neg he] at hal
            have HAL := Lib.hid hal
            have hb1 : (toE l si != 0) = true := by rw [bne_iff_ne]; exact he
            have hb2 : (toE l si == 0) = false := by rw [beq_eq_false_iff_ne]; exact he
            unfold toV at HC
            clear hal he
            generalize toS l si = sj at *
            generalize toE l si = ej at *
            go_wp2_with fail
            refine HC.out.mono ?_; rintro e w2 ⟨rfl, hx2⟩
            go_wp2_with fail
            go_ret2
            rw [HRES.out, HAL.out]
            exact ⟨rfl, hxr.trans hx2⟩
        · obtain rfl : j = n := by omega
          have hall : ls.drop j = [] := List.drop_eq_nil_of_le (by have := HLN.out; omega)
          rw [hall] at hal
          have HAL := Lib.hid hal
          have dn : decide (j < j) = false := by rw [decide_eq_false_iff_not]; omega
          clear hal hall hlt hj
          go_wp2_with fail
          go_ret2
          rw [HRES.out, HAL.out]
          exact ⟨rfl, hxr⟩
  · have hb1 : (dec (bs s)).isSome = false := by
      cases hd : (dec (bs s)).isSome with
      | true => exact absurd (.inl hd) hb
      | false => rfl
    have hn0 : n = 0 := by
      by_cases h0 : n = 0
      · exact h0
      · exact absurd (.inr h0) hb
    have hl0 : ls = [] := List.eq_nil_of_length_eq_zero (by omega)
    have hres : allV s ls = .tuple #[.string ⟨#[]⟩, .int .i64 3] := by
      unfold allV allR
      rw [if_pos ⟨hl0, by cases hd : dec (bs s) with | none => rfl | some x => rw [hd] at hb1; cases hb1⟩]
    have HRES := Lib.hid hres
    rw [hb1] at HV
    subst hn0
    clear hres hb hb1 h hln hinit hT hq hts hl0
    go_enter Tryd.func23, Tryd.ntmps23
    go_wp2_with fail
    refine (HV.out _).mono ?_; rintro e w1 ⟨rfl, hx1⟩
    go_wp2_with fail
    go_ret2
    rw [HRES.out]
    exact ⟨rfl, hx1⟩
end Go.Proofs.YtejgkhmpmnjgaaaDoor
