/- Layer 7, the reference: To. -/
import Derived.Test.YtngdlplcdinjdaaDoorM7
import Derived.Test.YtngdlplcdinjdaaDoorC6
import Derived.Deep.QuietTactic
import Derived.BigQuiet
namespace Go.Proofs.YtngdlplcdinjdaaDoor
open Go.RowKit
set_option maxRecDepth 100000
set_option maxHeartbeats 4000000
theorem toR_c (A : Option Addr) (q c : Nat) (l : List Sp) (s : ByteArray) (w : World) (h : Rd w 3 (.slice A q c) q (spCells l)) (hl : l.length = q) (hq : q ≤ 1000) (hts : ∀ s ∈ l, s.2.2.size ≤ 1000000000) (hT : sumT l ≤ 1000000000) (hs : s.size ≤ 1000000000) :
    Calls Tryd.prog 12 #[.slice A q c, .string s] w fun e w' => e = .returned (toV l s) ∧ Ext w w' := by
  have HM : Hid (∀ w', Ext w w' → _) := Lib.hid fun w' hx => mayR4_c A q c l w' (h.ext hx) hl hq hts
  have HI : Hid (∀ w', Ext w w' → _) := Lib.hid fun w' hx => inR4_c A q c l w' (h.ext hx) hl hq
  have HST := Lib.hid (fun w' => starts_c s w' hs)
  by_cases hm : mayL l = 0
  · obtain ⟨hall, hi0, hi1⟩ := mayL_all hm (by omega)
    have hok : ∀ s ∈ l, OkW s := fun s hs => okW_of_may (hall s hs)
    have hwi : wrap64 (inL l) = inL l := by unfold wrap64; omega
    have htin := (tin_ok l hok).1
    rw [hm] at HM
    rw [hwi] at HI
    cases hd : dec (bs s) with
    | none =>
      have HV := Lib.hid (to_none hm hd)
      clear h hl hts hT hm hall hok hwi htin
      go_enter Tryd.func12, Tryd.ntmps12
      go_wp2_with fail
      refine (HM.out _ (Ext.refl _)).mono ?_; rintro e w1 ⟨rfl, hx1⟩
      go_wp2_with fail
      refine (HST.out _).mono ?_; rintro e w2 ⟨hx2, ⟨_, rfl⟩ | ⟨cs, v, hc, _, _⟩⟩
      · clear hd
        go_wp2_with fail
        go_ret2
        rw [HV.out]
        exact ⟨rfl, hx1.trans hx2⟩
      · rw [hd] at hc; cases hc
    | some cs =>
      have hcs : cs.length ≤ 1000000000 := by
        have h1 := length_le_encs cs
        rw [← (dec_some hd).2, bs_length] at h1; omega
      by_cases hn : (cs.length : Int) = inL l
      · obtain ⟨hE, hS⟩ := to_ok hm hd hn
        have HV : Hid (toV l s = .tuple #[.string (mkS (encs (apT (tok l) cs))), .int .i64 0]) := Lib.hid (by unfold toV; rw [hE, hS])
        have HSZ : Hid (∀ j, (encs (apT (tok (l.take j)) cs)).length ≤ 2000000000) := Lib.hid fun j => by
          have h1 := apT_size (tok (l.take j)) cs
          have h2 := insT_sum (l.take j) fun s hs => hok s (List.mem_of_mem_take hs)
          have h3 : sumT (l.take j) ≤ sumT l := by
            have e : sumT (l.take j) + sumT (l.drop j) = sumT l := by rw [← sumT_append, List.take_append_drop]
            omega
          have h4 : (encs cs).length = s.size := by rw [← (dec_some hd).2, bs_length]
          omega
        obtain ⟨N, hN⟩ : ∃ N, cs.length = N := ⟨_, rfl⟩
        have hNi : (N : Int) = inL l := by omega
        rw [← hNi] at HI
        have htN : tin (tok l) = N := by omega
        have hN9 : N ≤ 1000000000 := by omega
        have hwn3 : wrap64 (N : Int) = (N : Int) := by unfold wrap64; omega
        have HD := Lib.hid hd
        have HB : Hid (bs s = encs cs) := Lib.hid (dec_some hd).2
        have HOK := Lib.hid hok; have HN := Lib.hid hN; have HTN := Lib.hid htN
        have H := Lib.hid h; have HL := Lib.hid hl
        have hsz0 := hs
        clear h hl hts hT hm hall hwi htin hn hE hS hok hN hd hi0 hi1 hNi htN
        go_enter Tryd.func12, Tryd.ntmps12
        go_wp2_with fail
        refine (HM.out _ (Ext.refl _)).mono ?_; rintro e w1 ⟨rfl, hx1⟩
        go_wp2_with fail
        refine (HST.out _).mono ?_; rintro e w2 ⟨hx2, ⟨hc, _⟩ | ⟨cs', v, hc, rfl, hown⟩⟩
        · rw [HD.out] at hc; cases hc
        obtain rfl : cs' = cs := by rw [HD.out] at hc; injection hc with hc; exact hc.symm
        rw [HN.out] at hown
        obtain ⟨g, cap, rfl, hcc, _, hgb, hcell⟩ := hown.cells (by omega)
        have HCELL := Lib.hid hcell
        have hx12 := hx1.trans hx2
        have hwn : ((N + 1 : Nat) : Int) - 1 = (N : Int) := by omega
        have hwn2 : IntKind.i64.wrap ((N : Int) + 1 - 1) = (N : Int) := by rw [IntKind.wrap_i64]; omega
        clear hc hown hcell hx1 hx2
        go_wp2_with fail
        refine (HI.out _ hx12).mono ?_; rintro e w3 ⟨rfl, hx3⟩
        have HX3 := Lib.hid hx3
        have HXW := Lib.hid (hx12.trans hx3)
        clear hx3 hx12
        go_wp2_with fail
        go_loopw [9, 10, 11] (fun o a z wr => ∃ j : Nat, j ≤ q ∧ z = .int .i64 j ∧ a = .int .i64 ((tin (tok (l.take j)) : Nat) : Int) ∧ o = .string (mkS (encs (apT (tok (l.take j)) cs'))) ∧ Ext w3 wr) (fun _ _ z _ => q - (intOf z).toNat)
        case atStart => exact ⟨0, by omega, rfl, by rw [List.take_zero]; rfl, by rw [List.take_zero]; rfl, Ext.refl _⟩
        case round =>
          obtain ⟨j, hj, rfl, rfl, rfl, hxr⟩ := hrel
          by_cases hlt : j < q
          · have hjl : j < l.length := by have := HL.out; omega
            obtain ⟨b, off, rfl, hb, q0, q1, q2⟩ := sp_at (H.out.ext (HXW.out.trans hxr)) HL.out hlt
            have dn : decide (j < q) = true := by rw [decide_eq_true_eq]; exact hlt
            have i0 : (0 : Int) ≤ (j : Int) := by omega
            have i1 : (j : Int) < (q : Int) := by omega
            have hstk := tok_take l j hjl
            have hle1 := tin_le_of_take l j
            have hle2 := tin_le_of_take l (j + 1)
            rw [HTN.out] at hle1 hle2
            have hok := HOK.out _ (List.getElem_mem hjl)
            have hs1 := HSZ.out j
            have hs2 := HSZ.out (j + 1)
            have hap := apT_append (tok (l.take j)) (tokS l[j]) cs'
            rw [← hstk] at hap
            have htn := tin_append (tok (l.take j)) (tokS l[j])
            rw [← hstk] at htn
            unfold OkW at hok
            obtain ⟨sp, hsp⟩ : ∃ sp, l[j] = sp := ⟨_, rfl⟩
            rw [hsp] at q0 q1 q2 hok hap htn hstk
            clear hsp
            obtain ⟨a1, a2, a3⟩ := sp
            simp only at q0 q1 q2 hok
            obtain ⟨TJ, hTJ⟩ : ∃ TJ, tok (l.take (j + 1)) = TJ := ⟨_, rfl⟩
            rw [hTJ] at hap htn hs2 hle2 hstk
            have HTJ := Lib.hid hTJ
            clear hTJ hstk
            obtain ⟨X, hX⟩ : ∃ X, apT (tok (l.take j)) cs' = X := ⟨_, rfl⟩
            obtain ⟨Y, hY⟩ : ∃ Y, apT TJ cs' = Y := ⟨_, rfl⟩
            obtain ⟨at0, hat⟩ : ∃ at0, tin (tok (l.take j)) = at0 := ⟨_, rfl⟩
            obtain ⟨at1, hat1⟩ : ∃ at1, tin TJ = at1 := ⟨_, rfl⟩
            rw [hX, hY, hat] at hap
            rw [hat, hat1] at htn
            rw [hX] at hs1 ⊢
            rw [hY] at hs2
            rw [hat] at hle1 ⊢
            rw [hat1] at hle2
            have HY := Lib.hid hY; have HA1 := Lib.hid hat1
            clear hX hY hat hat1
            rcases hok with ⟨k1, n1, us, hu⟩ | ⟨k1, n1, t1⟩
            · subst k1
              rw [tokS_text _ _ hu, apT_ins] at hap
              rw [tokS_text _ _ hu, tin_map_ins] at htn
              have hcat := ap_text X us a3 hu
              rw [← hap] at hcat
              have hsc : (mkS (encs X)).size + a3.size = (mkS (encs Y)).size := by rw [← hcat, ByteArray.size_append]
              have hsb : ¬ 9223372036854775807 < (mkS (encs X)).size + a3.size := by rw [hsc, size_mkS]; omega
              have HC := Lib.hid hcat
              have hat2 : at1 = at0 := by omega
              subst hat2
              clear hu hap htn hcat hsc hs1 hs2
              generalize mkS (encs X) = SX at *
              go_wp2_with fail
              go_roundw
              case rel => exact ⟨j + 1, by omega, by go_num, by rw [HTJ.out, HA1.out], by rw [HTJ.out, HY.out, ← HC.out], hxr⟩
              case measure => simp [intOf]; omega
            · obtain ⟨k, rfl⟩ := Int.eq_ofNat_of_zero_le n1
              rcases k1 with k1 | k1
              · subst k1
                rw [tokS_num _ _ _ (by decide), if_neg (by decide), Int.toNat_natCast, apT_keep] at hap
                rw [tokS_num _ _ _ (by decide), if_neg (by decide), Int.toNat_natCast, tin_rep _ (.inl rfl)] at htn
                have hsum : IntKind.i64.wrap ((at0 : Int) + (k : Int)) = (at0 : Int) + (k : Int) := by rw [IntKind.wrap_i64]; omega
                have c1 := ext_cell (HX3.out.trans hxr) (HCELL.out at0 _ (startsV_at cs' at0 (by have := HN.out; omega)))
                have c2 := ext_cell (HX3.out.trans hxr) (HCELL.out (at0 + k) _ (startsV_at cs' (at0 + k) (by have := HN.out; omega)))
                have hle := encs_take_le cs' at0 (at0 + k) (by omega)
                have hle3 : (encs (cs'.take (at0 + k))).length ≤ s.size := by
                  have := encs_take_le cs' (at0 + k) cs'.length (by have := HN.out; omega)
                  rw [List.take_length, ← HB.out, bs_length] at this; exact this
                have hout : s.extract (encs (cs'.take at0)).length (encs (cs'.take (at0 + k))).length = mkS (encs ((cs'.drop at0).take k)) := by
                  refine mkS_of ?_
                  rw [bs_extract, HB.out, encs_cut cs' at0 (at0 + k) (by omega), List.drop_take]
                  congr 2; omega
                have hcat : mkS (encs X) ++ s.extract (encs (cs'.take at0)).length (encs (cs'.take (at0 + k))).length = mkS (encs Y) := by
                  rw [hout]
                  apply bs_inj
                  rw [bs_append, bs_mkS, bs_mkS, bs_mkS, hap, encs_append]
                have hsc := congrArg ByteArray.size hcat
                rw [ByteArray.size_append] at hsc
                have hsb : ¬ 9223372036854775807 < (mkS (encs X)).size + (s.extract (encs (cs'.take at0)).length (encs (cs'.take (at0 + k))).length).size := by rw [hsc, size_mkS]; omega
                have HC := Lib.hid hcat
                have b0 : (0 : Int) ≤ (at0 : Int) := by omega
                have b1 : (at0 : Int) < (N : Int) + 1 := by omega
                have b2 : (0 : Int) ≤ (at0 : Int) + (k : Int) := by omega
                have b3 : (at0 : Int) + (k : Int) < (N : Int) + 1 := by omega
                have HA2 : Hid ((at0 : Int) + (k : Int) = (at1 : Int)) := Lib.hid (by omega)
                clear hap htn hcat hsc hs1 hs2 hout
                generalize mkS (encs X) = SX at *
                generalize (encs (cs'.take at0)).length = p0 at *
                generalize (encs (cs'.take (at0 + k))).length = p1 at *
                go_wp2_with fail
                go_quiet (fail)
                go_wp2_with fail
                go_roundw
                case rel => exact ⟨j + 1, by omega, by go_num, by rw [HTJ.out, HA1.out, ← HA2.out], by rw [HTJ.out, HY.out, ← HC.out], hxr.drewN _⟩
                case measure => simp [intOf]; omega
              · subst k1
                rw [tokS_num _ _ _ (by decide), if_pos rfl, Int.toNat_natCast, apT_del, List.append_nil] at hap
                rw [tokS_num _ _ _ (by decide), if_pos rfl, Int.toNat_natCast, tin_rep _ (.inr rfl)] at htn
                have HA2 : Hid ((at0 : Int) + (k : Int) = (at1 : Int)) := Lib.hid (by omega)
                have HC := Lib.hid hap
                have hk2 : at0 + k ≤ 1000000000 := by omega
                have hsum : wrap64 ((at0 : Int) + (k : Int)) = (at0 : Int) + (k : Int) := by unfold wrap64; omega
                clear hap htn hs1 hs2
                go_wp2_with fail
                go_roundw
                case rel => exact ⟨j + 1, by omega, by go_num, by rw [HTJ.out, HA1.out, ← HA2.out, hsum], by rw [HTJ.out, HY.out, HC.out], hxr⟩
                case measure => simp [intOf]; omega
          · obtain rfl : j = q := by omega
            have hall : l.take j = l := by rw [← HL.out]; exact List.take_length
            rw [hall]
            clear hlt hj hall
            have dn : decide (j < j) = false := by rw [decide_eq_false_iff_not]; omega
            generalize apT (tok l) cs' = X at *
            generalize tin (tok l) = TT at *
            go_wp2_with fail
            go_ret2
            rw [HV.out]
            exact ⟨rfl, HXW.out.trans hxr⟩
      · have HV := Lib.hid (to_len hm hd hn)
        obtain ⟨N, hN⟩ : ∃ N, cs.length = N := ⟨_, rfl⟩
        rw [hN] at hn hcs
        have hwn3 : wrap64 (N : Int) = (N : Int) := by unfold wrap64; omega
        have HD := Lib.hid hd; have HN := Lib.hid hN
        have hbn : ((N : Int) == inL l) = false := by rw [beq_eq_false_iff_ne]; exact hn
        have hbn2 : ((N : Int) != inL l) = true := by rw [bne_iff_ne]; exact hn
        clear h hl hts hT hm hall hok hwi htin hN hd
        generalize inL l = IL at *
        go_enter Tryd.func12, Tryd.ntmps12
        go_wp2_with fail
        refine (HM.out _ (Ext.refl _)).mono ?_; rintro e w1 ⟨rfl, hx1⟩
        go_wp2_with fail
        refine (HST.out _).mono ?_; rintro e w2 ⟨hx2, ⟨hc, _⟩ | ⟨cs', v, hc, rfl, hown⟩⟩
        · rw [HD.out] at hc; cases hc
        obtain rfl : cs' = cs := by rw [HD.out] at hc; injection hc with hc; exact hc.symm
        rw [HN.out] at hown
        obtain ⟨a2, c2, rfl, _⟩ := hown.len
        have hwn : ((N + 1 : Nat) : Int) - 1 = (N : Int) := by omega
        have hwn2 : IntKind.i64.wrap ((N : Int) + 1 - 1) = (N : Int) := by rw [IntKind.wrap_i64]; omega
        clear hc hown
        go_wp2_with fail
        refine (HI.out _ (hx1.trans hx2)).mono ?_; rintro e w3 ⟨rfl, hx3⟩
        go_wp2_with fail
        go_ret2
        rw [HV.out]
        exact ⟨rfl, (hx1.trans hx2).trans hx3⟩
  · have HV := Lib.hid (to_may (s := s) hm)
    have hb1 : (mayL l != 0) = true := by rw [bne_iff_ne]; exact hm
    have hb2 : (mayL l == 0) = false := by rw [beq_eq_false_iff_ne]; exact hm
    clear h hl hts hT hm
    generalize mayL l = ML at *
    go_enter Tryd.func12, Tryd.ntmps12
    go_wp2_with fail
    refine (HM.out _ (Ext.refl _)).mono ?_; rintro e w1 ⟨rfl, hx1⟩
    go_wp2_with fail
    go_ret2
    rw [HV.out]
    exact ⟨rfl, hx1⟩
end Go.Proofs.YtngdlplcdinjdaaDoor
