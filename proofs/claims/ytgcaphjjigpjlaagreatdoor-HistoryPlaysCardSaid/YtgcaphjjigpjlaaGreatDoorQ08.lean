/- Packed: C7 M16. -/
import Derived.ArgAppend
import Derived.BigQuiet
import Derived.Deep.Cut
import Derived.Deep.CutRange
import Derived.Deep.DrawnRows
import Derived.Deep.MidRow
import Derived.Deep.QuietTactic
import Derived.Deep.RegionHeld3
import Derived.Deep.RegionWith
import Derived.Deep.Upon
import Derived.Laws.AppendOwnNone
import Derived.Laws.BytesArg
import Derived.Laws.IdiomCopy
import Derived.Laws.MakeOwn
import Derived.Laws.ResultCell
import Derived.Lib.AppendStr
import Derived.Lib.Builder
import Derived.Lib.DecodeN
import Derived.Lib.Hide
import Derived.Lib.Strings
import Derived.Lib.UnsafeStr
import Derived.StillTail
import Derived.StillTailTactics
import Derived.Test.YtgcaphjjigpjlaaGreatDoorProg
import Derived.Test.YtgcaphjjigpjlaaGreatDoorShelf
import Derived.WalkKit
import Derived.WalkLawsBesides
import Derived.WalkSpells
import Derived.Test.YtgcaphjjigpjlaaGreatDoorQ00
import Derived.Test.YtgcaphjjigpjlaaGreatDoorQ01
import Derived.Test.YtgcaphjjigpjlaaGreatDoorQ02
import Derived.Test.YtgcaphjjigpjlaaGreatDoorQ03
import Derived.Test.YtgcaphjjigpjlaaGreatDoorQ04
import Derived.Test.YtgcaphjjigpjlaaGreatDoorQ05
import Derived.Test.YtgcaphjjigpjlaaGreatDoorQ06
import Derived.Test.YtgcaphjjigpjlaaGreatDoorQ07
namespace Go.Proofs.YtgcaphjjigpjlaaGreatDoor
open Go.RowKit
set_option maxRecDepth 100000
set_option maxHeartbeats 4000000
theorem toR_c (A : Option Addr) (q c : Nat) (l : List Sp) (s : ByteArray) (w : World) (h : Rd w 3 (.slice A q c) q (spCells l)) (hl : l.length = q) (hq : q ≤ 1000) (hts : ∀ s ∈ l, s.2.2.size ≤ 1000000000) (hT : sumT l ≤ 1000000000) (hs : s.size ≤ 1000000000) :
    Calls Tryz.prog 35 #[.slice A q c, .string s] w fun e w' => e = .returned (toV l s) ∧ Ext w w' := by
  have HM : Hid (∀ w', Ext w w' → _) := Lib.hid fun w' hx => mayR4_c A q c l w' (h.ext hx) hl hq hts
  have HI : Hid (∀ w', Ext w w' → _) := Lib.hid fun w' hx => inR4_c A q c l w' (h.ext hx) hl hq
  have HST := Lib.hid (fun w' => starts_c s w' hs)
  by_cases hm : mayL l = 0
  · obtain ⟨hall, hi0, hi1⟩ := mayL_all hm (by omega)
    have hok : ∀ s ∈ l, OkW s := fun s hs => okW_of_may (hall s hs)
    have hwi : wrap64 (inL l) = inL l := by unfold wrap64; omega
    have htin := (tin_ok l hok).1
    rw [hm] at HM
    rw [hwi] at HI
    cases hd : dec (bs s) with
    | none =>
      have HV := Lib.hid (to_none hm hd)
      clear h hl hts hT hm hall hok hwi htin
      go_enter Tryz.func35, Tryz.ntmps35
      go_wp2_with fail
      refine (HM.out _ (Ext.refl _)).mono ?_; rintro e w1 ⟨rfl, hx1⟩
      go_wp2_with fail
      refine (HST.out _).mono ?_; rintro e w2 ⟨hx2, ⟨_, rfl⟩ | ⟨cs, v, hc, _, _⟩⟩
      · clear hd
        go_wp2_with fail
        go_ret2
        rw [HV.out]
        exact ⟨rfl, hx1.trans hx2⟩
      · rw [hd] at hc; cases hc
    | some cs =>
      have hcs : cs.length ≤ 1000000000 := by
        have h1 := length_le_encs cs
        rw [← (dec_some hd).2, bs_length] at h1; omega
      by_cases hn : (cs.length : Int) = inL l
      · obtain ⟨hE, hS⟩ := to_ok hm hd hn
        have HV : Hid (toV l s = .tuple #[.string (mkS (encs (apT (tok l) cs))), .int .i64 0]) := Lib.hid (by unfold toV; rw [hE, hS])
        have HSZ : Hid (∀ j, (encs (apT (tok (l.take j)) cs)).length ≤ 2000000000) := Lib.hid fun j => by
          have h1 := apT_size (tok (l.take j)) cs
          have h2 := insT_sum (l.take j) fun s hs => hok s (List.mem_of_mem_take hs)
          have h3 : sumT (l.take j) ≤ sumT l := by
            have e : sumT (l.take j) + sumT (l.drop j) = sumT l := by rw [← sumT_append, List.take_append_drop]
            omega
          have h4 : (encs cs).length = s.size := by rw [← (dec_some hd).2, bs_length]
          omega
        obtain ⟨N, hN⟩ : ∃ N, cs.length = N := ⟨_, rfl⟩
        have hNi : (N : Int) = inL l := by omega
        rw [← hNi] at HI
        have htN : tin (tok l) = N := by omega
        have hN9 : N ≤ 1000000000 := by omega
        have hwn3 : wrap64 (N : Int) = (N : Int) := by unfold wrap64; omega
        have HD := Lib.hid hd
        have HB : Hid (bs s = encs cs) := Lib.hid (dec_some hd).2
        have HOK := Lib.hid hok; have HN := Lib.hid hN; have HTN := Lib.hid htN
        have H := Lib.hid h; have HL := Lib.hid hl
        have hsz0 := hs
        clear h hl hts hT hm hall hwi htin hn hE hS hok hN hd hi0 hi1 hNi htN
        go_enter Tryz.func35, Tryz.ntmps35
        go_wp2_with fail
        refine (HM.out _ (Ext.refl _)).mono ?_; rintro e w1 ⟨rfl, hx1⟩
        go_wp2_with fail
        refine (HST.out _).mono ?_; rintro e w2 ⟨hx2, ⟨hc, _⟩ | ⟨cs', v, hc, rfl, hown⟩⟩
        · rw [HD.out] at hc; cases hc
        obtain rfl : cs' = cs := by rw [HD.out] at hc; injection hc with hc; exact hc.symm
        rw [HN.out] at hown
        obtain ⟨g, cap, rfl, hcc, _, hgb, hcell⟩ := hown.cells (by omega)
        have HCELL := Lib.hid hcell
        have hx12 := hx1.trans hx2
        have hwn : ((N + 1 : Nat) : Int) - 1 = (N : Int) := by omega
        have hwn2 : IntKind.i64.wrap ((N : Int) + 1 - 1) = (N : Int) := by rw [IntKind.wrap_i64]; omega
        clear hc hown hcell hx1 hx2
        go_wp2_with fail
        refine (HI.out _ hx12).mono ?_; rintro e w3 ⟨rfl, hx3⟩
        have HX3 := Lib.hid hx3
        have HXW := Lib.hid (hx12.trans hx3)
        clear hx3 hx12
        go_wp2_with fail
        go_loopw [9, 10, 11] (fun o a z wr => ∃ j : Nat, j ≤ q ∧ z = .int .i64 j ∧ a = .int .i64 ((tin (tok (l.take j)) : Nat) : Int) ∧ o = .string (mkS (encs (apT (tok (l.take j)) cs'))) ∧ Ext w3 wr) (fun _ _ z _ => q - (intOf z).toNat)
        case atStart => exact ⟨0, by omega, rfl, by rw [List.take_zero]; rfl, by rw [List.take_zero]; rfl, Ext.refl _⟩
        case round =>
          obtain ⟨j, hj, rfl, rfl, rfl, hxr⟩ := hrel
          by_cases hlt : j < q
          · have hjl : j < l.length := by have := HL.out; omega
            obtain ⟨b, off, rfl, hb, q0, q1, q2⟩ := sp_at (H.out.ext (HXW.out.trans hxr)) HL.out hlt
            have dn : decide (j < q) = true := by rw [decide_eq_true_eq]; exact hlt
            have i0 : (0 : Int) ≤ (j : Int) := by omega
            have i1 : (j : Int) < (q : Int) := by omega
            have hstk := tok_take l j hjl
            have hle1 := tin_le_of_take l j
            have hle2 := tin_le_of_take l (j + 1)
            rw [HTN.out] at hle1 hle2
            have hok := HOK.out _ (List.getElem_mem hjl)
            have hs1 := HSZ.out j
            have hs2 := HSZ.out (j + 1)
            have hap := apT_append (tok (l.take j)) (tokS l[j]) cs'
            rw [← hstk] at hap
            have htn := tin_append (tok (l.take j)) (tokS l[j])
            rw [← hstk] at htn
            unfold OkW at hok
            obtain ⟨sp, hsp⟩ : ∃ sp, l[j] = sp := ⟨_, rfl⟩
            rw [hsp] at q0 q1 q2 hok hap htn hstk
            clear hsp
            obtain ⟨a1, a2, a3⟩ := sp
            simp only at q0 q1 q2 hok
            obtain ⟨TJ, hTJ⟩ : ∃ TJ, tok (l.take (j + 1)) = TJ := ⟨_, rfl⟩
            rw [hTJ] at hap htn hs2 hle2 hstk
            have HTJ := Lib.hid hTJ
            clear hTJ hstk
            obtain ⟨X, hX⟩ : ∃ X, apT (tok (l.take j)) cs' = X := ⟨_, rfl⟩
            obtain ⟨Y, hY⟩ : ∃ Y, apT TJ cs' = Y := ⟨_, rfl⟩
            obtain ⟨at0, hat⟩ : ∃ at0, tin (tok (l.take j)) = at0 := ⟨_, rfl⟩
            obtain ⟨at1, hat1⟩ : ∃ at1, tin TJ = at1 := ⟨_, rfl⟩
            rw [hX, hY, hat] at hap
            rw [hat, hat1] at htn
            rw [hX] at hs1 ⊢
            rw [hY] at hs2
            rw [hat] at hle1 ⊢
            rw [hat1] at hle2
            have HY := Lib.hid hY; have HA1 := Lib.hid hat1
            clear hX hY hat hat1
            rcases hok with ⟨k1, n1, us, hu⟩ | ⟨k1, n1, t1⟩
            · subst k1
              rw [tokS_text _ _ hu, apT_ins] at hap
              rw [tokS_text _ _ hu, tin_map_ins] at htn
              have hcat := ap_text X us a3 hu
              rw [← hap] at hcat
              have hsc : (mkS (encs X)).size + a3.size = (mkS (encs Y)).size := by rw [← hcat, ByteArray.size_append]
              have hsb : ¬ 9223372036854775807 < (mkS (encs X)).size + a3.size := by rw [hsc, size_mkS]; omega
              have HC := Lib.hid hcat
              have hat2 : at1 = at0 := by omega
              subst hat2
              clear hu hap htn hcat hsc hs1 hs2
              generalize mkS (encs X) = SX at *
              go_wp2_with fail
              go_roundw
              case rel => exact ⟨j + 1, by omega, by go_num, by rw [HTJ.out, HA1.out], by rw [HTJ.out, HY.out, ← HC.out], hxr⟩
              case measure => simp [intOf]; omega
            · obtain ⟨k, rfl⟩ := Int.eq_ofNat_of_zero_le n1
              rcases k1 with k1 | k1
              · subst k1
                rw [tokS_num _ _ _ (by decide), if_neg (by decide), Int.toNat_natCast, apT_keep] at hap
                rw [tokS_num _ _ _ (by decide), if_neg (by decide), Int.toNat_natCast, tin_rep _ (.inl rfl)] at htn
                have hsum : IntKind.i64.wrap ((at0 : Int) + (k : Int)) = (at0 : Int) + (k : Int) := by rw [IntKind.wrap_i64]; omega
                have c1 := ext_cell (HX3.out.trans hxr) (HCELL.out at0 _ (startsV_at cs' at0 (by have := HN.out; omega)))
                have c2 := ext_cell (HX3.out.trans hxr) (HCELL.out (at0 + k) _ (startsV_at cs' (at0 + k) (by have := HN.out; omega)))
                have hle := encs_take_le cs' at0 (at0 + k) (by omega)
                have hle3 : (encs (cs'.take (at0 + k))).length ≤ s.size := by
                  have := encs_take_le cs' (at0 + k) cs'.length (by have := HN.out; omega)
                  rw [List.take_length, ← HB.out, bs_length] at this; exact this
                have hout : s.extract (encs (cs'.take at0)).length (encs (cs'.take (at0 + k))).length = mkS (encs ((cs'.drop at0).take k)) := by
                  refine mkS_of ?_
                  rw [bs_extract, HB.out, encs_cut cs' at0 (at0 + k) (by omega), List.drop_take]
                  congr 2; omega
                have hcat : mkS (encs X) ++ s.extract (encs (cs'.take at0)).length (encs (cs'.take (at0 + k))).length = mkS (encs Y) := by
                  rw [hout]
                  apply bs_inj
                  rw [bs_append, bs_mkS, bs_mkS, bs_mkS, hap, encs_append]
                have hsc := congrArg ByteArray.size hcat
                rw [ByteArray.size_append] at hsc
                have hsb : ¬ 9223372036854775807 < (mkS (encs X)).size + (s.extract (encs (cs'.take at0)).length (encs (cs'.take (at0 + k))).length).size := by rw [hsc, size_mkS]; omega
                have HC := Lib.hid hcat
                have b0 : (0 : Int) ≤ (at0 : Int) := by omega
                have b1 : (at0 : Int) < (N : Int) + 1 := by omega
                have b2 : (0 : Int) ≤ (at0 : Int) + (k : Int) := by omega
                have b3 : (at0 : Int) + (k : Int) < (N : Int) + 1 := by omega
                have HA2 : Hid ((at0 : Int) + (k : Int) = (at1 : Int)) := Lib.hid (by omega)
                clear hap htn hcat hsc hs1 hs2 hout
                generalize mkS (encs X) = SX at *
                generalize (encs (cs'.take at0)).length = p0 at *
                generalize (encs (cs'.take (at0 + k))).length = p1 at *
                go_wp2_with fail
                go_quiet (fail)
                go_wp2_with fail
                go_roundw
                case rel => exact ⟨j + 1, by omega, by go_num, by rw [HTJ.out, HA1.out, ← HA2.out], by rw [HTJ.out, HY.out, ← HC.out], hxr.drewN _⟩
                case measure => simp [intOf]; omega
              · subst k1
                rw [tokS_num _ _ _ (by decide), if_pos rfl, Int.toNat_natCast, apT_del, List.append_nil] at hap
                rw [tokS_num _ _ _ (by decide), if_pos rfl, Int.toNat_natCast, tin_rep _ (.inr rfl)] at htn
                have HA2 : Hid ((at0 : Int) + (k : Int) = (at1 : Int)) := Lib.hid (by omega)
                have HC := Lib.hid hap
                have hk2 : at0 + k ≤ 1000000000 := by omega
                have hsum : wrap64 ((at0 : Int) + (k : Int)) = (at0 : Int) + (k : Int) := by unfold wrap64; omega
                clear hap htn hs1 hs2
                go_wp2_with fail
                go_roundw
                case rel => exact ⟨j + 1, by omega, by go_num, by rw [HTJ.out, HA1.out, ← HA2.out, hsum], by rw [HTJ.out, HY.out, HC.out], hxr⟩
                case measure => simp [intOf]; omega
          · obtain rfl : j = q := by omega
            have hall : l.take j = l := by rw [← HL.out]; exact List.take_length
            rw [hall]
            clear hlt hj hall
            have dn : decide (j < j) = false := by rw [decide_eq_false_iff_not]; omega
            generalize apT (tok l) cs' = X at *
            generalize tin (tok l) = TT at *
            go_wp2_with fail
            go_ret2
            rw [HV.out]
            exact ⟨rfl, HXW.out.trans hxr⟩
      · have HV := Lib.hid (to_len hm hd hn)
        obtain ⟨N, hN⟩ : ∃ N, cs.length = N := ⟨_, rfl⟩
        rw [hN] at hn hcs
        have hwn3 : wrap64 (N : Int) = (N : Int) := by unfold wrap64; omega
        have HD := Lib.hid hd; have HN := Lib.hid hN
        have hbn : ((N : Int) == inL l) = false := by rw [beq_eq_false_iff_ne]; exact hn
        have hbn2 : ((N : Int) != inL l) = true := by rw [bne_iff_ne]; exact hn
        clear h hl hts hT hm hall hok hwi htin hN hd
        generalize inL l = IL at *
        go_enter Tryz.func35, Tryz.ntmps35
        go_wp2_with fail
        refine (HM.out _ (Ext.refl _)).mono ?_; rintro e w1 ⟨rfl, hx1⟩
        go_wp2_with fail
        refine (HST.out _).mono ?_; rintro e w2 ⟨hx2, ⟨hc, _⟩ | ⟨cs', v, hc, rfl, hown⟩⟩
        · rw [HD.out] at hc; cases hc
        obtain rfl : cs' = cs := by rw [HD.out] at hc; injection hc with hc; exact hc.symm
        rw [HN.out] at hown
        obtain ⟨a2, c2, rfl, _⟩ := hown.len
        have hwn : ((N + 1 : Nat) : Int) - 1 = (N : Int) := by omega
        have hwn2 : IntKind.i64.wrap ((N : Int) + 1 - 1) = (N : Int) := by rw [IntKind.wrap_i64]; omega
        clear hc hown
        go_wp2_with fail
        refine (HI.out _ (hx1.trans hx2)).mono ?_; rintro e w3 ⟨rfl, hx3⟩
        go_wp2_with fail
        go_ret2
        rw [HV.out]
        exact ⟨rfl, (hx1.trans hx2).trans hx3⟩
  · have HV := Lib.hid (to_may (s := s) hm)
    have hb1 : (mayL l != 0) = true := by rw [bne_iff_ne]; exact hm
    have hb2 : (mayL l == 0) = false := by rw [beq_eq_false_iff_ne]; exact hm
    clear h hl hts hT hm
    generalize mayL l = ML at *
    go_enter Tryz.func35, Tryz.ntmps35
    go_wp2_with fail
    refine (HM.out _ (Ext.refl _)).mono ?_; rintro e w1 ⟨rfl, hx1⟩
    go_wp2_with fail
    go_ret2
    rw [HV.out]
    exact ⟨rfl, hx1⟩
end Go.Proofs.YtgcaphjjigpjlaaGreatDoor
namespace Go.Proofs.YtgcaphjjigpjlaaGreatDoor
open Go.RowKit
set_option maxRecDepth 100000
set_option maxHeartbeats 4000000
theorem info_ss : (Tryz.prog.info? 23).map (fun i => (i.zero, i.size, i.bytes)) = some (some (.slice none 0 0), 1, 24) := by kernel_rfl
end Go.Proofs.YtgcaphjjigpjlaaGreatDoor
namespace Go.Proofs.YtgcaphjjigpjlaaGreatDoor
open Go.RowKit
set_option maxRecDepth 100000
set_option maxHeartbeats 4000000
def sumTT (ls : List (List Sp)) : Nat := (ls.map sumT).sum
def allL : ByteArray → List (List Sp) → ByteArray × Int
  | s, [] => (s, 0)
  | s, l :: r => if toE l s = 0 then allL (toS l s) r else (⟨#[]⟩, toE l s)
theorem errL_zero (l : List Sp) (h : errL l = 0) : ∀ s ∈ l, mayS s.1 s.2.1 s.2.2 = 0 := by
  induction l with
  | nil => intro s hs; cases hs
  | cons a t ih =>
    unfold errL at h
    by_cases ha : mayS a.1 a.2.1 a.2.2 = 0
    · rw [if_pos ha] at h
      intro s hs
      rcases List.mem_cons.1 hs with rfl | hs
      · exact ha
      · exact ih h s hs
    · rw [if_neg ha] at h; exact absurd h ha
theorem toS_size (l : List Sp) (s : ByteArray) : (toS l s).size ≤ s.size + sumT l := by
  unfold toS
  split
  · rename_i h
    unfold toE at h
    by_cases hm : mayL l = 0
    · rw [if_pos hm] at h
      cases hd : dec (bs s) with
      | none => rw [hd] at h; cases h
      | some cs =>
        have he : ∀ s ∈ l, mayS s.1 s.2.1 s.2.2 = 0 := by
          unfold mayL at hm
          by_cases h0 : errL l = 0
          · exact errL_zero l h0
          · rw [if_neg h0] at hm; exact absurd hm h0
        have h1 := apT_size (tok l) cs
        have h2 := insT_sum l fun s hs => okW_of_may (he s hs)
        have h4 : (encs cs).length = s.size := by rw [← (dec_some hd).2, bs_length]
        rw [size_mkS]
        show (encs (apT (tok l) cs)).length ≤ _
        omega
    · rw [if_neg hm] at h; exact absurd h hm
  · have : (⟨#[]⟩ : ByteArray).size = 0 := rfl
    omega
end Go.Proofs.YtgcaphjjigpjlaaGreatDoor
namespace Go.Proofs.YtgcaphjjigpjlaaGreatDoor
open Go.RowKit
set_option maxRecDepth 100000
set_option maxHeartbeats 4000000
set_option linter.unusedSimpArgs false
def segE : Int → List (List Sp) → Int
  | _, [] => 0
  | n, l :: r => if mayL l ≠ 0 then mayL l else if inL l ≠ n then 5 else if 1048576 < outL l then 4 else if normL l = l then segE (outL l) r else 8
def logE (s : ByteArray) (rv : List Int) (ls : List (List Sp)) : Int :=
  if dec (bs s) = none then 3 else if 1048576 < cntF (bs s) then 4 else if rowOk rv ∧ rv.length = ls.length + 1 then segE (cntF (bs s)) ls else 6
def atL (s : ByteArray) (rv : List Int) (ls : List (List Sp)) (i : Int) : ByteArray × Int :=
  if logE s rv ls ≠ 0 then (⟨#[]⟩, logE s rv ls) else if i < 0 ∨ (ls.length : Int) < i then (⟨#[]⟩, 6) else allL s (ls.take i.toNat)
def sizesL (s : ByteArray) (ls : List (List Sp)) : List Int := cntF (bs s) :: ls.map outL
theorem sumT_le16 {ls : List (List Sp)} : ∀ l ∈ ls, sumT l ≤ sumTT ls := by
  induction ls with
  | nil => intro l h; cases h
  | cons a r ih =>
    intro l h
    have e : sumTT (a :: r) = sumT a + sumTT r := by simp [sumTT]
    rcases List.mem_cons.1 h with rfl | h
    · omega
    · have := ih l h; omega
theorem isN_iff16 {l : List Sp} (h : pos l) : isN l ↔ normL l = l := ⟨is_norm l, fun e => by rw [← e]; exact norm_is l h⟩
theorem logE_s {s : ByteArray} {rv : List Int} {ls : List (List Sp)} (h : dec (bs s) ≠ none) (h4 : ¬ 1048576 < cntF (bs s)) (h6 : rowOk rv ∧ rv.length = ls.length + 1) : logE s rv ls = segE (cntF (bs s)) ls := by unfold logE; rw [if_neg h, if_neg h4, if_pos h6]
theorem logE_ok {s : ByteArray} {rv : List Int} {ls : List (List Sp)} (h : logE s rv ls = 0) : ∃ cs, dec (bs s) = some cs ∧ cs.length ≤ 1048576 ∧ rowOk rv ∧ rv.length = ls.length + 1 ∧ segE (cs.length : Int) ls = 0 := by
  unfold logE at h
  split at h
  · omega
  · rename_i h3
    obtain ⟨cs, hcs⟩ := Option.ne_none_iff_exists'.1 h3
    split at h
    · omega
    · rename_i h4
      rw [cntF_some hcs] at h4 h
      split at h
      · rename_i h6; exact ⟨cs, hcs, by omega, h6.1, h6.2, h⟩
      · omega
theorem logE_of {s : ByteArray} {rv : List Int} {ls : List (List Sp)} {cs : List Nat} (h1 : dec (bs s) = some cs) (h2 : cs.length ≤ 1048576) (h3 : rowOk rv) (h4 : rv.length = ls.length + 1) (h5 : segE (cs.length : Int) ls = 0) : logE s rv ls = 0 := by
  rw [logE_s (by rw [h1]; simp) (by rw [cntF_some h1]; omega) ⟨h3, h4⟩, cntF_some h1]; exact h5
theorem segE_cons {n : Int} {l : List Sp} {r : List (List Sp)} : segE n (l :: r) = 0 ↔ (mayL l = 0 ∧ inL l = n ∧ outL l ≤ 1048576 ∧ normL l = l) ∧ segE (outL l) r = 0 := by
  rw [segE]
  constructor
  · intro h
    split at h
    · rename_i h1; exact absurd h h1
    · rename_i h1
      split at h
      · omega
      · rename_i h2
        split at h
        · omega
        · rename_i h3
          split at h
          · rename_i h4; exact ⟨⟨by omega, by omega, by omega, h4⟩, h⟩
          · omega
  · rintro ⟨⟨h1, h2, h3, h4⟩, h⟩
    rw [if_neg (by omega), if_neg (by omega), if_neg (by omega), if_pos h4]; exact h
theorem segE_append {n : Int} {a b : List (List Sp)} : segE n (a ++ b) = 0 ↔ segE n a = 0 ∧ segE ((n :: a.map outL).getLast (List.cons_ne_nil _ _)) b = 0 := by
  induction a generalizing n with
  | nil => simp [segE]
  | cons l r ih =>
    rw [List.cons_append, segE_cons, ih, segE_cons]
    have e : ((n :: (l :: r).map outL).getLast (List.cons_ne_nil _ _)) = ((outL l :: r.map outL).getLast (List.cons_ne_nil _ _)) := by simp [List.getLast_cons]
    rw [e]
    constructor
    · rintro ⟨h1, h2, h3⟩; exact ⟨⟨h1, h2⟩, h3⟩
    · rintro ⟨⟨h1, h2⟩, h3⟩; exact ⟨h1, h2, h3⟩
theorem segE_take {n : Int} {ls : List (List Sp)} (k : Nat) (h : segE n ls = 0) : segE n (ls.take k) = 0 := by
  have h1 : segE n (ls.take k ++ ls.drop k) = 0 := by rw [List.take_append_drop]; exact h
  exact (segE_append.1 h1).1
theorem seg_to {l : List Sp} {s : ByteArray} {cs : List Nat} (hd : dec (bs s) = some cs) (hm : mayL l = 0) (hi : inL l = (cs.length : Int)) (hl : l.length ≤ 1000) :
    toE l s = 0 ∧ dec (bs (toS l s)) = some (apT (tok l) cs) ∧ ((apT (tok l) cs).length : Int) = outL l := by
  obtain ⟨g1, g2⟩ := to_ok (l := l) hm hd hi.symm
  have hok : ∀ x ∈ l, OkW x := fun x hx => okW_of_may ((mayL_all hm hl).1 x hx)
  obtain ⟨t1, t2⟩ := tin_ok l hok
  refine ⟨g1, ?_, ?_⟩
  · rw [g2, bs_mkS]
    exact dec_encs (apT_cp _ _ (tok_okT _ hok) (dec_some hd).1)
  · rw [apT_length _ _ (by omega)]; exact t2
theorem allL_ok {s : ByteArray} {ls : List (List Sp)} {cs : List Nat} (hd : dec (bs s) = some cs) (h : segE (cs.length : Int) ls = 0) (hl : ∀ l ∈ ls, l.length ≤ 1000) :
    (allL s ls).2 = 0 ∧ ∃ ds, dec (bs (allL s ls).1) = some ds ∧ (ds.length : Int) = (((cs.length : Int) :: ls.map outL).getLast (List.cons_ne_nil _ _)) := by
  induction ls generalizing s cs with
  | nil => exact ⟨rfl, cs, hd, by simp⟩
  | cons l r ih =>
    obtain ⟨⟨h1, h2, h3, h4⟩, h5⟩ := segE_cons.1 h
    obtain ⟨g1, g2, g3⟩ := seg_to hd h1 h2 (hl l (List.mem_cons_self ..))
    rw [allL, if_pos g1]
    obtain ⟨i1, ds, i2, i3⟩ := ih g2 (by rw [g3]; exact h5) fun x hx => hl x (List.mem_cons_of_mem _ hx)
    refine ⟨i1, ds, i2, ?_⟩
    rw [i3, g3]; simp [List.getLast_cons]
theorem allL_append {s : ByteArray} {a b : List (List Sp)} (h : (allL s a).2 = 0) : allL s (a ++ b) = allL (allL s a).1 b := by
  induction a generalizing s with
  | nil => rfl
  | cons l r ih =>
    rw [List.cons_append]
    rw [allL] at h ⊢
    by_cases he : toE l s = 0
    · rw [if_pos he] at h ⊢
      rw [allL, if_pos he]
      exact ih h
    · rw [if_neg he] at h; exact absurd h he
theorem log_at {s : ByteArray} {rv : List Int} {ls : List (List Sp)} (h : logE s rv ls = 0) (hl : ∀ l ∈ ls, l.length ≤ 1000) {j : Nat} (hj : j ≤ ls.length) :
    atL s rv ls (j : Int) = ((allL s (ls.take j)).1, 0) ∧ ∃ ds, dec (bs (allL s (ls.take j)).1) = some ds ∧ (ds.length : Int) = (sizesL s ls).getD j 0 := by
  obtain ⟨cs, h1, h2, h3, h4, h5⟩ := logE_ok h
  obtain ⟨g1, ds, g2, g3⟩ := allL_ok h1 (segE_take j h5) fun l hx => hl l (List.mem_of_mem_take hx)
  refine ⟨?_, ds, g2, ?_⟩
  · unfold atL
    rw [if_neg (by omega), if_neg (by omega), Int.toNat_natCast]
    exact Prod.ext rfl g1
  · rw [g3]
    unfold sizesL
    rw [cntF_some h1]
    rw [List.getLast_eq_getElem, List.getD_eq_getElem?_getD, List.getElem?_eq_getElem (by simp; omega), Option.getD_some]
    simp only [List.length_cons, List.length_map, List.length_take, Nat.add_sub_cancel, Nat.min_eq_left hj]
    rcases j with _ | j
    · simp
    · simp only [List.getElem_cons_succ, List.getElem_map, List.getElem_take]
theorem log_step {s : ByteArray} {rv : List Int} {ls : List (List Sp)} (h : logE s rv ls = 0) (hl : ∀ l ∈ ls, l.length ≤ 1000) {j : Nat} (hj : j < ls.length) :
    toE ls[j] (allL s (ls.take j)).1 = 0 ∧ (allL s (ls.take (j + 1))).1 = toS ls[j] (allL s (ls.take j)).1 := by
  obtain ⟨cs, h1, h2, h3, h4, h5⟩ := logE_ok h
  have e : ls = ls.take j ++ ls[j] :: ls.drop (j + 1) := by rw [← List.drop_eq_getElem_cons hj, List.take_append_drop]
  have h6 : segE (cs.length : Int) (ls.take j ++ ls[j] :: ls.drop (j + 1)) = 0 := by rw [← e]; exact h5
  obtain ⟨s1, s2⟩ := segE_append.1 h6
  obtain ⟨⟨m1, m2, _, _⟩, _⟩ := segE_cons.1 s2
  obtain ⟨g1, ds, g2, g3⟩ := allL_ok h1 s1 fun l hx => hl l (List.mem_of_mem_take hx)
  obtain ⟨t1, _, _⟩ := seg_to g2 m1 (by rw [m2, g3]) (hl _ (List.getElem_mem hj))
  refine ⟨t1, ?_⟩
  have e2 : ls.take (j + 1) = ls.take j ++ [ls[j]] := by rw [List.take_add_one, List.getElem?_eq_getElem hj]; rfl
  rw [e2, allL_append g1, allL, if_pos t1]
  rfl
end Go.Proofs.YtgcaphjjigpjlaaGreatDoor
