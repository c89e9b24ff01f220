/- Packed: P7. -/
import Derived.ArgAppend
import Derived.BigQuiet
import Derived.Deep.Cut
import Derived.Deep.CutRange
import Derived.Deep.DrawnRows
import Derived.Deep.MidRow
import Derived.Deep.QuietTactic
import Derived.Deep.RegionHeld3
import Derived.Deep.RegionWith
import Derived.Deep.Upon
import Derived.Laws.AppendOwnNone
import Derived.Laws.BytesArg
import Derived.Laws.IdiomCopy
import Derived.Laws.MakeOwn
import Derived.Laws.ResultCell
import Derived.Lib.AppendStr
import Derived.Lib.Builder
import Derived.Lib.DecodeN
import Derived.Lib.Hide
import Derived.Lib.Strings
import Derived.Lib.UnsafeStr
import Derived.StillTail
import Derived.StillTailTactics
import Derived.Test.YtgcaphjjigpjlaaGreatDoorProg
import Derived.Test.YtgcaphjjigpjlaaGreatDoorShelf
import Derived.WalkKit
import Derived.WalkLawsBesides
import Derived.WalkSpells
import Derived.Test.YtgcaphjjigpjlaaGreatDoorQ00
import Derived.Test.YtgcaphjjigpjlaaGreatDoorQ01
import Derived.Test.YtgcaphjjigpjlaaGreatDoorQ02
import Derived.Test.YtgcaphjjigpjlaaGreatDoorQ03
import Derived.Test.YtgcaphjjigpjlaaGreatDoorQ04
import Derived.Test.YtgcaphjjigpjlaaGreatDoorQ05
import Derived.Test.YtgcaphjjigpjlaaGreatDoorQ06
import Derived.Test.YtgcaphjjigpjlaaGreatDoorQ07
import Derived.Test.YtgcaphjjigpjlaaGreatDoorQ08
import Derived.Test.YtgcaphjjigpjlaaGreatDoorQ10
namespace Go.Proofs.YtgcaphjjigpjlaaGreatDoor
open Go.RowKit
set_option maxRecDepth 100000
set_option maxHeartbeats 4000000
theorem sumT_one (l : List Sp) : ∀ s ∈ l, s.2.2.size ≤ sumT l := by
  induction l with
  | nil => intro s hs; cases hs
  | cons a t ih =>
    intro s hs
    have e : sumT (a :: t) = a.2.2.size + sumT t := rfl
    rcases List.mem_cons.1 hs with rfl | hs
    · omega
    · have := ih s hs; omega
theorem may7_c (A : Option Addr) (q c : Nat) (l : List Sp) (s : ByteArray) (w : World) [Tab w] (h : Rd w 3 (.slice A q c) q (spCells l)) (hl : l.length = q) (hq : q ≤ 1000) (hts : ∀ s ∈ l, s.2.2.size ≤ 1000000000) (hs : s.size ≤ 1000000000) :
    Calls Tryz.prog 65 #[.slice A q c, .string s] w fun e w' => e = .returned (.int .i64 (toE l s)) ∧ Ext w w' := by
  have HM : Hid (∀ w', Ext w w' → _) := Lib.hid fun w' hx => have hTb := tab_ext hx; may4_c A q c l w' (h.ext hx) hl hq hts
  have HI : Hid (∀ w', Ext w w' → _) := Lib.hid fun w' hx => have hTb := tab_ext hx; in4_c A q c l w' (h.ext hx) hl hq
  have HC := Lib.hid (fun w' => count_c s w' hs)
  by_cases hm : mayL l = 0
  · obtain ⟨hall, hi0, hi1⟩ := mayL_all hm (by omega)
    have hwi : wrap64 (inL l) = inL l := by unfold wrap64; omega
    rw [hm] at HM
    rw [hwi] at HI
    cases hd : dec (bs s) with
    | none =>
      have hE : toE l s = 3 := by unfold toE; rw [if_pos hm, hd]
      have hc : cntF (bs s) = -1 := by unfold cntF; rw [hd]
      rw [hc] at HC
      have HV := Lib.hid hE
      clear h hl hts hm hall hwi hE hc hd hi0 hi1
      go_enter Tryz.func65, Tryz.ntmps65
      go_wp2_with fail
      refine (HM.out _ (Ext.refl _)).mono ?_; rintro e w1 ⟨rfl, hx1⟩
      go_wp2_with fail
      refine (HC.out _).mono ?_; rintro e w2 ⟨rfl, hx2⟩
      go_wp2_with fail
      go_ret
      rw [HV.out]
      exact ⟨rfl, hx1.trans hx2⟩
    | some cs =>
      have hc : cntF (bs s) = cs.length := cntF_some hd
      rw [hc] at HC
      by_cases hn : (cs.length : Int) = inL l
      · have hE : toE l s = 0 := by unfold toE; rw [if_pos hm, hd]; exact if_pos hn
        rw [hn] at HC
        have HV := Lib.hid hE
        have hneg : decide (inL l < 0) = false := by rw [decide_eq_false_iff_not]; omega
        clear h hl hts hm hall hwi hE hc hd hn hi1
        generalize inL l = IL at *
        go_enter Tryz.func65, Tryz.ntmps65
        go_wp2_with fail
        refine (HM.out _ (Ext.refl _)).mono ?_; rintro e w1 ⟨rfl, hx1⟩
        go_wp2_with fail
        refine (HC.out _).mono ?_; rintro e w2 ⟨rfl, hx2⟩
        go_wp2_with fail
        refine (HI.out _ (hx1.trans hx2)).mono ?_; rintro e w3 ⟨rfl, hx3⟩
        go_wp2_with fail
        go_ret
        rw [HV.out]
        exact ⟨rfl, (hx1.trans hx2).trans hx3⟩
      · have hE : toE l s = 5 := by unfold toE; rw [if_pos hm, hd]; exact if_neg hn
        have HV := Lib.hid hE
        have hpos : (0 : Int) ≤ (cs.length : Int) := by omega
        have hbn : ((cs.length : Int) == inL l) = false := by rw [beq_eq_false_iff_ne]; exact hn
        have hbn2 : ((cs.length : Int) != inL l) = true := by rw [bne_iff_ne]; exact hn
        clear h hl hts hm hall hwi hE hc hd hn hi1
        generalize inL l = IL at *
        generalize (cs.length : Int) = CL at *
        have hneg : decide (CL < 0) = false := by rw [decide_eq_false_iff_not]; omega
        go_enter Tryz.func65, Tryz.ntmps65
        go_wp2_with fail
        refine (HM.out _ (Ext.refl _)).mono ?_; rintro e w1 ⟨rfl, hx1⟩
        go_wp2_with fail
        refine (HC.out _).mono ?_; rintro e w2 ⟨rfl, hx2⟩
        go_wp2_with fail
        refine (HI.out _ (hx1.trans hx2)).mono ?_; rintro e w3 ⟨rfl, hx3⟩
        go_wp2_with fail
        go_ret
        rw [HV.out]
        exact ⟨rfl, (hx1.trans hx2).trans hx3⟩
  · have hE : toE l s = mayL l := if_neg hm
    have HV := Lib.hid hE
    have hb1 : (mayL l != 0) = true := by rw [bne_iff_ne]; exact hm
    have hb2 : (mayL l == 0) = false := by rw [beq_eq_false_iff_ne]; exact hm
    clear h hl hts hm hE
    generalize mayL l = ML at *
    go_enter Tryz.func65, Tryz.ntmps65
    go_wp2_with fail
    refine (HM.out _ (Ext.refl _)).mono ?_; rintro e w1 ⟨rfl, hx1⟩
    go_wp2_with fail
    go_ret
    rw [HV.out]
    exact ⟨rfl, hx1⟩
theorem offset7_c (s : ByteArray) (n : Nat) (w : World) (_hs : s.size ≤ 1000000000) (hn : n ≤ 1000000000) (cs : List Nat) (hd : dec (bs s) = some cs) :
    Calls Tryz.prog 87 #[.string s, .int .i64 n] w fun e w' => e = .returned (.int .i64 ((encs (cs.take n)).length : Nat)) ∧ Ext w w' := by
  obtain ⟨hcp, hbs⟩ := dec_some hd
  have HCP := Lib.hid hcp; have HBS := Lib.hid hbs
  clear hcp hbs hd
  go_enter Tryz.func87, Tryz.ntmps87
  go_wp2_with fail
  go_loopw [1] (fun m wr => ∃ (i j : Nat), i ≤ cs.length ∧ i + j = n ∧ m = .int .i64 j ∧ wr = w.iter s (encs (cs.take i)).length) (fun _ wr => s.size - wr.iterPos w.heap.size)
  case atStart => exact ⟨0, n, by omega, by omega, rfl, rfl⟩
  case round =>
    obtain ⟨i, j, hi, hij, rfl, rfl⟩ := hrel
    have hsz : (encs cs).length = s.size := by rw [← HBS.out, bs_length]
    have HSZ := Lib.hid hsz
    have HIJ := Lib.hid hij
    have hj : j ≤ 1000000000 := by omega
    clear hsz hij
    by_cases hr : i = cs.length
    · have hp : ¬ (encs (cs.take i)).length < s.size := by rw [hr, List.take_length, HSZ.out]; omega
      have hnx : ∀ ty, (Instr.next (.pointer (some ⟨w.heap.size, 0, none⟩)) true ty).run Tryz.prog (w.iter s (encs (cs.take i)).length) = _ := fun ty => run_next_end w s _ ty hp
      have hres : (encs (cs.take n)).length = s.size := by rw [List.take_of_length_le (by have := HIJ.out; omega), HSZ.out]
      have HRES := Lib.hid hres
      clear hr hres hp
      go_wp2_with fail
      go_ret
      rw [HRES.out]
      exact ⟨rfl, (Ext.refl w).iter _ _⟩
    · have hlt : i < cs.length := by omega
      have hsucc := encs_take_succ cs i hlt
      have hdr : (bs s).drop (encs (cs.take i)).length = enc1 cs[i] ++ encs (cs.drop (i + 1)) := by
        rw [HBS.out, encs_take_drop cs (i + 1), hsucc, List.append_assoc, List.drop_left]
      have hw := wid_pos cs[i]
      have hp : (encs (cs.take i)).length < s.size := by
        rw [← bs_length]
        have := congrArg List.length hdr
        rw [List.length_drop, List.length_append, enc1_length] at this
        omega
      have hnx : ∀ ty, (Instr.next (.pointer (some ⟨w.heap.size, 0, none⟩)) true ty).run Tryz.prog (w.iter s (encs (cs.take i)).length) = _ := fun ty => run_next_any w s _ ty hp
      have hdc : Utf8.decode s (encs (cs.take i)).length = (cs[i], wid cs[i]) := by
        rw [decode_rng]
        show rng ((bs s).drop _) = _
        rw [hdr]
        have hf := firstL_enc cs[i] (HCP.out _ (List.getElem_mem hlt)) (encs (cs.drop (i + 1)))
        rw [rng_first _ (by simp [enc1_ne]) (by rw [hf]; simp only; omega), hf]
      rw [hdc] at hnx
      have hl2 : (encs (cs.take (i + 1))).length = (encs (cs.take i)).length + wid cs[i] := by rw [hsucc, List.length_append, enc1_length]
      have HL2 := Lib.hid hl2
      generalize hcc : cs[i] = cp at *
      have HCC := Lib.hid hcc
      clear hdc hdr hsucc hr hl2 hcc
      by_cases hj0 : j = 0
      · have hq : ((j : Int) == 0) = true := by rw [hj0]; rfl
        have hres : (encs (cs.take n)).length = (encs (cs.take i)).length := by rw [show n = i from by have := HIJ.out; omega]
        have HRES := Lib.hid hres
        clear hj0 hres
        go_wp2_with fail
        go_ret
        rw [HRES.out]
        exact ⟨rfl, (Ext.refl w).iter _ _⟩
      · have hq : ((j : Int) == 0) = false := by rw [beq_eq_false_iff_ne]; omega
        have hj1 : 1 ≤ j := by omega
        clear hj0
        go_wp2_with fail
        go_roundw
        case rel => exact ⟨i + 1, j - 1, by omega, by have := HIJ.out; omega, by rw [show ((j - 1 : Nat) : Int) = (j : Int) - 1 from by omega], by rw [HL2.out]⟩
        case measure => simp; omega
theorem given7_c (A : Option Addr) (q c : Nat) (l : List Sp) (s : ByteArray) (cs : List Nat) (w : World) (h : Rd w 3 (.slice A q c) q (spCells l)) (hl : l.length = q) (hq : q ≤ 1000) (hok : ∀ s ∈ l, OkW s) (htin : tin (tok l) = cs.length) (hd : dec (bs s) = some cs) (hT : sumT l ≤ 1000000000) (hs : s.size ≤ 1000000000) :
    Calls Tryz.prog 66 #[.slice A q c, .string s] w fun e w' => e = .returned (.string (mkS (encs (apT (tok l) cs)))) ∧ Ext w w' := by
  have hcs : cs.length ≤ 1000000000 := by
    have h1 := length_le_encs cs
    rw [← (dec_some hd).2, bs_length] at h1; omega
  have HSZ : Hid (∀ j, (encs (apT (tok (l.take j)) cs)).length ≤ 2000000000) := Lib.hid fun j => by
    have h1 := apT_size (tok (l.take j)) cs
    have h2 := insT_sum (l.take j) fun s hs => hok s (List.mem_of_mem_take hs)
    have h3 : sumT (l.take j) ≤ sumT l := by
      have e : sumT (l.take j) + sumT (l.drop j) = sumT l := by rw [← sumT_append, List.take_append_drop]
      omega
    have h4 : (encs cs).length = s.size := by rw [← (dec_some hd).2, bs_length]
    omega
  have hsd : s = mkS (encs cs) := by rw [← (dec_some hd).2, mkS_bs]
  have HSD : Hid (∀ k, (mkS (encs (cs.drop k))).size ≤ 1000000000) := Lib.hid fun k => by
    rw [size_mkS]
    have e : encs cs = encs (cs.take k) ++ encs (cs.drop k) := by rw [← encs_append, List.take_append_drop]
    have h4 : (encs cs).length = s.size := by rw [← (dec_some hd).2, bs_length]
    rw [e, List.length_append] at h4; omega
  have HDD : Hid (∀ k, dec (bs (mkS (encs (cs.drop k)))) = some (cs.drop k)) := Lib.hid fun k => by
    rw [bs_mkS]; exact dec_encs fun c hc => (dec_some hd).1 c (List.mem_of_mem_drop hc)
  have HT1 : Hid (∀ s ∈ l, s.2.2.size ≤ 1000000000) := Lib.hid fun s hs => Nat.le_trans (sumT_one l s hs) hT
  have H := Lib.hid h; have HL := Lib.hid hl; have HOK := Lib.hid hok; have HTN := Lib.hid htin
  have hbd := Lib.fresh_isBuilder 105 5 w
  have HBD := Lib.hid hbd
  have HE0 := Lib.hid ((Ext.refl w).alloc (.cells #[.pointer none, .slice none 0 0] 105))
  have HSI : Hid (w.heap.size + 1 ≤ (w.alloc (.cells #[.pointer none, .slice none 0 0] 105)).heap.size) := Lib.hid (by rw [size_alloc]; omega)
  have HS0 : Hid (Value.string s = Value.string (mkS (encs (cs.drop 0)))) := Lib.hid (by rw [List.drop_zero, ← hsd])
  clear h hl hok htin hd hT hbd hsd
  go_enter Tryz.func66, Tryz.ntmps66
  go_wp2_with fail
  go_loopw [1, 11] (fun x z wr => ∃ j : Nat, j ≤ q ∧ z = .int .i64 j ∧ x = .string (mkS (encs (cs.drop (tin (tok (l.take j)))))) ∧ Lib.IsBuilder 105 5 w.heap.size w.heap.size (Lib.byteCells (encs (apT (tok (l.take j)) cs))) wr ∧ Ext w wr ∧ w.heap.size + 1 ≤ wr.heap.size) (fun _ z _ => q - (intOf z).toNat)
  case atStart => exact ⟨0, by omega, rfl, HS0.out, HBD.out, HE0.out, HSI.out⟩
  case round =>
    obtain ⟨j, hj, rfl, rfl, hbd, hxr, hsz⟩ := hrel
    have HBD := Lib.hid hbd
    clear hbd HE0 HSI
    by_cases hlt : j < q
    · have hjl : j < l.length := by have := HL.out; omega
      obtain ⟨b, off, rfl, hb, q0, q1, q2⟩ := sp_at (H.out.ext hxr) HL.out hlt
      have dn : decide (j < q) = true := by rw [decide_eq_true_eq]; exact hlt
      have i0 : (0 : Int) ≤ (j : Int) := by omega
      have i1 : (j : Int) < (q : Int) := by omega
      have hstk := tok_take l j hjl
      have hle1 := tin_le_of_take l j
      have hle2 := tin_le_of_take l (j + 1)
      rw [HTN.out] at hle1 hle2
      have hok := HOK.out _ (List.getElem_mem hjl)
      have hsz3 := HT1.out _ (List.getElem_mem hjl)
      have hs1 := HSZ.out j
      have hs2 := HSZ.out (j + 1)
      have hap := apT_append (tok (l.take j)) (tokS l[j]) cs
      rw [← hstk] at hap
      have htn := tin_append (tok (l.take j)) (tokS l[j])
      rw [← hstk] at htn
      unfold OkW at hok
      obtain ⟨sp, hsp⟩ : ∃ sp, l[j] = sp := ⟨_, rfl⟩
      rw [hsp] at q0 q1 q2 hok hap htn hstk hsz3
      clear hsp
      obtain ⟨a1, a2, a3⟩ := sp
      simp only at q0 q1 q2 hok hsz3
      obtain ⟨TJ, hTJ⟩ : ∃ TJ, tok (l.take (j + 1)) = TJ := ⟨_, rfl⟩
      rw [hTJ] at hap htn hs2 hle2 hstk
      have HTJ := Lib.hid hTJ
      clear hTJ hstk
      obtain ⟨X, hX⟩ : ∃ X, apT (tok (l.take j)) cs = X := ⟨_, rfl⟩
      obtain ⟨Y, hY⟩ : ∃ Y, apT TJ cs = Y := ⟨_, rfl⟩
      obtain ⟨at0, hat⟩ : ∃ at0, tin (tok (l.take j)) = at0 := ⟨_, rfl⟩
      obtain ⟨at1, hat1⟩ : ∃ at1, tin TJ = at1 := ⟨_, rfl⟩
      rw [hX, hY, hat] at hap
      rw [hat, hat1] at htn
      rw [hX] at hs1 HBD
      rw [hY] at hs2
      rw [hat] at hle1 ⊢
      rw [hat1] at hle2
      have HY := Lib.hid hY; have HA1 := Lib.hid hat1
      clear hX hY hat hat1
      have hmade := BoxG.made wr #[.int .i64 a1, .int .i64 a2, .string a3] 60
      have z0 : (wr.alloc (.cells #[.int .i64 a1, .int .i64 a2, .string a3] 60)).cell? ⟨wr.heap.size, 0, none⟩ = some (.int .i64 a1) := hmade.2 0 _ rfl
      have z1 : (wr.alloc (.cells #[.int .i64 a1, .int .i64 a2, .string a3] 60)).cell? ⟨wr.heap.size, 1, none⟩ = some (.int .i64 a2) := hmade.2 1 _ rfl
      have z2 : (wr.alloc (.cells #[.int .i64 a1, .int .i64 a2, .string a3] 60)).cell? ⟨wr.heap.size, 2, none⟩ = some (.string a3) := hmade.2 2 _ rfl
      have hxa : Ext w (wr.alloc (.cells #[.int .i64 a1, .int .i64 a2, .string a3] 60)) := hxr.alloc _
      have HBA : Hid (Lib.IsBuilder 105 5 w.heap.size w.heap.size (Lib.byteCells (encs X)) (wr.alloc (.cells #[.int .i64 a1, .int .i64 a2, .string a3] 60))) :=
        Lib.hid (bld_kept HBD.out fun g hg hl => Lib.alloc_old wr _ g hl)
      have hsa : w.heap.size + 1 ≤ (wr.alloc (.cells #[.int .i64 a1, .int .i64 a2, .string a3] 60)).heap.size := by rw [size_alloc]; omega
      have HXA := Lib.hid hxa; have HSA := Lib.hid hsa
      have HW := Lib.hid (fun t W hW hs (ht : t.size ≤ 1000000000) => wstr_c w.heap.size w.heap.size (Lib.byteCells (encs X)) t W hW (by rw [Lib.byteCells_length]; omega) hs)
      clear hmade hxa hsa HBD
      rcases hok with ⟨k1, n1, us, hu⟩ | ⟨k1, n1, t1⟩
      · subst k1; subst n1
        rw [tokS_text _ _ hu, apT_ins] at hap
        rw [tokS_text _ _ hu, tin_map_ins] at htn
        have hat2 : at1 = at0 := by omega
        subst hat2
        have hcat : Lib.byteCells (encs X) ++ Lib.strCells a3 = Lib.byteCells (encs Y) := by
          rw [strCells_bs, (dec_some hu).2, ← bcells_append, ← encs_append, ← hap]
        have HCAT := Lib.hid hcat
        clear hu hap htn hcat hs1 hs2
        obtain ⟨SJ, hSJ⟩ : ∃ SJ, mkS (encs (cs.drop at1)) = SJ := ⟨_, rfl⟩
        rw [hSJ]
        have HSJ := Lib.hid hSJ
        clear hSJ
        go_wp2_with fail
        refine (HW.out _ _ HBA.out (by have := HSA.out; omega) hsz3).mono ?_; rintro e w2 ⟨⟨v, rfl⟩, hb2, hbel2⟩
        rw [HCAT.out] at hb2
        have HB2 := Lib.hid hb2
        have HX2 : Hid (Ext w w2) := Lib.hid (Below.trans HXA.out (Below.mono hbel2 (Nat.le_refl _)))
        have HS2 : Hid (w.heap.size + 1 ≤ w2.heap.size) := Lib.hid (Nat.le_trans HSA.out hbel2.size)
        clear hb2 hbel2
        go_wp2_with fail
        go_roundw
        case rel => exact ⟨j + 1, by omega, by go_num, by rw [HTJ.out, HA1.out, HSJ.out], by rw [HTJ.out, HY.out]; exact HB2.out, HX2.out, HS2.out⟩
        case measure => simp [intOf]; omega
      · obtain ⟨k, rfl⟩ := Int.eq_ofNat_of_zero_le n1
        subst t1
        have hdk := HSD.out at0
        have hdc := HDD.out at0
        have hdk1 := HSD.out at1
        rcases k1 with k1 | k1
        · subst k1
          rw [tokS_num _ _ _ (by decide), if_neg (by decide), Int.toNat_natCast, apT_keep] at hap
          rw [tokS_num _ _ _ (by decide), if_neg (by decide), Int.toNat_natCast, tin_rep _ (.inl rfl)] at htn
          have HOF := Lib.hid (fun w' => offset7_c (mkS (encs (cs.drop at0))) k w' hdk (by omega) (cs.drop at0) hdc)
          have hc0 : (mkS (encs (cs.drop at0))).extract 0 (encs ((cs.drop at0).take k)).length = mkS (encs ((cs.drop at0).take k)) := by
            refine mkS_of ?_
            rw [bs_extract, bs_mkS, List.drop_zero, encs_take_drop (cs.drop at0) k, Nat.sub_zero, List.take_left]
          have hc1 : (mkS (encs (cs.drop at0))).extract (encs ((cs.drop at0).take k)).length (mkS (encs (cs.drop at0))).size = mkS (encs (cs.drop at1)) := by
            refine mkS_of ?_
            rw [bs_extract, bs_mkS, size_mkS, encs_take_drop (cs.drop at0) k, List.drop_left, List.length_append, Nat.add_sub_cancel_left, List.take_length, List.drop_drop, htn]
          have hle : (encs ((cs.drop at0).take k)).length ≤ (mkS (encs (cs.drop at0))).size := by
            rw [size_mkS, encs_take_drop (cs.drop at0) k, List.length_append]; omega
          have hcat : Lib.byteCells (encs X) ++ Lib.strCells (mkS (encs ((cs.drop at0).take k))) = Lib.byteCells (encs Y) := by
            rw [strCells_bs, bs_mkS, ← bcells_append, ← encs_append, ← hap]
          have HCAT := Lib.hid hcat
          have hkz : (mkS (encs ((cs.drop at0).take k))).size ≤ 1000000000 := by rw [size_mkS]; omega
          clear hap htn hcat hs1 hs2 hdc
          generalize mkS (encs (cs.drop at0)) = SJ at *
          generalize mkS (encs ((cs.drop at0).take k)) = SK at *
          generalize (encs ((cs.drop at0).take k)).length = p at *
          obtain ⟨SN, hSN⟩ : ∃ SN, mkS (encs (cs.drop at1)) = SN := ⟨_, rfl⟩
          rw [hSN] at hc1 hdk1
          have HSN := Lib.hid hSN
          clear hSN
          go_wp2_with fail
          refine (HOF.out _).mono ?_; rintro e w2 ⟨rfl, hx2⟩
          have HB2 : Hid (Lib.IsBuilder 105 5 w.heap.size w.heap.size (Lib.byteCells (encs X)) w2) := Lib.hid (bld_kept HBA.out fun g hg hl => hx2.block g hl)
          have HX2 : Hid (Ext w w2) := Lib.hid (HXA.out.trans hx2)
          have HS2 : Hid (w.heap.size + 1 ≤ w2.heap.size) := Lib.hid (Nat.le_trans HSA.out hx2.size)
          clear hx2 HBA HXA HSA
          go_wp2_with fail
          refine (HW.out _ _ HB2.out (by have := HS2.out; omega) hkz).mono ?_; rintro e w3 ⟨⟨v, rfl⟩, hb3, hbel3⟩
          rw [HCAT.out] at hb3
          have HB3 := Lib.hid hb3
          have HX3 : Hid (Ext w w3) := Lib.hid (Below.trans HX2.out (Below.mono hbel3 (Nat.le_refl _)))
          have HS3 : Hid (w.heap.size + 1 ≤ w3.heap.size) := Lib.hid (Nat.le_trans HS2.out hbel3.size)
          clear hb3 hbel3
          go_wp2_with fail
          go_roundw
          case rel => exact ⟨j + 1, by omega, by go_num, by rw [HTJ.out, HA1.out, HSN.out], by rw [HTJ.out, HY.out]; exact HB3.out, HX3.out, HS3.out⟩
          case measure => simp [intOf]; omega
        · subst k1
          rw [tokS_num _ _ _ (by decide), if_pos rfl, Int.toNat_natCast, apT_del, List.append_nil] at hap
          rw [tokS_num _ _ _ (by decide), if_pos rfl, Int.toNat_natCast, tin_rep _ (.inr rfl)] at htn
          have HOF := Lib.hid (fun w' => offset7_c (mkS (encs (cs.drop at0))) k w' hdk (by omega) (cs.drop at0) hdc)
          have hc1 : (mkS (encs (cs.drop at0))).extract (encs ((cs.drop at0).take k)).length (mkS (encs (cs.drop at0))).size = mkS (encs (cs.drop at1)) := by
            refine mkS_of ?_
            rw [bs_extract, bs_mkS, size_mkS, encs_take_drop (cs.drop at0) k, List.drop_left, List.length_append, Nat.add_sub_cancel_left, List.take_length, List.drop_drop, htn]
          have hle : (encs ((cs.drop at0).take k)).length ≤ (mkS (encs (cs.drop at0))).size := by
            rw [size_mkS, encs_take_drop (cs.drop at0) k, List.length_append]; omega
          have HAP := Lib.hid hap
          clear hap htn hs1 hs2 hdc
          generalize mkS (encs (cs.drop at0)) = SJ at *
          generalize (encs ((cs.drop at0).take k)).length = p at *
          obtain ⟨SN, hSN⟩ : ∃ SN, mkS (encs (cs.drop at1)) = SN := ⟨_, rfl⟩
          rw [hSN] at hc1 hdk1
          have HSN := Lib.hid hSN
          clear hSN
          go_wp2_with fail
          refine (HOF.out _).mono ?_; rintro e w2 ⟨rfl, hx2⟩
          have HB2 : Hid (Lib.IsBuilder 105 5 w.heap.size w.heap.size (Lib.byteCells (encs X)) w2) := Lib.hid (bld_kept HBA.out fun g hg hl => hx2.block g hl)
          have HX2 : Hid (Ext w w2) := Lib.hid (HXA.out.trans hx2)
          have HS2 : Hid (w.heap.size + 1 ≤ w2.heap.size) := Lib.hid (Nat.le_trans HSA.out hx2.size)
          clear hx2 HBA HXA HSA
          go_wp2_with fail
          go_roundw
          case rel => exact ⟨j + 1, by omega, by go_num, by rw [HTJ.out, HA1.out, HSN.out], by rw [HTJ.out, HY.out, HAP.out]; exact HB2.out, HX2.out, HS2.out⟩
          case measure => simp [intOf]; omega
    · obtain rfl : j = q := by omega
      have hall : l.take j = l := by rw [← HL.out]; exact List.take_length
      rw [hall] at HBD ⊢
      have dn : decide (j < j) = false := by rw [decide_eq_false_iff_not]; omega
      have HST : Hid (Calls Tryz.prog 81 #[.pointer (some ⟨w.heap.size, 0, none⟩)] wr fun e w' => e = .returned (.string (mkS (encs (apT (tok l) cs)))) ∧ Below w.heap.size wr w') :=
        Lib.hid (Tryz.Builder_String_any w.heap.size w.heap.size (encs (apT (tok l) cs)) wr HBD.out (by omega))
      obtain ⟨SR, hSR⟩ : ∃ SR, mkS (encs (apT (tok l) cs)) = SR := ⟨_, rfl⟩
      rw [hSR] at HST
      have HSR := Lib.hid hSR
      clear hSR
      generalize mkS (encs (cs.drop (tin (tok l)))) = SL at *
      clear hlt hall hj HBD
      go_wp2_with fail
      refine HST.out.mono ?_; rintro e w2 ⟨rfl, hbel2⟩
      have HXX : Hid (Ext w w2) := Lib.hid (Below.trans hxr (Below.mono hbel2 (Nat.le_refl _)))
      clear hbel2
      go_wp2_with fail
      go_ret
      rw [HSR.out]
      exact ⟨rfl, HXX.out⟩
theorem to_c (A : Option Addr) (q c : Nat) (l : List Sp) (s : ByteArray) (w : World) [Tab w] (h : Rd w 3 (.slice A q c) q (spCells l)) (hl : l.length = q) (hq : q ≤ 1000) (hts : ∀ s ∈ l, s.2.2.size ≤ 1000000000) (hT : sumT l ≤ 1000000000) (hs : s.size ≤ 1000000000) :
    Calls Tryz.prog 39 #[.slice A q c, .string s] w fun e w' => e = .returned (toV l s) ∧ Ext w w' := by
  have HM := Lib.hid (may7_c A q c l s w h hl hq hts hs)
  by_cases hE : toE l s = 0
  · obtain ⟨cs, hm, hd, hn, hS⟩ : ∃ cs, mayL l = 0 ∧ dec (bs s) = some cs ∧ (cs.length : Int) = inL l ∧ toS l s = mkS (encs (apT (tok l) cs)) := by
      have hE2 := hE
      unfold toE at hE2
      by_cases hm : mayL l = 0
      · rw [if_pos hm] at hE2
        cases hd : dec (bs s) with
        | none => rw [hd] at hE2; cases hE2
        | some cs =>
          rw [hd] at hE2
          by_cases hn : (cs.length : Int) = inL l
          · exact ⟨cs, hm, rfl, hn, (to_ok hm hd hn).2⟩
          · simp only [if_neg hn] at hE2; cases hE2
      · rw [if_neg hm] at hE2; exact absurd hE2 hm
    obtain ⟨hall, hi0, hi1⟩ := mayL_all hm (by omega)
    have hok : ∀ s ∈ l, OkW s := fun s hs => okW_of_may (hall s hs)
    have htin := (tin_ok l hok).1
    have HG := Lib.hid (fun w' hx => given7_c A q c l s cs w' (h.ext hx) hl hq hok (by omega) hd hT hs)
    have HV : Hid (toV l s = .tuple #[.string (mkS (encs (apT (tok l) cs))), .int .i64 0]) := Lib.hid (by unfold toV; rw [hE, hS])
    rw [hE] at HM
    clear h hl hts hT hm hd hn hS hall hi0 hi1 hok htin hE
    generalize mkS (encs (apT (tok l) cs)) = SR at *
    go_enter Tryz.func39, Tryz.ntmps39
    go_wp2_with fail
    refine HM.out.mono ?_; rintro e w1 ⟨rfl, hx1⟩
    go_wp2_with fail
    refine (HG.out _ hx1).mono ?_; rintro e w2 ⟨rfl, hx2⟩
    go_wp2_with fail
    go_ret2
    rw [HV.out]
    exact ⟨rfl, hx1.trans hx2⟩
  · have HV : Hid (toV l s = .tuple #[.string ⟨#[]⟩, .int .i64 (toE l s)]) := Lib.hid (by unfold toV toS; rw [if_neg hE])
    have hb1 : (toE l s != 0) = true := by rw [bne_iff_ne]; exact hE
    have hb2 : (toE l s == 0) = false := by rw [beq_eq_false_iff_ne]; exact hE
    clear h hl hts hT hE
    generalize toE l s = EE at *
    go_enter Tryz.func39, Tryz.ntmps39
    go_wp2_with fail
    refine HM.out.mono ?_; rintro e w1 ⟨rfl, hx1⟩
    go_wp2_with fail
    go_ret2
    rw [HV.out]
    exact ⟨rfl, hx1⟩
end Go.Proofs.YtgcaphjjigpjlaaGreatDoor
namespace Go.Proofs.YtgcaphjjigpjlaaGreatDoor
open Go.RowKit
set_option maxRecDepth 100000
set_option maxHeartbeats 4000000
end Go.Proofs.YtgcaphjjigpjlaaGreatDoor
