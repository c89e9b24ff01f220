/- Layer 8, the reference: where, Where, Least. -/
import Derived.Test.YtapkfmcbphljcaaDoorMw
import Derived.Test.YtapkfmcbphljcaaDoorC6
import Derived.Test.YtapkfmcbphljcaaDoorC4d
import Derived.Test.YtapkfmcbphljcaaDoorMs
import Derived.Test.YtapkfmcbphljcaaDoorFr
import Derived.Test.YtapkfmcbphljcaaDoorM7
namespace Go.Proofs.YtapkfmcbphljcaaDoor
open Go.RowKit
set_option maxRecDepth 100000
set_option maxHeartbeats 4000000
attribute [local go_sem ↓] Go.wp_at_zero Go.wp_at_succ

theorem where_keep {l : List Sp} {j g a m N : Nat} {t : ByteArray} (hjl : j < l.length) (hs : l[j] = (1, (N : Int), t)) (h : whereT (tok l) g = m + if a ≤ g then whereT (tok (l.drop j)) (g - a) else 0) (hag : a ≤ g) :
    whereT (tok l) g = (m + min N (g - a)) + if a + N ≤ g then whereT (tok (l.drop (j + 1))) (g - (a + N)) else 0 := by
  rw [h, if_pos hag, List.drop_eq_getElem_cons hjl, tok_cons, hs, tokS_num 1 _ _ (by decide), Int.toNat_natCast, if_neg (by decide), whereT_keeps]
  by_cases h1 : g - a < N
  · rw [if_pos h1, if_neg (by omega)]; omega
  · rw [if_neg h1, if_pos (by omega), show g - (a + N) = g - a - N by omega]; omega
theorem where_drop {l : List Sp} {j g a m N : Nat} {t : ByteArray} (hjl : j < l.length) (hs : l[j] = (3, (N : Int), t)) (h : whereT (tok l) g = m + if a ≤ g then whereT (tok (l.drop j)) (g - a) else 0) (hag : a ≤ g) :
    whereT (tok l) g = m + if a + N ≤ g then whereT (tok (l.drop (j + 1))) (g - (a + N)) else 0 := by
  rw [h, if_pos hag, List.drop_eq_getElem_cons hjl, tok_cons, hs, tokS_num 3 _ _ (by decide), Int.toNat_natCast, if_pos rfl, whereT_dels]
  by_cases h1 : g - a < N
  · rw [if_pos h1, if_neg (by omega)]
  · rw [if_neg h1, if_pos (by omega), show g - (a + N) = g - a - N by omega]
theorem where_put {l : List Sp} {j g a m : Nat} {n : Int} {t : ByteArray} {cs : List Nat} (hjl : j < l.length) (hs : l[j] = (2, n, t)) (hd : dec (bs t) = some cs) (h : whereT (tok l) g = m + if a ≤ g then whereT (tok (l.drop j)) (g - a) else 0) (hag : a ≤ g) :
    whereT (tok l) g = (m + cs.length) + if a ≤ g then whereT (tok (l.drop (j + 1))) (g - a) else 0 := by
  rw [h, if_pos hag, if_pos hag, List.drop_eq_getElem_cons hjl, tok_cons, hs, tokS_text t n hd, whereT_inss]
  omega
def whereE (l : List Sp) (g : Int) : Int := if mayL l = 0 then (if 0 ≤ g ∧ g ≤ inL l then 0 else 6) else mayL l
def whereV (l : List Sp) (g : Int) : Value := .tuple #[.int .i64 (if whereE l g = 0 then ((whereT (tok l) g.toNat : Nat) : Int) else 0), .int .i64 (whereE l g)]
def leastE (l : List Sp) (k : Int) : Int := if mayL l = 0 then (if 0 ≤ k ∧ k ≤ outL l then 0 else 6) else mayL l
def leastV (l : List Sp) (k : Int) : Value := .tuple #[.int .i64 (if leastE l k = 0 then ((leastT (tok l) k.toNat : Nat) : Int) else 0), .int .i64 (leastE l k)]
theorem where_ok {l : List Sp} {g : Int} (hm : mayL l = 0) (h0 : 0 ≤ g) (h1 : g ≤ inL l) : whereV l g = .tuple #[.int .i64 ((whereT (tok l) g.toNat : Nat) : Int), .int .i64 0] := by
  have e : whereE l g = 0 := by unfold whereE; rw [if_pos hm, if_pos ⟨h0, h1⟩]
  unfold whereV; rw [e, if_pos rfl]
theorem where_no {l : List Sp} {g : Int} (hm : mayL l = 0) (h : ¬ (0 ≤ g ∧ g ≤ inL l)) : whereV l g = .tuple #[.int .i64 0, .int .i64 6] := by
  have e : whereE l g = 6 := by unfold whereE; rw [if_pos hm, if_neg h]
  unfold whereV; rw [e, if_neg (by decide)]
theorem where_may {l : List Sp} {g : Int} (hm : mayL l ≠ 0) : whereV l g = .tuple #[.int .i64 0, .int .i64 (mayL l)] := by
  have e : whereE l g = mayL l := by unfold whereE; rw [if_neg hm]
  unfold whereV; rw [e, if_neg hm]
theorem least_ok {l : List Sp} {g : Int} (hm : mayL l = 0) (h0 : 0 ≤ g) (h1 : g ≤ outL l) : leastV l g = .tuple #[.int .i64 ((leastT (tok l) g.toNat : Nat) : Int), .int .i64 0] := by
  have e : leastE l g = 0 := by unfold leastE; rw [if_pos hm, if_pos ⟨h0, h1⟩]
  unfold leastV; rw [e, if_pos rfl]
theorem least_no {l : List Sp} {g : Int} (hm : mayL l = 0) (h : ¬ (0 ≤ g ∧ g ≤ outL l)) : leastV l g = .tuple #[.int .i64 0, .int .i64 6] := by
  have e : leastE l g = 6 := by unfold leastE; rw [if_pos hm, if_neg h]
  unfold leastV; rw [e, if_neg (by decide)]
theorem least_may {l : List Sp} {g : Int} (hm : mayL l ≠ 0) : leastV l g = .tuple #[.int .i64 0, .int .i64 (mayL l)] := by
  have e : leastE l g = mayL l := by unfold leastE; rw [if_neg hm]
  unfold leastV; rw [e, if_neg hm]
theorem whereR_c (A : Option Addr) (q c : Nat) (l : List Sp) (g : Nat) (w : World) (h : Rd w 3 (.slice A q c) q (spCells l)) (hl : l.length = q) (hq : q ≤ 1000) (hok : ∀ s ∈ l, OkW s) (hin : tin (tok l) ≤ 1048576) (hout : tout (tok l) ≤ 2000000000) (hg : g ≤ 1048576) (hts : ∀ s ∈ l, s.2.2.size ≤ 1000000000) :
    Calls Tryd.prog 25 #[.slice A q c, .int .i64 g] w fun e w' => e = .returned (.int .i64 ((whereT (tok l) g : Nat) : Int)) ∧ Ext w w' := by
  have h0 : whereT (tok l) g = 0 + if 0 ≤ g then whereT (tok (l.drop 0)) (g - 0) else 0 := by rw [if_pos (Nat.zero_le _), List.drop_zero, Nat.zero_add, Nat.sub_zero]
  have hwl := whereT_le (tok l) g
  have H0 := Lib.hid h0
  have H := Lib.hid h; have HL := Lib.hid hl; have HOK := Lib.hid hok; have HTS := Lib.hid hts
  clear h hl hok hts h0
  go_enter Tryd.func25, Tryd.ntmps25
  go_wp2_with fail
  go_loopw [5, 6, 7] (fun n a z wr => ∃ j m t : Nat, j ≤ q ∧ z = .int .i64 j ∧ n = .int .i64 m ∧ a = .int .i64 t ∧ t = tin (tok (l.take j)) ∧ whereT (tok l) g = m + (if t ≤ g then whereT (tok (l.drop j)) (g - t) else 0) ∧ Ext w wr) (fun _ _ z _ => q - (intOf z).toNat)
  case atStart => exact ⟨0, 0, 0, by omega, rfl, rfl, rfl, by rw [List.take_zero]; rfl, H0.out, Ext.refl _⟩
  case round =>
    obtain ⟨j, m, t, hj, rfl, rfl, rfl, hta, hm, hxr⟩ := hrel
    have htl := tin_le_of_take l j
    rw [← hta] at htl
    have HM := Lib.hid hm; have HTA := Lib.hid hta
    have hmb : m ≤ 2000000000 := by have := hm; omega
    clear hm hta
    by_cases hlt : j < q ∧ t ≤ g
    · obtain ⟨hlt, htg⟩ := hlt
      have hjl : j < l.length := by have := HL.out; omega
      obtain ⟨b, off, rfl, hb, q0, q1, q2⟩ := sp_at (H.out.ext hxr) HL.out hlt
      have dn : decide (j < q) = true := by rw [decide_eq_true_eq]; exact hlt
      have dg : decide (t ≤ g) = true := by rw [decide_eq_true_eq]; exact htg
      have i0 : (0 : Int) ≤ (j : Int) := by omega
      have i1 : (j : Int) < (q : Int) := by omega
      have hok := HOK.out _ (List.getElem_mem hjl)
      have hts := HTS.out _ (List.getElem_mem hjl)
      have hstk := tok_take l j hjl
      have htn := tin_append (tok (l.take j)) (tokS l[j])
      rw [← hstk, ← HTA.out] at htn
      have htl1 := tin_le_of_take l (j + 1)
      have hkeep := fun N tt => @where_keep l j g t m N tt hjl
      have hdrop := fun N tt => @where_drop l j g t m N tt hjl
      have hput := fun n tt cs => @where_put l j g t m n tt cs hjl
      unfold OkW at hok
      obtain ⟨sp, hsp⟩ : ∃ sp, l[j] = sp := ⟨_, rfl⟩
      rw [hsp] at q0 q1 q2 hok htn hkeep hdrop hput hts
      clear hsp hstk
      obtain ⟨a1, a2, a3⟩ := sp
      simp only at q0 q1 q2 hok hts
      obtain ⟨t1, ht1⟩ : ∃ t1, tin (tok (l.take (j + 1))) = t1 := ⟨_, rfl⟩
      rw [ht1] at htn htl1
      have HT1 := Lib.hid ht1
      clear ht1
      have HIN := Lib.hid (fun w' (hx : Ext w w') => inR_c a1 a2 a3 w')
      have HOUT := Lib.hid (fun w' (hx : Ext w w') => outR_c a1 a2 a3 w' hts)
      unfold spanV at HIN HOUT
      rcases hok with ⟨k1, n1, us, hu⟩ | ⟨k1, n1, t1e⟩
      · subst k1; subst n1
        have hp := hput 0 a3 us rfl hu HM.out htg
        rw [tokS_text _ _ hu, tin_map_ins] at htn
        have ho : outS 2 0 a3 = (us.length : Int) := by show max (cntF (bs a3)) 0 = _; rw [cntF_some hu]; omega
        have hi : inS 2 0 = 0 := rfl
        rw [ho] at HOUT
        rw [hi] at HIN
        have hul : m + us.length ≤ 2000000000 := by omega
        have HP := Lib.hid hp
        have hw1 : t1 = t := by omega
        subst hw1
        clear hp hkeep hdrop hput ho hi hu htn
        generalize us.length = U at *
        go_wp2_with fail
        refine (HOUT.out _ hxr).mono ?_; rintro e w1 ⟨rfl, hx1⟩
        have z0 := ext_cell hx1 q0
        have z1 := ext_cell hx1 q1
        have z2 := ext_cell hx1 q2
        go_wp2_with fail
        refine (HIN.out _ (hxr.trans hx1)).mono ?_; rintro e w2 ⟨rfl, hx2⟩
        go_wp2_with fail
        go_roundw
        case rel => exact ⟨j + 1, m + U, t1, by omega, by go_num, by go_num, by go_num, HT1.out.symm, HP.out, (hxr.trans hx1).trans hx2⟩
        case measure => simp [intOf]; omega
      · obtain ⟨N, rfl⟩ := Int.eq_ofNat_of_zero_le n1
        subst t1e
        rcases k1 with k1 | k1
        · subst k1
          have hp := hkeep N ⟨#[]⟩ rfl HM.out htg
          rw [tokS_num _ _ _ (by decide), if_neg (by decide), Int.toNat_natCast, tin_rep _ (.inl rfl)] at htn
          have hi : inS 1 (N : Int) = (N : Int) := rfl
          rw [hi] at HIN
          have HP := Lib.hid hp
          have HTN := Lib.hid htn
          have hmn : m + min N (g - t) ≤ 2000000000 := by omega
          have hnb : N ≤ 1048576 := by omega
          clear hp hkeep hdrop hput hi htn
          rcases (by omega : ((N : Int) ≤ (g : Int) - (t : Int) ∧ min N (g - t) = N) ∨ (¬ ((N : Int) ≤ (g : Int) - (t : Int)) ∧ min N (g - t) = g - t)) with ⟨hc, hme⟩ | ⟨hc, hme⟩
          all_goals
            rw [hme] at HP hmn
            clear hme
            go_wp2_with fail
            refine (HIN.out _ hxr).mono ?_; rintro e w2 ⟨rfl, hx2⟩
            go_wp2_with fail
            go_roundw
            case rel => exact ⟨j + 1, _, t + N, by omega, by go_num, by first | rfl | (congr 1; omega), by go_num, by rw [HT1.out, HTN.out], HP.out, hxr.trans hx2⟩
            case measure => simp [intOf]; omega
        · subst k1
          have hp := hdrop N ⟨#[]⟩ rfl HM.out htg
          rw [tokS_num _ _ _ (by decide), if_pos rfl, Int.toNat_natCast, tin_rep _ (.inr rfl)] at htn
          have hi : inS 3 (N : Int) = (N : Int) := rfl
          rw [hi] at HIN
          have HP := Lib.hid hp
          have HTN := Lib.hid htn
          have hnb : N ≤ 1048576 := by omega
          clear hp hkeep hdrop hput hi htn
          go_wp2_with fail
          refine (HIN.out _ hxr).mono ?_; rintro e w2 ⟨rfl, hx2⟩
          go_wp2_with fail
          go_roundw
          case rel => exact ⟨j + 1, m, t + N, by omega, by go_num, by go_num, by go_num, by rw [HT1.out, HTN.out], HP.out, hxr.trans hx2⟩
          case measure => simp [intOf]; omega
    · have hend : whereT (tok l) g = m := by
        have hm := HM.out
        by_cases htg : t ≤ g
        · have hjq : j = q := by omega
          have hall : l.drop j = [] := List.drop_eq_nil_of_le (by have := HL.out; omega)
          rw [if_pos htg, hall] at hm
          exact hm
        · rw [if_neg htg] at hm; exact hm
      have hcase : (decide (j < q) = false) ∨ (decide (j < q) = true ∧ decide (t ≤ g) = false) := by
        by_cases e : j < q
        · exact .inr ⟨by rw [decide_eq_true_eq]; exact e, by rw [decide_eq_false_iff_not]; omega⟩
        · exact .inl (by rw [decide_eq_false_iff_not]; exact e)
      have HE := Lib.hid hend
      clear hend hlt
      rcases hcase with d1 | ⟨d1, d2⟩
      all_goals
        go_wp2_with fail
        go_ret
        rw [HE.out]
        exact ⟨rfl, hxr⟩
theorem whereRR_c (A : Option Addr) (q c : Nat) (l : List Sp) (g : Int) (w : World) (h : Rd w 3 (.slice A q c) q (spCells l)) (hl : l.length = q) (hq : q ≤ 1000) (hts : ∀ s ∈ l, s.2.2.size ≤ 1000000000) (hT : sumT l ≤ 1000000000) (g0 : -9223372036854775808 ≤ g) (g1 : g ≤ 9223372036854775807) :
    Calls Tryd.prog 10 #[.slice A q c, .int .i64 g] w fun e w' => e = .returned (whereV l g) ∧ Ext w w' := by
  have HM : Hid (∀ w', Ext w w' → _) := Lib.hid fun w' hx => mayR4_c A q c l w' (h.ext hx) hl hq hts
  have HI : Hid (∀ w', Ext w w' → _) := Lib.hid fun w' hx => inR4_c A q c l w' (h.ext hx) hl hq
  by_cases hm : mayL l = 0
  · obtain ⟨hall, hi0, hi1⟩ := mayL_all hm (by omega)
    have hok : ∀ s ∈ l, OkW s := fun s hs => okW_of_may (hall s hs)
    have hwi : wrap64 (inL l) = inL l := by unfold wrap64; omega
    have htin := tin_ok l hok
    have hob := outL_le l hok
    rw [hm] at HM
    rw [hwi] at HI
    by_cases hr : 0 ≤ g ∧ g ≤ inL l
    · have HV := Lib.hid (where_ok hm hr.1 hr.2)
      obtain ⟨G, rfl⟩ := Int.eq_ofNat_of_zero_le hr.1
      rw [Int.toNat_natCast] at HV
      have hG : G ≤ 1048576 := by omega
      have HW : Hid (∀ w', Ext w w' → _) := Lib.hid fun w' hx => whereR_c A q c l G w' (h.ext hx) hl hq hok (by omega) (by omega) hG hts
      obtain ⟨hr0, hr1⟩ := hr
      clear h hl hts hT hm hall hok hwi htin hob
      generalize whereT (tok l) G = R at *
      generalize inL l = IL at *
      go_enter Tryd.func10, Tryd.ntmps10
      go_wp2_with fail
      refine (HM.out _ (Ext.refl _)).mono ?_; rintro e w1 ⟨rfl, hx1⟩
      go_wp2_with fail
      refine (HI.out _ hx1).mono ?_; rintro e w2 ⟨rfl, hx2⟩
      go_wp2_with fail
      refine (HW.out _ (hx1.trans hx2)).mono ?_; rintro e w3 ⟨rfl, hx3⟩
      go_wp2_with fail
      go_ret2
      rw [HV.out]
      exact ⟨rfl, (hx1.trans hx2).trans hx3⟩
    · have HV := Lib.hid (where_no hm hr)
      have hr' : g < 0 ∨ (0 ≤ g ∧ inL l < g) := by omega
      clear h hl hts hT hm hall hok hwi htin hob hr
      generalize inL l = IL at *
      rcases hr' with hr | ⟨hr, hr2⟩
      · go_enter Tryd.func10, Tryd.ntmps10
        go_wp2_with fail
        refine (HM.out _ (Ext.refl _)).mono ?_; rintro e w1 ⟨rfl, hx1⟩
        go_wp2_with fail
        go_ret2
        rw [HV.out]
        exact ⟨rfl, hx1⟩
      · go_enter Tryd.func10, Tryd.ntmps10
        go_wp2_with fail
        refine (HM.out _ (Ext.refl _)).mono ?_; rintro e w1 ⟨rfl, hx1⟩
        go_wp2_with fail
        refine (HI.out _ hx1).mono ?_; rintro e w2 ⟨rfl, hx2⟩
        go_wp2_with fail
        go_ret2
        rw [HV.out]
        exact ⟨rfl, hx1.trans hx2⟩
  · have HV := Lib.hid (where_may (g := g) hm)
    have hb1 : (mayL l != 0) = true := by rw [bne_iff_ne]; exact hm
    have hb2 : (mayL l == 0) = false := by rw [beq_eq_false_iff_ne]; exact hm
    clear h hl hts hT hm
    generalize mayL l = ML at *
    go_enter Tryd.func10, Tryd.ntmps10
    go_wp2_with fail
    refine (HM.out _ (Ext.refl _)).mono ?_; rintro e w1 ⟨rfl, hx1⟩
    go_wp2_with fail
    go_ret2
    rw [HV.out]
    exact ⟨rfl, hx1⟩
theorem leastR_c (A : Option Addr) (q c : Nat) (l : List Sp) (g : Int) (w : World) (h : Rd w 3 (.slice A q c) q (spCells l)) (hl : l.length = q) (hq : q ≤ 1000) (hts : ∀ s ∈ l, s.2.2.size ≤ 1000000000) (hT : sumT l ≤ 1000000000) (g0 : -9223372036854775808 ≤ g) (g1 : g ≤ 9223372036854775807) :
    Calls Tryd.prog 12 #[.slice A q c, .int .i64 g] w fun e w' => e = .returned (leastV l g) ∧ Ext w w' := by
  have HM : Hid (∀ w', Ext w w' → _) := Lib.hid fun w' hx => mayR4_c A q c l w' (h.ext hx) hl hq hts
  have HI : Hid (∀ w', Ext w w' → _) := Lib.hid fun w' hx => inR4_c A q c l w' (h.ext hx) hl hq
  have HO : Hid (∀ w', Ext w w' → _) := Lib.hid fun w' hx => outR4_c A q c l w' (h.ext hx) hl hq hts
  by_cases hm : mayL l = 0
  · obtain ⟨hall, hi0, hi1⟩ := mayL_all hm (by omega)
    have hok : ∀ s ∈ l, OkW s := fun s hs => okW_of_may (hall s hs)
    have hwi : wrap64 (inL l) = inL l := by unfold wrap64; omega
    have htin := tin_ok l hok
    have hob := outL_le l hok
    have hwo : wrap64 (outL l) = outL l := by unfold wrap64; omega
    rw [hm] at HM
    rw [hwi] at HI
    rw [hwo] at HO
    by_cases hr : 0 ≤ g ∧ g ≤ outL l
    · have HV := Lib.hid (least_ok hm hr.1 hr.2)
      obtain ⟨G, rfl⟩ := Int.eq_ofNat_of_zero_le hr.1
      rw [Int.toNat_natCast] at HV
      have HW : Hid (∀ (M : Nat) w', Ext w w' → M ≤ 1048576 → _) := Lib.hid fun M w' hx hM => whereR_c A q c l M w' (h.ext hx) hl hq hok (by omega) (by omega) hM hts
      have HGA : Hid (∀ M : Nat, leastT (tok l) G ≤ M ↔ G ≤ whereT (tok l) M) := Lib.hid fun M => galois (tok l) G M (by omega)
      have hle := leastT_le (tok l) G
      have hwb : Hid (∀ M, whereT (tok l) M ≤ 2000000000) := Lib.hid fun M => by have := whereT_le (tok l) M; omega
      obtain ⟨IN, hIN⟩ : ∃ IN, tin (tok l) = IN := ⟨_, rfl⟩
      rw [hIN] at hle htin
      have hinE : inL l = (IN : Int) := htin.1.symm
      have hinB : IN ≤ 1048576 := by omega
      obtain ⟨hr0, hr1⟩ := hr
      rw [hinE] at HI
      clear h hl hts hT hm hall hok hwi htin hob hwo hi0 hi1 hinE hIN
      generalize outL l = OL at *
      obtain ⟨L, hL⟩ : ∃ L, leastT (tok l) G = L := ⟨_, rfl⟩
      rw [hL] at HGA hle HV
      clear hL
      go_enter Tryd.func12, Tryd.ntmps12
      go_wp2_with fail
      refine (HM.out _ (Ext.refl _)).mono ?_; rintro e w1 ⟨rfl, hx1⟩
      go_wp2_with fail
      refine (HO.out _ hx1).mono ?_; rintro e w2 ⟨rfl, hx2⟩
      go_wp2_with fail
      refine (HI.out _ (hx1.trans hx2)).mono ?_; rintro e w3 ⟨rfl, hx3⟩
      have e3 := (hx1.trans hx2).trans hx3
      clear hx1 hx2 hx3
      go_wp2_with fail
      go_loopw [7, 8] (fun lo hi wr => ∃ a b : Nat, lo = .int .i64 a ∧ hi = .int .i64 b ∧ a ≤ L ∧ L ≤ b ∧ b ≤ IN ∧ Ext w wr) (fun lo hi _ => (intOf hi).toNat - (intOf lo).toNat)
      case atStart => exact ⟨0, IN, rfl, rfl, Nat.zero_le _, hle, Nat.le_refl _, e3⟩
      case round =>
        obtain ⟨a, b, rfl, rfl, ha, hb, hbi, hxr⟩ := hrel
        by_cases hlt : a < b
        · have dn : decide (a < b) = true := by rw [decide_eq_true_eq]; exact hlt
          have hM2 : ((a : Int) + (b : Int)) / 2 = (((a + b) / 2 : Nat) : Int) := by omega
          have hM : ((a : Int) + (b : Int)).tdiv 2 = (((a + b) / 2 : Nat) : Int) := by rw [Int.tdiv_eq_ediv_of_nonneg (by omega)]; exact hM2
          obtain ⟨M, hMd⟩ : ∃ M, (a + b) / 2 = M := ⟨_, rfl⟩
          rw [hMd] at hM hM2
          have hMa : a ≤ M := by omega
          have hMb : M < b := by omega
          clear hMd
          have hw := HW.out M
          have hga := HGA.out M
          have hwM := hwb.out M
          have HWM := Lib.hid hw
          clear hw
          generalize whereT (tok l) M = R at *
          by_cases hd : G ≤ R
          · have hLM := hga.2 hd
            have dd : decide (G ≤ R) = true := by rw [decide_eq_true_eq]; exact hd
            clear hga
            go_wp2_with fail
            refine (HWM.out _ hxr (by omega)).mono ?_; rintro e w4 ⟨rfl, hx4⟩
            go_wp2_with fail
            go_roundw
            case rel => exact ⟨a, M, rfl, by go_num, ha, hLM, by omega, hxr.trans hx4⟩
            case measure => simp [intOf]; omega
          · have hLM : M < L := by
              rcases Nat.lt_or_ge M L with h | h
              · exact h
              · exact absurd (hga.1 h) hd
            have dd : decide (G ≤ R) = false := by rw [decide_eq_false_iff_not]; exact hd
            clear hga
            go_wp2_with fail
            refine (HWM.out _ hxr (by omega)).mono ?_; rintro e w4 ⟨rfl, hx4⟩
            go_wp2_with fail
            go_roundw
            case rel => exact ⟨M + 1, b, by go_num, rfl, by omega, hb, hbi, hxr.trans hx4⟩
            case measure => simp [intOf]; omega
        · have hab : a = L := by omega
          subst hab
          have dn : decide (a < b) = false := by rw [decide_eq_false_iff_not]; exact hlt
          go_wp2_with fail
          go_ret2
          rw [HV.out]
          exact ⟨rfl, hxr⟩
    · have HV := Lib.hid (least_no hm hr)
      have hr' : g < 0 ∨ (0 ≤ g ∧ outL l < g) := by omega
      clear h hl hts hT hm hall hok hwi hwo htin hob hr
      generalize outL l = IL at *
      rcases hr' with hr | ⟨hr, hr2⟩
      · go_enter Tryd.func12, Tryd.ntmps12
        go_wp2_with fail
        refine (HM.out _ (Ext.refl _)).mono ?_; rintro e w1 ⟨rfl, hx1⟩
        go_wp2_with fail
        go_ret2
        rw [HV.out]
        exact ⟨rfl, hx1⟩
      · go_enter Tryd.func12, Tryd.ntmps12
        go_wp2_with fail
        refine (HM.out _ (Ext.refl _)).mono ?_; rintro e w1 ⟨rfl, hx1⟩
        go_wp2_with fail
        refine (HO.out _ hx1).mono ?_; rintro e w2 ⟨rfl, hx2⟩
        go_wp2_with fail
        go_ret2
        rw [HV.out]
        exact ⟨rfl, hx1.trans hx2⟩
  · have HV := Lib.hid (least_may (g := g) hm)
    have hb1 : (mayL l != 0) = true := by rw [bne_iff_ne]; exact hm
    have hb2 : (mayL l == 0) = false := by rw [beq_eq_false_iff_ne]; exact hm
    clear h hl hts hT hm
    generalize mayL l = ML at *
    go_enter Tryd.func12, Tryd.ntmps12
    go_wp2_with fail
    refine (HM.out _ (Ext.refl _)).mono ?_; rintro e w1 ⟨rfl, hx1⟩
    go_wp2_with fail
    go_ret2
    rw [HV.out]
    exact ⟨rfl, hx1⟩
end Go.Proofs.YtapkfmcbphljcaaDoor
