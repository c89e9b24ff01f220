/- Layer 13: mathematics; the reference: may, Of, Patch. -/
import Derived.Test.YtfjiookndleaeaaDoorNu
import Derived.Test.YtfjiookndleaeaaDoorC10
import Derived.Test.YtfjiookndleaeaaDoorC11
import Derived.Test.YtfjiookndleaeaaDoorC12
namespace Go.Proofs.YtfjiookndleaeaaDoor
open Go.RowKit
set_option maxRecDepth 100000
set_option maxHeartbeats 4000000
set_option linter.unusedSimpArgs false
/-- What through tells of a and ls: the error, the operation behind all, and the patch. -/
def thruE (a : List Sp) (ls : List (List Sp)) : Int := if mayL a = 0 then chainE (inL a) ls else mayL a
def thruJ (a : List Sp) (ls : List (List Sp)) (j : Nat) : List Sp := spT (overT (tok a) (fR (inL a) (ls.take j)))
def thruL (a : List Sp) (ls : List (List Sp)) : List Sp := spT (overT (tok a) (fR (inL a) ls))
def patL (a : List Sp) (ls : List (List Sp)) : List Sp := spT (underT (fR (inL a) ls) (tok a))
theorem thruE_ok {a : List Sp} {ls : List (List Sp)} (h : thruE a ls = 0) (ha : a.length ≤ 1000) (hl : ∀ l ∈ ls, l.length ≤ 1000) :
    mayL a = 0 ∧ (∀ s ∈ a, OkW s) ∧ (0 ≤ inL a ∧ inL a ≤ 1048576) ∧ chainE (inL a) ls = 0 ∧ Thru (inL a) ls (chN (inL a) ls) := by
  unfold thruE at h
  by_cases hm : mayL a = 0
  · rw [if_pos hm] at h
    obtain ⟨h1, h2⟩ := chain_thru h hl
    exact ⟨hm, (may_okW hm ha).1, h1, h, h2⟩
  · rw [if_neg hm] at h; exact absurd h hm
theorem thru_tin {a : List Sp} (ok : ∀ s ∈ a, OkW s) : (tin (tok a) : Int) = inL a := (tin_ok a ok).1
theorem thruJ_ok {a : List Sp} (ok : ∀ s ∈ a, OkW s) {ls : List (List Sp)} {k : Int} (hT : Thru (inL a) ls k) (j : Nat) :
    ∃ m, Thru (inL a) (ls.take j) m ∧ (∀ s ∈ thruJ a ls j, OkW s) ∧ tok (thruJ a ls j) = overT (tok a) (fR (inL a) (ls.take j)) ∧ inL (thruJ a ls j) = m ∧ sumT (thruJ a ls j) ≤ sumT a := by
  obtain ⟨m, h1, _⟩ := thru_take hT j
  obtain ⟨f1, f2⟩ := fR_len h1
  have ht := thru_tin ok
  have hok := overT_okT (tok a) (fR (inL a) (ls.take j)) (tok_okT a ok)
  have hz : ∀ s ∈ thruJ a ls j, OkW s := spT_okW _ hok
  have e : tok (thruJ a ls j) = overT (tok a) (fR (inL a) (ls.take j)) := tok_spT _ hok
  have z1 := (tin_ok _ hz).1
  rw [e, overT_len _ _ (by omega)] at z1
  refine ⟨m, h1, hz, e, by omega, ?_⟩
  unfold thruJ
  rw [sumT_spT, over_insT _ _ (by omega)]
  exact insT_sum a ok
theorem thruJ_zero {a : List Sp} (ok : ∀ s ∈ a, OkW s) (ls : List (List Sp)) : thruJ a ls 0 = normL a := by
  have ht := thru_tin ok
  unfold thruJ
  rw [List.take_zero, norm_tok a ok]
  show spT (overT (tok a) (List.replicate (inL a).toNat Tok.keep)) = _
  rw [show (inL a).toNat = tin (tok a) by omega, over_keepR]
theorem thruJ_all {a : List Sp} {ls : List (List Sp)} : thruJ a ls ls.length = thruL a ls := by unfold thruJ thruL; rw [List.take_length]
theorem thruJ_step {a : List Sp} (ok : ∀ s ∈ a, OkW s) {ls : List (List Sp)} {k : Int} (hT : Thru (inL a) ls k) {j : Nat} (hj : j < ls.length) :
    (∀ s ∈ ls[j], OkW s) ∧ inL (thruJ a ls j) = inL ls[j] ∧ overL (thruJ a ls j) ls[j] = thruJ a ls (j + 1) ∧ 0 ≤ inL ls[j] ∧ inL ls[j] ≤ 1048576 := by
  obtain ⟨k1, g1, _⟩ := thru_take hT (j + 1)
  rw [take_snoc hj] at g1
  obtain ⟨g2, o1, o2, o3, o4, o5⟩ := thru_snoc.1 g1
  obtain ⟨m, h1, h2, h3, h4, h5⟩ := thruJ_ok ok hT j
  have e1 := (thru_chE h1).2
  have e2 := (thru_chE g2).2
  refine ⟨o1, by omega, ?_, o2, o3⟩
  have ht := thru_tin ok
  have hone : Thru (inL ls[j]) [ls[j]] k1 := ⟨o1, rfl, o2, o3, o4, o5⟩
  have hm := over_many (tok a) ht g2 hone
  unfold overL
  rw [h3, ← hm, ← take_snoc hj]
  rfl
theorem thruJ_len {a : List Sp} (ok : ∀ s ∈ a, OkW s) {ls : List (List Sp)} {k : Int} (hT : Thru (inL a) ls k) (j : Nat) (hj : j ≤ ls.length) : (thruJ a ls j).length ≤ a.length + lenS (ls.take j) := by
  induction j with
  | zero => rw [thruJ_zero ok]; have := norm_len a; omega
  | succ j ih =>
    have ih := ih (by omega)
    have hj2 : j < ls.length := by omega
    obtain ⟨o1, o2, o3, o4, o5⟩ := thruJ_step ok hT hj2
    obtain ⟨m, g1, g2, g3, g4, g5⟩ := thruJ_ok ok hT j
    have h6 := overL_len _ _ g2 o1 o2
    have h7 := norm_len (thruJ a ls j)
    have h8 := norm_len ls[j]
    have e2 : lenS [ls[j]] = ls[j].length := by simp [lenS]
    rw [← o3, take_snoc hj2, lenS_append]
    omega
/-- Small enough for through. -/
structure SmT (a : List Sp) (ls : List (List Sp)) : Prop where
  len : a.length + lenS ls ≤ 1000
  txt : sumT a ≤ 400000000
  row : Small ls
theorem SmT.each {a : List Sp} {ls : List (List Sp)} (h : SmT a ls) : ∀ s ∈ a, s.2.2.size ≤ 1000000000 := fun s hs => by have := le_sumT a s hs; have := h.txt; omega
theorem thru_step {a : List Sp} {ls : List (List Sp)} {k : Int} (ok : ∀ s ∈ a, OkW s) (hT : Thru (inL a) ls k) (hS : SmT a ls) {j : Nat} (hj : j < ls.length) :
    (thruJ a ls j).length ≤ 1000 ∧ ls[j].length ≤ 1000 ∧ (∀ s ∈ thruJ a ls j, s.2.2.size ≤ 1000000000) ∧ (∀ s ∈ ls[j], s.2.2.size ≤ 1000000000) ∧ sumT (thruJ a ls j) + sumT ls[j] ≤ 900000000 ∧
    overE (thruJ a ls j) ls[j] = 0 ∧ overL (thruJ a ls j) ls[j] = thruJ a ls (j + 1) := by
  obtain ⟨o1, o2, o3, o4, o5⟩ := thruJ_step ok hT hj
  obtain ⟨m, g1, g2, g3, g4, g5⟩ := thruJ_ok ok hT j
  have h1 := thruJ_len ok hT j (by omega)
  have h2 := lenS_take ls j
  have h3 := le_lenS ls[j] (List.getElem_mem hj)
  have h4 := hS.len; have h5 := hS.txt; have h6 := hS.row.len; have h7 := hS.row.txt
  refine ⟨by omega, by omega, fun s hs => by have := le_sumT _ s hs; omega, fun s hs => by have := le_sumT _ s hs; omega, by omega, ?_, o3⟩
  unfold overE
  rw [if_pos (okW_mayL _ g2 (by omega)).1, if_pos (okW_mayL _ o1 (by omega)).1, if_pos o2]
/-- The patch: what all come to, as the one that came first. -/
theorem pat_ok {a : List Sp} {ls : List (List Sp)} {k : Int} (ok : ∀ s ∈ a, OkW s) (hT : Thru (inL a) ls k) (hi : inL a ≤ 1048576) (hS : SmT a ls) :
    (spT (fR (inL a) ls)).length ≤ 1000 ∧ (∀ s ∈ spT (fR (inL a) ls), s.2.2.size ≤ 1000000000) ∧ sumT (spT (fR (inL a) ls)) + sumT a ≤ 900000000 ∧ overE (spT (fR (inL a) ls)) a = 0 ∧ underL (spT (fR (inL a) ls)) a = patL a ls := by
  obtain ⟨s1, s2, s3, s4, s5, s6, s7⟩ := fR_small hT hi
  have h5 := hS.txt; have h6 := hS.row.len; have h7 := hS.row.txt
  refine ⟨by omega, fun s hs => by have := le_sumT _ s hs; omega, by omega, ?_, ?_⟩
  · unfold overE
    rw [if_pos (okW_mayL _ s1 (by omega)).1, if_pos (okW_mayL _ ok hi).1, if_pos s4]
  · unfold underL patL; rw [s2]
theorem mayTR_c (A : Option Addr) (q c : Nat) (a : List Sp) (B : Option Addr) (n d : Nat) (ls : List (List Sp)) (w : World) (h : RdO w A q c a) (h' : RdSS w B n d ls) (hS : SmT a ls) :
    Calls Tryd.prog 31 #[.slice A q c, .slice B n d] w fun e w' => e = .returned (.int .i64 (thruE a ls)) ∧ Ext w w' := by
  have hq : q ≤ 1000 := by have := h.1; have := hS.len; omega
  have HM : Hid (∀ w', Ext w w' → _) := Lib.hid fun w' hx => mayR4_c A q c a w' (h.2.ext hx) h.1 hq hS.each
  have HI : Hid (∀ w', Ext w w' → _) := Lib.hid fun w' hx => inR4_c A q c a w' (h.2.ext hx) h.1 hq
  by_cases hma : mayL a = 0
  · obtain ⟨_, ai0, ai1⟩ := may_okW hma (by have := h.1; omega)
    have hwo : wrap64 (inL a) = inL a := by unfold wrap64; omega
    have HC : Hid (∀ w', Ext w w' → _) := Lib.hid fun w' hx => chainR10_c B n d ls (inL a) w' (h'.ext hx) hS.row.each hS.row.txt (by have := h'.1; have := hS.row.num; omega)
    have hE : thruE a ls = chainE (inL a) ls := if_pos hma
    rw [hma] at HM; rw [hwo] at HI; rw [hE]
    clear h h' hS hma hwo hE
    generalize chainN (inL a) ls = cn at *
    generalize chainE (inL a) ls = ce at *
    generalize inL a = IA at *
    go_enter Tryd.func31, Tryd.ntmps31
    go_wp2_with fail
    refine (HM.out _ (Ext.refl _)).mono ?_; rintro e w1 ⟨rfl, hx1⟩
    go_wp2_with fail
    refine (HI.out _ hx1).mono ?_; rintro e w2 ⟨rfl, hx2⟩
    go_wp2_with fail
    refine (HC.out _ (hx1.trans hx2)).mono ?_; rintro e w3 ⟨rfl, hx3⟩
    go_wp2_with fail
    go_ret
    exact ⟨rfl, (hx1.trans hx2).trans hx3⟩
  · have hE : thruE a ls = mayL a := if_neg hma
    have hb : (mayL a != 0) = true := by rw [bne_iff_ne]; exact hma
    have hb2 : (mayL a == 0) = false := by rw [beq_eq_false_iff_ne]; exact hma
    rw [hE]
    clear h h' hS hma hE
    generalize mayL a = MA at *
    go_enter Tryd.func31, Tryd.ntmps31
    go_wp2_with fail
    refine (HM.out _ (Ext.refl _)).mono ?_; rintro e w1 ⟨rfl, hx1⟩
    go_wp2_with fail
    go_ret
    exact ⟨rfl, hx1⟩
theorem thruR_c (A : Option Addr) (q c : Nat) (a : List Sp) (B : Option Addr) (n d : Nat) (ls : List (List Sp)) (w : World) (h : RdO w A q c a) (h' : RdSS w B n d ls) (hS : SmT a ls) :
    Calls Tryd.prog 12 #[.slice A q c, .slice B n d] w (OpR w (thruE a ls) (thruL a ls)) := by
  have HM := Lib.hid (mayTR_c A q c a B n d ls w h h' hS)
  by_cases he : thruE a ls = 0
  · obtain ⟨hma, ok, hi, hce, hth⟩ := thruE_ok he (by have := hS.len; omega) hS.row.each
    have hpos : Ok a := ⟨okW_pos a ok, by have := okW_N a ok; omega, by have := hS.txt; omega⟩
    have HN : Hid (∀ w', Ext w w' → _) := Lib.hid fun w' hx => ofR5_c A q c a w' (h.2.ext hx) h.1 (by have := h.1; have := hS.len; omega) hpos
    have HST := Lib.hid fun j (hj : j < ls.length) => thru_step ok hth hS hj
    have H0 : Hid (normL a = thruJ a ls 0) := Lib.hid (thruJ_zero ok ls).symm
    have HLN := Lib.hid h'.1
    have H := Lib.hid h'
    have hn1 : n ≤ 100000 := by have := h'.1; have := hS.row.num; omega
    rw [he] at HM ⊢
    clear h h' hS he hma ok hi hce hth hpos
    go_enter Tryd.func12, Tryd.ntmps12
    go_wp2_with fail
    refine HM.out.mono ?_; rintro e w1 ⟨rfl, hx1⟩
    go_wp2_with fail
    refine (HN.out _ hx1).mono ?_; rintro e w2 ⟨v, rfl, hx2, hr2⟩
    obtain ⟨a0, q0, c0, rfl, r0⟩ := rdO_own hr2
    have R0 := Lib.hid r0
    have hx12 := hx1.trans hx2
    clear hr2 r0
    go_wp2_with fail
    go_loopw [7, 8] (fun y z wr => ∃ (j : Nat) (a0 : Option Addr) (q0 k : Nat), j ≤ n ∧ z = .int .i64 j ∧ y = .slice a0 q0 k ∧ RdO wr a0 q0 k (thruJ a ls j) ∧ Ext w wr) (fun _ z _ => n - (intOf z).toNat)
    case atStart => exact ⟨0, a0, q0, c0, by omega, rfl, rfl, by rw [← H0.out]; exact R0.out, hx12⟩
    case round =>
      clear R0
      obtain ⟨j, a0, q0, c0, hj, rfl, rfl, r0, hxr⟩ := hrel
      by_cases hlt : j < n
      · have hjl : j < ls.length := by have := HLN.out; omega
        obtain ⟨b, off, a1, kc, rfl, hb, q0', hr⟩ := (H.out.ext hxr).at_ hlt hjl
        have dn : decide (j < n) = true := by rw [decide_eq_true_eq]; exact hlt
        have i0 : (0 : Int) ≤ (j : Int) := by omega
        have i1 : (j : Int) < (n : Int) := by omega
        obtain ⟨s1, s2, s3, s4, s5, s6, s7⟩ := HST.out j hjl
        have hq0 := r0.1
        have CC := Lib.hid (overR_c a0 q0 c0 _ a1 _ kc ls[j] wr r0 ⟨rfl, hr⟩ (by omega) s2 s3 s4 s5)
        rw [s6, s7] at CC
        obtain ⟨k, hk⟩ : ∃ k, ls[j].length = k := ⟨_, rfl⟩
        rw [hk] at q0' CC
        clear hk hr r0 s1 s2 s3 s4 s5 s6 s7 hq0
        go_wp2_with fail
        refine CC.out.mono ?_; rintro e w3 ⟨hx3, a3, q3, c3, rfl, r3⟩
        rw [if_pos rfl] at r3
        have R3 := Lib.hid r3
        clear r3
        go_wp2_with fail
        go_roundw
        case rel => exact ⟨j + 1, a3, q3, c3, by omega, by go_num, rfl, R3.out, hxr.trans hx3⟩
        case measure => simp [intOf]; omega
      · obtain rfl : j = n := by omega
        have hall : thruJ a ls j = thruL a ls := by rw [← HLN.out]; exact thruJ_all
        rw [hall] at r0
        have R0 := Lib.hid r0
        have dn : decide (j < j) = false := by rw [decide_eq_false_iff_not]; omega
        clear hall hlt hj r0
        go_wp2_with fail
        go_ret2
        exact ⟨hxr, a0, q0, c0, rfl, by rw [if_pos rfl]; exact R0.out⟩
  · have HN := Lib.hid he
    have t1 : (thruE a ls != 0) = true := by rw [bne_iff_ne]; exact he
    have t2 : (thruE a ls == 0) = false := by rw [beq_eq_false_iff_ne]; exact he
    clear h h' hS he
    generalize thruE a ls = E at *
    go_enter Tryd.func12, Tryd.ntmps12
    go_wp2_with fail
    refine HM.out.mono ?_; rintro e w1 ⟨rfl, hx1⟩
    go_wp2_with fail
    go_ret2
    refine ⟨hx1, none, 0, 0, rfl, ?_⟩
    rw [if_neg HN.out]; exact ⟨rfl, Rd.nil _ _⟩
theorem patR_c (A : Option Addr) (q c : Nat) (a : List Sp) (B : Option Addr) (n d : Nat) (ls : List (List Sp)) (w : World) (h : RdO w A q c a) (h' : RdSS w B n d ls) (hS : SmT a ls) :
    Calls Tryd.prog 14 #[.slice A q c, .slice B n d] w (OpR w (thruE a ls) (patL a ls)) := by
  have HM := Lib.hid (mayTR_c A q c a B n d ls w h h' hS)
  by_cases he : thruE a ls = 0
  · obtain ⟨hma, ok, hi, hce, hth⟩ := thruE_ok he (by have := hS.len; omega) hS.row.each
    have hq : q ≤ 1000 := by have := h.1; have := hS.len; omega
    have hwo : wrap64 (inL a) = inL a := by unfold wrap64; omega
    have HI : Hid (∀ w', Ext w w' → _) := Lib.hid fun w' hx => inR4_c A q c a w' (h.2.ext hx) h.1 hq
    rw [hwo] at HI
    have HF : Hid (∀ w', Ext w w' → Calls Tryd.prog 34 #[.int .i64 (inL a), .slice B n d] w' (OpR w' 0 (spT (fR (inL a) ls)))) := Lib.hid fun w' hx => by
      have h1 := ofR10_c B n d ls (inL a) w' (h'.ext hx) hS.row
      rw [hce, (thru_chainE hth hi.2).2.2] at h1
      exact h1
    obtain ⟨p1, p2, p3, p4, p5⟩ := pat_ok ok hth hi.2 hS
    have HU : Hid (∀ A' k c' w', Ext w w' → RdO w' A' k c' (spT (fR (inL a) ls)) → Calls Tryd.prog 36 #[.slice A' k c', .slice A q c] w' (OpR w' 0 (patL a ls))) := Lib.hid fun A' k c' w' hx hr => by
      have h1 := underR_c A' k c' _ A q c a w' hr (h.ext hx) (by have := hr.1; omega) hq p2 hS.each p3
      rw [p4, p5] at h1
      exact h1
    rw [he] at HM ⊢
    clear h h' hS he hma ok hi hce hth hq hwo p1 p2 p3 p4 p5
    generalize spT (fR (inL a) ls) = F at *
    generalize patL a ls = P at *
    generalize inL a = IA at *
    go_enter Tryd.func14, Tryd.ntmps14
    go_wp2_with fail
    refine HM.out.mono ?_; rintro e w1 ⟨rfl, hx1⟩
    go_wp2_with fail
    refine (HI.out _ hx1).mono ?_; rintro e w2 ⟨rfl, hx2⟩
    have e2 := hx1.trans hx2
    go_wp2_with fail
    refine (HF.out _ e2).mono ?_; rintro e w3 ⟨hx3, a3, q3, c3, rfl, r3⟩
    rw [if_pos rfl] at r3
    have e3 := e2.trans hx3
    go_wp2_with fail
    refine (HU.out _ _ _ _ e3 r3).mono ?_; rintro e w4 ⟨hx4, a4, q4, c4, rfl, r4⟩
    go_wp2_with fail
    go_ret2
    exact ⟨e3.trans hx4, _, _, _, rfl, r4⟩
  · have HN := Lib.hid he
    have t1 : (thruE a ls != 0) = true := by rw [bne_iff_ne]; exact he
    have t2 : (thruE a ls == 0) = false := by rw [beq_eq_false_iff_ne]; exact he
    clear h h' hS he
    generalize thruE a ls = E at *
    go_enter Tryd.func14, Tryd.ntmps14
    go_wp2_with fail
    refine HM.out.mono ?_; rintro e w1 ⟨rfl, hx1⟩
    go_wp2_with fail
    go_ret2
    refine ⟨hx1, none, 0, 0, rfl, ?_⟩
    rw [if_neg HN.out]; exact ⟨rfl, Rd.nil _ _⟩
end Go.Proofs.YtfjiookndleaeaaDoor
