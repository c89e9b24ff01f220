/- Packed: P13 L13a. -/
import Derived.ArgAppend
import Derived.BigQuiet
import Derived.BigRegion
import Derived.ChangeAlike
import Derived.ChangeOld
import Derived.Deep.Cut
import Derived.Deep.CutRange
import Derived.Deep.DrawnRows
import Derived.Deep.MidRow
import Derived.Deep.QuietTactic
import Derived.Deep.RegionHeld3
import Derived.Deep.RegionWith
import Derived.Deep.Slices
import Derived.Deep.Upon
import Derived.Defers
import Derived.Laws.AppendOwnNone
import Derived.Laws.BytesArg
import Derived.Laws.EntriesVeiled
import Derived.Laws.IdiomCopy
import Derived.Laws.MakeOwn
import Derived.Laws.ResultCell
import Derived.Laws.Rows
import Derived.Lib.AppendStr
import Derived.Lib.AppendZerosOnto
import Derived.Lib.Builder
import Derived.Lib.DecodeN
import Derived.Lib.Hide
import Derived.Lib.Strings
import Derived.Lib.UnsafeStr
import Derived.LoopIn
import Derived.LoopNIn
import Derived.OpenShut
import Derived.OwnWalkIn
import Derived.ProofKit
import Derived.RangeFuncBound
import Derived.RangeFuncCalls
import Derived.RangeFuncLeaves
import Derived.RangeFuncNested
import Derived.RegionTactic
import Derived.Shelf.Abstract
import Derived.Shelf.RegionOpen
import Derived.ShutString
import Derived.Sort.CutIn
import Derived.StillTail
import Derived.StillTailTactics
import Derived.TacticsInMore
import Derived.Test.YtgcaphjjigpjlaaGreatDoorProg
import Derived.Test.YtgcaphjjigpjlaaGreatDoorShelf
import Derived.WalkKit
import Derived.WalkLawsBesides
import Derived.WalkSpells
import Derived.Test.YtgcaphjjigpjlaaGreatDoorQ00
import Derived.Test.YtgcaphjjigpjlaaGreatDoorQ01
import Derived.Test.YtgcaphjjigpjlaaGreatDoorQ02
import Derived.Test.YtgcaphjjigpjlaaGreatDoorQ03
import Derived.Test.YtgcaphjjigpjlaaGreatDoorQ04
import Derived.Test.YtgcaphjjigpjlaaGreatDoorQ05
import Derived.Test.YtgcaphjjigpjlaaGreatDoorQ06
import Derived.Test.YtgcaphjjigpjlaaGreatDoorQ07
import Derived.Test.YtgcaphjjigpjlaaGreatDoorQ08
import Derived.Test.YtgcaphjjigpjlaaGreatDoorQ09
import Derived.Test.YtgcaphjjigpjlaaGreatDoorQ10
import Derived.Test.YtgcaphjjigpjlaaGreatDoorQ11
import Derived.Test.YtgcaphjjigpjlaaGreatDoorQ12
import Derived.Test.YtgcaphjjigpjlaaGreatDoorQ13
import Derived.Test.YtgcaphjjigpjlaaGreatDoorQ15
import Derived.Test.YtgcaphjjigpjlaaGreatDoorQ16
import Derived.Test.YtgcaphjjigpjlaaGreatDoorQ17
import Derived.Test.YtgcaphjjigpjlaaGreatDoorQ19
import Derived.Test.YtgcaphjjigpjlaaGreatDoorQ21
import Derived.Test.YtgcaphjjigpjlaaGreatDoorQ22
namespace Go.Proofs.YtgcaphjjigpjlaaGreatDoor
open Go.RowKit
set_option maxRecDepth 100000
set_option maxHeartbeats 4000000
set_option linter.unusedSimpArgs false
theorem over_piece {l P : List (List Sp)} {n m k : Int} (t : List Tok) (ht : (tin t : Int) = n) (hn : Thru n l k) (hP : Thru k P m) : overT t (fR n (l ++ P)) = overT (overT t (fR n l)) (fR k P) := by
  have h1 := fR_len hn
  have h2 := fR_len hP
  rw [fR_append hn hP]
  exact over_one _ t (fR n l) (fR k P) (Nat.le_refl _) (by omega) (by omega)
def pieceL (ls : List (List Sp)) (j q : Nat) : List (List Sp) := (ls.drop j).take q
theorem thru_piece {a : List Sp} {ls : List (List Sp)} {k : Int} (ok : ∀ s ∈ a, OkW s) (hT : Thru (inL a) ls k) (hS : SmT a ls) {j q : Nat} (hj : j + q ≤ ls.length) (hq : 0 < q) :
    (thruJ a ls j).length ≤ 1000 ∧ wrap64 (inL (thruJ a ls j)) = inL (thruJ a ls j) ∧ Small (pieceL ls j q) ∧ chainE (inL (thruJ a ls j)) (pieceL ls j q) = 0 ∧
    (fuseL (inL (thruJ a ls j)) (pieceL ls j q)).length ≤ 1000 ∧ (∀ s ∈ thruJ a ls j, s.2.2.size ≤ 1000000000) ∧ (∀ s ∈ fuseL (inL (thruJ a ls j)) (pieceL ls j q), s.2.2.size ≤ 1000000000) ∧
    sumT (thruJ a ls j) + sumT (fuseL (inL (thruJ a ls j)) (pieceL ls j q)) ≤ 900000000 ∧
    overE (thruJ a ls j) (fuseL (inL (thruJ a ls j)) (pieceL ls j q)) = 0 ∧ overL (thruJ a ls j) (fuseL (inL (thruJ a ls j)) (pieceL ls j q)) = thruJ a ls (j + q) := by
  obtain ⟨m, g1, g2, g3, g4, g5⟩ := thruJ_ok ok hT j
  obtain ⟨m2, t1, t2⟩ := thru_take hT j
  have em : m2 = m := by rw [← (thru_chE t1).2, ← (thru_chE g1).2]
  subst em
  obtain ⟨m3, p1, p2⟩ := thru_take t2 q
  have hP : Thru m2 (pieceL ls j q) m3 := p1
  have hm := thru_head t2 (by rw [List.length_drop]; omega)
  have h0 := t2.pos
  have e1 := lenS_take ls j
  have e2 := lenS_take (ls.drop j) q
  have sm : Small (pieceL ls j q) := by
    have := hS.row.len; have := hS.row.txt; have := hS.row.num
    refine ⟨?_, ?_, ?_⟩
    · unfold pieceL; omega
    · unfold pieceL; omega
    · unfold pieceL; rw [List.length_take, List.length_drop]; omega
  have h1 := thruJ_len ok hT j (by omega)
  have h4 := hS.len; have h5 := hS.txt; have h6 := sm.len; have h7 := sm.txt
  obtain ⟨c1, c2, c3⟩ := thru_chainE hP hm
  obtain ⟨f1, f2, f3, f4, f5, f6, f7⟩ := fR_small hP hm
  have ht := thru_tin ok
  rw [g4, c3]
  refine ⟨by omega, by unfold wrap64; omega, sm, c1, by omega, fun s hs => by have := le_sumT _ s hs; omega, fun s hs => by have := le_sumT _ s hs; omega, by omega, ?_, ?_⟩
  · unfold overE
    rw [if_pos (okW_mayL _ g2 (by omega)).1, if_pos (okW_mayL _ f1 (by omega)).1, if_pos (by omega)]
  · unfold overL
    rw [f2, g3, ← over_piece (tok a) ht g1 hP]
    unfold thruJ pieceL
    rw [← List.take_add]
theorem RdSS.takeC {w : World} {A : Option Addr} {n c : Nat} {ls : List (List Sp)} (h : RdSS w A n c ls) {k : Nat} (hk : k ≤ n) : RdSS w A k k (ls.take k) := by
  obtain ⟨h1, vs, ⟨r1, A', c', hv, hc, r2⟩, h3⟩ := h.take hk
  injection hv with e1 e2 e3
  exact ⟨h1, vs, ⟨r1, A, k, rfl, Nat.le_refl _, by rw [e1]; exact r2⟩, h3⟩
theorem sumT_take (l : List Sp) (j : Nat) (hj : j < l.length) : sumT (l.take (j + 1)) = sumT (l.take j) + l[j].2.2.size := by
  rw [List.take_add_one, List.getElem?_eq_getElem hj, sumT_append]
  simp [sumT]
theorem sumT_take_le (l : List Sp) (j : Nat) : sumT (l.take j) ≤ sumT l := by
  have h := List.take_append_drop j l
  have e : sumT (l.take j) + sumT (l.drop j) = sumT l := by rw [← sumT_append, h]
  omega
theorem RdSS.dropLe {w : World} {b o n c : Nat} {ls : List (List Sp)} (h : RdSS w (some ⟨b, o, none⟩) n c ls) {k : Nat} (hk : k ≤ n) : RdSS w (some ⟨b, o + k, none⟩) (n - k) (c - k) (ls.drop k) := by
  obtain ⟨h1, vs, h2, h3⟩ := h
  have h4 := h2.drop (m := k) hk
  rw [Nat.mul_one] at h4
  refine ⟨by rw [List.length_drop, h1], _, h4, fun i l hl => ?_⟩
  rw [List.getElem?_drop] at hl
  obtain ⟨a, q, g1, g2⟩ := h3 _ l hl
  exact ⟨a, q, by rw [List.getElem?_drop]; exact g1, g2⟩
theorem RdSS.none' (w : World) (A : Option Addr) {ls : List (List Sp)} (h : ls.length = 0) : RdSS w A 0 0 ls := by
  obtain rfl := List.length_eq_zero_iff.1 h
  exact ⟨rfl, [], ⟨rfl, A, 0, rfl, Nat.le_refl _, fun h => by omega⟩, fun i l h => by simp at h⟩
def lenV : Value → Nat
  | .slice _ n _ => n
  | _ => 0
theorem mayTP_c (A : Option Addr) (q c : Nat) (a : List Sp) (B : Option Addr) (n d : Nat) (ls : List (List Sp)) (w : World) [Tab w] (h : RdO w A q c a) (h' : RdSS w B n d ls) (hS : SmT a ls) :
    Calls Tryz.prog 59 #[.slice A q c, .slice B n d] w fun e w' => e = .returned (.int .i64 (thruE a ls)) ∧ Ext w w' := by
  have hq : q ≤ 1000 := by have := h.1; have := hS.len; omega
  have HM : Hid (∀ w', Ext w w' → _) := Lib.hid fun w' hx => have hTb := tab_ext hx; may4_c A q c a w' (h.2.ext hx) h.1 hq hS.each
  have HI : Hid (∀ w', Ext w w' → _) := Lib.hid fun w' hx => have hTb := tab_ext hx; in4_c A q c a w' (h.2.ext hx) h.1 hq
  by_cases hma : mayL a = 0
  · obtain ⟨_, ai0, ai1⟩ := may_okW hma (by have := h.1; omega)
    have hwo : wrap64 (inL a) = inL a := by unfold wrap64; omega
    have HC : Hid (∀ w', Ext w w' → _) := Lib.hid fun w' hx => have hTb := tab_ext hx; chain10_c B n d ls (inL a) w' (h'.ext hx) hS.row.each hS.row.txt (by have := h'.1; have := hS.row.num; omega)
    have hE : thruE a ls = chainE (inL a) ls := if_pos hma
    rw [hma] at HM; rw [hwo] at HI; rw [hE]
    clear h h' hS hma hwo hE
    generalize chainN (inL a) ls = cn at *
    generalize chainE (inL a) ls = ce at *
    generalize inL a = IA at *
    go_enter Tryz.func59, Tryz.ntmps59
    go_wp2_with fail
    refine (HM.out _ (Ext.refl _)).mono ?_; rintro e w1 ⟨rfl, hx1⟩
    go_wp2_with fail
    refine (HI.out _ hx1).mono ?_; rintro e w2 ⟨rfl, hx2⟩
    go_wp2_with fail
    refine (HC.out _ (hx1.trans hx2)).mono ?_; rintro e w3 ⟨rfl, hx3⟩
    go_wp2_with fail
    go_ret
    exact ⟨rfl, (hx1.trans hx2).trans hx3⟩
  · have hE : thruE a ls = mayL a := if_neg hma
    have hb : (mayL a != 0) = true := by rw [bne_iff_ne]; exact hma
    have hb2 : (mayL a == 0) = false := by rw [beq_eq_false_iff_ne]; exact hma
    rw [hE]
    clear h h' hS hma hE
    generalize mayL a = MA at *
    go_enter Tryz.func59, Tryz.ntmps59
    go_wp2_with fail
    refine (HM.out _ (Ext.refl _)).mono ?_; rintro e w1 ⟨rfl, hx1⟩
    go_wp2_with fail
    go_ret
    exact ⟨rfl, hx1⟩
theorem cost13_c (A : Option Addr) (n c : Nat) (l : List Sp) (w : World) (h : RdO w A n c l) (hn : n ≤ 1000) (hT : sumT l ≤ 1000000000) :
    Calls Tryz.prog 61 #[.slice A n c] w fun e w' => e = .returned (.int .i64 ((1 + n + sumT l : Nat) : Int)) ∧ Ext w w' := by
  have H := Lib.hid h.2; have HL := Lib.hid h.1; have HT := Lib.hid hT
  clear h hT
  go_enter Tryz.func61, Tryz.ntmps61
  go_wp2_with fail
  go_loopw [3, 8] (fun z q wr => ∃ (j : Nat) (x : Int), j ≤ n ∧ q = .int .i64 j ∧ z = .int .i64 x ∧ x = 1 + j + sumT (l.take j) ∧ Ext w wr) (fun _ q _ => n - (intOf q).toNat)
  case atStart => exact ⟨0, 1, by omega, rfl, rfl, by simp [sumT], Ext.refl _⟩
  case round =>
    obtain ⟨j, x, hj, rfl, rfl, hx, hxr⟩ := hrel
    by_cases hlt : j < n
    · have hjl : j < l.length := by have := HL.out; omega
      obtain ⟨b, off, rfl, hb, q0, q1, q2⟩ := sp_at (H.out.ext hxr) HL.out hlt
      have dn : decide (j < n) = true := by rw [decide_eq_true_eq]; exact hlt
      have hst := sumT_take l j hjl
      have hle := sumT_take_le l (j + 1)
      have hle2 := HT.out
      have HX : Hid (∀ o, Ext wr (wr.alloc o)) := Lib.hid fun o => (Ext.refl wr).alloc o
      obtain ⟨q, hq⟩ : ∃ q, l[j].2.2.size = q := ⟨_, rfl⟩
      rw [hq] at hst
      have b1 : q ≤ 1000000000 := by omega
      have b2 : 0 ≤ x ∧ x ≤ 1000001001 := by omega
      have HST : Hid (x + (1 + (q : Int)) = 1 + ((j + 1 : Nat) : Int) + sumT (l.take (j + 1))) := Lib.hid (by omega)
      clear hst hle hle2 hx
      generalize l[j].1 = a1 at *
      generalize l[j].2.1 = a2 at *
      generalize l[j].2.2 = a3 at *
      go_wp2_with fail
      go_roundw
      case rel => exact ⟨j + 1, _, by omega, by go_num, rfl, HST.out, hxr.trans (HX.out _)⟩
      case measure => simp [intOf]; omega
    · obtain rfl : j = n := by omega
      clear hlt hj
      have hall : l.take j = l := by rw [← HL.out]; exact List.take_length
      rw [hall] at hx
      have HR : Hid (x = ((1 + j + sumT l : Nat) : Int)) := Lib.hid (by omega)
      clear hx hall
      go_wp2_with fail
      go_ret
      exact ⟨congrArg (fun z => Ending.returned (.int .i64 z)) HR.out, hxr⟩
theorem atOnce13_c (B : Option Addr) (n d : Nat) (ls : List (List Sp)) (D : Int) (w : World) (h : RdSS w B n d ls) (hS : Small ls) (hD : 0 ≤ D ∧ D ≤ 2000000000) (h0 : 0 < n) :
    Calls Tryz.prog 60 #[.slice B n d, .int .i64 D] w fun e w' => (∃ q : Nat, e = .returned (.int .i64 (q : Int)) ∧ 0 < q ∧ q ≤ n) ∧ Ext w w' := by
  have HLN := Lib.hid h.1
  have hn : n ≤ 100000 := by have := h.1; have := hS.num; omega
  have H := Lib.hid h
  have HS := Lib.hid hS
  have HC : Hid (∀ (l : List Sp) a k c' w', l ∈ ls → l.length = k → Rd w' 3 (.slice a k c') k (spCells l) → Calls Tryz.prog 61 #[.slice a k c'] w' fun e w'' => e = .returned (.int .i64 ((1 + k + sumT l : Nat) : Int)) ∧ Ext w' w'') := Lib.hid fun l a k c' w' hl hk hr => cost13_c a k c' l w' ⟨hk, hr⟩ (by have := hS.each l hl; omega) (by have := (le_lenS l hl).2; have := hS.txt; omega)
  clear h hS
  go_enter Tryz.func60, Tryz.ntmps60
  go_wp2_with fail
  go_loopw [1, 9] (fun y z wr => ∃ (j : Nat) (x : Int), j ≤ n ∧ z = .int .i64 j ∧ y = .int .i64 x ∧ 0 ≤ x ∧ x ≤ 2000000000 ∧ Ext w wr) (fun _ z _ => n - (intOf z).toNat)
  case atStart => exact ⟨0, D, by omega, rfl, rfl, hD.1, hD.2, Ext.refl _⟩
  case round =>
    obtain ⟨j, x, hj, rfl, rfl, hx0, hx1, hxr⟩ := hrel
    by_cases hlt : j < n
    · have hjl : j < ls.length := by have := HLN.out; omega
      obtain ⟨b, off, a, kc, rfl, hb, q0, hr⟩ := (H.out.ext hxr).at_ hlt hjl
      have dn : decide (j < n) = true := by rw [decide_eq_true_eq]; exact hlt
      have i0 : (0 : Int) ≤ (j : Int) := by omega
      have i1 : (j : Int) < (n : Int) := by omega
      have hmem := List.getElem_mem hjl
      have CC := Lib.hid (HC.out ls[j] a _ kc wr hmem rfl hr)
      have hc : 1 + ls[j].length + sumT ls[j] ≤ 1000000000 := by
        have := HS.out.each _ hmem; have := (le_lenS _ hmem).2; have := HS.out.txt; omega
      obtain ⟨k, hk⟩ : ∃ k, ls[j].length = k := ⟨_, rfl⟩
      rw [hk] at q0 CC hc
      obtain ⟨K, hK⟩ : ∃ K : Int, ((1 + k + sumT ls[j] : Nat) : Int) = K := ⟨_, rfl⟩
      rw [hK] at CC
      have b1 : 0 ≤ K ∧ K ≤ 1000000000 := by omega
      clear hk hr hmem hc hK
      by_cases hle : x - K ≤ 0
      · have t1 : decide (x - K ≤ 0) = true := by rw [decide_eq_true_eq]; exact hle
        go_wp2_with fail
        refine CC.out.mono ?_; rintro e w2 ⟨rfl, hx2⟩
        go_wp2_with fail
        go_ret
        exact ⟨⟨j + 1, by simp, by omega, by omega⟩, hxr.trans hx2⟩
      · have t1 : decide (x - K ≤ 0) = false := by rw [decide_eq_false_iff_not]; exact hle
        go_wp2_with fail
        refine CC.out.mono ?_; rintro e w2 ⟨rfl, hx2⟩
        go_wp2_with fail
        go_roundw
        case rel => exact ⟨j + 1, _, by omega, by go_num, rfl, by omega, by omega, hxr.trans hx2⟩
        case measure => simp [intOf]; omega
    · obtain rfl : j = n := by omega
      have dn : decide (j < j) = false := by rw [decide_eq_false_iff_not]; omega
      clear hlt hj
      go_wp2_with fail
      go_ret
      exact ⟨⟨j, rfl, h0, by omega⟩, hxr⟩
theorem thruP_c (A : Option Addr) (q c : Nat) (a : List Sp) (B : Option Addr) (n d : Nat) (ls : List (List Sp)) (w : World) [Tab w] (h : RdO w A q c a) (h' : RdSS w B n d ls) (hS : SmT a ls) :
    Calls Tryz.prog 37 #[.slice A q c, .slice B n d] w (OpR w (thruE a ls) (thruL a ls)) := by
  have HM := Lib.hid (mayTP_c A q c a B n d ls w h h' hS)
  by_cases he : thruE a ls = 0
  · obtain ⟨hma, ok, hi, hce, hth⟩ := thruE_ok he (by have := hS.len; omega) hS.row.each
    have hpos : Ok a := ⟨okW_pos a ok, by have := okW_N a ok; omega, by have := hS.txt; omega⟩
    have HN : Hid (∀ w', Ext w w' → _) := Lib.hid fun w' hx => of5_c A q c a w' (h.2.ext hx) h.1 (by have := h.1; have := hS.len; omega) hpos
    have HST := Lib.hid fun j k (hj : j + k ≤ ls.length) (hk : 0 < k) => thru_piece ok hth hS hj hk
    have HJ : Hid (∀ j, j ≤ ls.length → (thruJ a ls j).length ≤ 1000 ∧ sumT (thruJ a ls j) ≤ 400000000) := Lib.hid fun j hj => by
      have h1 := thruJ_len ok hth j hj
      obtain ⟨m, g1, g2, g3, g4, g5⟩ := thruJ_ok ok hth j
      have := hS.len; have := hS.txt; have := lenS_take ls j
      omega
    have HSD : Hid (∀ j, Small (ls.drop j)) := Lib.hid fun j => by
      have := lenS_take ls j
      have := hS.row.len; have := hS.row.txt; have := hS.row.num
      exact ⟨by omega, by omega, by rw [List.length_drop]; omega⟩
    have H0 : Hid (normL a = thruJ a ls 0) := Lib.hid (thruJ_zero ok ls).symm
    have HLN := Lib.hid h'.1
    have H := Lib.hid h'
    have hn1 : n ≤ 100000 := by have := h'.1; have := hS.row.num; omega
    rw [he] at HM ⊢
    clear h h' hS he hma ok hi hce hth hpos
    go_enter Tryz.func37, Tryz.ntmps37
    go_wp2_with fail
    refine HM.out.mono ?_; rintro e w1 ⟨rfl, hx1⟩
    go_wp2_with fail
    refine (HN.out _ hx1).mono ?_; rintro e w2 ⟨v, rfl, hx2, hr2⟩
    obtain ⟨a0, q0, c0, rfl, r0⟩ := rdO_own hr2
    have R0 := Lib.hid r0
    have hx12 := hx1.trans hx2
    clear hr2 r0
    go_wp2_with fail
    go_loopw [0, 1] (fun y z wr => ∃ (j : Nat) (a0 : Option Addr) (q0 k : Nat) (b0 : Option Addr) (m e : Nat), j + m = n ∧ z = .slice b0 m e ∧ RdSS wr b0 m e (ls.drop j) ∧ y = .slice a0 q0 k ∧ RdO wr a0 q0 k (thruJ a ls j) ∧ Ext w wr) (fun _ z _ => lenV z)
    case atStart => exact ⟨0, a0, q0, c0, B, n, d, by omega, rfl, by rw [List.drop_zero]; exact H.out.ext hx12, rfl, by rw [← H0.out]; exact R0.out, hx12⟩
    case round =>
      clear R0
      obtain ⟨j, a0, q0, k, b0, m, e0, hj, rfl, hss, rfl, r0, hxr⟩ := hrel
      by_cases hlt : 0 < m
      · obtain ⟨b, o, rfl, hb, hc⟩ := hss.addr hlt
        have hjm : j + m ≤ ls.length := by have := HLN.out; omega
        have hq0 : q0 ≤ 1000 := by have := (HJ.out j (by omega)).1; have := r0.1; omega
        have hsT := (HJ.out j (by omega)).2
        have hD : 1 + q0 + sumT (thruJ a ls j) ≤ 1000000000 := by omega
        obtain ⟨D, hDD⟩ : ∃ D : Nat, 1 + q0 + sumT (thruJ a ls j) = D := ⟨_, rfl⟩
        have HCO : Hid (∀ w', Ext wr w' → Calls Tryz.prog 61 #[.slice a0 q0 k] w' fun e w'' => e = .returned (.int .i64 (D : Int)) ∧ Ext w' w'') := Lib.hid fun w' hx => by
          have h1 := cost13_c a0 q0 k (thruJ a ls j) w' (r0.ext hx) hq0 (by omega)
          rw [hDD] at h1
          exact h1
        rw [hDD] at hD
        have HAT : Hid (∀ w', Ext wr w' → Calls Tryz.prog 60 #[.slice (some ⟨b, o, none⟩) m e0, .int .i64 (D : Int)] w' _) := Lib.hid fun w' hx => atOnce13_c (some ⟨b, o, none⟩) m e0 (ls.drop j) (D : Int) w' (hss.ext hx) (HSD.out j) ⟨by omega, by omega⟩ hlt
        obtain ⟨IA, hIA⟩ : ∃ IA, inL (thruJ a ls j) = IA := ⟨_, rfl⟩
        have HIN : Hid (∀ w', Ext wr w' → Calls Tryz.prog 49 #[.slice a0 q0 k] w' fun e w'' => e = .returned (.int .i64 IA) ∧ Ext w' w'') := Lib.hid fun w' hx => by
          have hTb := tab_ext (hxr.trans hx)
          have h1 := in4_c a0 q0 k (thruJ a ls j) w' (r0.ext hx).2 r0.1 hq0
          rw [(HST.out j 1 (by omega) (by omega)).2.1, hIA] at h1
          exact h1
        have HFO : Hid (∀ q, 0 < q → q ≤ m → ∃ F, (∀ w', Ext wr w' → Calls Tryz.prog 40 #[.int .i64 IA, .slice (some ⟨b, o, none⟩) q q] w' (OpR w' 0 F)) ∧
            (∀ A' k' c' w', Ext wr w' → RdO w' A' k' c' F → Calls Tryz.prog 62 #[.slice a0 q0 k, .slice A' k' c'] w' (OpR w' 0 (thruJ a ls (j + q))))) := Lib.hid fun q h0 h1 => by
          obtain ⟨s1, s2, s3, s4, s5, s6, s7, s8, s9, s10⟩ := HST.out j q (by omega) h0
          rw [hIA] at s4 s5 s7 s8 s9 s10
          refine ⟨fuseL IA (pieceL ls j q), fun w' hx => ?_, fun A' k' c' w' hx hr => ?_⟩
          · have hTb := tab_ext (hxr.trans hx)
            have g := of10_c (some ⟨b, o, none⟩) q q (pieceL ls j q) IA w' ((hss.ext hx).takeC h1) s3
            rw [s4] at g
            exact g
          · have hTb := tab_ext (hxr.trans hx)
            have g := overP_c a0 q0 k _ A' k' c' _ w' (r0.ext hx) hr hq0 (by have := hr.1; omega) s6 s7 s8
            rw [s9, s10] at g
            exact g
        have HSS := Lib.hid hss
        have dn : decide (0 < m) = true := by rw [decide_eq_true_eq]; exact hlt
        have dn2 : (0 : Int) < (m : Int) := by omega
        clear r0 hss hsT hDD hIA hjm
        go_wp2_with fail
        refine (HCO.out _ (Ext.refl _)).mono ?_; rintro e w3 ⟨rfl, hx3⟩
        go_wp2_with fail
        refine (HAT.out _ hx3).mono ?_; rintro e w4 ⟨⟨q, rfl, hq1, hq2⟩, hx4⟩
        have hx34 := hx3.trans hx4
        obtain ⟨F, HF0, HV0⟩ := HFO.out q hq1 hq2
        have HF := Lib.hid HF0
        have HV := Lib.hid HV0
        clear HF0 HV0 HFO HAT HCO
        have g1 : (0 : Int) ≤ (q : Int) := by omega
        have g2 : (q : Int) ≤ (m : Int) := by omega
        have g3 : (q : Int) ≤ (e0 : Int) := by omega
        have g4 : (m : Int) ≤ (e0 : Int) := by omega
        have g6 : q ≤ e0 := by omega
        have g7 : m ≤ e0 := by omega
        have g8 : ¬ e0 = 0 := by omega
        have g9 : ¬ q = 0 := by omega
        go_wp2_with fail
        have hrr := hx34
        go_region_held3 (fun W => Ext wr W ∧ True)
          ((go_split_ands; refine ⟨?_, trivial⟩ <;> first | (exact Ext.drew ‹_›) | (exact Ext.trans ‹_› hxk) | go_keep))
          (first
          | (go_at_call 49; go_split_ands; refine (HIN.out _ ‹Ext wr _›).mono ?_; rintro e wA ⟨rfl, hxk⟩)
          | (go_at_call 40; go_split_ands; refine (HF.out _ ‹Ext wr _›).mono ?_; rintro e wB ⟨hxk, a5, q5, k5, rfl, r5⟩; rw [if_pos rfl] at r5)
          | fail)
        go_split_ands
        have eB := ‹Ext wr wB›
        go_wp2_with fail
        refine (HV.out _ _ _ _ ‹Ext wr _› r5).mono ?_; rintro e w6 ⟨hx6, a6, q6, k6, rfl, r6⟩
        rw [if_pos rfl] at r6
        have R6 := Lib.hid r6
        have X6 := Lib.hid (eB.trans hx6)
        clear r6 r5
        by_cases g5 : e0 = q
        · obtain rfl : e0 = m := by omega
          obtain rfl : e0 = q := g5
          have HZ : Hid (RdSS w6 (some ⟨b, o, none⟩) 0 0 (ls.drop (j + e0))) := Lib.hid (RdSS.none' _ _ (by rw [List.length_drop]; have := HLN.out; omega))
          clear HSS HF HV HST HJ HSD HIN g1 g2 g3 g4 g6 g7 g8 g9
          go_wp2_with fail
          go_roundw
          case rel => exact ⟨j + e0, a6, q6, k6, some ⟨b, o, none⟩, 0, 0, by omega, rfl, HZ.out, rfl, R6.out, hxr.trans X6.out⟩
          case measure => simp [lenV]; omega
        · have HD : Hid (RdSS w6 (some ⟨b, o + q, none⟩) (m - q) (e0 - q) (ls.drop (j + q))) := Lib.hid (by
            have h := (HSS.out.ext X6.out).dropLe hq2
            rw [List.drop_drop] at h
            exact h)
          clear HSS HF HV HST HJ HSD HIN
          go_wp2_with fail
          go_roundw
          case rel => exact ⟨j + q, a6, q6, k6, some ⟨b, o + q, none⟩, m - q, e0 - q, by omega, rfl, HD.out, rfl, R6.out, hxr.trans X6.out⟩
          case measure => simp [lenV]; omega
      · obtain rfl : m = 0 := by omega
        have hall : thruJ a ls j = thruL a ls := by rw [show j = ls.length by have := HLN.out; omega]; exact thruJ_all
        rw [hall] at r0
        have R0 := Lib.hid r0
        clear hall hlt hj r0 hss
        go_wp2_with fail
        go_ret2
        exact ⟨hxr, a0, q0, k, rfl, by rw [if_pos rfl]; exact R0.out⟩
  · have HN := Lib.hid he
    have t1 : (thruE a ls != 0) = true := by rw [bne_iff_ne]; exact he
    have t2 : (thruE a ls == 0) = false := by rw [beq_eq_false_iff_ne]; exact he
    clear h h' hS he
    generalize thruE a ls = E at *
    go_enter Tryz.func37, Tryz.ntmps37
    go_wp2_with fail
    refine HM.out.mono ?_; rintro e w1 ⟨rfl, hx1⟩
    go_wp2_with fail
    go_ret2
    refine ⟨hx1, none, 0, 0, rfl, ?_⟩
    rw [if_neg HN.out]; exact ⟨rfl, Rd.nil _ _⟩
end Go.Proofs.YtgcaphjjigpjlaaGreatDoor
namespace Go.Proofs.YtgcaphjjigpjlaaGreatDoor
open Go.RowKit
set_option maxRecDepth 100000
set_option maxHeartbeats 4000000
theorem smT_of {X : List Sp} (gX : Good X) {ls : List (List Sp)} (hS : Small ls) (hl : X.length + lenS ls ≤ 1000) : SmT X ls := ⟨hl, by have := gX.txt; omega, hS⟩
theorem thruL_len {X : List Sp} (gX : Good X) {ls : List (List Sp)} {k : Int} (hT : Thru (inL X) ls k) : (thruL X ls).length ≤ X.length + lenS ls ∧ sumT (thruL X ls) ≤ sumT X ∧ (∀ s ∈ thruL X ls, OkW s) ∧ tok (thruL X ls) = overT (tok X) (fR (inL X) ls) ∧ inL (thruL X ls) = k := by
  have h := thruJ_len gX.ok hT ls.length (Nat.le_refl _)
  obtain ⟨m, h1, h2, h3, h4, h5⟩ := thruJ_ok gX.ok hT ls.length
  rw [thruJ_all] at h h2 h3 h4 h5
  rw [List.take_length] at h h1 h3
  have e1 := (thru_chE h1).2; have e2 := (thru_chE hT).2
  exact ⟨h, h5, h2, h3, by omega⟩
end Go.Proofs.YtgcaphjjigpjlaaGreatDoor
