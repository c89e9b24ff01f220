/- Packed: C7 M16. -/
import Derived.ArgAppend
import Derived.BigQuiet
import Derived.Deep.Cut
import Derived.Deep.CutRange
import Derived.Deep.DrawnRows
import Derived.Deep.MidRow
import Derived.Deep.QuietTactic
import Derived.Deep.RegionHeld3
import Derived.Deep.RegionWith
import Derived.Deep.Upon
import Derived.Laws.AppendOwnNone
import Derived.Laws.BytesArg
import Derived.Laws.IdiomCopy
import Derived.Laws.MakeOwn
import Derived.Laws.ResultCell
import Derived.Lib.AppendStr
import Derived.Lib.Builder
import Derived.Lib.DecodeN
import Derived.Lib.Hide
import Derived.Lib.Strings
import Derived.Lib.UnsafeStr
import Derived.StillTail
import Derived.StillTailTactics
import Derived.Test.YtgcaphjjigpjlaaDoorProg
import Derived.Test.YtgcaphjjigpjlaaDoorShelf
import Derived.WalkKit
import Derived.WalkLawsBesides
import Derived.WalkSpells
import Derived.Test.YtgcaphjjigpjlaaDoorQ00
import Derived.Test.YtgcaphjjigpjlaaDoorQ01
import Derived.Test.YtgcaphjjigpjlaaDoorQ02
import Derived.Test.YtgcaphjjigpjlaaDoorQ03
import Derived.Test.YtgcaphjjigpjlaaDoorQ04
import Derived.Test.YtgcaphjjigpjlaaDoorQ05
import Derived.Test.YtgcaphjjigpjlaaDoorQ06
import Derived.Test.YtgcaphjjigpjlaaDoorQ07
namespace Go.Proofs.YtgcaphjjigpjlaaDoor
open Go.RowKit
set_option maxRecDepth 100000
set_option maxHeartbeats 4000000
end Go.Proofs.YtgcaphjjigpjlaaDoor
namespace Go.Proofs.YtgcaphjjigpjlaaDoor
open Go.RowKit
set_option maxRecDepth 100000
set_option maxHeartbeats 4000000
theorem info_ss : (Tryd.prog.info? 37).map (fun i => (i.zero, i.size, i.bytes)) = some (some (.slice none 0 0), 1, 24) := by kernel_rfl
theorem chainR4_c (A : Option Addr) (n c : Nat) (ls : List (List Sp)) (m : Int) (w : World) (h : RdSS w A n c ls) (hs : ∀ l ∈ ls, ∀ s ∈ l, s.2.2.size ≤ maxLen) (h0 : 0 ≤ m) (h1 : m ≤ 1000) :
    Calls Tryd.prog 27 #[.slice A n c, .int .i64 m] w fun e w' => ∃ v, e = .returned v ∧ Ext w w' ∧ OwnSS w' w.heap.size 37 50 v (chainL (ls.take 20) m) := by
  obtain ⟨i, hi, hz0, hz1, hz2⟩ := info_parts info_ss
  have hln := h.1
  have hrel0 : OwnSS (w.alloc (.cells #[] 37)) w.heap.size 37 50 (.slice (some ⟨w.heap.size, 0, none⟩) 0 0) (chainL (ls.take 0) m) :=
    ⟨[], Own.made w w.heap.size 37 1 0 #[] (Nat.le_refl _) (by omega) rfl, fun i l hl => by rw [List.take_zero] at hl; cases hl⟩
  have HR0 := Lib.hid hrel0
  have HX0 := Lib.hid ((Ext.refl w).alloc (.cells #[] 37))
  have H := Lib.hid h; have HS := Lib.hid hs; have HLN := Lib.hid hln
  clear h hs hrel0 hln
  go_enter Tryd.func27, Tryd.ntmps27
  go_wp2_with fail
  go_loopw [1, 5, 6] (fun k o z wr => ∃ j : Nat, j ≤ n ∧ j ≤ 20 ∧ z = .int .i64 j ∧ k = .int .i64 (endL (ls.take j) m) ∧ OwnSS wr w.heap.size 37 50 o (chainL (ls.take j) m) ∧ Ext w wr) (fun _ _ z _ => 20 - (intOf z).toNat)
  case atStart => exact ⟨0, by omega, by omega, rfl, by rw [List.take_zero]; rfl, HR0.out, HX0.out⟩
  case round =>
    obtain ⟨j, hj, hj20, rfl, rfl, hown, hxr⟩ := hrel
    by_cases hlt : j < n ∧ j < 20
    · have hjl : j < ls.length := by have := HLN.out; omega
      obtain ⟨b, off, a, kc, rfl, hb, q0, hr⟩ := (H.out.ext hxr).at_ hlt.1 hjl
      have dn : decide (j < n) = true := by rw [decide_eq_true_eq]; exact hlt.1
      have d20 : decide ((j : Int) < 20) = true := by rw [decide_eq_true_eq]; omega
      have i0 : (0 : Int) ≤ (j : Int) := by omega
      have i1 : (j : Int) < (n : Int) := by omega
      have htk : ls.take (j + 1) = ls.take j ++ [ls[j]] := by rw [List.take_add_one, List.getElem?_eq_getElem hjl]; rfl
      have hst1 := chainL_snoc (ls.take j) ls[j] m
      have hst2 := endL_snoc (ls.take j) ls[j] m
      rw [← htk] at hst1 hst2
      have htl : (ls.take j).length = j := by rw [List.length_take]; omega
      obtain ⟨e0, e1⟩ := endL_le (ls.take j) m h0 (by rw [htl]; omega)
      rw [htl] at e1
      have hcl : (chainL (ls.take j) m).length = j := by rw [chainL_len, htl]
      have hsj := HS.out _ (List.getElem_mem hjl)
      obtain ⟨k, hk⟩ : ∃ k, ls[j].length = k := ⟨_, rfl⟩
      rw [hk] at q0 hr
      generalize endL (ls.take j) m = E at *
      have HFIT := Lib.hid (fitR4_c a k kc ls[j] E wr hr hk hsj e0 (by omega))
      obtain ⟨fm, fi⟩ := fitL_all ls[j] E e0 (by omega)
      obtain ⟨o0, o1⟩ := fit_out ls[j] E e0 (by omega)
      have ft := fitL_text ls[j] E
      have fl := fitL_len ls[j] E
      generalize fitL ls[j] E = F at *
      have HST1 := Lib.hid hst1; have HST2 := Lib.hid hst2
      obtain ⟨vs, hrow, hel⟩ := hown
      rw [hcl] at hrow
      have HROW := Lib.hid hrow; have HEL := Lib.hid hel; have HCL := Lib.hid hcl; have HXR := Lib.hid hxr
      clear hr hk hsj hst1 hst2 htk htl hcl hrow hel hxr fm fi
      generalize chainL (ls.take j) m = CL at *
      go_wp2_with fail
      refine HFIT.out.mono ?_; rintro e w1 ⟨v1, rfl, hx1, own1⟩
      obtain ⟨a1, c1, rfl, _⟩ := own1.len
      obtain ⟨nF, hnF⟩ : ∃ nF, F.length = nF := ⟨_, rfl⟩
      rw [hnF] at own1 ⊢
      obtain ⟨v', w', happ, hown', hbel', hoth⟩ := app_newo (P := Tryd.prog) 22 22 37 i _ 1 24 Tryd.underlying22 hi hz0 hz1 hz2 rfl (by omega) (by omega)
        (hx1.mono HXR.out.size) (HROW.out.ext hx1) (by omega) 1 #[.slice a1 nF c1] rfl (by omega) (by simp [Value.oneCell']) 37
      have own1' := hoth.own (by decide) own1
      have HAP := Lib.hid happ
      have HOUT := Lib.hid (outR4_c a1 nF c1 F w' own1'.rd hnF (by omega) (fun s hs => by have := ft s hs; omega))
      have hwo : wrap64 (outL F) = outL F := by unfold wrap64; omega
      rw [hwo] at HOUT
      have hxw' : Ext w w' := Below.trans HXR.out hbel'
      have hss : OwnSS w' w.heap.size 37 50 v' (CL ++ [F]) := by
        refine ⟨vs ++ [.slice a1 nF c1], by rw [List.length_append, HCL.out]; exact hown', fun q l hl => ?_⟩
        have hvl : vs.length = CL.length := by have := HROW.out.1.1; rw [HCL.out]; omega
        rw [List.getElem?_append] at hl
        split at hl
        · obtain ⟨u, g1, g2⟩ := HEL.out q l hl
          exact ⟨u, by rw [List.getElem?_append_left (by omega)]; exact g1, hoth.own (by decide) (g2.ext hx1)⟩
        · have hq : q = CL.length := by
            rcases Nat.lt_trichotomy q CL.length with h | h | h
            · omega
            · exact h
            · rw [List.getElem?_eq_none (by simp; omega)] at hl; cases hl
          subst hq
          simp at hl
          subst hl
          refine ⟨.slice a1 nF c1, by rw [List.getElem?_append_right (by omega), hvl]; simp, ?_⟩
          rw [hnF]
          exact own1'.more HXR.out.size
      have HSS := Lib.hid hss
      clear happ hown' hbel' hoth own1 own1' hwo hss hnF HFIT
      generalize outL F = OF at *
      go_wp2_with (at_builtin; with_reducible refine wpList_append_run rfl rfl HAP.out rfl rfl ?_)
      refine HOUT.out.mono ?_; rintro e w3 ⟨rfl, hx3⟩
      go_wp2_with fail
      go_roundw
      case rel => exact ⟨j + 1, by omega, by omega, by go_num, by rw [HST2.out], by rw [HST1.out]; exact HSS.out.ext hx3, hxw'.trans hx3⟩
      case measure => simp [intOf]; omega
    · have hall : ls.take j = ls.take 20 := by
        rcases (by omega : j = 20 ∨ j = n) with e | e
        · rw [e]
        · have e2 := HLN.out
          rw [List.take_of_length_le (by omega), List.take_of_length_le (by omega)]
      have hcase : (decide (j < n) = false) ∨ (decide (j < n) = true ∧ decide ((j : Int) < 20) = false) := by
        by_cases e : j < n
        · exact .inr ⟨by rw [decide_eq_true_eq]; exact e, by rw [decide_eq_false_iff_not]; omega⟩
        · exact .inl (by rw [decide_eq_false_iff_not]; exact e)
      rw [hall] at hown ⊢
      clear hall hlt
      generalize endL (ls.take 20) m = E at *
      rcases hcase with d1 | ⟨d1, d2⟩
      all_goals
        go_wp2_with fail
        go_ret
        exact ⟨_, rfl, hxr, hown⟩
end Go.Proofs.YtgcaphjjigpjlaaDoor
namespace Go.Proofs.YtgcaphjjigpjlaaDoor
open Go.RowKit
set_option maxRecDepth 100000
set_option maxHeartbeats 4000000
def sumTT (ls : List (List Sp)) : Nat := (ls.map sumT).sum
def allL : ByteArray → List (List Sp) → ByteArray × Int
  | s, [] => (s, 0)
  | s, l :: r => if toE l s = 0 then allL (toS l s) r else (⟨#[]⟩, toE l s)
open Classical in
noncomputable def allR (s : ByteArray) (ls : List (List Sp)) : ByteArray × Int := if ls = [] ∧ dec (bs s) = none then (⟨#[]⟩, 3) else allL s ls
noncomputable def allV (s : ByteArray) (ls : List (List Sp)) : Value := .tuple #[.string (allR s ls).1, .int .i64 (allR s ls).2]
theorem errL_zero (l : List Sp) (h : errL l = 0) : ∀ s ∈ l, mayS s.1 s.2.1 s.2.2 = 0 := by
  induction l with
  | nil => intro s hs; cases hs
  | cons a t ih =>
    unfold errL at h
    by_cases ha : mayS a.1 a.2.1 a.2.2 = 0
    · rw [if_pos ha] at h
      intro s hs
      rcases List.mem_cons.1 hs with rfl | hs
      · exact ha
      · exact ih h s hs
    · rw [if_neg ha] at h; exact absurd h ha
theorem toS_size (l : List Sp) (s : ByteArray) : (toS l s).size ≤ s.size + sumT l := by
  unfold toS
  split
  · rename_i h
    unfold toE at h
    by_cases hm : mayL l = 0
    · rw [if_pos hm] at h
      cases hd : dec (bs s) with
      | none => rw [hd] at h; cases h
      | some cs =>
        have he : ∀ s ∈ l, mayS s.1 s.2.1 s.2.2 = 0 := by
          unfold mayL at hm
          by_cases h0 : errL l = 0
          · exact errL_zero l h0
          · rw [if_neg h0] at hm; exact absurd hm h0
        have h1 := apT_size (tok l) cs
        have h2 := insT_sum l fun s hs => okW_of_may (he s hs)
        have h4 : (encs cs).length = s.size := by rw [← (dec_some hd).2, bs_length]
        rw [size_mkS]
        show (encs (apT (tok l) cs)).length ≤ _
        omega
    · rw [if_neg hm] at h; exact absurd h hm
  · have : (⟨#[]⟩ : ByteArray).size = 0 := rfl
    omega
end Go.Proofs.YtgcaphjjigpjlaaDoor
namespace Go.Proofs.YtgcaphjjigpjlaaDoor
open Go.RowKit
set_option maxRecDepth 100000
set_option maxHeartbeats 4000000
set_option linter.unusedSimpArgs false
def segE : Int → List (List Sp) → Int
  | _, [] => 0
  | n, l :: r => if mayL l ≠ 0 then mayL l else if inL l ≠ n then 5 else if 1048576 < outL l then 4 else if normL l = l then segE (outL l) r else 8
def logE (s : ByteArray) (rv : List Int) (ls : List (List Sp)) : Int :=
  if dec (bs s) = none then 3 else if 1048576 < cntF (bs s) then 4 else if rowOk rv ∧ rv.length = ls.length + 1 then segE (cntF (bs s)) ls else 6
def atL (s : ByteArray) (rv : List Int) (ls : List (List Sp)) (i : Int) : ByteArray × Int :=
  if logE s rv ls ≠ 0 then (⟨#[]⟩, logE s rv ls) else if i < 0 ∨ (ls.length : Int) < i then (⟨#[]⟩, 6) else allL s (ls.take i.toNat)
def sizesL (s : ByteArray) (ls : List (List Sp)) : List Int := cntF (bs s) :: ls.map outL
structure SmL (s : ByteArray) (rv : List Int) (ls : List (List Sp)) : Prop where
  base : s.size ≤ 1000000
  revs : rv.length ≤ 1000000
  segs : ls.length ≤ 1000000
  len : ∀ l ∈ ls, l.length ≤ 1000
  sum : sumTT ls ≤ 900000000
theorem sumT_le16 {ls : List (List Sp)} : ∀ l ∈ ls, sumT l ≤ sumTT ls := by
  induction ls with
  | nil => intro l h; cases h
  | cons a r ih =>
    intro l h
    have e : sumTT (a :: r) = sumT a + sumTT r := by simp [sumTT]
    rcases List.mem_cons.1 h with rfl | h
    · omega
    · have := ih l h; omega
theorem mem_sumT16 {l : List Sp} : ∀ s ∈ l, s.2.2.size ≤ sumT l := by
  induction l with
  | nil => intro s h; cases h
  | cons a r ih =>
    intro s h
    have e : sumT (a :: r) = a.2.2.size + sumT r := rfl
    rcases List.mem_cons.1 h with rfl | h
    · omega
    · have := ih s h; omega
theorem SmL.text {s : ByteArray} {rv : List Int} {ls : List (List Sp)} (h : SmL s rv ls) : ∀ l ∈ ls, ∀ x ∈ l, x.2.2.size ≤ 1000000000 := fun l hl x hx => by
  have h1 := sumT_le16 l hl; have h2 := mem_sumT16 x hx; have := h.sum; omega
theorem SmL.sum1 {s : ByteArray} {rv : List Int} {ls : List (List Sp)} (h : SmL s rv ls) : ∀ l ∈ ls, sumT l ≤ 900000000 := fun l hl => Nat.le_trans (sumT_le16 l hl) h.sum
theorem isN_iff16 {l : List Sp} (h : pos l) : isN l ↔ normL l = l := ⟨is_norm l, fun e => by rw [← e]; exact norm_is l h⟩
theorem segE_at {n : Int} {ls : List (List Sp)} {j : Nat} (hj : j < ls.length) : segE n (ls.drop j) = if mayL ls[j] ≠ 0 then mayL ls[j] else if inL ls[j] ≠ n then 5 else if 1048576 < outL ls[j] then 4 else if normL ls[j] = ls[j] then segE (outL ls[j]) (ls.drop (j + 1)) else 8 := by
  rw [List.drop_eq_getElem_cons hj, segE]
theorem logE_s {s : ByteArray} {rv : List Int} {ls : List (List Sp)} (h : dec (bs s) ≠ none) (h4 : ¬ 1048576 < cntF (bs s)) (h6 : rowOk rv ∧ rv.length = ls.length + 1) : logE s rv ls = segE (cntF (bs s)) ls := by unfold logE; rw [if_neg h, if_neg h4, if_pos h6]
theorem logE_ok {s : ByteArray} {rv : List Int} {ls : List (List Sp)} (h : logE s rv ls = 0) : ∃ cs, dec (bs s) = some cs ∧ cs.length ≤ 1048576 ∧ rowOk rv ∧ rv.length = ls.length + 1 ∧ segE (cs.length : Int) ls = 0 := by
  unfold logE at h
  split at h
  · omega
  · rename_i h3
    obtain ⟨cs, hcs⟩ := Option.ne_none_iff_exists'.1 h3
    split at h
    · omega
    · rename_i h4
      rw [cntF_some hcs] at h4 h
      split at h
      · rename_i h6; exact ⟨cs, hcs, by omega, h6.1, h6.2, h⟩
      · omega
theorem logE_of {s : ByteArray} {rv : List Int} {ls : List (List Sp)} {cs : List Nat} (h1 : dec (bs s) = some cs) (h2 : cs.length ≤ 1048576) (h3 : rowOk rv) (h4 : rv.length = ls.length + 1) (h5 : segE (cs.length : Int) ls = 0) : logE s rv ls = 0 := by
  rw [logE_s (by rw [h1]; simp) (by rw [cntF_some h1]; omega) ⟨h3, h4⟩, cntF_some h1]; exact h5
theorem segE_cons {n : Int} {l : List Sp} {r : List (List Sp)} : segE n (l :: r) = 0 ↔ (mayL l = 0 ∧ inL l = n ∧ outL l ≤ 1048576 ∧ normL l = l) ∧ segE (outL l) r = 0 := by
  rw [segE]
  constructor
  · intro h
    split at h
    · rename_i h1; exact absurd h h1
    · rename_i h1
      split at h
      · omega
      · rename_i h2
        split at h
        · omega
        · rename_i h3
          split at h
          · rename_i h4; exact ⟨⟨by omega, by omega, by omega, h4⟩, h⟩
          · omega
  · rintro ⟨⟨h1, h2, h3, h4⟩, h⟩
    rw [if_neg (by omega), if_neg (by omega), if_neg (by omega), if_pos h4]; exact h
theorem segE_append {n : Int} {a b : List (List Sp)} : segE n (a ++ b) = 0 ↔ segE n a = 0 ∧ segE ((n :: a.map outL).getLast (List.cons_ne_nil _ _)) b = 0 := by
  induction a generalizing n with
  | nil => simp [segE]
  | cons l r ih =>
    rw [List.cons_append, segE_cons, ih, segE_cons]
    have e : ((n :: (l :: r).map outL).getLast (List.cons_ne_nil _ _)) = ((outL l :: r.map outL).getLast (List.cons_ne_nil _ _)) := by simp [List.getLast_cons]
    rw [e]
    constructor
    · rintro ⟨h1, h2, h3⟩; exact ⟨⟨h1, h2⟩, h3⟩
    · rintro ⟨⟨h1, h2⟩, h3⟩; exact ⟨h1, h2, h3⟩
theorem segE_take {n : Int} {ls : List (List Sp)} (k : Nat) (h : segE n ls = 0) : segE n (ls.take k) = 0 := by
  have h1 : segE n (ls.take k ++ ls.drop k) = 0 := by rw [List.take_append_drop]; exact h
  exact (segE_append.1 h1).1
theorem seg_to {l : List Sp} {s : ByteArray} {cs : List Nat} (hd : dec (bs s) = some cs) (hm : mayL l = 0) (hi : inL l = (cs.length : Int)) (hl : l.length ≤ 1000) :
    toE l s = 0 ∧ dec (bs (toS l s)) = some (apT (tok l) cs) ∧ ((apT (tok l) cs).length : Int) = outL l := by
  obtain ⟨g1, g2⟩ := to_ok (l := l) hm hd hi.symm
  have hok : ∀ x ∈ l, OkW x := fun x hx => okW_of_may ((mayL_all hm hl).1 x hx)
  obtain ⟨t1, t2⟩ := tin_ok l hok
  refine ⟨g1, ?_, ?_⟩
  · rw [g2, bs_mkS]
    exact dec_encs (apT_cp _ _ (tok_okT _ hok) (dec_some hd).1)
  · rw [apT_length _ _ (by omega)]; exact t2
theorem allL_ok {s : ByteArray} {ls : List (List Sp)} {cs : List Nat} (hd : dec (bs s) = some cs) (h : segE (cs.length : Int) ls = 0) (hl : ∀ l ∈ ls, l.length ≤ 1000) :
    (allL s ls).2 = 0 ∧ ∃ ds, dec (bs (allL s ls).1) = some ds ∧ (ds.length : Int) = (((cs.length : Int) :: ls.map outL).getLast (List.cons_ne_nil _ _)) := by
  induction ls generalizing s cs with
  | nil => exact ⟨rfl, cs, hd, by simp⟩
  | cons l r ih =>
    obtain ⟨⟨h1, h2, h3, h4⟩, h5⟩ := segE_cons.1 h
    obtain ⟨g1, g2, g3⟩ := seg_to hd h1 h2 (hl l (List.mem_cons_self ..))
    rw [allL, if_pos g1]
    obtain ⟨i1, ds, i2, i3⟩ := ih g2 (by rw [g3]; exact h5) fun x hx => hl x (List.mem_cons_of_mem _ hx)
    refine ⟨i1, ds, i2, ?_⟩
    rw [i3, g3]; simp [List.getLast_cons]
theorem allL_append {s : ByteArray} {a b : List (List Sp)} (h : (allL s a).2 = 0) : allL s (a ++ b) = allL (allL s a).1 b := by
  induction a generalizing s with
  | nil => rfl
  | cons l r ih =>
    rw [List.cons_append]
    rw [allL] at h ⊢
    by_cases he : toE l s = 0
    · rw [if_pos he] at h ⊢
      rw [allL, if_pos he]
      exact ih h
    · rw [if_neg he] at h; exact absurd h he
theorem allR_of {s : ByteArray} {ls : List (List Sp)} (h : dec (bs s) ≠ none) : allR s ls = allL s ls := by
  unfold allR; rw [if_neg]; rintro ⟨_, h2⟩; exact h h2
theorem log_at {s : ByteArray} {rv : List Int} {ls : List (List Sp)} (h : logE s rv ls = 0) (hl : ∀ l ∈ ls, l.length ≤ 1000) {j : Nat} (hj : j ≤ ls.length) :
    atL s rv ls (j : Int) = ((allL s (ls.take j)).1, 0) ∧ ∃ ds, dec (bs (allL s (ls.take j)).1) = some ds ∧ (ds.length : Int) = (sizesL s ls).getD j 0 := by
  obtain ⟨cs, h1, h2, h3, h4, h5⟩ := logE_ok h
  obtain ⟨g1, ds, g2, g3⟩ := allL_ok h1 (segE_take j h5) fun l hx => hl l (List.mem_of_mem_take hx)
  refine ⟨?_, ds, g2, ?_⟩
  · unfold atL
    rw [if_neg (by omega), if_neg (by omega), Int.toNat_natCast]
    exact Prod.ext rfl g1
  · rw [g3]
    unfold sizesL
    rw [cntF_some h1]
    rw [List.getLast_eq_getElem, List.getD_eq_getElem?_getD, List.getElem?_eq_getElem (by simp; omega), Option.getD_some]
    simp only [List.length_cons, List.length_map, List.length_take, Nat.add_sub_cancel, Nat.min_eq_left hj]
    rcases j with _ | j
    · simp
    · simp only [List.getElem_cons_succ, List.getElem_map, List.getElem_take]
theorem log_step {s : ByteArray} {rv : List Int} {ls : List (List Sp)} (h : logE s rv ls = 0) (hl : ∀ l ∈ ls, l.length ≤ 1000) {j : Nat} (hj : j < ls.length) :
    toE ls[j] (allL s (ls.take j)).1 = 0 ∧ (allL s (ls.take (j + 1))).1 = toS ls[j] (allL s (ls.take j)).1 := by
  obtain ⟨cs, h1, h2, h3, h4, h5⟩ := logE_ok h
  have e : ls = ls.take j ++ ls[j] :: ls.drop (j + 1) := by rw [← List.drop_eq_getElem_cons hj, List.take_append_drop]
  have h6 : segE (cs.length : Int) (ls.take j ++ ls[j] :: ls.drop (j + 1)) = 0 := by rw [← e]; exact h5
  obtain ⟨s1, s2⟩ := segE_append.1 h6
  obtain ⟨⟨m1, m2, _, _⟩, _⟩ := segE_cons.1 s2
  obtain ⟨g1, ds, g2, g3⟩ := allL_ok h1 s1 fun l hx => hl l (List.mem_of_mem_take hx)
  obtain ⟨t1, _, _⟩ := seg_to g2 m1 (by rw [m2, g3]) (hl _ (List.getElem_mem hj))
  refine ⟨t1, ?_⟩
  have e2 : ls.take (j + 1) = ls.take j ++ [ls[j]] := by rw [List.take_add_one, List.getElem?_eq_getElem hj]; rfl
  rw [e2, allL_append g1, allL, if_pos t1]
  rfl
end Go.Proofs.YtgcaphjjigpjlaaDoor
