/- Layer 7, the reference: All. -/
import Derived.Test.YtggoimakbadbkaaDoorM7
import Derived.Test.YtggoimakbadbkaaDoorC6
import Derived.Deep.QuietTactic
import Derived.BigQuiet
import Derived.Test.YtggoimakbadbkaaDoorBs
import Derived.Test.YtggoimakbadbkaaDoorC4d
namespace Go.Proofs.YtggoimakbadbkaaDoor
open Go.RowKit
set_option maxRecDepth 100000
set_option maxHeartbeats 4000000
end Go.Proofs.YtggoimakbadbkaaDoor
namespace Go.Proofs.YtggoimakbadbkaaDoor
open Go.RowKit
set_option maxRecDepth 100000
set_option maxHeartbeats 4000000
theorem info_ss : (Tryd.prog.info? 22).map (fun i => (i.zero, i.size, i.bytes)) = some (some (.slice none 0 0), 1, 24) := by kernel_rfl
theorem chainR4_c (A : Option Addr) (n c : Nat) (ls : List (List Sp)) (m : Int) (w : World) (h : RdSS w A n c ls) (hs : ∀ l ∈ ls, ∀ s ∈ l, s.2.2.size ≤ maxLen) (h0 : 0 ≤ m) (h1 : m ≤ 1000) :
    Calls Tryd.prog 20 #[.slice A n c, .int .i64 m] w fun e w' => ∃ v, e = .returned v ∧ Ext w w' ∧ OwnSS w' w.heap.size 22 40 v (chainL (ls.take 20) m) := by
  obtain ⟨i, hi, hz0, hz1, hz2⟩ := info_parts info_ss
  have hln := h.1
  have hrel0 : OwnSS (w.alloc (.cells #[] 22)) w.heap.size 22 40 (.slice (some ⟨w.heap.size, 0, none⟩) 0 0) (chainL (ls.take 0) m) :=
    ⟨[], Own.made w w.heap.size 22 1 0 #[] (Nat.le_refl _) (by omega) rfl, fun i l hl => by rw [List.take_zero] at hl; cases hl⟩
  have HR0 := Lib.hid hrel0
  have HX0 := Lib.hid ((Ext.refl w).alloc (.cells #[] 22))
  have H := Lib.hid h; have HS := Lib.hid hs; have HLN := Lib.hid hln
  clear h hs hrel0 hln
  go_enter Tryd.func20, Tryd.ntmps20
  go_wp2_with fail
  go_loopw [1, 5, 6] (fun k o z wr => ∃ j : Nat, j ≤ n ∧ j ≤ 20 ∧ z = .int .i64 j ∧ k = .int .i64 (endL (ls.take j) m) ∧ OwnSS wr w.heap.size 22 40 o (chainL (ls.take j) m) ∧ Ext w wr) (fun _ _ z _ => 20 - (intOf z).toNat)
  case atStart => exact ⟨0, by omega, by omega, rfl, by rw [List.take_zero]; rfl, HR0.out, HX0.out⟩
  case round =>
    obtain ⟨j, hj, hj20, rfl, rfl, hown, hxr⟩ := hrel
    by_cases hlt : j < n ∧ j < 20
    · have hjl : j < ls.length := by have := HLN.out; omega
      obtain ⟨b, off, a, kc, rfl, hb, q0, hr⟩ := (H.out.ext hxr).at_ hlt.1 hjl
      have dn : decide (j < n) = true := by rw [decide_eq_true_eq]; exact hlt.1
      have d20 : decide ((j : Int) < 20) = true := by rw [decide_eq_true_eq]; omega
      have i0 : (0 : Int) ≤ (j : Int) := by omega
      have i1 : (j : Int) < (n : Int) := by omega
      have htk : ls.take (j + 1) = ls.take j ++ [ls[j]] := by rw [List.take_add_one, List.getElem?_eq_getElem hjl]; rfl
      have hst1 := chainL_snoc (ls.take j) ls[j] m
      have hst2 := endL_snoc (ls.take j) ls[j] m
      rw [← htk] at hst1 hst2
      have htl : (ls.take j).length = j := by rw [List.length_take]; omega
      obtain ⟨e0, e1⟩ := endL_le (ls.take j) m h0 (by rw [htl]; omega)
      rw [htl] at e1
      have hcl : (chainL (ls.take j) m).length = j := by rw [chainL_len, htl]
      have hsj := HS.out _ (List.getElem_mem hjl)
      obtain ⟨k, hk⟩ : ∃ k, ls[j].length = k := ⟨_, rfl⟩
      rw [hk] at q0 hr
      generalize endL (ls.take j) m = E at *
      have HFIT := Lib.hid (fitR4_c a k kc ls[j] E wr hr hk hsj e0 (by omega))
      obtain ⟨fm, fi⟩ := fitL_all ls[j] E e0 (by omega)
      obtain ⟨o0, o1⟩ := fit_out ls[j] E e0 (by omega)
      have ft := fitL_text ls[j] E
      have fl := fitL_len ls[j] E
      generalize fitL ls[j] E = F at *
      have HST1 := Lib.hid hst1; have HST2 := Lib.hid hst2
      obtain ⟨vs, hrow, hel⟩ := hown
      rw [hcl] at hrow
      have HROW := Lib.hid hrow; have HEL := Lib.hid hel; have HCL := Lib.hid hcl; have HXR := Lib.hid hxr
      clear hr hk hsj hst1 hst2 htk htl hcl hrow hel hxr fm fi
      generalize chainL (ls.take j) m = CL at *
      go_wp2_with fail
      refine HFIT.out.mono ?_; rintro e w1 ⟨v1, rfl, hx1, own1⟩
      obtain ⟨a1, c1, rfl, _⟩ := own1.len
      obtain ⟨nF, hnF⟩ : ∃ nF, F.length = nF := ⟨_, rfl⟩
      rw [hnF] at own1 ⊢
      obtain ⟨v', w', happ, hown', hbel', hoth⟩ := app_newo (P := Tryd.prog) 43 43 22 i _ 1 24 Tryd.underlying43 hi hz0 hz1 hz2 rfl (by omega) (by omega)
        (hx1.mono HXR.out.size) (HROW.out.ext hx1) (by omega) 1 #[.slice a1 nF c1] rfl (by omega) (by simp [Value.oneCell']) 22
      have own1' := hoth.own (by decide) own1
      have HAP := Lib.hid happ
      have HOUT := Lib.hid (outR4_c a1 nF c1 F w' own1'.rd hnF (by omega) (fun s hs => by have := ft s hs; omega))
      have hwo : wrap64 (outL F) = outL F := by unfold wrap64; omega
      rw [hwo] at HOUT
      have hxw' : Ext w w' := Below.trans HXR.out hbel'
      have hss : OwnSS w' w.heap.size 22 40 v' (CL ++ [F]) := by
        refine ⟨vs ++ [.slice a1 nF c1], by rw [List.length_append, HCL.out]; exact hown', fun q l hl => ?_⟩
        have hvl : vs.length = CL.length := by have := HROW.out.1.1; rw [HCL.out]; omega
        rw [List.getElem?_append] at hl
        split at hl
        · obtain ⟨u, g1, g2⟩ := HEL.out q l hl
          exact ⟨u, by rw [List.getElem?_append_left (by omega)]; exact g1, hoth.own (by decide) (g2.ext hx1)⟩
        · have hq : q = CL.length := by
            rcases Nat.lt_trichotomy q CL.length with h | h | h
            · omega
            · exact h
            · rw [List.getElem?_eq_none (by simp; omega)] at hl; cases hl
          subst hq
          simp at hl
          subst hl
          refine ⟨.slice a1 nF c1, by rw [List.getElem?_append_right (by omega), hvl]; simp, ?_⟩
          rw [hnF]
          exact own1'.more HXR.out.size
      have HSS := Lib.hid hss
      clear happ hown' hbel' hoth own1 own1' hwo hss hnF HFIT
      generalize outL F = OF at *
      go_wp2_with (at_builtin; with_reducible refine wpList_append_run rfl rfl HAP.out rfl rfl ?_)
      refine HOUT.out.mono ?_; rintro e w3 ⟨rfl, hx3⟩
      go_wp2_with fail
      go_roundw
      case rel => exact ⟨j + 1, by omega, by omega, by go_num, by rw [HST2.out], by rw [HST1.out]; exact HSS.out.ext hx3, hxw'.trans hx3⟩
      case measure => simp [intOf]; omega
    · have hall : ls.take j = ls.take 20 := by
        rcases (by omega : j = 20 ∨ j = n) with e | e
        · rw [e]
        · have e2 := HLN.out
          rw [List.take_of_length_le (by omega), List.take_of_length_le (by omega)]
      have hcase : (decide (j < n) = false) ∨ (decide (j < n) = true ∧ decide ((j : Int) < 20) = false) := by
        by_cases e : j < n
        · exact .inr ⟨by rw [decide_eq_true_eq]; exact e, by rw [decide_eq_false_iff_not]; omega⟩
        · exact .inl (by rw [decide_eq_false_iff_not]; exact e)
      rw [hall] at hown ⊢
      clear hall hlt
      generalize endL (ls.take 20) m = E at *
      rcases hcase with d1 | ⟨d1, d2⟩
      all_goals
        go_wp2_with fail
        go_ret
        exact ⟨_, rfl, hxr, hown⟩
end Go.Proofs.YtggoimakbadbkaaDoor
namespace Go.Proofs.YtggoimakbadbkaaDoor
open Go.RowKit
set_option maxRecDepth 100000
set_option maxHeartbeats 4000000
def sumTT (ls : List (List Sp)) : Nat := (ls.map sumT).sum
def allL : ByteArray → List (List Sp) → ByteArray × Int
  | s, [] => (s, 0)
  | s, l :: r => if toE l s = 0 then allL (toS l s) r else (⟨#[]⟩, toE l s)
open Classical in
noncomputable def allR (s : ByteArray) (ls : List (List Sp)) : ByteArray × Int := if ls = [] ∧ dec (bs s) = none then (⟨#[]⟩, 3) else allL s ls
noncomputable def allV (s : ByteArray) (ls : List (List Sp)) : Value := .tuple #[.string (allR s ls).1, .int .i64 (allR s ls).2]
theorem errL_zero (l : List Sp) (h : errL l = 0) : ∀ s ∈ l, mayS s.1 s.2.1 s.2.2 = 0 := by
  induction l with
  | nil => intro s hs; cases hs
  | cons a t ih =>
    unfold errL at h
    by_cases ha : mayS a.1 a.2.1 a.2.2 = 0
    · rw [if_pos ha] at h
      intro s hs
      rcases List.mem_cons.1 hs with rfl | hs
      · exact ha
      · exact ih h s hs
    · rw [if_neg ha] at h; exact absurd h ha
theorem toS_size (l : List Sp) (s : ByteArray) : (toS l s).size ≤ s.size + sumT l := by
  unfold toS
  split
  · rename_i h
    unfold toE at h
    by_cases hm : mayL l = 0
    · rw [if_pos hm] at h
      cases hd : dec (bs s) with
      | none => rw [hd] at h; cases h
      | some cs =>
        have he : ∀ s ∈ l, mayS s.1 s.2.1 s.2.2 = 0 := by
          unfold mayL at hm
          by_cases h0 : errL l = 0
          · exact errL_zero l h0
          · rw [if_neg h0] at hm; exact absurd hm h0
        have h1 := apT_size (tok l) cs
        have h2 := insT_sum l fun s hs => okW_of_may (he s hs)
        have h4 : (encs cs).length = s.size := by rw [← (dec_some hd).2, bs_length]
        rw [size_mkS]
        show (encs (apT (tok l) cs)).length ≤ _
        omega
    · rw [if_neg hm] at h; exact absurd h hm
  · have : (⟨#[]⟩ : ByteArray).size = 0 := rfl
    omega
end Go.Proofs.YtggoimakbadbkaaDoor
