/- Layer 13, the statements' own functions: few, shown; what through tells of small operations. -/
import Derived.Test.YtfjiookndleaeaaDoorC13
import Derived.Test.YtfjiookndleaeaaDoorP13
import Derived.Test.YtfjiookndleaeaaDoorL10a
import Derived.Test.YtfjiookndleaeaaDoorL12a
namespace Go.Proofs.YtfjiookndleaeaaDoor
open Go.RowKit
set_option maxRecDepth 100000
set_option maxHeartbeats 4000000
def cut60h (s : ByteArray) : ByteArray := s.extract 0 (min s.size 60)
theorem cut60h_size (s : ByteArray) : (cut60h s).size ≤ 60 := by simp [cut60h]; omega
def fewL13 (l : List Sp) : List Sp := (l.take 20).map fun s => (s.1, s.2.1, cut60h s.2.2)
theorem fewL13_take (l : List Sp) (j : Nat) (h : j < l.length) (h20 : j < 20) : fewL13 (l.take (j + 1)) = fewL13 (l.take j) ++ [(l[j].1, l[j].2.1, cut60h l[j].2.2)] := by
  unfold fewL13
  have e1 : (l.take (j + 1)).take 20 = l.take (j + 1) := List.take_of_length_le (by rw [List.length_take]; omega)
  have e2 : (l.take j).take 20 = l.take j := List.take_of_length_le (by rw [List.length_take]; omega)
  rw [e1, e2, List.take_add_one, List.getElem?_eq_getElem h, List.map_append]
  rfl
theorem fewL13_size (l : List Sp) : ∀ s ∈ fewL13 l, s.2.2.size ≤ 60 := by
  intro s hs
  obtain ⟨x, _, rfl⟩ := List.mem_map.1 hs
  exact cut60h_size _
theorem fewL13_len (l : List Sp) : (fewL13 l).length = min 20 l.length := by simp [fewL13]
/-- Of a row of operations the first eight, of these the first twenty spans. -/
def fewR (ls : List (List Sp)) : List (List Sp) := (ls.take 8).map fewL13
theorem fewR_take (ls : List (List Sp)) (j : Nat) (h : j < ls.length) (h8 : j < 8) : fewR (ls.take (j + 1)) = fewR (ls.take j) ++ [fewL13 ls[j]] := by
  unfold fewR
  rw [List.take_take, List.take_take, Nat.min_eq_right (by omega), Nat.min_eq_right (by omega), List.take_add_one, List.getElem?_eq_getElem h, List.map_append]
  rfl
theorem fewR_len (ls : List (List Sp)) : (fewR ls).length = min 8 ls.length := by simp [fewR]
theorem few13_c (A : Option Addr) (q c : Nat) (ls : List (List Sp)) (w : World) (h : RdSS w A q c ls) (hs : ∀ l ∈ ls, ∀ s ∈ l, s.2.2.size ≤ maxLen) :
    Calls Tryd.prog 15 #[.slice A q c] w fun e w' => ∃ v, e = .returned v ∧ Ext w w' ∧ OwnSS w' w.heap.size 22 48 v (fewR ls) := by
  obtain ⟨i, hi, hz0, hz1, hz2⟩ := info_parts info_sp5
  obtain ⟨ii, hii, hy0, hy1, hy2⟩ := info_parts info_ss
  have hln := h.1
  have hrel0 : OwnSS (w.alloc (.cells #[] 22)) w.heap.size 22 48 (.slice (some ⟨w.heap.size, 0, none⟩) 0 0) (fewR (ls.take 0)) :=
    ⟨[], Own.made w w.heap.size 22 1 0 #[] (Nat.le_refl _) (by omega) rfl, fun i l hl => by rw [List.take_zero] at hl; simp [fewR] at hl⟩
  have HR0 := Lib.hid hrel0
  have HX0 := Lib.hid ((Ext.refl w).alloc (.cells #[] 22))
  have H := Lib.hid h; have HS := Lib.hid hs; have HLN := Lib.hid hln
  have hI : Hid (Tryd.prog.info? 48 = some i ∧ i.zero = some (.agg #[.int .i64 0, .int .i64 0, .string ⟨#[]⟩]) ∧ i.size = 3 ∧ i.bytes = 32) := Lib.hid ⟨hi, hz0, hz1, hz2⟩
  have hII : Hid (Tryd.prog.info? 22 = some ii ∧ ii.zero = some (.slice none 0 0) ∧ ii.size = 1 ∧ ii.bytes = 24) := Lib.hid ⟨hii, hy0, hy1, hy2⟩
  clear h hs hrel0 hln hi hz0 hz1 hz2 hii hy0 hy1 hy2
  go_enter Tryd.func15, Tryd.ntmps15
  go_wp2_with fail
  go_loopw [3, 4] (fun o z wr => ∃ j : Nat, j ≤ q ∧ j ≤ 8 ∧ z = .int .i64 j ∧ OwnSS wr w.heap.size 22 48 o (fewR (ls.take j)) ∧ Ext w wr) (fun _ z _ => 8 - (intOf z).toNat)
  case atStart => exact ⟨0, by omega, by omega, rfl, HR0.out, HX0.out⟩
  case round =>
    clear HR0 HX0
    obtain ⟨j, hj, hj8, rfl, own, hxr⟩ := hrel
    by_cases hlt : j < q ∧ j < 8
    · have hjl : j < ls.length := by have := HLN.out; omega
      obtain ⟨b, off, a, kc, rfl, hb, q0, hr⟩ := (H.out.ext hxr).at_ hlt.1 hjl
      have dn : decide (j < q) = true := by rw [decide_eq_true_eq]; exact hlt.1
      have d8 : decide ((j : Int) < 8) = true := by rw [decide_eq_true_eq]; omega
      have i0 : (0 : Int) ≤ (j : Int) := by omega
      have i1 : (j : Int) < (q : Int) := by omega
      have hst := fewR_take ls j hjl hlt.2
      have hcl : (fewR (ls.take j)).length = j := by rw [fewR_len, List.length_take]; omega
      have hsj := HS.out _ (List.getElem_mem hjl)
      obtain ⟨k, hk⟩ : ∃ k, ls[j].length = k := ⟨_, rfl⟩
      rw [hk] at q0 hr
      obtain ⟨l, hl⟩ : ∃ l, ls[j] = l := ⟨_, rfl⟩
      rw [hl] at hst hsj hk hr
      obtain ⟨W0, hW0⟩ : ∃ W0 : World, W0 = wr := ⟨wr, rfl⟩
      subst hW0
      have hri : Own (W0.alloc (.cells #[] 48)) W0.heap.size 48 3 (.slice (some ⟨W0.heap.size, 0, none⟩) 0 0) 0 (spCells (fewL13 (l.take 0))) := Own.made W0 W0.heap.size 48 3 0 #[] (Nat.le_refl _) (by omega) rfl
      have HRI := Lib.hid hri
      have HXI := Lib.hid ((Ext.refl W0).alloc (.cells #[] 48))
      have HST := Lib.hid hst; have HCL := Lib.hid hcl; have HSJ := Lib.hid hsj; have HK := Lib.hid hk; have HR := Lib.hid hr; have OWN := Lib.hid own; have HXR := Lib.hid hxr; have HBB := Lib.hid hb
      have hjle : j ≤ 8 := hj8
      clear hst hcl hsj hk hr own hl hri hb hxr
      generalize fewR (ls.take j) = FS at *
      go_wp2_with fail
      go_loopw [5, 6] (fun o z wi => ∃ m : Nat, m ≤ k ∧ m ≤ 20 ∧ z = .int .i64 m ∧ Own wi W0.heap.size 48 3 o m (spCells (fewL13 (l.take m))) ∧ Ext W0 wi) (fun _ z _ => 20 - (intOf z).toNat)
      case atStart => exact ⟨0, by omega, by omega, rfl, HRI.out, HXI.out⟩
      case round =>
        clear HRI HXI
        obtain ⟨m, hm, hm20, rfl, hown, hbel⟩ := hrel
        have p0 := ext_cell hbel q0
        by_cases hlm : m < k ∧ m < 20
        · have hml : m < l.length := by have := HK.out; omega
          obtain ⟨b2, off2, rfl, hb2, r0, r1, r2⟩ := sp_at (HR.out.ext hbel) HK.out hlm.1
          have dm : decide (m < k) = true := by rw [decide_eq_true_eq]; exact hlm.1
          have d20 : decide ((m : Int) < 20) = true := by rw [decide_eq_true_eq]; omega
          have i2 : (0 : Int) ≤ (m : Int) := by omega
          have i3 : (m : Int) < (k : Int) := by omega
          have hsz : l[m].2.2.size ≤ maxLen := HSJ.out _ (List.getElem_mem hml)
          have hst := fewL13_take l m hml hlm.2
          obtain ⟨R1, hR1⟩ : ∃ R1, fewL13 (l.take (m + 1)) = R1 := ⟨_, rfl⟩
          rw [hR1] at hst
          generalize fewL13 (l.take m) = xs at *
          generalize l[m].1 = a1 at *
          generalize l[m].2.1 = a2 at *
          generalize l[m].2.2 = a3 at *
          unfold maxLen at hsz
          have hmm : (min (a3.size : Int) 60).toNat = min a3.size 60 := by omega
          have HST2 := Lib.hid hst; have HR1 := Lib.hid hR1; have HM := Lib.hid hmm
          clear hst hR1 hmm
          have hX : a3.extract 0 (min (a3.size : Int) 60).toNat = cut60h a3 := by rw [HM.out]; rfl
          have hbx := hbel.alloc (.cells #[.int .i64 a1, .int .i64 a2, .string (a3.extract 0 (min (a3.size : Int) 60).toNat)] 48)
          have hox := hown.alloc (.cells #[.int .i64 a1, .int .i64 a2, .string (a3.extract 0 (min (a3.size : Int) 60).toNat)] 48)
          obtain ⟨v', w', happ, hown', hbel'⟩ := app_new (P := Tryd.prog) 22 22 48 i _ 3 32 Tryd.underlying22 hI.out.1 hI.out.2.1 hI.out.2.2.1 hI.out.2.2.2 rfl (by omega) (by omega)
            hbx hox (by omega) 1 #[.int .i64 a1, .int .i64 a2, .string (a3.extract 0 (min (a3.size : Int) 60).toNat)] rfl (by omega) (by simp [Value.oneCell']) 48
          rw [size_alloc] at happ
          have HAP := Lib.hid happ
          have hown2 : Own w' W0.heap.size 48 3 v' (m + 1) (spCells R1) := by rw [HST2.out, spCells_append, ← hX]; exact hown'
          clear happ hX hbx hox hown'
          go_wp2_with (at_builtin; refine wpList_append_run rfl rfl HAP.out rfl rfl ?_)
          go_roundw
          case rel => exact ⟨m + 1, by omega, by omega, by go_num, by rw [HR1.out]; exact hown2, hbel'⟩
          case measure => simp [intOf]; omega
        · have hall : l.take m = l.take 20 := by
            rcases (by omega : m = 20 ∨ m = k) with e | e
            · rw [e]
            · have e2 := HK.out
              rw [List.take_of_length_le (by omega), List.take_of_length_le (by omega)]
          have hcase : (decide (m < k) = false) ∨ (decide (m < k) = true ∧ decide ((m : Int) < 20) = false) := by
            by_cases e : m < k
            · exact .inr ⟨by rw [decide_eq_true_eq]; exact e, by rw [decide_eq_false_iff_not]; omega⟩
            · exact .inl (by rw [decide_eq_false_iff_not]; exact e)
          have hfl : fewL13 (l.take m) = fewL13 l := by rw [hall]; unfold fewL13; rw [List.take_take]; rfl
          have hlen : (fewL13 l).length = m := by rw [← hfl, fewL13_len]; have := HK.out; simp; omega
          rw [hfl] at hown
          obtain ⟨aF, cF, rfl, _⟩ := hown.len
          have hE := HXR.out.trans hbel
          obtain ⟨vs, hrow, hel⟩ := OWN.out.ext hbel
          rw [HCL.out] at hrow
          obtain ⟨v', w', happ, hown', hbel', hoth⟩ := app_newo (P := Tryd.prog) 23 23 22 ii _ 1 24 Tryd.underlying23 hII.out.1 hII.out.2.1 hII.out.2.2.1 hII.out.2.2.2 rfl (by omega) (by omega)
            (hbel.mono HXR.out.size) hrow (by omega) 1 #[.slice aF m cF] rfl (by omega) (by simp [Value.oneCell']) 22
          have own1' := hoth.own (by decide) hown
          have HAP := Lib.hid happ
          have hxw' : Ext w w' := Below.trans HXR.out hbel'
          have hss : OwnSS w' w.heap.size 22 48 v' (FS ++ [fewL13 l]) := by
            refine ⟨vs ++ [.slice aF m cF], by rw [List.length_append, HCL.out]; exact hown', fun x y hy => ?_⟩
            have hvl : vs.length = FS.length := by have := hrow.1.1; rw [HCL.out]; omega
            rw [List.getElem?_append] at hy
            split at hy
            · obtain ⟨u, g1, g2⟩ := hel x y hy
              exact ⟨u, by rw [List.getElem?_append_left (by omega)]; exact g1, hoth.own (by decide) g2⟩
            · have hq : x = FS.length := by
                rcases Nat.lt_trichotomy x FS.length with h | h | h
                · omega
                · exact h
                · rw [List.getElem?_eq_none (by simp; omega)] at hy; cases hy
              subst hq
              simp at hy
              subst hy
              refine ⟨.slice aF m cF, by rw [List.getElem?_append_right (by omega), hvl]; simp, ?_⟩
              rw [hlen]
              exact own1'.more HXR.out.size
          have HSS := Lib.hid hss
          clear hall hfl hlen hlm happ hown' hbel' hoth own1' hss hrow hel hown hE
          rcases hcase with d1 | ⟨d1, d2⟩
          all_goals
            go_wp2_with (at_builtin; refine wpList_append_run rfl rfl HAP.out rfl rfl ?_)
            go_roundw
            case rel => exact ⟨j + 1, by omega, by omega, by go_num, by rw [HST.out]; exact HSS.out, hxw'⟩
            case measure => simp [intOf]; omega
    · have hall : fewR (ls.take j) = fewR ls := by
        have e : ls.take j = ls.take 8 := by
          rcases (by omega : j = 8 ∨ j = q) with e | e
          · rw [e]
          · have e2 := HLN.out
            rw [List.take_of_length_le (by omega), List.take_of_length_le (by omega)]
        rw [e]; unfold fewR; rw [List.take_take]; rfl
      have hcase : (decide (j < q) = false) ∨ (decide (j < q) = true ∧ decide ((j : Int) < 8) = false) := by
        by_cases e : j < q
        · exact .inr ⟨by rw [decide_eq_true_eq]; exact e, by rw [decide_eq_false_iff_not]; omega⟩
        · exact .inl (by rw [decide_eq_false_iff_not]; exact e)
      rw [hall] at own
      have OWN := Lib.hid own
      clear hall hlt own
      rcases hcase with d1 | ⟨d1, d2⟩
      all_goals
        go_wp2_with fail
        go_ret
        exact ⟨_, rfl, hxr, OWN.out⟩
theorem fewR_small (ls : List (List Sp)) : Small (fewR ls) ∧ lenS (fewR ls) ≤ 160 := by
  have hl := fewR_len ls
  have hm : ∀ l ∈ fewR ls, l.length ≤ 20 ∧ sumT l ≤ 1200 := fun l hl => by
    unfold fewR at hl
    obtain ⟨x, _, rfl⟩ := List.mem_map.1 hl
    have h1 := fewL13_len x
    have h2 := sumT_le (fewL13 x) 60 (fewL13_size x)
    omega
  have h1 := lenS_le _ 20 fun l hl => (hm l hl).1
  have h2 := sumTT_le _ 1200 fun l hl => (hm l hl).2
  exact ⟨⟨by omega, by omega, by omega⟩, by omega⟩
theorem few13G {A : Option Addr} {q c : Nat} {ls : List (List Sp)} {w' : World} (h : RdSS w' A q c ls) (hs : ∀ l ∈ ls, ∀ s ∈ l, s.2.2.size ≤ maxLen) :
    Calls Tryd.prog 15 #[.slice A q c] w' (TellsSS w' (fewR ls)) := by
  refine (few13_c A q c ls w' h hs).mono ?_
  rintro e w'' ⟨v, rfl, hx, ho⟩
  obtain ⟨A', c', rfl, _, hr⟩ := ho.rd
  exact ⟨hx, A', _, c', rfl, hr⟩
theorem thruG {X : List Sp} (gX : Good X) {ls : List (List Sp)} {k : Int} (hS : SmT X ls) (hT : Thru (inL X) ls k) {w w' : World} [Tab w] (hx : Ext w w') {A B : Option Addr} {n c m d : Nat} (hX : RdO w' A n c X) (hr : RdSS w' B m d ls) :
    Calls Tryd.prog 11 #[.slice A n c, .slice B m d] w' (TellsE w' (thruL X ls)) := by
  have hTb := tab_ext hx
  have hE : thruE X ls = 0 := by unfold thruE; rw [if_pos gX.may]; exact (thru_chainE hT (by have := gX.inb; omega)).1
  refine (thruP_c A n c X B m d ls w' hX hr hS).mono ?_
  rintro e w'' ⟨hx, A', n', c', rfl, hr⟩
  rw [hE, if_pos rfl] at hr
  rw [hE]
  exact ⟨hx, A', n', c', rfl, hr⟩
theorem patG {X : List Sp} (gX : Good X) {ls : List (List Sp)} {k : Int} (hS : SmT X ls) (hT : Thru (inL X) ls k) {w w' : World} [Tab w] (hx : Ext w w') {A B : Option Addr} {n c m d : Nat} (hX : RdO w' A n c X) (hr : RdSS w' B m d ls) :
    Calls Tryd.prog 13 #[.slice A n c, .slice B m d] w' (TellsE w' (patL X ls)) := by
  have hTb := tab_ext hx
  have hE : thruE X ls = 0 := by unfold thruE; rw [if_pos gX.may]; exact (thru_chainE hT (by have := gX.inb; omega)).1
  refine (patP_c A n c X B m d ls w' hX hr hS).mono ?_
  rintro e w'' ⟨hx, A', n', c', rfl, hr⟩
  rw [hE, if_pos rfl] at hr
  rw [hE]
  exact ⟨hx, A', n', c', rfl, hr⟩
theorem thruRG {X : List Sp} (gX : Good X) {ls : List (List Sp)} {k : Int} (hS : SmT X ls) (hT : Thru (inL X) ls k) {w' : World} {A B : Option Addr} {n c m d : Nat} (hX : RdO w' A n c X) (hr : RdSS w' B m d ls) :
    Calls Tryd.prog 12 #[.slice A n c, .slice B m d] w' (TellsE w' (thruL X ls)) := by
  have hE : thruE X ls = 0 := by unfold thruE; rw [if_pos gX.may]; exact (thru_chainE hT (by have := gX.inb; omega)).1
  refine (thruR_c A n c X B m d ls w' hX hr hS).mono ?_
  rintro e w'' ⟨hx, A', n', c', rfl, hr⟩
  rw [hE, if_pos rfl] at hr
  rw [hE]
  exact ⟨hx, A', n', c', rfl, hr⟩
theorem patRG {X : List Sp} (gX : Good X) {ls : List (List Sp)} {k : Int} (hS : SmT X ls) (hT : Thru (inL X) ls k) {w' : World} {A B : Option Addr} {n c m d : Nat} (hX : RdO w' A n c X) (hr : RdSS w' B m d ls) :
    Calls Tryd.prog 14 #[.slice A n c, .slice B m d] w' (TellsE w' (patL X ls)) := by
  have hE : thruE X ls = 0 := by unfold thruE; rw [if_pos gX.may]; exact (thru_chainE hT (by have := gX.inb; omega)).1
  refine (patR_c A n c X B m d ls w' hX hr hS).mono ?_
  rintro e w'' ⟨hx, A', n', c', rfl, hr⟩
  rw [hE, if_pos rfl] at hr
  rw [hE]
  exact ⟨hx, A', n', c', rfl, hr⟩
/-- A small operation and a chain that was made. -/
theorem smT_of {X : List Sp} (gX : Good X) {ls : List (List Sp)} (hS : Small ls) (hl : X.length + lenS ls ≤ 1000) : SmT X ls := ⟨hl, by have := gX.txt; omega, hS⟩
theorem thruL_len {X : List Sp} (gX : Good X) {ls : List (List Sp)} {k : Int} (hT : Thru (inL X) ls k) : (thruL X ls).length ≤ X.length + lenS ls ∧ sumT (thruL X ls) ≤ sumT X ∧ (∀ s ∈ thruL X ls, OkW s) ∧ tok (thruL X ls) = overT (tok X) (fR (inL X) ls) ∧ inL (thruL X ls) = k := by
  have h := thruJ_len gX.ok hT ls.length (Nat.le_refl _)
  obtain ⟨m, h1, h2, h3, h4, h5⟩ := thruJ_ok gX.ok hT ls.length
  rw [thruJ_all] at h h2 h3 h4 h5
  rw [List.take_length] at h h1 h3
  have e1 := (thru_chE h1).2; have e2 := (thru_chE hT).2
  exact ⟨h, h5, h2, h3, by omega⟩
theorem patL_len {X : List Sp} (gX : Good X) {ls : List (List Sp)} {k : Int} (hT : Thru (inL X) ls k) : (patL X ls).length ≤ 1 + lenS ls + X.length ∧ sumT (patL X ls) ≤ sumTT ls ∧ (∀ s ∈ patL X ls, OkW s) ∧ tok (patL X ls) = underT (fR (inL X) ls) (tok X) ∧ inL (patL X ls) = outL X := by
  obtain ⟨s1, s2, s3, s4, s5, s6, s7⟩ := fR_small hT (by have := gX.inb; omega)
  obtain ⟨u1, u2, u3, u4, u5, u6⟩ := underL_all _ X s1 gX.ok s4
  have e : underL (spT (fR (inL X) ls)) X = patL X ls := by unfold underL patL; rw [s2]
  rw [e] at u1 u2 u4 u5 u6
  rw [s2] at u2
  have e1 := norm_len X
  have e2 := norm_len (spT (fR (inL X) ls))
  exact ⟨by omega, by omega, u1, u2, u4⟩
def ex13a : List Sp := [(2, 0, ⟨#[121]⟩), (1, 1, ⟨#[]⟩)]
def ex13s : List Sp := [(2, 0, ⟨#[120]⟩), (1, 1, ⟨#[]⟩)]
def ex13t : List Sp := [(3, 1, ⟨#[]⟩), (1, 1, ⟨#[]⟩)]
theorem ex13a_g : Good ex13a := ⟨fun s hs => okW_of_may ((by decide +kernel : ∀ s ∈ ex13a, mayS s.1 s.2.1 s.2.2 = 0) s hs), by decide +kernel, by decide +kernel, by decide +kernel⟩
theorem ex13_t : Thru (inL ex13a) [ex13s, ex13t] 1 :=
  ⟨fun s hs => okW_of_may ((by decide +kernel : ∀ s ∈ ex13s, mayS s.1 s.2.1 s.2.2 = 0) s hs), by decide +kernel, by decide +kernel, by decide +kernel,
   fun s hs => okW_of_may ((by decide +kernel : ∀ s ∈ ex13t, mayS s.1 s.2.1 s.2.2 = 0) s hs), by decide +kernel, by decide +kernel, by decide +kernel, by decide +kernel, by decide +kernel⟩
theorem ex13_s : SmT ex13a [ex13s, ex13t] := ⟨by decide +kernel, by decide +kernel, ⟨by decide +kernel, by decide +kernel, by decide⟩⟩
theorem ex13_o : thruL ex13a [ex13s, ex13t] = ex13a := by decide +kernel
theorem ex13_p : patL ex13a [ex13s, ex13t] = [(1, 2, ⟨#[]⟩)] := by decide +kernel
theorem shown13_c (w : World) [Tab w] : Calls Tryd.prog 8 #[] w fun e w' => e = .returned (.bool true) ∧ Ext w w' := by
  have g0 := Lib.hid ex13a_g; have t0 := Lib.hid ex13_t; have s0 := Lib.hid ex13_s; have o0 := Lib.hid ex13_o
  have l0 : Hid ((thruL ex13a [ex13s, ex13t]).length ≤ 300) := Lib.hid (by rw [ex13_o]; decide)
  have PP : Hid (∀ A n c B m d w', Ext w w' → RdO w' A n c ex13a → RdSS w' B m d [ex13s, ex13t] → Calls Tryd.prog 13 #[.slice A n c, .slice B m d] w' (TellsE w' [(1, 2, ⟨#[]⟩)])) := Lib.hid fun A n c B m d w' hx hX hr => by
    have h := patG g0.out s0.out t0.out hx hX hr
    rw [ex13_p] at h; exact h
  have R0 := Lib.hid (((rdO_made w #[.int .i64 2, .int .i64 0, .string ⟨#[121]⟩, .int .i64 1, .int .i64 1, .string ⟨#[]⟩] 48 (n := 2) (l := ex13a) rfl rfl rfl (by decide)).ext ((Ext.refl _).alloc (.cells #[.int .i64 2, .int .i64 0, .string ⟨#[120]⟩, .int .i64 1, .int .i64 1, .string ⟨#[]⟩] 48))).ext ((Ext.refl _).alloc (.cells #[.int .i64 3, .int .i64 1, .string ⟨#[]⟩, .int .i64 1, .int .i64 1, .string ⟨#[]⟩] 48)))
  have R1 := Lib.hid ((rdO_made (w.alloc (.cells #[.int .i64 2, .int .i64 0, .string ⟨#[121]⟩, .int .i64 1, .int .i64 1, .string ⟨#[]⟩] 48)) #[.int .i64 2, .int .i64 0, .string ⟨#[120]⟩, .int .i64 1, .int .i64 1, .string ⟨#[]⟩] 48 (n := 2) (l := ex13s) rfl rfl rfl (by decide)).ext ((Ext.refl _).alloc (.cells #[.int .i64 3, .int .i64 1, .string ⟨#[]⟩, .int .i64 1, .int .i64 1, .string ⟨#[]⟩] 48)))
  have R2 := Lib.hid (rdO_made ((w.alloc (.cells #[.int .i64 2, .int .i64 0, .string ⟨#[121]⟩, .int .i64 1, .int .i64 1, .string ⟨#[]⟩] 48)).alloc (.cells #[.int .i64 2, .int .i64 0, .string ⟨#[120]⟩, .int .i64 1, .int .i64 1, .string ⟨#[]⟩] 48)) #[.int .i64 3, .int .i64 1, .string ⟨#[]⟩, .int .i64 1, .int .i64 1, .string ⟨#[]⟩] 48 (n := 2) (l := ex13t) rfl rfl rfl (by decide))
  have e0 := (((Ext.refl w).alloc (.cells #[.int .i64 2, .int .i64 0, .string ⟨#[121]⟩, .int .i64 1, .int .i64 1, .string ⟨#[]⟩] 48)).alloc (.cells #[.int .i64 2, .int .i64 0, .string ⟨#[120]⟩, .int .i64 1, .int .i64 1, .string ⟨#[]⟩] 48)).alloc (.cells #[.int .i64 3, .int .i64 1, .string ⟨#[]⟩, .int .i64 1, .int .i64 1, .string ⟨#[]⟩] 48)
  rw [size_alloc] at R1; rw [size_alloc, size_alloc] at R2
  go_enter Tryd.func8, Tryd.ntmps8
  have RS1 := Lib.hid (rdSS2 22 R1.out R2.out)
  replace R0 := Lib.hid (R0.out.ext ((Ext.refl (((w.alloc (.cells #[.int .i64 2, .int .i64 0, .string ⟨#[121]⟩, .int .i64 1, .int .i64 1, .string ⟨#[]⟩] 48)).alloc (.cells #[.int .i64 2, .int .i64 0, .string ⟨#[120]⟩, .int .i64 1, .int .i64 1, .string ⟨#[]⟩] 48)).alloc (.cells #[.int .i64 3, .int .i64 1, .string ⟨#[]⟩, .int .i64 1, .int .i64 1, .string ⟨#[]⟩] 48))).alloc (.cells #[.slice (some ⟨w.heap.size + 1, 0, none⟩) 2 2, .slice (some ⟨w.heap.size + 1 + 1, 0, none⟩) 2 2] 22)))
  replace R1 := Lib.hid (R1.out.ext ((Ext.refl (((w.alloc (.cells #[.int .i64 2, .int .i64 0, .string ⟨#[121]⟩, .int .i64 1, .int .i64 1, .string ⟨#[]⟩] 48)).alloc (.cells #[.int .i64 2, .int .i64 0, .string ⟨#[120]⟩, .int .i64 1, .int .i64 1, .string ⟨#[]⟩] 48)).alloc (.cells #[.int .i64 3, .int .i64 1, .string ⟨#[]⟩, .int .i64 1, .int .i64 1, .string ⟨#[]⟩] 48))).alloc (.cells #[.slice (some ⟨w.heap.size + 1, 0, none⟩) 2 2, .slice (some ⟨w.heap.size + 1 + 1, 0, none⟩) 2 2] 22)))
  replace R2 := Lib.hid (R2.out.ext ((Ext.refl (((w.alloc (.cells #[.int .i64 2, .int .i64 0, .string ⟨#[121]⟩, .int .i64 1, .int .i64 1, .string ⟨#[]⟩] 48)).alloc (.cells #[.int .i64 2, .int .i64 0, .string ⟨#[120]⟩, .int .i64 1, .int .i64 1, .string ⟨#[]⟩] 48)).alloc (.cells #[.int .i64 3, .int .i64 1, .string ⟨#[]⟩, .int .i64 1, .int .i64 1, .string ⟨#[]⟩] 48))).alloc (.cells #[.slice (some ⟨w.heap.size + 1, 0, none⟩) 2 2, .slice (some ⟨w.heap.size + 1 + 1, 0, none⟩) 2 2] 22)))
  have e1 : Ext w ((((w.alloc (.cells #[.int .i64 2, .int .i64 0, .string ⟨#[121]⟩, .int .i64 1, .int .i64 1, .string ⟨#[]⟩] 48)).alloc (.cells #[.int .i64 2, .int .i64 0, .string ⟨#[120]⟩, .int .i64 1, .int .i64 1, .string ⟨#[]⟩] 48)).alloc (.cells #[.int .i64 3, .int .i64 1, .string ⟨#[]⟩, .int .i64 1, .int .i64 1, .string ⟨#[]⟩] 48)).alloc (.cells #[.slice (some ⟨w.heap.size + 1, 0, none⟩) 2 2, .slice (some ⟨w.heap.size + 1 + 1, 0, none⟩) 2 2] 22)) := e0.alloc _
  rw [size_alloc, size_alloc, size_alloc] at RS1
  go_wp2_with fail
  refine (thruG g0.out s0.out t0.out e1 R0.out RS1.out).mono ?_; rintro e w2 ⟨hx2, aA, nA, cA, rfl, rA⟩
  have e2 : Ext w w2 := e1.trans hx2
  replace R0 := Lib.hid (R0.out.ext hx2)
  replace R1 := Lib.hid (R1.out.ext hx2)
  replace R2 := Lib.hid (R2.out.ext hx2)
  have RA := Lib.hid rA
  clear hx2 rA
  have RS2 := Lib.hid (rdSS2 22 R1.out R2.out)
  replace R0 := Lib.hid (R0.out.ext ((Ext.refl w2).alloc (.cells #[.slice (some ⟨w.heap.size + 1, 0, none⟩) 2 2, .slice (some ⟨w.heap.size + 1 + 1, 0, none⟩) 2 2] 22)))
  replace R1 := Lib.hid (R1.out.ext ((Ext.refl w2).alloc (.cells #[.slice (some ⟨w.heap.size + 1, 0, none⟩) 2 2, .slice (some ⟨w.heap.size + 1 + 1, 0, none⟩) 2 2] 22)))
  replace R2 := Lib.hid (R2.out.ext ((Ext.refl w2).alloc (.cells #[.slice (some ⟨w.heap.size + 1, 0, none⟩) 2 2, .slice (some ⟨w.heap.size + 1 + 1, 0, none⟩) 2 2] 22)))
  replace RA := Lib.hid (RA.out.ext ((Ext.refl w2).alloc (.cells #[.slice (some ⟨w.heap.size + 1, 0, none⟩) 2 2, .slice (some ⟨w.heap.size + 1 + 1, 0, none⟩) 2 2] 22)))
  have e3 : Ext w (w2.alloc (.cells #[.slice (some ⟨w.heap.size + 1, 0, none⟩) 2 2, .slice (some ⟨w.heap.size + 1 + 1, 0, none⟩) 2 2] 22)) := e2.alloc _
  go_wp2_with fail
  refine (PP.out _ _ _ _ _ _ _ e3 R0.out RS2.out).mono ?_; rintro e w4 ⟨hx4, aP, nP, cP, rfl, rP⟩
  have e4 : Ext w w4 := e3.trans hx4
  replace R0 := Lib.hid (R0.out.ext hx4)
  replace R1 := Lib.hid (R1.out.ext hx4)
  replace R2 := Lib.hid (R2.out.ext hx4)
  replace RA := Lib.hid (RA.out.ext hx4)
  have RP := Lib.hid rP
  clear hx4 rP
  go_wp2_with fail
  refine (sameTrueG o0.out l0.out RA.out R0.out).mono ?_; rintro e w5 ⟨rfl, hx5⟩
  have e5 : Ext w w5 := e4.trans hx5
  replace R0 := Lib.hid (R0.out.ext hx5)
  replace R1 := Lib.hid (R1.out.ext hx5)
  replace R2 := Lib.hid (R2.out.ext hx5)
  replace RA := Lib.hid (RA.out.ext hx5)
  replace RP := Lib.hid (RP.out.ext hx5)
  clear hx5
  obtain ⟨hlp, rp⟩ := RP.out
  obtain rfl : 1 = nP := hlp
  obtain ⟨b, off, rfl, hb, q0, q1, q2⟩ := sp_at rp rfl (i := 0) (by omega)
  have p0 : w5.cell? ⟨b, off, none⟩ = some (.int .i64 1) := q0
  have p1 : w5.cell? ⟨b, off + 1, none⟩ = some (.int .i64 2) := q1
  have p2 : w5.cell? ⟨b, off + 2, none⟩ = some (.string ⟨#[]⟩) := q2
  clear rp q0 q1 q2
  go_wp2_with fail
  go_ret
  exact ⟨rfl, e5⟩
end Go.Proofs.YtfjiookndleaeaaDoor
