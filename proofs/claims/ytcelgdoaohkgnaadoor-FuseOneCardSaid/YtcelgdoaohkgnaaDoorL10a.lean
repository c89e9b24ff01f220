/- Layer 10, the statements' own functions: few, put, shown; rows of operations that were just made. -/
import Derived.Test.YtcelgdoaohkgnaaDoorC10
import Derived.Test.YtcelgdoaohkgnaaDoorP10
import Derived.Test.YtcelgdoaohkgnaaDoorL7g
import Derived.Test.YtcelgdoaohkgnaaDoorFr
import Derived.Test.YtcelgdoaohkgnaaDoorC5
import Derived.Test.YtcelgdoaohkgnaaDoorL6b
namespace Go.Proofs.YtcelgdoaohkgnaaDoor
open Go.RowKit
set_option maxRecDepth 100000
set_option maxHeartbeats 4000000
def cut60e (s : ByteArray) : ByteArray := s.extract 0 (min s.size 60)
theorem cut60e_size (s : ByteArray) : (cut60e s).size ≤ 60 := by simp [cut60e]; omega
def fewL10 (l : List Sp) : List Sp := (l.take 20).map fun s => (s.1, s.2.1, cut60e s.2.2)
theorem fewL10_take (l : List Sp) (j : Nat) (h : j < l.length) (h20 : j < 20) : fewL10 (l.take (j + 1)) = fewL10 (l.take j) ++ [(l[j].1, l[j].2.1, cut60e l[j].2.2)] := by
  unfold fewL10
  have e1 : (l.take (j + 1)).take 20 = l.take (j + 1) := List.take_of_length_le (by rw [List.length_take]; omega)
  have e2 : (l.take j).take 20 = l.take j := List.take_of_length_le (by rw [List.length_take]; omega)
  rw [e1, e2, List.take_add_one, List.getElem?_eq_getElem h, List.map_append]
  rfl
theorem fewL10_size (l : List Sp) : ∀ s ∈ fewL10 l, s.2.2.size ≤ 60 := by
  intro s hs
  obtain ⟨x, _, rfl⟩ := List.mem_map.1 hs
  exact cut60e_size _
theorem fewL10_len (l : List Sp) : (fewL10 l).length = min 20 l.length := by simp [fewL10]
/-- Of a row of operations the first eight, of these the first twenty spans. -/
def fewS (ls : List (List Sp)) : List (List Sp) := (ls.take 8).map fewL10
theorem fewS_take (ls : List (List Sp)) (j : Nat) (h : j < ls.length) (h8 : j < 8) : fewS (ls.take (j + 1)) = fewS (ls.take j) ++ [fewL10 ls[j]] := by
  unfold fewS
  rw [List.take_take, List.take_take, Nat.min_eq_right (by omega), Nat.min_eq_right (by omega), List.take_add_one, List.getElem?_eq_getElem h, List.map_append]
  rfl
theorem fewS_len (ls : List (List Sp)) : (fewS ls).length = min 8 ls.length := by simp [fewS]
theorem few10_c (A : Option Addr) (q c : Nat) (ls : List (List Sp)) (w : World) (h : RdSS w A q c ls) (hs : ∀ l ∈ ls, ∀ s ∈ l, s.2.2.size ≤ maxLen) :
    Calls Tryd.prog 21 #[.slice A q c] w fun e w' => ∃ v, e = .returned v ∧ Ext w w' ∧ OwnSS w' w.heap.size 22 60 v (fewS ls) := by
  obtain ⟨i, hi, hz0, hz1, hz2⟩ := info_parts info_sp5
  obtain ⟨ii, hii, hy0, hy1, hy2⟩ := info_parts info_ss
  have hln := h.1
  have hrel0 : OwnSS (w.alloc (.cells #[] 22)) w.heap.size 22 60 (.slice (some ⟨w.heap.size, 0, none⟩) 0 0) (fewS (ls.take 0)) :=
    ⟨[], Own.made w w.heap.size 22 1 0 #[] (Nat.le_refl _) (by omega) rfl, fun i l hl => by rw [List.take_zero] at hl; simp [fewS] at hl⟩
  have HR0 := Lib.hid hrel0
  have HX0 := Lib.hid ((Ext.refl w).alloc (.cells #[] 22))
  have H := Lib.hid h; have HS := Lib.hid hs; have HLN := Lib.hid hln
  have hI : Hid (Tryd.prog.info? 60 = some i ∧ i.zero = some (.agg #[.int .i64 0, .int .i64 0, .string ⟨#[]⟩]) ∧ i.size = 3 ∧ i.bytes = 32) := Lib.hid ⟨hi, hz0, hz1, hz2⟩
  have hII : Hid (Tryd.prog.info? 22 = some ii ∧ ii.zero = some (.slice none 0 0) ∧ ii.size = 1 ∧ ii.bytes = 24) := Lib.hid ⟨hii, hy0, hy1, hy2⟩
  clear h hs hrel0 hln hi hz0 hz1 hz2 hii hy0 hy1 hy2
  go_enter Tryd.func21, Tryd.ntmps21
  go_wp2_with fail
  go_loopw [3, 4] (fun o z wr => ∃ j : Nat, j ≤ q ∧ j ≤ 8 ∧ z = .int .i64 j ∧ OwnSS wr w.heap.size 22 60 o (fewS (ls.take j)) ∧ Ext w wr) (fun _ z _ => 8 - (intOf z).toNat)
  case atStart => exact ⟨0, by omega, by omega, rfl, HR0.out, HX0.out⟩
  case round =>
    clear HR0 HX0
    obtain ⟨j, hj, hj8, rfl, own, hxr⟩ := hrel
    by_cases hlt : j < q ∧ j < 8
    · have hjl : j < ls.length := by have := HLN.out; omega
      obtain ⟨b, off, a, kc, rfl, hb, q0, hr⟩ := (H.out.ext hxr).at_ hlt.1 hjl
      have dn : decide (j < q) = true := by rw [decide_eq_true_eq]; exact hlt.1
      have d8 : decide ((j : Int) < 8) = true := by rw [decide_eq_true_eq]; omega
      have i0 : (0 : Int) ≤ (j : Int) := by omega
      have i1 : (j : Int) < (q : Int) := by omega
      have hst := fewS_take ls j hjl hlt.2
      have hcl : (fewS (ls.take j)).length = j := by rw [fewS_len, List.length_take]; omega
      have hsj := HS.out _ (List.getElem_mem hjl)
      obtain ⟨k, hk⟩ : ∃ k, ls[j].length = k := ⟨_, rfl⟩
      rw [hk] at q0 hr
      obtain ⟨l, hl⟩ : ∃ l, ls[j] = l := ⟨_, rfl⟩
      rw [hl] at hst hsj hk hr
      obtain ⟨W0, hW0⟩ : ∃ W0 : World, W0 = wr := ⟨wr, rfl⟩
      subst hW0
      have hri : Own (W0.alloc (.cells #[] 60)) W0.heap.size 60 3 (.slice (some ⟨W0.heap.size, 0, none⟩) 0 0) 0 (spCells (fewL10 (l.take 0))) := Own.made W0 W0.heap.size 60 3 0 #[] (Nat.le_refl _) (by omega) rfl
      have HRI := Lib.hid hri
      have HXI := Lib.hid ((Ext.refl W0).alloc (.cells #[] 60))
      have HST := Lib.hid hst; have HCL := Lib.hid hcl; have HSJ := Lib.hid hsj; have HK := Lib.hid hk; have HR := Lib.hid hr; have OWN := Lib.hid own; have HXR := Lib.hid hxr; have HBB := Lib.hid hb
      have hjle : j ≤ 8 := hj8
      clear hst hcl hsj hk hr own hl hri hb hxr
      generalize fewS (ls.take j) = FS at *
      go_wp2_with fail
      go_loopw [5, 6] (fun o z wi => ∃ m : Nat, m ≤ k ∧ m ≤ 20 ∧ z = .int .i64 m ∧ Own wi W0.heap.size 60 3 o m (spCells (fewL10 (l.take m))) ∧ Ext W0 wi) (fun _ z _ => 20 - (intOf z).toNat)
      case atStart => exact ⟨0, by omega, by omega, rfl, HRI.out, HXI.out⟩
      case round =>
        clear HRI HXI
        obtain ⟨m, hm, hm20, rfl, hown, hbel⟩ := hrel
        have p0 := ext_cell hbel q0
        by_cases hlm : m < k ∧ m < 20
        · have hml : m < l.length := by have := HK.out; omega
          obtain ⟨b2, off2, rfl, hb2, r0, r1, r2⟩ := sp_at (HR.out.ext hbel) HK.out hlm.1
          have dm : decide (m < k) = true := by rw [decide_eq_true_eq]; exact hlm.1
          have d20 : decide ((m : Int) < 20) = true := by rw [decide_eq_true_eq]; omega
          have i2 : (0 : Int) ≤ (m : Int) := by omega
          have i3 : (m : Int) < (k : Int) := by omega
          have hsz : l[m].2.2.size ≤ maxLen := HSJ.out _ (List.getElem_mem hml)
          have hst := fewL10_take l m hml hlm.2
          obtain ⟨R1, hR1⟩ : ∃ R1, fewL10 (l.take (m + 1)) = R1 := ⟨_, rfl⟩
          rw [hR1] at hst
          generalize fewL10 (l.take m) = xs at *
          generalize l[m].1 = a1 at *
          generalize l[m].2.1 = a2 at *
          generalize l[m].2.2 = a3 at *
          unfold maxLen at hsz
          have hmm : (min (a3.size : Int) 60).toNat = min a3.size 60 := by omega
          have HST2 := Lib.hid hst; have HR1 := Lib.hid hR1; have HM := Lib.hid hmm
          clear hst hR1 hmm
          have hX : a3.extract 0 (min (a3.size : Int) 60).toNat = cut60e a3 := by rw [HM.out]; rfl
          have hbx := hbel.alloc (.cells #[.int .i64 a1, .int .i64 a2, .string (a3.extract 0 (min (a3.size : Int) 60).toNat)] 60)
          have hox := hown.alloc (.cells #[.int .i64 a1, .int .i64 a2, .string (a3.extract 0 (min (a3.size : Int) 60).toNat)] 60)
          obtain ⟨v', w', happ, hown', hbel'⟩ := app_new (P := Tryd.prog) 22 22 60 i _ 3 32 Tryd.underlying22 hI.out.1 hI.out.2.1 hI.out.2.2.1 hI.out.2.2.2 rfl (by omega) (by omega)
            hbx hox (by omega) 1 #[.int .i64 a1, .int .i64 a2, .string (a3.extract 0 (min (a3.size : Int) 60).toNat)] rfl (by omega) (by simp [Value.oneCell']) 60
          rw [size_alloc] at happ
          have HAP := Lib.hid happ
          have hown2 : Own w' W0.heap.size 60 3 v' (m + 1) (spCells R1) := by rw [HST2.out, spCells_append, ← hX]; exact hown'
          clear happ hX hbx hox hown'
          go_wp2_with (at_builtin; refine wpList_append_run rfl rfl HAP.out rfl rfl ?_)
          go_roundw
          case rel => exact ⟨m + 1, by omega, by omega, by go_num, by rw [HR1.out]; exact hown2, hbel'⟩
          case measure => simp [intOf]; omega
        · have hall : l.take m = l.take 20 := by
            rcases (by omega : m = 20 ∨ m = k) with e | e
            · rw [e]
            · have e2 := HK.out
              rw [List.take_of_length_le (by omega), List.take_of_length_le (by omega)]
          have hcase : (decide (m < k) = false) ∨ (decide (m < k) = true ∧ decide ((m : Int) < 20) = false) := by
            by_cases e : m < k
            · exact .inr ⟨by rw [decide_eq_true_eq]; exact e, by rw [decide_eq_false_iff_not]; omega⟩
            · exact .inl (by rw [decide_eq_false_iff_not]; exact e)
          have hfl : fewL10 (l.take m) = fewL10 l := by rw [hall]; unfold fewL10; rw [List.take_take]; rfl
          have hlen : (fewL10 l).length = m := by rw [← hfl, fewL10_len]; have := HK.out; simp; omega
          rw [hfl] at hown
          obtain ⟨aF, cF, rfl, _⟩ := hown.len
          have hE := HXR.out.trans hbel
          obtain ⟨vs, hrow, hel⟩ := OWN.out.ext hbel
          rw [HCL.out] at hrow
          obtain ⟨v', w', happ, hown', hbel', hoth⟩ := app_newo (P := Tryd.prog) 42 42 22 ii _ 1 24 Tryd.underlying42 hII.out.1 hII.out.2.1 hII.out.2.2.1 hII.out.2.2.2 rfl (by omega) (by omega)
            (hbel.mono HXR.out.size) hrow (by omega) 1 #[.slice aF m cF] rfl (by omega) (by simp [Value.oneCell']) 22
          have own1' := hoth.own (by decide) hown
          have HAP := Lib.hid happ
          have hxw' : Ext w w' := Below.trans HXR.out hbel'
          have hss : OwnSS w' w.heap.size 22 60 v' (FS ++ [fewL10 l]) := by
            refine ⟨vs ++ [.slice aF m cF], by rw [List.length_append, HCL.out]; exact hown', fun x y hy => ?_⟩
            have hvl : vs.length = FS.length := by have := hrow.1.1; rw [HCL.out]; omega
            rw [List.getElem?_append] at hy
            split at hy
            · obtain ⟨u, g1, g2⟩ := hel x y hy
              exact ⟨u, by rw [List.getElem?_append_left (by omega)]; exact g1, hoth.own (by decide) g2⟩
            · have hq : x = FS.length := by
                rcases Nat.lt_trichotomy x FS.length with h | h | h
                · omega
                · exact h
                · rw [List.getElem?_eq_none (by simp; omega)] at hy; cases hy
              subst hq
              simp at hy
              subst hy
              refine ⟨.slice aF m cF, by rw [List.getElem?_append_right (by omega), hvl]; simp, ?_⟩
              rw [hlen]
              exact own1'.more HXR.out.size
          have HSS := Lib.hid hss
          clear hall hfl hlen hlm happ hown' hbel' hoth own1' hss hrow hel hown hE
          rcases hcase with d1 | ⟨d1, d2⟩
          all_goals
            go_wp2_with (at_builtin; refine wpList_append_run rfl rfl HAP.out rfl rfl ?_)
            go_roundw
            case rel => exact ⟨j + 1, by omega, by omega, by go_num, by rw [HST.out]; exact HSS.out, hxw'⟩
            case measure => simp [intOf]; omega
    · have hall : fewS (ls.take j) = fewS ls := by
        have e : ls.take j = ls.take 8 := by
          rcases (by omega : j = 8 ∨ j = q) with e | e
          · rw [e]
          · have e2 := HLN.out
            rw [List.take_of_length_le (by omega), List.take_of_length_le (by omega)]
        rw [e]; unfold fewS; rw [List.take_take]; rfl
      have hcase : (decide (j < q) = false) ∨ (decide (j < q) = true ∧ decide ((j : Int) < 8) = false) := by
        by_cases e : j < q
        · exact .inr ⟨by rw [decide_eq_true_eq]; exact e, by rw [decide_eq_false_iff_not]; omega⟩
        · exact .inl (by rw [decide_eq_false_iff_not]; exact e)
      rw [hall] at own
      have OWN := Lib.hid own
      clear hall hlt own
      rcases hcase with d1 | ⟨d1, d2⟩
      all_goals
        go_wp2_with fail
        go_ret
        exact ⟨_, rfl, hxr, OWN.out⟩
theorem insT_text10 (us : List Nat) : insT (us.map Tok.ins) = us := by
  induction us with
  | nil => rfl
  | cons u us ih => rw [List.map_cons]; show u :: insT _ = _; rw [ih]
theorem insT_keeps10 (n : Nat) : insT (List.replicate n Tok.keep) = [] := by
  induction n with
  | zero => rfl
  | succ n ih => rw [List.replicate_succ]; exact ih
theorem insT_dels10 (n : Nat) : insT (List.replicate n Tok.del) = [] := by
  induction n with
  | zero => rfl
  | succ n ih => rw [List.replicate_succ]; exact ih
theorem enc1_pos10 (c : Nat) : 0 < (enc1 c).length := by
  unfold enc1
  repeat' split
  all_goals simp
theorem encs_ge10 (cs : List Nat) : cs.length ≤ (encs cs).length := by
  induction cs with
  | nil => exact Nat.le_refl _
  | cons c cs ih => rw [encs_cons, List.length_append, List.length_cons]; have := enc1_pos10 c; omega
theorem insT_len10 (ts : List Tok) : (insT ts).length ≤ (encs (insT ts)).length := encs_ge10 _
theorem dec_len10 {s : ByteArray} {cs : List Nat} (h : dec (bs s) = some cs) : cs.length ≤ s.size := by
  have h1 := (dec_some h).2
  have h2 := encs_ge10 cs
  rw [← h1, bs_length] at h2
  exact h2
theorem put10_c {X : List Sp} (gX : Good X) {A : Option Addr} {q c : Nat} (w : World) (hX : RdO w A q c X) :
    Calls Tryd.prog 31 #[.slice A q c] w fun e w' => e = .returned (.int .i64 (((insT (tok X)).length : Nat) : Int)) ∧ Ext w w' := by
  have H := Lib.hid hX.2; have HL := Lib.hid hX.1; have HG := Lib.hid gX
  have hq : q ≤ 300 := by have := gX.len; have := hX.1; omega
  clear hX gX
  go_enter Tryd.func31, Tryd.ntmps31
  go_wp2_with fail
  go_loopw [3, 4] (fun n z wr => ∃ j m : Nat, j ≤ q ∧ z = .int .i64 j ∧ n = .int .i64 m ∧ m = (insT (tok (X.take j))).length ∧ Ext w wr) (fun _ z _ => q - (intOf z).toNat)
  case atStart => exact ⟨0, 0, by omega, rfl, rfl, rfl, Ext.refl _⟩
  case round =>
    obtain ⟨j, m, hj, rfl, rfl, hm, hxr⟩ := hrel
    by_cases hlt : j < q
    · have hjl : j < X.length := by have := HL.out; omega
      obtain ⟨b, off, rfl, hb, q0, q1, q2⟩ := sp_at (H.out.ext hxr) HL.out hlt
      have dn : decide (j < q) = true := by rw [decide_eq_true_eq]; exact hlt
      have i0 : (0 : Int) ≤ (j : Int) := by omega
      have i1 : (j : Int) < (q : Int) := by omega
      have hmb : m ≤ 100000 := by
        have h1 := insT_len10 (tok (X.take j))
        have h2 := insT_sum (X.take j) (fun s hs => HG.out.ok s (List.mem_of_mem_take hs))
        have h3 : sumT (X.take j) ≤ sumT X := by
          have := sumT_append (X.take j) (X.drop j)
          rw [List.take_append_drop] at this; omega
        have := HG.out.txt
        omega
      have hst := tok_take X j hjl
      have hmn : (insT (tok (X.take (j + 1)))).length = m + (insT (tokS X[j])).length := by rw [hst, insT_append, List.length_append, hm]
      have ok := HG.out.ok _ (List.getElem_mem hjl)
      have ht := HG.out.size _ (List.getElem_mem hjl)
      obtain ⟨sp, hsp⟩ : ∃ sp, X[j] = sp := ⟨_, rfl⟩
      rw [hsp] at q0 q1 q2 hmn ok ht
      clear hsp hst hm
      obtain ⟨a1, a2, a3⟩ := sp
      simp only at q0 q1 q2 ht
      unfold OkW at ok
      simp only at ok
      rcases ok with ⟨k1, n1, us, hu⟩ | ⟨k1, n1, t1e⟩
      · subst k1
        rw [tokS_text _ _ hu, insT_text10] at hmn
        have hcn := count_c a3
        rw [cntF_some hu] at hcn
        have HC := Lib.hid (fun w' => hcn w' ht)
        have HMN := Lib.hid hmn
        have hul : us.length ≤ 1000000000 := by have := dec_len10 hu; omega
        clear hmn hcn hu
        generalize us.length = U at *
        go_wp2_with fail
        refine (HC.out _).mono ?_; rintro e w1 ⟨rfl, hx1⟩
        go_wp2_with fail
        go_roundw
        case rel => exact ⟨j + 1, m + U, by omega, by go_num, by go_num, HMN.out.symm, hxr.trans hx1⟩
        case measure => simp [intOf]; omega
      · have e0 : insT (tokS (a1, a2, a3)) = [] := by
          rw [tokS_num _ _ _ (by omega)]
          rcases k1 with k1 | k1
          · rw [if_neg (by omega)]; exact insT_keeps10 _
          · rw [if_pos k1]; exact insT_dels10 _
        rw [e0] at hmn
        have HMN := Lib.hid hmn
        have hk : (a1 == 2) = false := by rw [beq_eq_false_iff_ne]; omega
        clear hmn e0
        go_wp2_with fail
        go_roundw
        case rel => exact ⟨j + 1, m, by omega, by go_num, rfl, HMN.out.symm, hxr⟩
        case measure => simp [intOf]; omega
    · obtain rfl : j = q := by omega
      have hall : X.take j = X := by rw [← HL.out]; exact List.take_length
      have dn : decide (j < j) = false := by rw [decide_eq_false_iff_not]; omega
      rw [hall] at hm
      have HM := Lib.hid hm
      clear hm hall
      go_wp2_with fail
      go_ret
      rw [HM.out]
      exact ⟨rfl, hxr⟩
/-- Rows of operations that were just made. -/
theorem rdSS_made {w : World} (cur : Array Value) (T : TypeId) {n : Nat} {ls : List (List Sp)} (hc : cur.size = n) (hl : ls.length = n) (hn : n ≤ 1000)
    (hvs : ∀ (i : Nat) (l : List Sp), ls[i]? = some l → ∃ a k, cur.toList[i]? = some (.slice a l.length k) ∧ Rd w 3 (.slice a l.length k) l.length (spCells l)) : RdSS (w.alloc (.cells cur T)) (some ⟨w.heap.size, 0, none⟩) n n ls := by
  refine ⟨hl, cur.toList, (Own.made w w.heap.size T 1 n cur (Nat.le_refl _) (by omega) (by omega)).rd, fun i l h => ?_⟩
  obtain ⟨a, k, g1, g2⟩ := hvs i l h
  exact ⟨a, k, g1, g2.ext ((Ext.refl w).alloc _)⟩
theorem rdSS1 {w : World} {a : Option Addr} {n c : Nat} {X : List Sp} (T : TypeId) (h : RdO w a n c X) : RdSS (w.alloc (.cells #[.slice a n c] T)) (some ⟨w.heap.size, 0, none⟩) 1 1 [X] := by
  obtain ⟨rfl, h⟩ := h
  refine rdSS_made _ T rfl rfl (by omega) fun i l hl => ?_
  match i, hl with
  | 0, hl => injection hl with hl; subst hl; exact ⟨a, c, rfl, h⟩
  | i + 1, hl => simp at hl
theorem rdSS2 {w : World} {a b : Option Addr} {n c k d : Nat} {X Y : List Sp} (T : TypeId) (h : RdO w a n c X) (h' : RdO w b k d Y) : RdSS (w.alloc (.cells #[.slice a n c, .slice b k d] T)) (some ⟨w.heap.size, 0, none⟩) 2 2 [X, Y] := by
  obtain ⟨rfl, h⟩ := h
  obtain ⟨rfl, h'⟩ := h'
  refine rdSS_made _ T rfl rfl (by omega) fun i l hl => ?_
  match i, hl with
  | 0, hl => injection hl with hl; subst hl; exact ⟨a, c, rfl, h⟩
  | 1, hl => injection hl with hl; subst hl; exact ⟨b, d, rfl, h'⟩
  | i + 2, hl => simp at hl
theorem rdSS4 {w : World} {a b a' b' : Option Addr} {n c k d n' c' k' d' : Nat} {X Y X' Y' : List Sp} (T : TypeId) (h : RdO w a n c X) (h' : RdO w b k d Y) (g : RdO w a' n' c' X') (g' : RdO w b' k' d' Y') : RdSS (w.alloc (.cells #[.slice a n c, .slice b k d, .slice a' n' c', .slice b' k' d'] T)) (some ⟨w.heap.size, 0, none⟩) 4 4 [X, Y, X', Y'] := by
  obtain ⟨rfl, h⟩ := h
  obtain ⟨rfl, h'⟩ := h'
  obtain ⟨rfl, g⟩ := g
  obtain ⟨rfl, g'⟩ := g'
  refine rdSS_made _ T rfl rfl (by omega) fun i l hl => ?_
  match i, hl with
  | 0, hl => injection hl with hl; subst hl; exact ⟨a, c, rfl, h⟩
  | 1, hl => injection hl with hl; subst hl; exact ⟨b, d, rfl, h'⟩
  | 2, hl => injection hl with hl; subst hl; exact ⟨a', c', rfl, g⟩
  | 3, hl => injection hl with hl; subst hl; exact ⟨b', d', rfl, g'⟩
  | i + 4, hl => simp at hl
/-- What Of and Chain answer of a chain. -/
theorem small_chain (ls : List (List Sp)) (m : Int) (hl : ls.length ≤ 20) : Small (chainL ls m) := by
  obtain ⟨h1, h2⟩ := chainL_lenS ls m
  exact ⟨by omega, by omega, by rw [chainL_len]; omega⟩
theorem fuseG {ls : List (List Sp)} {m k : Int} (hS : Small ls) (ht : Thru m ls k) (hm : m ≤ 1048576) {w w' : World} [Tab w] (hx : Ext w w') {A : Option Addr} {n c : Nat} (hX : RdSS w' A n c ls) :
    Calls Tryd.prog 20 #[.int .i64 m, .slice A n c] w' (TellsE w' (spT (fR m ls))) := by
  have hTb := tab_ext hx
  obtain ⟨e1, e2, e3⟩ := thru_chainE ht hm
  refine (of10_c A n c ls m w' hX hS).mono ?_
  rintro e w'' ⟨hx, A', n', c', rfl, hr⟩
  rw [e1, if_pos rfl, e3] at hr
  rw [e1]
  exact ⟨hx, A', n', c', rfl, hr⟩
theorem chainG {ls : List (List Sp)} {m k : Int} (hS : Small ls) (ht : Thru m ls k) (hm : m ≤ 1048576) {w w' : World} [Tab w] (hx : Ext w w') {A : Option Addr} {n c : Nat} (hX : RdSS w' A n c ls) :
    Calls Tryd.prog 23 #[.int .i64 m, .slice A n c] w' fun e w'' => e = .returned (.tuple #[.int .i64 k, .int .i64 0]) ∧ Ext w' w'' := by
  have hTb := tab_ext hx
  obtain ⟨e1, e2, e3⟩ := thru_chainE ht hm
  have h := chain10_c A n c ls m w' hX hS.each hS.txt (by have := hX.1; have := hS.num; omega)
  rw [e1, e2] at h
  exact h
def ex10a : List Sp := [(2, 0, ⟨#[97]⟩), (1, 1, ⟨#[]⟩)]
def ex10b : List Sp := [(3, 1, ⟨#[]⟩), (1, 1, ⟨#[]⟩)]
theorem ex10_e : chainE 1 [ex10a, ex10b] = 0 := by decide +kernel
theorem ex10_l : fuseL 1 [ex10a, ex10b] = [(1, 1, ⟨#[]⟩)] := by decide +kernel
theorem ex10_s : Small [ex10a, ex10b] := ⟨by decide, by decide, by decide⟩
theorem shown10_c (w : World) [Tab w] : Calls Tryd.prog 19 #[] w fun e w' => e = .returned (.bool true) ∧ Ext w w' := by
  have HO : Hid (∀ (A : Option Addr) (n c : Nat) w', Ext w w' → RdSS w' A n c [ex10a, ex10b] → _) := Lib.hid fun A n c w' hx hr => have hTb := tab_ext hx; of10_c A n c _ 1 w' hr ex10_s
  have HC : Hid (∀ w', Ext w w' → Calls Tryd.prog 23 #[.int .i64 3, .slice none 0 0] w' fun e w'' => e = .returned (.tuple #[.int .i64 3, .int .i64 0]) ∧ Ext w' w'') := Lib.hid fun w' hx => chainG (ls := []) (m := 3) (k := 3) ⟨by decide, by decide, by decide⟩ ⟨rfl, by omega⟩ (by omega) hx (RdSS.nil w')
  have HE := Lib.hid ex10_e; have HL := Lib.hid ex10_l
  have HCALL : Hid (∀ B, w.heap.size = B → Calls Tryd.prog 20 #[.int .i64 1, .slice (some ⟨B + 2, 0, none⟩) 2 2] (((w.alloc (.cells #[.int .i64 2, .int .i64 0, .string ⟨#[97]⟩, .int .i64 1, .int .i64 1, .string ⟨#[]⟩] 60)).alloc (.cells #[.int .i64 3, .int .i64 1, .string ⟨#[]⟩, .int .i64 1, .int .i64 1, .string ⟨#[]⟩] 60)).alloc (.cells #[.slice (some ⟨B, 0, none⟩) 2 2, .slice (some ⟨B + 1, 0, none⟩) 2 2] 22)) (OpR (((w.alloc (.cells #[.int .i64 2, .int .i64 0, .string ⟨#[97]⟩, .int .i64 1, .int .i64 1, .string ⟨#[]⟩] 60)).alloc (.cells #[.int .i64 3, .int .i64 1, .string ⟨#[]⟩, .int .i64 1, .int .i64 1, .string ⟨#[]⟩] 60)).alloc (.cells #[.slice (some ⟨B, 0, none⟩) 2 2, .slice (some ⟨B + 1, 0, none⟩) 2 2] 22)) (chainE 1 [ex10a, ex10b]) (fuseL 1 [ex10a, ex10b]))) := Lib.hid fun B hB => by
    have s1 : (w.alloc (.cells #[.int .i64 2, .int .i64 0, .string ⟨#[97]⟩, .int .i64 1, .int .i64 1, .string ⟨#[]⟩] 60)).heap.size = B + 1 := by rw [size_alloc, hB]
    have s2 : ((w.alloc (.cells #[.int .i64 2, .int .i64 0, .string ⟨#[97]⟩, .int .i64 1, .int .i64 1, .string ⟨#[]⟩] 60)).alloc (.cells #[.int .i64 3, .int .i64 1, .string ⟨#[]⟩, .int .i64 1, .int .i64 1, .string ⟨#[]⟩] 60)).heap.size = B + 2 := by rw [size_alloc, s1]
    have r1 : RdO ((w.alloc (.cells #[.int .i64 2, .int .i64 0, .string ⟨#[97]⟩, .int .i64 1, .int .i64 1, .string ⟨#[]⟩] 60)).alloc (.cells #[.int .i64 3, .int .i64 1, .string ⟨#[]⟩, .int .i64 1, .int .i64 1, .string ⟨#[]⟩] 60)) (some ⟨B, 0, none⟩) 2 2 ex10a := ⟨rfl, rd_made6 hB ((Ext.refl _).alloc (.cells #[.int .i64 3, .int .i64 1, .string ⟨#[]⟩, .int .i64 1, .int .i64 1, .string ⟨#[]⟩] 60))⟩
    have r2 : RdO ((w.alloc (.cells #[.int .i64 2, .int .i64 0, .string ⟨#[97]⟩, .int .i64 1, .int .i64 1, .string ⟨#[]⟩] 60)).alloc (.cells #[.int .i64 3, .int .i64 1, .string ⟨#[]⟩, .int .i64 1, .int .i64 1, .string ⟨#[]⟩] 60)) (some ⟨B + 1, 0, none⟩) 2 2 ex10b := ⟨rfl, rd_made6 s1 (Ext.refl _)⟩
    have r3 := rdSS2 22 r1 r2
    rw [s2] at r3
    exact HO.out _ _ _ _ ((((Ext.refl w).alloc _).alloc _).alloc _) r3
  have HX : Hid (∀ B, Ext w (((w.alloc (.cells #[.int .i64 2, .int .i64 0, .string ⟨#[97]⟩, .int .i64 1, .int .i64 1, .string ⟨#[]⟩] 60)).alloc (.cells #[.int .i64 3, .int .i64 1, .string ⟨#[]⟩, .int .i64 1, .int .i64 1, .string ⟨#[]⟩] 60)).alloc (.cells #[.slice (some ⟨B, 0, none⟩) 2 2, .slice (some ⟨B + 1, 0, none⟩) 2 2] 22))) := Lib.hid fun B => (((Ext.refl w).alloc _).alloc _).alloc _
  obtain ⟨B, hB⟩ : ∃ B, w.heap.size = B := ⟨_, rfl⟩
  have HC1 := Lib.hid (HCALL.out B hB)
  rw [HE.out, HL.out] at HC1
  have HX1 := Lib.hid (HX.out B)
  clear HCALL HX HO
  go_enter Tryd.func19, Tryd.ntmps19
  go_wp2_with fail
  rw [hB] at *
  refine HC1.out.mono ?_; rintro e w1 ⟨hx1, a1, n1, c1, rfl, r1⟩
  rw [if_pos rfl] at r1
  obtain ⟨hl1, r1⟩ := r1
  obtain rfl : 1 = n1 := hl1
  obtain ⟨b, off, rfl, hb, q0, q1, q2⟩ := sp_at r1 rfl (i := 0) (by omega)
  have p0 : w1.cell? ⟨b, off, none⟩ = some (.int .i64 1) := q0
  have p1 : w1.cell? ⟨b, off + 1, none⟩ = some (.int .i64 1) := q1
  have p2 : w1.cell? ⟨b, off + 2, none⟩ = some (.string ⟨#[]⟩) := q2
  have E1 := HX1.out.trans hx1
  clear r1 q0 q1 q2
  go_wp2_with fail
  refine (HC.out _ E1).mono ?_; rintro e w2 ⟨rfl, hx2⟩
  have z0 := ext_cell hx2 p0; have z1 := ext_cell hx2 p1; have z2 := ext_cell hx2 p2
  have E2 := E1.trans hx2
  go_wp2_with fail
  go_ret
  exact ⟨rfl, E2⟩
end Go.Proofs.YtcelgdoaohkgnaaDoor
