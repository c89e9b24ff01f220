/- Layer 12, the statements' own functions: few, shown; what under tells of small operations. -/
import Derived.Test.YtmhkglkpkpkpoaaDoorNu
import Derived.Test.YtmhkglkpkpkpoaaDoorC12
import Derived.Test.YtmhkglkpkpkpoaaDoorP12
import Derived.Test.YtmhkglkpkpkpoaaDoorL11a
import Derived.Test.YtmhkglkpkpkpoaaDoorG9
import Derived.Test.YtmhkglkpkpkpoaaDoorFr
import Derived.Test.YtmhkglkpkpkpoaaDoorC5
import Derived.Test.YtmhkglkpkpkpoaaDoorL6b
namespace Go.Proofs.YtmhkglkpkpkpoaaDoor
open Go.RowKit
set_option maxRecDepth 100000
set_option maxHeartbeats 4000000
def cut60g (s : ByteArray) : ByteArray := s.extract 0 (min s.size 60)
theorem cut60g_size (s : ByteArray) : (cut60g s).size ≤ 60 := by simp [cut60g]; omega
def fewL12 (l : List Sp) : List Sp := (l.take 20).map fun s => (s.1, s.2.1, cut60g s.2.2)
theorem fewL12_take (l : List Sp) (j : Nat) (h : j < l.length) (h20 : j < 20) : fewL12 (l.take (j + 1)) = fewL12 (l.take j) ++ [(l[j].1, l[j].2.1, cut60g l[j].2.2)] := by
  unfold fewL12
  have e1 : (l.take (j + 1)).take 20 = l.take (j + 1) := List.take_of_length_le (by rw [List.length_take]; omega)
  have e2 : (l.take j).take 20 = l.take j := List.take_of_length_le (by rw [List.length_take]; omega)
  rw [e1, e2, List.take_add_one, List.getElem?_eq_getElem h, List.map_append]
  rfl
theorem fewL12_size (l : List Sp) : ∀ s ∈ fewL12 l, s.2.2.size ≤ 60 := by
  intro s hs
  obtain ⟨x, _, rfl⟩ := List.mem_map.1 hs
  exact cut60g_size _
theorem fewL12_len (l : List Sp) : (fewL12 l).length = min 20 l.length := by simp [fewL12]
theorem few12_c (A : Option Addr) (q c : Nat) (l : List Sp) (w : World) (h : Rd w 3 (.slice A q c) q (spCells l)) (hl : l.length = q) (hs : ∀ s ∈ l, s.2.2.size ≤ maxLen) :
    Calls Tryd.prog 13 #[.slice A q c] w fun e w' => ∃ v, e = .returned v ∧ Ext w w' ∧ Own w' w.heap.size 47 3 v (fewL12 l).length (spCells (fewL12 l)) := by
  obtain ⟨i, hi, hz0, hz1, hz2⟩ := info_parts info_sp5
  have H := Lib.hid h; have HL := Lib.hid hl; have HS := Lib.hid hs
  have hrel0 : Own (w.alloc (.cells #[] 47)) w.heap.size 47 3 (.slice (some ⟨w.heap.size, 0, none⟩) 0 0) 0 (spCells []) ∧ Below w.heap.size w (w.alloc (.cells #[] 47)) :=
    ⟨Own.made w w.heap.size 47 3 0 #[] (Nat.le_refl _) (by omega) rfl, (Below.refl _ _).alloc (Nat.le_refl _) _⟩
  have HR0 := Lib.hid hrel0
  clear h hl hs hrel0
  go_enter Tryd.func13, Tryd.ntmps13
  go_wp2_with fail
  go_loopw [3, 4] (fun o z wr => ∃ j : Nat, j ≤ q ∧ j ≤ 20 ∧ z = .int .i64 j ∧ Own wr w.heap.size 47 3 o j (spCells (fewL12 (l.take j))) ∧ Below w.heap.size w wr) (fun _ z _ => 20 - (intOf z).toNat)
  case atStart => exact ⟨0, by omega, by omega, rfl, HR0.out.1, HR0.out.2⟩
  case round =>
    obtain ⟨j, hj, hj20, rfl, hown, hbel⟩ := hrel
    by_cases hlt : j < q ∧ j < 20
    · have hjl : j < l.length := by have := HL.out; omega
      obtain ⟨b, off, rfl, hb, q0, q1, q2⟩ := sp_at (H.out.ext hbel) HL.out hlt.1
      have dn : decide (j < q) = true := by rw [decide_eq_true_eq]; exact hlt.1
      have d20 : decide ((j : Int) < 20) = true := by rw [decide_eq_true_eq]; omega
      have i0 : (0 : Int) ≤ (j : Int) := by omega
      have i1 : (j : Int) < (q : Int) := by omega
      have hsz : l[j].2.2.size ≤ maxLen := HS.out _ (List.getElem_mem hjl)
      have hst := fewL12_take l j hjl hlt.2
      obtain ⟨R1, hR1⟩ : ∃ R1, fewL12 (l.take (j + 1)) = R1 := ⟨_, rfl⟩
      rw [hR1] at hst
      generalize fewL12 (l.take j) = xs at *
      generalize l[j].1 = a1 at *
      generalize l[j].2.1 = a2 at *
      generalize l[j].2.2 = a3 at *
      unfold maxLen at hsz
      have hm : (min (a3.size : Int) 60).toNat = min a3.size 60 := by omega
      have HST := Lib.hid hst; have HR1 := Lib.hid hR1; have HM := Lib.hid hm
      clear hst hR1 hm
      have hX : a3.extract 0 (min (a3.size : Int) 60).toNat = cut60g a3 := by rw [HM.out]; rfl
      have hbx := hbel.alloc hown.2 (.cells #[.int .i64 a1, .int .i64 a2, .string (a3.extract 0 (min (a3.size : Int) 60).toNat)] 47)
      have hox := hown.alloc (.cells #[.int .i64 a1, .int .i64 a2, .string (a3.extract 0 (min (a3.size : Int) 60).toNat)] 47)
      obtain ⟨v', w', happ, hown', hbel'⟩ := app_new (P := Tryd.prog) 22 22 47 i _ 3 32 Tryd.underlying22 hi hz0 hz1 hz2 rfl (by omega) (by omega)
        hbx hox (by omega) 1 #[.int .i64 a1, .int .i64 a2, .string (a3.extract 0 (min (a3.size : Int) 60).toNat)] rfl (by omega) (by simp [Value.oneCell']) 47
      rw [size_alloc] at happ
      have HAP := Lib.hid happ
      have hown2 : Own w' w.heap.size 47 3 v' (j + 1) (spCells R1) := by rw [HST.out, spCells_append, ← hX]; exact hown'
      clear happ hX hbx hox hown'
      go_wp2_with (at_builtin; refine wpList_append_run rfl rfl HAP.out rfl rfl ?_)
      go_roundw
      case rel => exact ⟨j + 1, by omega, by omega, by go_num, by rw [HR1.out]; exact hown2, hbel'⟩
      case measure => simp [intOf]; omega
    · have hall : l.take j = l.take 20 := by
        rcases (by omega : j = 20 ∨ j = q) with e | e
        · rw [e]
        · have e2 := HL.out
          rw [List.take_of_length_le (by omega), List.take_of_length_le (by omega)]
      have hcase : (decide (j < q) = false) ∨ (decide (j < q) = true ∧ decide ((j : Int) < 20) = false) := by
        by_cases e : j < q
        · exact .inr ⟨by rw [decide_eq_true_eq]; exact e, by rw [decide_eq_false_iff_not]; omega⟩
        · exact .inl (by rw [decide_eq_false_iff_not]; exact e)
      have hfl : fewL12 (l.take j) = fewL12 l := by rw [hall]; unfold fewL12; rw [List.take_take]; rfl
      have hlen : (fewL12 l).length = j := by rw [← hfl, fewL12_len]; have := HL.out; simp; omega
      rw [hfl] at hown
      have HLN := Lib.hid hlen
      clear hall hfl hlen hlt
      rcases hcase with d1 | ⟨d1, d2⟩
      all_goals
        go_wp2_with fail
        go_ret
        refine ⟨_, rfl, hbel, ?_⟩
        rw [HLN.out]
        exact hown
theorem few12G (A : Option Addr) (q c : Nat) (l : List Sp) {w w' : World} (h : Rd w 3 (.slice A q c) q (spCells l)) (hl : l.length = q) (hs : ∀ s ∈ l, s.2.2.size ≤ maxLen) (hx : Ext w w') :
    Calls Tryd.prog 13 #[.slice A q c] w' (TellsL w' (fewL12 l)) := by
  refine (few12_c A q c l w' (h.ext hx) hl hs).mono ?_
  rintro e w'' ⟨v, rfl, hx, ho⟩
  obtain ⟨A, n, c, rfl, hr⟩ := rdO_own ho
  exact ⟨hx, A, n, c, rfl, hr⟩
theorem good_under {X Y : List Sp} (gX : Good X) (gY : Good Y) (hf : inL X = inL Y) (hl : X.length + Y.length ≤ 300) (hb : outL Y ≤ 100000) :
    Good (underL X Y) ∧ tok (underL X Y) = underT (tok X) (tok Y) ∧ isN (underL X Y) ∧ inL (underL X Y) = outL Y ∧ (underL X Y).length ≤ X.length + Y.length ∧ sumT (underL X Y) ≤ sumT X := by
  obtain ⟨h1, h2, h3, h4, h5, h6⟩ := underL_all X Y gX.ok gY.ok hf
  have e1 := norm_len X
  have e2 := norm_len Y
  have e3 := gX.txt
  exact ⟨⟨h1, by omega, by omega, by omega⟩, h2, h3, h4, by omega, h6⟩
def TellsM (w : World) (L K : List Sp) (e : Ending) (w' : World) : Prop := Ext w w' ∧ ∃ A n c B m d, e = .returned (.tuple #[.slice A n c, .slice B m d, .int .i64 0]) ∧ RdO w' A n c L ∧ RdO w' B m d K
theorem underG {X Y : List Sp} (gX : Good X) (gY : Good Y) (hf : inL X = inL Y) {w w' : World} [Tab w] (hx : Ext w w') {A B : Option Addr} {n c k d : Nat} (hX : RdO w' A n c X) (hY : RdO w' B k d Y) :
    Calls Tryd.prog 11 #[.slice A n c, .slice B k d] w' (TellsE w' (underL X Y)) := by
  have hTb := tab_ext hx
  have hE : overE X Y = 0 := by unfold overE; rw [if_pos gX.may, if_pos gY.may, if_pos hf]
  have h1 := hX.1; have h2 := hY.1; have h3 := gX.len; have h4 := gY.len; have h5 := gX.txt; have h6 := gY.txt
  refine (underP_c A n c X B k d Y w' hX hY (by omega) (by omega) gX.size gY.size (by omega)).mono ?_
  rintro e w'' ⟨hx, A', n', c', rfl, hr⟩
  rw [hE, if_pos rfl] at hr
  rw [hE]
  exact ⟨hx, A', n', c', rfl, hr⟩
theorem meetG {X Y : List Sp} (gX : Good X) (gY : Good Y) (hf : inL X = inL Y) {w w' : World} [Tab w] (hx : Ext w w') {A B : Option Addr} {n c k d : Nat} (hX : RdO w' A n c X) (hY : RdO w' B k d Y) :
    Calls Tryd.prog 14 #[.slice A n c, .slice B k d] w' (TellsM w' (overL X Y) (underL Y X)) := by
  have hTb := tab_ext hx
  have hE : overE X Y = 0 := by unfold overE; rw [if_pos gX.may, if_pos gY.may, if_pos hf]
  have h1 := hX.1; have h2 := hY.1; have h3 := gX.len; have h4 := gY.len; have h5 := gX.txt; have h6 := gY.txt
  refine (meetP_c A n c X B k d Y w' hX hY (by omega) (by omega) gX.size gY.size (by omega)).mono ?_
  rintro e w'' ⟨hx, A', n', c', B', m', d', rfl, hr, hs⟩
  rw [hE, if_pos rfl] at hr hs
  rw [hE]
  exact ⟨hx, A', n', c', B', m', d', rfl, hr, hs⟩
theorem underRG {X Y : List Sp} (gX : Good X) (gY : Good Y) (hf : inL X = inL Y) {w' : World} {A B : Option Addr} {n c k d : Nat} (hX : RdO w' A n c X) (hY : RdO w' B k d Y) :
    Calls Tryd.prog 12 #[.slice A n c, .slice B k d] w' (TellsE w' (underL X Y)) := by
  have hE : overE X Y = 0 := by unfold overE; rw [if_pos gX.may, if_pos gY.may, if_pos hf]
  have h1 := hX.1; have h2 := hY.1; have h3 := gX.len; have h4 := gY.len; have h5 := gX.txt; have h6 := gY.txt
  refine (underR_c A n c X B k d Y w' hX hY (by omega) (by omega) gX.size gY.size (by omega)).mono ?_
  rintro e w'' ⟨hx, A', n', c', rfl, hr⟩
  rw [hE, if_pos rfl] at hr
  rw [hE]
  exact ⟨hx, A', n', c', rfl, hr⟩
def ex12s : List Sp := [(1, 1, ⟨#[]⟩), (2, 0, ⟨#[120]⟩), (1, 2, ⟨#[]⟩)]
def ex12a : List Sp := [(1, 1, ⟨#[]⟩), (2, 0, ⟨#[121]⟩), (3, 1, ⟨#[]⟩), (1, 1, ⟨#[]⟩)]
theorem ex12s_g : Good ex12s := ⟨fun s hs => okW_of_may ((by decide +kernel : ∀ s ∈ ex12s, mayS s.1 s.2.1 s.2.2 = 0) s hs), by decide +kernel, by decide +kernel, by decide +kernel⟩
theorem ex12a_g : Good ex12a := ⟨fun s hs => okW_of_may ((by decide +kernel : ∀ s ∈ ex12a, mayS s.1 s.2.1 s.2.2 = 0) s hs), by decide +kernel, by decide +kernel, by decide +kernel⟩
theorem ex12_e : underL ex12s ex12a = ex12s := by decide +kernel
theorem rdO_made (w : World) (cur : Array Value) (T : TypeId) {n : Nat} {l : List Sp} (hl : l.length = n) (hc : cur.toList = spCells l) (hs : cur.size = n * 3) (hn : n ≤ 1000) : RdO (w.alloc (.cells cur T)) (some ⟨w.heap.size, 0, none⟩) n n l :=
  ⟨hl, by rw [← hc]; exact (Own.made w w.heap.size T 3 n cur (Nat.le_refl _) (by omega) hs).rd⟩
theorem shown12_c (w : World) [Tab w] : Calls Tryd.prog 9 #[] w fun e w' => e = .returned (.bool true) ∧ Ext w w' := by
  have g0 := Lib.hid ex12s_g; have g1 := Lib.hid ex12a_g
  have f1 : Hid (inL ex12s = inL ex12a) := Lib.hid (by decide +kernel)
  have hs := Lib.hid ex12_e
  have hl1 : Hid ((underL ex12s ex12a).length ≤ 300) := Lib.hid (by rw [ex12_e]; decide)
  have R0 := Lib.hid ((rdO_made w #[.int .i64 1, .int .i64 1, .string ⟨#[]⟩, .int .i64 2, .int .i64 0, .string ⟨#[120]⟩, .int .i64 1, .int .i64 2, .string ⟨#[]⟩] 47 (n := 3) (l := ex12s) rfl rfl rfl (by decide)).ext ((Ext.refl _).alloc (.cells #[.int .i64 1, .int .i64 1, .string ⟨#[]⟩, .int .i64 2, .int .i64 0, .string ⟨#[121]⟩, .int .i64 3, .int .i64 1, .string ⟨#[]⟩, .int .i64 1, .int .i64 1, .string ⟨#[]⟩] 47)))
  have R1 := Lib.hid (rdO_made (w.alloc (.cells #[.int .i64 1, .int .i64 1, .string ⟨#[]⟩, .int .i64 2, .int .i64 0, .string ⟨#[120]⟩, .int .i64 1, .int .i64 2, .string ⟨#[]⟩] 47)) #[.int .i64 1, .int .i64 1, .string ⟨#[]⟩, .int .i64 2, .int .i64 0, .string ⟨#[121]⟩, .int .i64 3, .int .i64 1, .string ⟨#[]⟩, .int .i64 1, .int .i64 1, .string ⟨#[]⟩] 47 (n := 4) (l := ex12a) rfl rfl rfl (by decide))
  have e0 := ((Ext.refl w).alloc (.cells #[.int .i64 1, .int .i64 1, .string ⟨#[]⟩, .int .i64 2, .int .i64 0, .string ⟨#[120]⟩, .int .i64 1, .int .i64 2, .string ⟨#[]⟩] 47)).alloc (.cells #[.int .i64 1, .int .i64 1, .string ⟨#[]⟩, .int .i64 2, .int .i64 0, .string ⟨#[121]⟩, .int .i64 3, .int .i64 1, .string ⟨#[]⟩, .int .i64 1, .int .i64 1, .string ⟨#[]⟩] 47)
  rw [size_alloc] at R1
  go_enter Tryd.func9, Tryd.ntmps9
  go_wp2_with fail
  refine (underG g0.out g1.out f1.out e0 R0.out R1.out).mono ?_; rintro e w1 ⟨hx1, aA, nA, cA, rfl, rA⟩
  have e1 : Ext w w1 := e0.trans hx1
  replace R0 := Lib.hid (R0.out.ext hx1)
  replace R1 := Lib.hid (R1.out.ext hx1)
  have RA := Lib.hid rA
  clear hx1 rA
  go_wp2_with fail
  refine (sameTrueG hs.out hl1.out RA.out R0.out).mono ?_; rintro e w2 ⟨rfl, hx2⟩
  have e2 : Ext w w2 := e1.trans hx2
  replace R0 := Lib.hid (R0.out.ext hx2)
  replace R1 := Lib.hid (R1.out.ext hx2)
  replace RA := Lib.hid (RA.out.ext hx2)
  clear hx2
  go_wp2_with fail
  go_ret
  exact ⟨rfl, e2⟩
end Go.Proofs.YtmhkglkpkpkpoaaDoor
