/- Layer 4, the program: In, Out, May, Keep (over the copy). -/
import Derived.Test.YtejgkhmpmnjgaaaDoorC4
import Derived.Test.YtejgkhmpmnjgaaaDoorP3
namespace Go.Proofs.YtejgkhmpmnjgaaaDoor
open Go.RowKit
set_option maxRecDepth 100000
set_option maxHeartbeats 1000000
/-- What a span takes, by its method. -/
theorem partIn_c (k n : Int) (t : ByteArray) (w : World) [Tab w] :
    Calls Tryd.prog 65 #[spanV k n t] w fun e w' => e = .returned (.int .i64 (inS k n)) ∧ Ext w w' := by
  have HX : Hid (∀ o, Ext w (w.alloc o)) := Lib.hid fun o => (Ext.refl w).alloc o
  have HC := Lib.hid (fun (w' : World) [Tab w'] => in_c k n t w')
  unfold spanV at HC
  generalize inS k n = y at *
  unfold spanV
  go_enter Tryd.func65, Tryd.ntmps65
  go_wp2_with fail
  refine (HC.out _).mono ?_; rintro e w1 ⟨rfl, hx1⟩
  go_wp2_with fail
  go_ret
  exact ⟨rfl, (HX.out _).trans hx1⟩
theorem sumIn_c (A : Option Addr) (n c : Nat) (l : List Sp) (w : World) [Tab w] (h : Rd w 3 (.slice A n c) n (spCells l)) (hl : l.length = n) (hn : n ≤ 1000) :
    Calls Tryd.prog 64 #[.slice A n c, .func (.func 65) #[] #[]] w fun e w' => e = .returned (.int .i64 (wrap64 (inL l))) ∧ Ext w w' := by
  have H := Lib.hid h; have HL := Lib.hid hl
  clear h hl
  go_enter Tryd.func64, Tryd.ntmps64
  go_wp2_with fail
  go_loopw [5, 10] (fun z q wr => ∃ j : Nat, j ≤ n ∧ q = .int .i64 j ∧ z = .int .i64 (wrap64 (inL (l.take j))) ∧ Ext w wr) (fun _ q _ => n - (intOf q).toNat)
  case atStart => exact ⟨0, by omega, rfl, by rw [inL_nil], Ext.refl _⟩
  case round =>
    obtain ⟨j, hj, rfl, rfl, hxr⟩ := hrel
    have htr := tab_ext hxr
    by_cases hlt : j < n
    · have hjl : j < l.length := by have := HL.out; omega
      obtain ⟨b, off, rfl, hb, q0, q1, q2⟩ := sp_at (H.out.ext hxr) HL.out hlt
      have dn : decide (j < n) = true := by rw [decide_eq_true_eq]; exact hlt
      have hst : wrap64 (wrap64 (inL (l.take j)) + inS l[j].1 l[j].2.1) = wrap64 (inL (l.take (j + 1))) := by rw [wrap_step, inL_take l j hjl]
      have HIN := Lib.hid (fun (w' : World) [Tab w'] => partIn_c l[j].1 l[j].2.1 l[j].2.2 w')
      unfold spanV at HIN
      have HST := Lib.hid hst
      have HX : Hid (∀ o, Ext wr (wr.alloc o)) := Lib.hid fun o => (Ext.refl wr).alloc o
      clear hst
      generalize inS l[j].1 l[j].2.1 = y at *
      generalize wrap64 (inL (l.take j)) = x at *
      generalize l[j].1 = a1 at *
      generalize l[j].2.1 = a2 at *
      generalize l[j].2.2 = a3 at *
      go_wp2_with fail
      refine (HIN.out _).mono ?_; rintro e w1 ⟨rfl, hx1⟩
      go_wp2_with fail
      go_roundw
      case rel => exact ⟨j + 1, by omega, by go_num, by rw [← HST.out], hxr.trans ((HX.out _).trans hx1)⟩
      case measure => simp [intOf]; omega
    · obtain rfl : j = n := by omega
      clear hlt hj
      have hall : l.take j = l := by rw [← HL.out]; exact List.take_length
      rw [hall]
      go_wp2_with fail
      go_ret
      exact ⟨rfl, hxr⟩
theorem in4_c (A : Option Addr) (n c : Nat) (l : List Sp) (w : World) [Tab w] (h : Rd w 3 (.slice A n c) n (spCells l)) (hl : l.length = n) (hn : n ≤ 1000) :
    Calls Tryd.prog 51 #[.slice A n c] w fun e w' => e = .returned (.int .i64 (wrap64 (inL l))) ∧ Ext w w' := by
  have HC : Hid (Calls Tryd.prog 64 #[.slice A n c, .func (.func 65) #[] #[]] w fun e w' => e = .returned (.int .i64 (wrap64 (inL l))) ∧ Ext w w') := Lib.hid (sumIn_c A n c l w h hl hn)
  generalize wrap64 (inL l) = y at *
  clear h hl
  go_enter Tryd.func51, Tryd.ntmps51
  go_wp2_with fail
  refine HC.out.mono ?_; rintro e w1 ⟨rfl, hx1⟩
  go_wp2_with fail
  go_ret
  exact ⟨rfl, hx1⟩
/-- What a span gives, by its method. -/
theorem partOut_c (k n : Int) (t : ByteArray) (w : World) [Tab w] (ht : t.size ≤ 1000000000) :
    Calls Tryd.prog 69 #[spanV k n t] w fun e w' => e = .returned (.int .i64 (outS k n t)) ∧ Ext w w' := by
  have HX : Hid (∀ o, Ext w (w.alloc o)) := Lib.hid fun o => (Ext.refl w).alloc o
  have HC := Lib.hid (fun (w' : World) [Tab w'] => out_c k n t w' ht)
  unfold spanV at HC
  generalize outS k n t = y at *
  unfold spanV
  go_enter Tryd.func69, Tryd.ntmps69
  go_wp2_with fail
  refine (HC.out _).mono ?_; rintro e w1 ⟨rfl, hx1⟩
  go_wp2_with fail
  go_ret
  exact ⟨rfl, (HX.out _).trans hx1⟩
theorem sumOut_c (A : Option Addr) (n c : Nat) (l : List Sp) (w : World) [Tab w] (h : Rd w 3 (.slice A n c) n (spCells l)) (hl : l.length = n) (hn : n ≤ 1000) (hs : ∀ s ∈ l, s.2.2.size ≤ 1000000000) :
    Calls Tryd.prog 64 #[.slice A n c, .func (.func 69) #[] #[]] w fun e w' => e = .returned (.int .i64 (wrap64 (outL l))) ∧ Ext w w' := by
  have H := Lib.hid h; have HL := Lib.hid hl; have HS := Lib.hid hs
  clear h hl hs
  go_enter Tryd.func64, Tryd.ntmps64
  go_wp2_with fail
  go_loopw [5, 10] (fun z q wr => ∃ j : Nat, j ≤ n ∧ q = .int .i64 j ∧ z = .int .i64 (wrap64 (outL (l.take j))) ∧ Ext w wr) (fun _ q _ => n - (intOf q).toNat)
  case atStart => exact ⟨0, by omega, rfl, by rw [outL_nil], Ext.refl _⟩
  case round =>
    obtain ⟨j, hj, rfl, rfl, hxr⟩ := hrel
    have htr := tab_ext hxr
    by_cases hlt : j < n
    · have hjl : j < l.length := by have := HL.out; omega
      obtain ⟨b, off, rfl, hb, q0, q1, q2⟩ := sp_at (H.out.ext hxr) HL.out hlt
      have dn : decide (j < n) = true := by rw [decide_eq_true_eq]; exact hlt
      have hst : wrap64 (wrap64 (outL (l.take j)) + outS l[j].1 l[j].2.1 l[j].2.2) = wrap64 (outL (l.take (j + 1))) := by rw [wrap_step, outL_take l j hjl]
      have HIN := Lib.hid (fun (w' : World) [Tab w'] => partOut_c l[j].1 l[j].2.1 l[j].2.2 w' (HS.out _ (List.getElem_mem hjl)))
      unfold spanV at HIN
      have HST := Lib.hid hst
      have HX : Hid (∀ o, Ext wr (wr.alloc o)) := Lib.hid fun o => (Ext.refl wr).alloc o
      clear hst
      generalize outS l[j].1 l[j].2.1 l[j].2.2 = y at *
      generalize wrap64 (outL (l.take j)) = x at *
      generalize l[j].1 = a1 at *
      generalize l[j].2.1 = a2 at *
      generalize l[j].2.2 = a3 at *
      go_wp2_with fail
      refine (HIN.out _).mono ?_; rintro e w1 ⟨rfl, hx1⟩
      go_wp2_with fail
      go_roundw
      case rel => exact ⟨j + 1, by omega, by go_num, by rw [← HST.out], hxr.trans ((HX.out _).trans hx1)⟩
      case measure => simp [intOf]; omega
    · obtain rfl : j = n := by omega
      clear hlt hj
      have hall : l.take j = l := by rw [← HL.out]; exact List.take_length
      rw [hall]
      go_wp2_with fail
      go_ret
      exact ⟨rfl, hxr⟩
theorem out4_c (A : Option Addr) (n c : Nat) (l : List Sp) (w : World) [Tab w] (h : Rd w 3 (.slice A n c) n (spCells l)) (hl : l.length = n) (hn : n ≤ 1000) (hs : ∀ s ∈ l, s.2.2.size ≤ 1000000000) :
    Calls Tryd.prog 59 #[.slice A n c] w fun e w' => e = .returned (.int .i64 (wrap64 (outL l))) ∧ Ext w w' := by
  have HC : Hid (Calls Tryd.prog 64 #[.slice A n c, .func (.func 69) #[] #[]] w fun e w' => e = .returned (.int .i64 (wrap64 (outL l))) ∧ Ext w w') := Lib.hid (sumOut_c A n c l w h hl hn hs)
  generalize wrap64 (outL l) = y at *
  clear h hl hs
  go_enter Tryd.func59, Tryd.ntmps59
  go_wp2_with fail
  refine HC.out.mono ?_; rintro e w1 ⟨rfl, hx1⟩
  go_wp2_with fail
  go_ret
  exact ⟨rfl, hx1⟩
theorem may4_c (A : Option Addr) (n c : Nat) (l : List Sp) (w : World) [Tab w] (h : Rd w 3 (.slice A n c) n (spCells l)) (hl : l.length = n) (hn : n ≤ 1000) (hs : ∀ s ∈ l, s.2.2.size ≤ 1000000000) :
    Calls Tryd.prog 50 #[.slice A n c] w fun e w' => e = .returned (.int .i64 (mayL l)) ∧ Ext w w' := by
  have HI4 : Hid (∀ w', Ext w w' → Calls Tryd.prog 51 #[.slice A n c] w' fun e w'' => e = .returned (.int .i64 (wrap64 (inL l))) ∧ Ext w' w'') := Lib.hid fun w' hx => have hTb := tab_ext hx; in4_c A n c l w' (h.ext hx) hl hn
  have H := Lib.hid h; have HL := Lib.hid hl; have HS := Lib.hid hs
  clear h hl hs
  go_enter Tryd.func50, Tryd.ntmps50
  go_wp2_with fail
  go_loopw [8] (fun q wr => ∃ j : Nat, j ≤ n ∧ q = .int .i64 j ∧ (∀ s ∈ l.take j, mayS s.1 s.2.1 s.2.2 = 0) ∧ Ext w wr) (fun q _ => n - (intOf q).toNat)
  case atStart => exact ⟨0, by omega, rfl, by simp, Ext.refl _⟩
  case round =>
    obtain ⟨j, hj, rfl, hz, hxr⟩ := hrel
    have htr := tab_ext hxr
    have HZ := Lib.hid hz
    clear hz
    by_cases hlt : j < n
    · have hjl : j < l.length := by have := HL.out; omega
      obtain ⟨b, off, rfl, hb, q0, q1, q2⟩ := sp_at (H.out.ext hxr) HL.out hlt
      have HX : Hid (∀ o, Ext wr (wr.alloc o)) := Lib.hid fun o => (Ext.refl wr).alloc o
      have dn : decide (j < n) = true := by rw [decide_eq_true_eq]; exact hlt
      have HM := Lib.hid (fun (w' : World) [Tab w'] => may_c l[j].1 l[j].2.1 l[j].2.2 w' (HS.out _ (List.getElem_mem hjl)))
      unfold spanV at HM
      by_cases hy : mayS l[j].1 l[j].2.1 l[j].2.2 = 0
      · have HZ1 : Hid (∀ s ∈ l.take (j + 1), mayS s.1 s.2.1 s.2.2 = 0) := Lib.hid (by
          intro s hs
          rw [List.take_add_one, List.getElem?_eq_getElem hjl] at hs
          rcases List.mem_append.1 hs with hs | hs
          · exact HZ.out s hs
          · simp at hs; subst hs; exact hy)
        rw [hy] at HM
        clear hy
        generalize l[j].1 = a1 at *
        generalize l[j].2.1 = a2 at *
        generalize l[j].2.2 = a3 at *
        go_wp2_with fail
        refine (HM.out _).mono ?_; rintro e w1 ⟨rfl, hx1⟩; have ht1 := tab_ext hx1
        go_wp2_with fail
        go_roundw
        case rel => exact ⟨j + 1, by omega, by go_num, HZ1.out, hxr.trans ((HX.out _).trans hx1)⟩
        case measure => simp [intOf]; omega
      · have HE := Lib.hid (show mayL l = mayS l[j].1 l[j].2.1 l[j].2.2 by unfold mayL; rw [errL_first l j hjl HZ.out hy, if_neg hy])
        have hb1 : (mayS l[j].1 l[j].2.1 l[j].2.2 != 0) = true := by rw [bne_iff_ne]; exact hy
        clear hy
        generalize mayS l[j].1 l[j].2.1 l[j].2.2 = y at *
        generalize l[j].1 = a1 at *
        generalize l[j].2.1 = a2 at *
        generalize l[j].2.2 = a3 at *
        go_wp2_with fail
        refine (HM.out _).mono ?_; rintro e w1 ⟨rfl, hx1⟩; have ht1 := tab_ext hx1
        go_wp2_with fail
        go_ret
        rw [HE.out]
        exact ⟨rfl, hxr.trans ((HX.out _).trans hx1)⟩
    · obtain rfl : j = n := by omega
      clear hlt hj
      have h0 : errL l = 0 := errL_all l (by have h := HZ.out; rw [← HL.out, List.take_length] at h; exact h)
      have HE := Lib.hid (show mayL l = if 1048576 < wrap64 (inL l) then 4 else 0 by unfold mayL; rw [if_pos h0])
      clear h0
      generalize wrap64 (inL l) = x at *
      by_cases hx : 1048576 < x
      · rw [if_pos hx] at HE
        go_wp2_with fail
        refine (HI4.out _ hxr).mono ?_; rintro e w1 ⟨rfl, hx1⟩; have ht1 := tab_ext hx1
        go_wp2_with fail
        go_ret
        rw [HE.out]
        exact ⟨rfl, hxr.trans hx1⟩
      · rw [if_neg hx] at HE
        have hx' : x ≤ 1048576 := by omega
        go_wp2_with fail
        refine (HI4.out _ hxr).mono ?_; rintro e w1 ⟨rfl, hx1⟩; have ht1 := tab_ext hx1
        go_wp2_with fail
        go_ret
        rw [HE.out]
        exact ⟨rfl, hxr.trans hx1⟩
end Go.Proofs.YtejgkhmpmnjgaaaDoor
