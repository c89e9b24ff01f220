/- Layer 4, OpAll. -/
import Derived.Test.YthfkchpbbjpenaaDoorL4a
import Derived.Test.YthfkchpbbjpenaaDoorC4c
namespace Go.Proofs.YthfkchpbbjpenaaDoor
open Go.RowKit
set_option maxRecDepth 100000
set_option maxHeartbeats 1000000
/-- What Keep tells of any number. -/
def keepE (n : Int) : List Sp × Int := if n < 0 ∨ 1048576 < n then ([], 2) else (keepL n, 0)
theorem keepE_len (n : Int) : (keepE n).1.length ≤ 1 := by
  unfold keepE keepL; split
  · simp
  · split <;> simp
theorem KeepR.any {w w' : World} {n : Int} {e : Ending} (h : KeepR w n e w') : ∃ A c, e = .returned (.tuple #[.slice A (keepE n).1.length c, .int .i64 (keepE n).2]) ∧ Ext w w' ∧ Rd w' 3 (.slice A (keepE n).1.length c) (keepE n).1.length (spCells (keepE n).1) := by
  obtain ⟨hx, ⟨h, rfl⟩ | ⟨h0, h1, v, rfl, hr⟩⟩ := h
  · have e : keepE n = ([], 2) := by unfold keepE; rw [if_pos h]
    rw [e]
    exact ⟨none, 0, rfl, hx, Rd.nil _ _⟩
  · have e : keepE n = (keepL n, 0) := by unfold keepE; rw [if_neg (by omega)]
    rw [e]
    obtain ⟨A, c, rfl, _⟩ := hr.len
    exact ⟨A, c, rfl, hx, hr⟩
theorem opAll_c (A : Option Addr) (q c : Nat) (l : List Sp) (n : Int) (w : World) [Tab w] (h : Rd w 3 (.slice A q c) q (spCells l)) (hl : l.length = q) (hs : ∀ s ∈ l, s.2.2.size ≤ maxLen) (_hn : (Lit.int .i64 n).wf = true) :
    Calls Tryd.prog 3 #[.slice A q c, .int .i64 n] w fun e w' => e = .returned (.bool true) ∧ Below w.heap.size w w' := by
  have HF : Hid (∀ w', Ext w w' → _) := Lib.hid fun w' hx => few4_c A q c l w' (h.ext hx) hl hs
  have hfs := fewL4_size l
  have hfl := fewL4_len l
  have hts : ∀ s ∈ fewL4 l, s.2.2.size ≤ 1000000000 := fun s hs => by have := hfs s hs; omega
  have HK := Lib.hid (fun w' => (keep4_c n w').mono (fun e w'' h => h.any))
  have HKR := Lib.hid (fun w' => (keepR4_c n w').mono (fun e w'' h => h.any))
  have hkl := keepE_len n
  have hlen : (fewL4 l).length ≤ 20 := by omega
  have HM : Hid (∀ A' k c' w' [Tab w'], (fewL4 l).length = k → Rd w' 3 (.slice A' k c') k (spCells (fewL4 l)) → Calls Tryd.prog 11 #[.slice A' k c'] w' fun e w'' => e = .returned (.int .i64 (mayL (fewL4 l))) ∧ Ext w' w'') := Lib.hid fun A' k c' w' _ hk hr => may4_c A' k c' _ w' hr hk (by omega) hts
  have HMR : Hid (∀ A' k c' w', (fewL4 l).length = k → Rd w' 3 (.slice A' k c') k (spCells (fewL4 l)) → Calls Tryd.prog 12 #[.slice A' k c'] w' fun e w'' => e = .returned (.int .i64 (mayL (fewL4 l))) ∧ Ext w' w'') := Lib.hid fun A' k c' w' hk hr => mayR4_c A' k c' _ w' hr hk (by omega) hts
  have HI : Hid (∀ A' k c' w' [Tab w'], (fewL4 l).length = k → Rd w' 3 (.slice A' k c') k (spCells (fewL4 l)) → Calls Tryd.prog 13 #[.slice A' k c'] w' fun e w'' => e = .returned (.int .i64 (wrap64 (inL (fewL4 l)))) ∧ Ext w' w'') := Lib.hid fun A' k c' w' _ hk hr => in4_c A' k c' _ w' hr hk (by omega)
  have HIR : Hid (∀ A' k c' w', (fewL4 l).length = k → Rd w' 3 (.slice A' k c') k (spCells (fewL4 l)) → Calls Tryd.prog 14 #[.slice A' k c'] w' fun e w'' => e = .returned (.int .i64 (wrap64 (inL (fewL4 l)))) ∧ Ext w' w'') := Lib.hid fun A' k c' w' hk hr => inR4_c A' k c' _ w' hr hk (by omega)
  have HO : Hid (∀ A' k c' w' [Tab w'], (fewL4 l).length = k → Rd w' 3 (.slice A' k c') k (spCells (fewL4 l)) → Calls Tryd.prog 15 #[.slice A' k c'] w' fun e w'' => e = .returned (.int .i64 (wrap64 (outL (fewL4 l)))) ∧ Ext w' w'') := Lib.hid fun A' k c' w' _ hk hr => out4_c A' k c' _ w' hr hk (by omega) hts
  have HOR : Hid (∀ A' k c' w', (fewL4 l).length = k → Rd w' 3 (.slice A' k c') k (spCells (fewL4 l)) → Calls Tryd.prog 16 #[.slice A' k c'] w' fun e w'' => e = .returned (.int .i64 (wrap64 (outL (fewL4 l)))) ∧ Ext w' w'') := Lib.hid fun A' k c' w' hk hr => outR4_c A' k c' _ w' hr hk (by omega) hts
  have HS : Hid (∀ A' B' k c' d' w', (keepE n).1.length = k → Rd w' 3 (.slice A' k c') k (spCells (keepE n).1) → Rd w' 3 (.slice B' k d') k (spCells (keepE n).1) → Calls Tryd.prog 17 #[.slice A' k c', .slice B' k d'] w' fun e w'' => e = .returned (.bool true) ∧ Ext w' w'') :=
    Lib.hid fun A' B' k c' d' w' hk h1 h2 => sameR4_c A' B' k c' d' _ w' h1 h2 hk (by omega)
  clear h hl hs hfs hts hfl hlen hkl
  generalize mayL (fewL4 l) = ym at *
  generalize wrap64 (inL (fewL4 l)) = yi at *
  generalize wrap64 (outL (fewL4 l)) = yo at *
  generalize fewL4 l = fl at *
  generalize (keepE n).2 = ye at *
  generalize (keepE n).1 = kl at *
  go_enter Tryd.func3, Tryd.ntmps3
  go_wp2_with fail
  refine (shown4_c _).mono ?_; rintro e w1 ⟨rfl, hx1⟩; have ht1 := tab_ext hx1
  go_wp2_with fail
  refine (HF.out _ hx1).mono ?_; rintro e w2 ⟨v, rfl, hx2, hown⟩; have ht2 := tab_ext hx2
  obtain ⟨a2, c2, rfl, _⟩ := hown.len
  have HRD := Lib.hid hown.rd
  obtain ⟨k, hk⟩ : ∃ k, fl.length = k := ⟨_, rfl⟩
  rw [hk] at HRD ⊢
  have HKL := Lib.hid hk
  clear hown hk
  go_wp2_with fail
  refine (HK.out _).mono ?_; rintro e w3 ⟨a3, c3, rfl, hx3, hr3⟩; have ht3 := tab_ext hx3
  obtain ⟨k', hk'⟩ : ∃ k', kl.length = k' := ⟨_, rfl⟩
  rw [hk'] at hr3 ⊢
  have HR3 := Lib.hid hr3
  have HKL' := Lib.hid hk'
  clear hr3
  go_wp2_with fail
  refine (HKR.out _).mono ?_; rintro e w4 ⟨a4, c4, rfl, hx4, hr4⟩; have ht4 := tab_ext hx4
  rw [hk'] at hr4 ⊢
  have HR4 := Lib.hid hr4
  clear hr4 hk'
  have e24 : Ext w2 w4 := hx3.trans hx4
  go_wp2_with fail
  refine (HM.out _ _ _ _ HKL.out (HRD.out.ext e24)).mono ?_; rintro e w5 ⟨rfl, hx5⟩; have ht5 := tab_ext hx5
  have e25 := e24.trans hx5
  go_wp2_with fail
  refine (HMR.out _ _ _ _ HKL.out (HRD.out.ext e25)).mono ?_; rintro e w6 ⟨rfl, hx6⟩; have ht6 := tab_ext hx6
  have e26 := e25.trans hx6
  go_wp2_with fail
  refine (HI.out _ _ _ _ HKL.out (HRD.out.ext e26)).mono ?_; rintro e w7 ⟨rfl, hx7⟩; have ht7 := tab_ext hx7
  have e27 := e26.trans hx7
  go_wp2_with fail
  refine (HIR.out _ _ _ _ HKL.out (HRD.out.ext e27)).mono ?_; rintro e w8 ⟨rfl, hx8⟩; have ht8 := tab_ext hx8
  have e28 := e27.trans hx8
  go_wp2_with fail
  refine (HO.out _ _ _ _ HKL.out (HRD.out.ext e28)).mono ?_; rintro e w9 ⟨rfl, hx9⟩; have ht9 := tab_ext hx9
  have e29 := e28.trans hx9
  go_wp2_with fail
  refine (HOR.out _ _ _ _ HKL.out (HRD.out.ext e29)).mono ?_; rintro e wA ⟨rfl, hxA⟩; have htA := tab_ext hxA
  have e4A : Ext w4 wA := ((((hx5.trans hx6).trans hx7).trans hx8).trans hx9).trans hxA
  go_wp2_with fail
  refine (HS.out _ _ _ _ _ _ HKL'.out (HR3.out.ext (hx4.trans e4A)) (HR4.out.ext e4A)).mono ?_; rintro e wB ⟨rfl, hxB⟩; have htB := tab_ext hxB
  go_wp2_with fail
  go_ret
  exact ⟨rfl, ((hx1.trans hx2).trans (e29.trans hxA)).trans hxB⟩
end Go.Proofs.YthfkchpbbjpenaaDoor
