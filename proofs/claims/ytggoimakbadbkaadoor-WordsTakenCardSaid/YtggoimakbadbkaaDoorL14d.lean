/- Layer 14, WordsTaken. -/
import Derived.Test.YtggoimakbadbkaaDoorL14b
namespace Go.Proofs.YtggoimakbadbkaaDoor
open Go.RowKit
set_option maxRecDepth 100000
set_option maxHeartbeats 4000000
theorem wordsTaken_c (A1 : Option Addr) (q1 c1 : Nat) (zs : List Int) (w : World) [Tab w] (h1 : IsInts .u8 w A1 q1 c1 zs) :
    Calls Tryd.prog 5 #[.slice A1 q1 c1] w fun e w' => e = .returned (.bool true) ∧ Below w.heap.size w w' := by
  obtain ⟨M, bl, hM, hbl, hbr, hfo⟩ := fewOf_in h1
  have hM2 : M ≤ 1000 := by omega
  have hMc : M ≤ c1 := by obtain ⟨_, _, hv, hc⟩ := hbr.len; injection hv with _ _ e; omega
  have HFO := Lib.hid hfo
  have RB := Lib.hid hbr
  obtain ⟨⟨E, L, K⟩, hT⟩ : ∃ r, takeW bl = r := ⟨_, rfl⟩
  have HT1 : Hid (∀ w', Ext w w' → Rd w' 1 (.slice A1 M c1) M (Lib.byteCells bl) → Calls Tryd.prog 15 #[.slice A1 M c1] w' (TakeR w' (E, L, K))) := Lib.hid fun w' hx hr => have hTb := tab_ext hx; by
    have h := takeWP_c A1 M c1 bl w' hr hM2
    rw [hT] at h; exact h
  have hLl := takeW_len14 hT
  by_cases h0 : E = 0
  · subst h0
    obtain ⟨b1, b2, b3, b4, b5, b6, b7⟩ := takeW_some hT
    have hE : wordE L = 0 := by unfold wordE; rw [if_pos b3, if_pos (is_norm L b2)]
    have hB : wordB L = bl.take K := by unfold wordB; rw [if_pos hE, b5]
    have HP : Hid (∀ A n c w', Ext w w' → RdO w' A n c L → Calls Tryd.prog 11 #[.slice A n c] w' fun e w'' => Ext w' w'' ∧ ∃ v, e = .returned (.tuple #[v, .int .i64 0]) ∧ Own w'' w'.heap.size 5 1 v (bl.take K).length (Lib.byteCells (bl.take K))) := Lib.hid fun A n c w' hx hr => by
      have hTb := tab_ext hx
      have h := wordPut_c A n c L w' hr (by have := hr.1; omega) fun s hs => (b1 s hs).txt
      unfold WordR at h
      rw [hE, hB] at h
      exact h
    have HIS : Hid (∀ A n c w', RdO w' A n c L → Calls Tryd.prog 19 #[.slice A n c] w' fun e w'' => e = .returned (.bool true) ∧ Ext w' w'') := Lib.hid fun A n c w' hr => by
      refine (is5_c A n c L w' hr.2 hr.1 (by have := hr.1; omega)).mono ?_
      rintro e w'' ⟨b, rfl, hx, hb⟩
      rw [hb.2 b2]
      exact ⟨rfl, hx⟩
    have hKM : K ≤ M := by omega
    have k0 : (0 : Int) ≤ (K : Int) := by omega
    have k1 : (K : Int) ≤ (c1 : Int) := by omega
    have k2 : (1 : Int) ≤ (K : Int) := by omega
    have k3 : (K : Int) ≤ (M : Int) := by omega
    clear hfo hbr hM hbl h1 hT hLl b1 b2 b3 b4 b5 b6 b7 hE hB
    go_enter Tryd.func5, Tryd.ntmps5
    go_wp2_with fail
    refine (shown14_c _).mono ?_; rintro e w1 ⟨rfl, hx1⟩
    have e1 : Ext w w1 := hx1
    replace RB := Lib.hid (RB.out.ext hx1)
    clear hx1
    go_wp2_with fail
    refine (HFO.out _).mono ?_; rintro e w2 ⟨rfl, hx2⟩
    have e2 : Ext w w2 := e1.trans hx2
    replace RB := Lib.hid (RB.out.ext hx2)
    clear hx2
    go_wp2_with fail
    refine (HT1.out _ e2 RB.out).mono ?_; rintro e w3 ⟨hx3, aL, nL, cL, rfl, rL⟩
    have e3 : Ext w w3 := e2.trans hx3
    replace RB := Lib.hid (RB.out.ext hx3)
    have RL := Lib.hid rL
    clear hx3 rL
    go_wp2_with fail
    refine (HP.out _ _ _ _ e3 RL.out).mono ?_; rintro e w4 ⟨hx4, vP, rfl, oP⟩
    have e4 : Ext w w4 := e3.trans hx4
    replace RB := Lib.hid (RB.out.ext hx4)
    replace RL := Lib.hid (RL.out.ext hx4)
    have SP := Lib.hid oP.rd
    clear hx4 oP
    have q1 : ∀ W, Ext w4 W → (convert 23 9 vP).run Tryd.prog W = .ok (.string (mkS (bl.take K))) W := fun W hx => str_run14 W (SP.out.ext hx)
    have q2 : ∀ W, Ext w4 W → (convert 23 9 (.slice A1 K c1)).run Tryd.prog W = .ok (.string (mkS (bl.take K))) W := fun W hx => str_run14 W ((bytes_front RB.out hKM).ext hx)
    generalize mkS (bl.take K) = B1 at *
    go_wp2_with fail
    have hrr := Ext.refl w4
    go_region_held3 (fun W => Ext w4 W ∧ True)
      ((go_split_ands; refine ⟨?_, ?_⟩ <;> first | (exact True.intro) | (exact Ext.drew ‹_›) | (exact Ext.trans ‹_› hxk) | (exact ext_cell hxk ‹_›) | go_keep))
      (first
      | (go_at_call 19; go_split_ands; refine (HIS.out _ _ _ _ (RL.out.ext ‹Ext w4 _›)).mono ?_; rintro e wI ⟨rfl, hxk⟩))
    go_split_ands
    have hx5 : Ext w4 wI := by first | assumption | exact Ext.trans ‹Ext w4 _› hxk
    have e5 : Ext w wI := e4.trans hx5
    replace RB := Lib.hid (RB.out.ext hx5)
    replace RL := Lib.hid (RL.out.ext hx5)
    replace SP := Lib.hid (SP.out.ext hx5)
    go_wp2_with fail
    go_ret
    exact ⟨rfl, e5⟩
  · have h2 := takeW_err bl
    rw [hT] at h2
    simp only at h2
    obtain ⟨h3, rfl, rfl⟩ : (E = 7 ∨ E = 8) ∧ L = [] ∧ K = 0 := by
      rcases h2 with h2 | h2
      · exact absurd h2 h0
      · exact h2
    clear hfo hbr hM hbl h1 hT hLl h2 h0
    rcases h3 with rfl | rfl
    all_goals
      go_enter Tryd.func5, Tryd.ntmps5
      go_wp2_with fail
      refine (shown14_c _).mono ?_; rintro e w1 ⟨rfl, hx1⟩
      have e1 : Ext w w1 := hx1
      replace RB := Lib.hid (RB.out.ext hx1)
      clear hx1
      go_wp2_with fail
      refine (HFO.out _).mono ?_; rintro e w2 ⟨rfl, hx2⟩
      have e2 : Ext w w2 := e1.trans hx2
      replace RB := Lib.hid (RB.out.ext hx2)
      clear hx2
      go_wp2_with fail
      refine (HT1.out _ e2 RB.out).mono ?_; rintro e w3 ⟨hx3, aL, nL, cL, rfl, rL⟩
      have e3 : Ext w w3 := e2.trans hx3
      replace RB := Lib.hid (RB.out.ext hx3)
      have RL := Lib.hid rL
      clear hx3 rL
      obtain ⟨hll, hrl⟩ := RL.out
      simp only [List.length_nil] at hll
      subst hll
      go_wp2_with fail
      go_ret
      exact ⟨rfl, e3⟩
end Go.Proofs.YtggoimakbadbkaaDoor
