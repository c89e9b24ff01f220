/- Layer 16, ChainAlone. -/
import Derived.Test.YtejgkhmpmnjgaaaDoorL16b
namespace Go.Proofs.YtejgkhmpmnjgaaaDoor
open Go.RowKit
set_option maxRecDepth 100000
set_option maxHeartbeats 4000000
set_option linter.unusedSimpArgs false
theorem alone_sm {W : ByteArray} (hW : W.size ≤ 60) (l : List Int) (hl : l.length ≤ 2) : SmL W l [] := ⟨by omega, by omega, by simp, fun l h => (by cases h), by decide⟩
theorem encs_ge16 (cs : List Nat) : cs.length ≤ (encs cs).length := by
  induction cs with
  | nil => simp [encs]
  | cons a t ih =>
    have h : 0 < (enc1 a).length := by unfold enc1; split <;> (try split) <;> (try split) <;> simp
    simp only [encs, List.flatMap_cons, List.length_append, List.length_cons] at *
    omega
theorem alone_cnt {W : ByteArray} {cs : List Nat} (hd : dec (bs W) = some cs) (hW : W.size ≤ 60) : cs.length ≤ 60 := by
  have h1 := (dec_some hd).2
  have h2 : (bs W).length = W.size := bs_length W
  rw [h1] at h2
  have := encs_ge16 cs
  omega
theorem chainAlone_c (s : ByteArray) (r : Int) (w : World) [Tab w] (hs : s.size ≤ maxLen) (_hr : (Lit.int .i64 r).wf = true) :
    Calls Tryd.prog 7 #[.string s, .int .i64 r] w fun e w' => e = .returned (.bool true) ∧ Ext w w' := by
  have HSH := Lib.hid (fun w' (hx : Ext w w') => have hTb := tab_ext hx; shown16_c w')
  unfold maxLen at hs
  obtain ⟨TT, hT⟩ : ∃ T, T = min s.size 60 := ⟨_, rfl⟩
  have hm1 : min (s.size : Int) 60 = (TT : Int) := by omega
  have hm2 : (if (60 : Int) < (s.size : Int) then (60 : Int) else (s.size : Int)) = (TT : Int) := by split <;> omega
  have g1 : (0 : Int) ≤ (TT : Int) := by omega
  have g2 : (TT : Int) ≤ (s.size : Int) := by omega
  have hW : (s.extract 0 TT).size ≤ 60 := by simp; omega
  obtain ⟨W, hS⟩ : ∃ W, s.extract 0 TT = W := ⟨_, rfl⟩
  rw [hS] at hW
  clear hT
  by_cases hd : dec (bs W) = none
  · have hv : (dec (bs W)).isSome = false := by rw [hd]; rfl
    have h1 : logE W [r] [] = 3 := logE_3 hd
    have h2 : logE W [] [] = 3 := logE_3 hd
    have h3 : logE W [0, 1] [] = 3 := logE_3 hd
    have h4 : atL W [0] [] 0 = (⟨#[]⟩, 3) := by unfold atL; rw [logE_3 hd, if_pos (by decide)]
    clear hd
    have HM1 : Hid (∀ V, Ext w V → Calls Tryd.prog 15 #[.agg #[.string W, .slice (some ⟨V.heap.size, 0, none⟩) 1 1, .slice none 0 0]] (V.alloc (.cells #[.int .i64 r] 3)) fun e w' => e = .returned (.int .i64 3) ∧ Ext V w') := Lib.hid fun V hx => by
      have hTb := tab_ext (hx.alloc (.cells #[.int .i64 r] 3))
      have h := mayP16_c _ _ _ _ _ _ W [r] [] _ (rdN_made V [r] #[.int .i64 r] 3 (n := 1) rfl rfl (by decide)) (RdSS.nil _) (alone_sm hW [r] (by simp))
      rw [h1] at h
      exact h.mono fun e w' ⟨q1, q2⟩ => ⟨q1, ((Ext.refl V).alloc _).trans q2⟩
    have HM2 : Hid (∀ V, Ext w V → Calls Tryd.prog 15 #[.agg #[.string W, .slice none 0 0, .slice none 0 0]] V fun e w' => e = .returned (.int .i64 3) ∧ Ext V w') := Lib.hid fun V hx => by
      have hTb := tab_ext hx
      have h := mayP16_c none 0 0 _ _ _ W [] [] V (Rd.nil _ _) (RdSS.nil _) (alone_sm hW [] (by decide))
      rw [h2] at h; exact h
    have HM3 : Hid (∀ V, Ext w V → Calls Tryd.prog 15 #[.agg #[.string W, .slice (some ⟨V.heap.size, 0, none⟩) 2 2, .slice none 0 0]] (V.alloc (.cells #[.int .i64 0, .int .i64 1] 3)) fun e w' => e = .returned (.int .i64 3) ∧ Ext V w') := Lib.hid fun V hx => by
      have hTb := tab_ext (hx.alloc (.cells #[.int .i64 0, .int .i64 1] 3))
      have h := mayP16_c _ _ _ _ _ _ W [0, 1] [] _ (rdN_made V [0, 1] #[.int .i64 0, .int .i64 1] 3 (n := 2) rfl rfl (by decide)) (RdSS.nil _) (alone_sm hW [0, 1] (by decide))
      rw [h3] at h
      exact h.mono fun e w' ⟨q1, q2⟩ => ⟨q1, ((Ext.refl V).alloc _).trans q2⟩
    have HSI : Hid (∀ V, Ext w V → Calls Tryd.prog 13 #[.agg #[.string W, .slice none 0 0, .slice none 0 0]] V fun e w' => Ext V w' ∧ ∃ A c, e = .returned (.tuple #[.slice A 0 c, .int .i64 3])) := Lib.hid fun V hx => by
      have hTb := tab_ext hx
      have h := sizesP16_c none 0 0 _ _ _ W [] [] V (Rd.nil _ _) (RdSS.nil _) (alone_sm hW [] (by decide))
      unfold SizesR at h
      rw [h2, if_neg (by decide)] at h
      exact h.mono fun e w' ⟨q1, A, n, c, q2, q3⟩ => ⟨q1, A, c, by have := nV_len q3; simp only [List.length_nil] at this; rw [q2, ← this]⟩
    have HVA : Hid (∀ V, Ext w V → Calls Tryd.prog 21 #[.string W] V fun e w' => e = .returned (.bool false) ∧ Ext V w') := Lib.hid fun V _ => by
      have h := valid_c W V (by omega)
      rw [hv] at h; exact h
    have HA : Hid (∀ V, Ext w V → Calls Tryd.prog 11 #[.agg #[.string W, .slice (some ⟨V.heap.size, 0, none⟩) 1 1, .slice none 0 0], .int .i64 0] (V.alloc (.cells #[.int .i64 0] 3)) fun e w' => e = .returned (.tuple #[.string ⟨#[]⟩, .int .i64 3]) ∧ Ext V w') := Lib.hid fun V hx => by
      have hTb := tab_ext (hx.alloc (.cells #[.int .i64 0] 3))
      have h := atP16_c _ _ _ _ _ _ W [0] [] 0 _ (rdN_made V [0] #[.int .i64 0] 3 (n := 1) rfl rfl (by decide)) (RdSS.nil _) (alone_sm hW [0] (by decide))
      unfold atV at h
      rw [h4] at h
      exact h.mono fun e w' ⟨q1, q2⟩ => ⟨q1, ((Ext.refl V).alloc _).trans q2⟩
    clear h1 h2 h3 h4 hv
    rcases (by omega : r < 0 ∨ (¬ r < 0 ∧ 268435455 < r) ∨ (¬ r < 0 ∧ ¬ 268435455 < r)) with r1 | ⟨r1, r2⟩ | ⟨r1, r2⟩
    · have d1 : decide (r < 0) = true := by rw [decide_eq_true_eq]; exact r1
      go_enter Tryd.func7, Tryd.ntmps7
      go_wp2_with fail
      refine (HSH.out _ (Ext.refl _)).mono ?_; rintro e w1 ⟨rfl, hx1⟩
      have e1 : Ext w w1 := hx1
      clear hx1
      go_wp2_with fail
      refine (HM1.out _ e1).mono ?_; rintro e w2 ⟨rfl, hx2⟩
      have e2 : Ext w w2 := e1.trans hx2
      clear hx2
      go_wp2_with fail
      refine (HM2.out _ e2).mono ?_; rintro e w3 ⟨rfl, hx3⟩
      have e3 : Ext w w3 := e2.trans hx3
      clear hx3
      go_wp2_with fail
      refine (HM3.out _ e3).mono ?_; rintro e w4 ⟨rfl, hx4⟩
      have e4 : Ext w w4 := e3.trans hx4
      clear hx4
      go_wp2_with fail
      refine (HSI.out _ e4).mono ?_; rintro e w5 ⟨hx5, A9, c9, rfl⟩
      have e5 : Ext w w5 := e4.trans hx5
      clear hx5
      go_wp2_with fail
      refine (HVA.out _ e5).mono ?_; rintro e w6 ⟨rfl, hx6⟩
      have e6 : Ext w w6 := e5.trans hx6
      clear hx6
      go_wp2_with fail
      refine (HA.out _ e6).mono ?_; rintro e w7 ⟨rfl, hx7⟩
      have e7 : Ext w w7 := e6.trans hx7
      clear hx7
      go_wp2_with fail
      go_ret
      exact ⟨rfl, e7⟩
    · have d1 : decide (r < 0) = false := by rw [decide_eq_false_iff_not]; exact r1
      have d2 : decide ((268435455 : Int) < r) = true := by rw [decide_eq_true_eq]; exact r2
      go_enter Tryd.func7, Tryd.ntmps7
      go_wp2_with fail
      refine (HSH.out _ (Ext.refl _)).mono ?_; rintro e w1 ⟨rfl, hx1⟩
      have e1 : Ext w w1 := hx1
      clear hx1
      go_wp2_with fail
      refine (HM1.out _ e1).mono ?_; rintro e w2 ⟨rfl, hx2⟩
      have e2 : Ext w w2 := e1.trans hx2
      clear hx2
      go_wp2_with fail
      refine (HM2.out _ e2).mono ?_; rintro e w3 ⟨rfl, hx3⟩
      have e3 : Ext w w3 := e2.trans hx3
      clear hx3
      go_wp2_with fail
      refine (HM3.out _ e3).mono ?_; rintro e w4 ⟨rfl, hx4⟩
      have e4 : Ext w w4 := e3.trans hx4
      clear hx4
      go_wp2_with fail
      refine (HSI.out _ e4).mono ?_; rintro e w5 ⟨hx5, A9, c9, rfl⟩
      have e5 : Ext w w5 := e4.trans hx5
      clear hx5
      go_wp2_with fail
      refine (HVA.out _ e5).mono ?_; rintro e w6 ⟨rfl, hx6⟩
      have e6 : Ext w w6 := e5.trans hx6
      clear hx6
      go_wp2_with fail
      refine (HA.out _ e6).mono ?_; rintro e w7 ⟨rfl, hx7⟩
      have e7 : Ext w w7 := e6.trans hx7
      clear hx7
      go_wp2_with fail
      go_ret
      exact ⟨rfl, e7⟩
    · have d1 : decide (r < 0) = false := by rw [decide_eq_false_iff_not]; exact r1
      have d2 : decide ((268435455 : Int) < r) = false := by rw [decide_eq_false_iff_not]; exact r2
      go_enter Tryd.func7, Tryd.ntmps7
      go_wp2_with fail
      refine (HSH.out _ (Ext.refl _)).mono ?_; rintro e w1 ⟨rfl, hx1⟩
      have e1 : Ext w w1 := hx1
      clear hx1
      go_wp2_with fail
      refine (HM1.out _ e1).mono ?_; rintro e w2 ⟨rfl, hx2⟩
      have e2 : Ext w w2 := e1.trans hx2
      clear hx2
      go_wp2_with fail
      refine (HM2.out _ e2).mono ?_; rintro e w3 ⟨rfl, hx3⟩
      have e3 : Ext w w3 := e2.trans hx3
      clear hx3
      go_wp2_with fail
      refine (HM3.out _ e3).mono ?_; rintro e w4 ⟨rfl, hx4⟩
      have e4 : Ext w w4 := e3.trans hx4
      clear hx4
      go_wp2_with fail
      refine (HSI.out _ e4).mono ?_; rintro e w5 ⟨hx5, A9, c9, rfl⟩
      have e5 : Ext w w5 := e4.trans hx5
      clear hx5
      go_wp2_with fail
      refine (HVA.out _ e5).mono ?_; rintro e w6 ⟨rfl, hx6⟩
      have e6 : Ext w w6 := e5.trans hx6
      clear hx6
      go_wp2_with fail
      refine (HA.out _ e6).mono ?_; rintro e w7 ⟨rfl, hx7⟩
      have e7 : Ext w w7 := e6.trans hx7
      clear hx7
      go_wp2_with fail
      go_ret
      exact ⟨rfl, e7⟩
  · obtain ⟨cs, hcs⟩ := Option.ne_none_iff_exists'.1 hd
    have hv : (dec (bs W)).isSome = true := by rw [hcs]; rfl
    have hc6 := alone_cnt hcs hW
    have hcn : ¬ 1048576 < cntF (bs W) := by rw [cntF_some hcs]; omega
    have h2 : logE W [] [] = 6 := logE_6 hd hcn (by rintro ⟨⟨h, _⟩, _⟩; exact h rfl)
    have h3 : logE W [0, 1] [] = 6 := logE_6 hd hcn (by rintro ⟨_, h⟩; simp at h)
    have hr0 : rowOk [0] := by decide
    have h40 : logE W [0] [] = 0 := by rw [logE_s hd hcn ⟨hr0, rfl⟩]; rfl
    have h4 : atL W [0] [] 0 = (W, 0) := by unfold atL; rw [h40, if_neg (by decide), if_neg (by simp)]; rfl
    rcases (by omega : r < 0 ∨ (¬ r < 0 ∧ 268435455 < r) ∨ (¬ r < 0 ∧ ¬ 268435455 < r)) with r1 | ⟨r1, r2⟩ | ⟨r1, r2⟩
    · have d1 : decide (r < 0) = true := by rw [decide_eq_true_eq]; exact r1
      have h1 : logE W [r] [] = 6 := logE_6 hd hcn (by rintro ⟨⟨_, _, h, _⟩, _⟩; omega)
      clear hd hcs hc6 hcn hr0 h40
      have HM1 : Hid (∀ V, Ext w V → Calls Tryd.prog 15 #[.agg #[.string W, .slice (some ⟨V.heap.size, 0, none⟩) 1 1, .slice none 0 0]] (V.alloc (.cells #[.int .i64 r] 3)) fun e w' => e = .returned (.int .i64 6) ∧ Ext V w') := Lib.hid fun V hx => by
        have hTb := tab_ext (hx.alloc (.cells #[.int .i64 r] 3))
        have h := mayP16_c _ _ _ _ _ _ W [r] [] _ (rdN_made V [r] #[.int .i64 r] 3 (n := 1) rfl rfl (by decide)) (RdSS.nil _) (alone_sm hW [r] (by simp))
        rw [h1] at h
        exact h.mono fun e w' ⟨q1, q2⟩ => ⟨q1, ((Ext.refl V).alloc _).trans q2⟩
      have HM2 : Hid (∀ V, Ext w V → Calls Tryd.prog 15 #[.agg #[.string W, .slice none 0 0, .slice none 0 0]] V fun e w' => e = .returned (.int .i64 6) ∧ Ext V w') := Lib.hid fun V hx => by
        have hTb := tab_ext hx
        have h := mayP16_c none 0 0 _ _ _ W [] [] V (Rd.nil _ _) (RdSS.nil _) (alone_sm hW [] (by decide))
        rw [h2] at h; exact h
      have HM3 : Hid (∀ V, Ext w V → Calls Tryd.prog 15 #[.agg #[.string W, .slice (some ⟨V.heap.size, 0, none⟩) 2 2, .slice none 0 0]] (V.alloc (.cells #[.int .i64 0, .int .i64 1] 3)) fun e w' => e = .returned (.int .i64 6) ∧ Ext V w') := Lib.hid fun V hx => by
        have hTb := tab_ext (hx.alloc (.cells #[.int .i64 0, .int .i64 1] 3))
        have h := mayP16_c _ _ _ _ _ _ W [0, 1] [] _ (rdN_made V [0, 1] #[.int .i64 0, .int .i64 1] 3 (n := 2) rfl rfl (by decide)) (RdSS.nil _) (alone_sm hW [0, 1] (by decide))
        rw [h3] at h
        exact h.mono fun e w' ⟨q1, q2⟩ => ⟨q1, ((Ext.refl V).alloc _).trans q2⟩
      have HSI : Hid (∀ V, Ext w V → Calls Tryd.prog 13 #[.agg #[.string W, .slice none 0 0, .slice none 0 0]] V fun e w' => Ext V w' ∧ ∃ A c, e = .returned (.tuple #[.slice A 0 c, .int .i64 6])) := Lib.hid fun V hx => by
        have hTb := tab_ext hx
        have h := sizesP16_c none 0 0 _ _ _ W [] [] V (Rd.nil _ _) (RdSS.nil _) (alone_sm hW [] (by decide))
        unfold SizesR at h
        rw [h2, if_neg (by decide)] at h
        exact h.mono fun e w' ⟨q1, A, n, c, q2, q3⟩ => ⟨q1, A, c, by have := nV_len q3; simp only [List.length_nil] at this; rw [q2, ← this]⟩
      have HVA : Hid (∀ V, Ext w V → Calls Tryd.prog 21 #[.string W] V fun e w' => e = .returned (.bool true) ∧ Ext V w') := Lib.hid fun V _ => by
        have h := valid_c W V (by omega)
        rw [hv] at h; exact h
      have HA : Hid (∀ V, Ext w V → Calls Tryd.prog 11 #[.agg #[.string W, .slice (some ⟨V.heap.size, 0, none⟩) 1 1, .slice none 0 0], .int .i64 0] (V.alloc (.cells #[.int .i64 0] 3)) fun e w' => e = .returned (.tuple #[.string W, .int .i64 0]) ∧ Ext V w') := Lib.hid fun V hx => by
        have hTb := tab_ext (hx.alloc (.cells #[.int .i64 0] 3))
        have h := atP16_c _ _ _ _ _ _ W [0] [] 0 _ (rdN_made V [0] #[.int .i64 0] 3 (n := 1) rfl rfl (by decide)) (RdSS.nil _) (alone_sm hW [0] (by decide))
        unfold atV at h
        rw [h4] at h
        exact h.mono fun e w' ⟨q1, q2⟩ => ⟨q1, ((Ext.refl V).alloc _).trans q2⟩
      clear h1 h2 h3 h4 hv
      go_enter Tryd.func7, Tryd.ntmps7
      go_wp2_with fail
      refine (HSH.out _ (Ext.refl _)).mono ?_; rintro e w1 ⟨rfl, hx1⟩
      have e1 : Ext w w1 := hx1
      clear hx1
      go_wp2_with fail
      refine (HM1.out _ e1).mono ?_; rintro e w2 ⟨rfl, hx2⟩
      have e2 : Ext w w2 := e1.trans hx2
      clear hx2
      go_wp2_with fail
      refine (HM2.out _ e2).mono ?_; rintro e w3 ⟨rfl, hx3⟩
      have e3 : Ext w w3 := e2.trans hx3
      clear hx3
      go_wp2_with fail
      refine (HM3.out _ e3).mono ?_; rintro e w4 ⟨rfl, hx4⟩
      have e4 : Ext w w4 := e3.trans hx4
      clear hx4
      go_wp2_with fail
      refine (HSI.out _ e4).mono ?_; rintro e w5 ⟨hx5, A9, c9, rfl⟩
      have e5 : Ext w w5 := e4.trans hx5
      clear hx5
      go_wp2_with fail
      refine (HVA.out _ e5).mono ?_; rintro e w6 ⟨rfl, hx6⟩
      have e6 : Ext w w6 := e5.trans hx6
      clear hx6
      go_wp2_with fail
      refine (HA.out _ e6).mono ?_; rintro e w7 ⟨rfl, hx7⟩
      have e7 : Ext w w7 := e6.trans hx7
      clear hx7
      go_wp2_with fail
      go_ret
      exact ⟨rfl, e7⟩
    · have d1 : decide (r < 0) = false := by rw [decide_eq_false_iff_not]; exact r1
      have d2 : decide ((268435455 : Int) < r) = true := by rw [decide_eq_true_eq]; exact r2
      have h1 : logE W [r] [] = 6 := logE_6 hd hcn (by rintro ⟨⟨_, _, _, h, _⟩, _⟩; omega)
      clear hd hcs hc6 hcn hr0 h40
      have HM1 : Hid (∀ V, Ext w V → Calls Tryd.prog 15 #[.agg #[.string W, .slice (some ⟨V.heap.size, 0, none⟩) 1 1, .slice none 0 0]] (V.alloc (.cells #[.int .i64 r] 3)) fun e w' => e = .returned (.int .i64 6) ∧ Ext V w') := Lib.hid fun V hx => by
        have hTb := tab_ext (hx.alloc (.cells #[.int .i64 r] 3))
        have h := mayP16_c _ _ _ _ _ _ W [r] [] _ (rdN_made V [r] #[.int .i64 r] 3 (n := 1) rfl rfl (by decide)) (RdSS.nil _) (alone_sm hW [r] (by simp))
        rw [h1] at h
        exact h.mono fun e w' ⟨q1, q2⟩ => ⟨q1, ((Ext.refl V).alloc _).trans q2⟩
      have HM2 : Hid (∀ V, Ext w V → Calls Tryd.prog 15 #[.agg #[.string W, .slice none 0 0, .slice none 0 0]] V fun e w' => e = .returned (.int .i64 6) ∧ Ext V w') := Lib.hid fun V hx => by
        have hTb := tab_ext hx
        have h := mayP16_c none 0 0 _ _ _ W [] [] V (Rd.nil _ _) (RdSS.nil _) (alone_sm hW [] (by decide))
        rw [h2] at h; exact h
      have HM3 : Hid (∀ V, Ext w V → Calls Tryd.prog 15 #[.agg #[.string W, .slice (some ⟨V.heap.size, 0, none⟩) 2 2, .slice none 0 0]] (V.alloc (.cells #[.int .i64 0, .int .i64 1] 3)) fun e w' => e = .returned (.int .i64 6) ∧ Ext V w') := Lib.hid fun V hx => by
        have hTb := tab_ext (hx.alloc (.cells #[.int .i64 0, .int .i64 1] 3))
        have h := mayP16_c _ _ _ _ _ _ W [0, 1] [] _ (rdN_made V [0, 1] #[.int .i64 0, .int .i64 1] 3 (n := 2) rfl rfl (by decide)) (RdSS.nil _) (alone_sm hW [0, 1] (by decide))
        rw [h3] at h
        exact h.mono fun e w' ⟨q1, q2⟩ => ⟨q1, ((Ext.refl V).alloc _).trans q2⟩
      have HSI : Hid (∀ V, Ext w V → Calls Tryd.prog 13 #[.agg #[.string W, .slice none 0 0, .slice none 0 0]] V fun e w' => Ext V w' ∧ ∃ A c, e = .returned (.tuple #[.slice A 0 c, .int .i64 6])) := Lib.hid fun V hx => by
        have hTb := tab_ext hx
        have h := sizesP16_c none 0 0 _ _ _ W [] [] V (Rd.nil _ _) (RdSS.nil _) (alone_sm hW [] (by decide))
        unfold SizesR at h
        rw [h2, if_neg (by decide)] at h
        exact h.mono fun e w' ⟨q1, A, n, c, q2, q3⟩ => ⟨q1, A, c, by have := nV_len q3; simp only [List.length_nil] at this; rw [q2, ← this]⟩
      have HVA : Hid (∀ V, Ext w V → Calls Tryd.prog 21 #[.string W] V fun e w' => e = .returned (.bool true) ∧ Ext V w') := Lib.hid fun V _ => by
        have h := valid_c W V (by omega)
        rw [hv] at h; exact h
      have HA : Hid (∀ V, Ext w V → Calls Tryd.prog 11 #[.agg #[.string W, .slice (some ⟨V.heap.size, 0, none⟩) 1 1, .slice none 0 0], .int .i64 0] (V.alloc (.cells #[.int .i64 0] 3)) fun e w' => e = .returned (.tuple #[.string W, .int .i64 0]) ∧ Ext V w') := Lib.hid fun V hx => by
        have hTb := tab_ext (hx.alloc (.cells #[.int .i64 0] 3))
        have h := atP16_c _ _ _ _ _ _ W [0] [] 0 _ (rdN_made V [0] #[.int .i64 0] 3 (n := 1) rfl rfl (by decide)) (RdSS.nil _) (alone_sm hW [0] (by decide))
        unfold atV at h
        rw [h4] at h
        exact h.mono fun e w' ⟨q1, q2⟩ => ⟨q1, ((Ext.refl V).alloc _).trans q2⟩
      clear h1 h2 h3 h4 hv
      go_enter Tryd.func7, Tryd.ntmps7
      go_wp2_with fail
      refine (HSH.out _ (Ext.refl _)).mono ?_; rintro e w1 ⟨rfl, hx1⟩
      have e1 : Ext w w1 := hx1
      clear hx1
      go_wp2_with fail
      refine (HM1.out _ e1).mono ?_; rintro e w2 ⟨rfl, hx2⟩
      have e2 : Ext w w2 := e1.trans hx2
      clear hx2
      go_wp2_with fail
      refine (HM2.out _ e2).mono ?_; rintro e w3 ⟨rfl, hx3⟩
      have e3 : Ext w w3 := e2.trans hx3
      clear hx3
      go_wp2_with fail
      refine (HM3.out _ e3).mono ?_; rintro e w4 ⟨rfl, hx4⟩
      have e4 : Ext w w4 := e3.trans hx4
      clear hx4
      go_wp2_with fail
      refine (HSI.out _ e4).mono ?_; rintro e w5 ⟨hx5, A9, c9, rfl⟩
      have e5 : Ext w w5 := e4.trans hx5
      clear hx5
      go_wp2_with fail
      refine (HVA.out _ e5).mono ?_; rintro e w6 ⟨rfl, hx6⟩
      have e6 : Ext w w6 := e5.trans hx6
      clear hx6
      go_wp2_with fail
      refine (HA.out _ e6).mono ?_; rintro e w7 ⟨rfl, hx7⟩
      have e7 : Ext w w7 := e6.trans hx7
      clear hx7
      go_wp2_with fail
      go_ret
      exact ⟨rfl, e7⟩
    · have d1 : decide (r < 0) = false := by rw [decide_eq_false_iff_not]; exact r1
      have d2 : decide ((268435455 : Int) < r) = false := by rw [decide_eq_false_iff_not]; exact r2
      have h1 : logE W [r] [] = 0 := by
        have hro : rowOk [r] := ⟨by simp, by simp, show (-1 : Int) < r ∧ r ≤ 268435455 ∧ True from ⟨by omega, by omega, trivial⟩⟩
        rw [logE_s hd hcn ⟨hro, rfl⟩]; rfl
      clear hd hcs hc6 hcn hr0 h40
      have HM1 : Hid (∀ V, Ext w V → Calls Tryd.prog 15 #[.agg #[.string W, .slice (some ⟨V.heap.size, 0, none⟩) 1 1, .slice none 0 0]] (V.alloc (.cells #[.int .i64 r] 3)) fun e w' => e = .returned (.int .i64 0) ∧ Ext V w') := Lib.hid fun V hx => by
        have hTb := tab_ext (hx.alloc (.cells #[.int .i64 r] 3))
        have h := mayP16_c _ _ _ _ _ _ W [r] [] _ (rdN_made V [r] #[.int .i64 r] 3 (n := 1) rfl rfl (by decide)) (RdSS.nil _) (alone_sm hW [r] (by simp))
        rw [h1] at h
        exact h.mono fun e w' ⟨q1, q2⟩ => ⟨q1, ((Ext.refl V).alloc _).trans q2⟩
      have HM2 : Hid (∀ V, Ext w V → Calls Tryd.prog 15 #[.agg #[.string W, .slice none 0 0, .slice none 0 0]] V fun e w' => e = .returned (.int .i64 6) ∧ Ext V w') := Lib.hid fun V hx => by
        have hTb := tab_ext hx
        have h := mayP16_c none 0 0 _ _ _ W [] [] V (Rd.nil _ _) (RdSS.nil _) (alone_sm hW [] (by decide))
        rw [h2] at h; exact h
      have HM3 : Hid (∀ V, Ext w V → Calls Tryd.prog 15 #[.agg #[.string W, .slice (some ⟨V.heap.size, 0, none⟩) 2 2, .slice none 0 0]] (V.alloc (.cells #[.int .i64 0, .int .i64 1] 3)) fun e w' => e = .returned (.int .i64 6) ∧ Ext V w') := Lib.hid fun V hx => by
        have hTb := tab_ext (hx.alloc (.cells #[.int .i64 0, .int .i64 1] 3))
        have h := mayP16_c _ _ _ _ _ _ W [0, 1] [] _ (rdN_made V [0, 1] #[.int .i64 0, .int .i64 1] 3 (n := 2) rfl rfl (by decide)) (RdSS.nil _) (alone_sm hW [0, 1] (by decide))
        rw [h3] at h
        exact h.mono fun e w' ⟨q1, q2⟩ => ⟨q1, ((Ext.refl V).alloc _).trans q2⟩
      have HSI : Hid (∀ V, Ext w V → Calls Tryd.prog 13 #[.agg #[.string W, .slice none 0 0, .slice none 0 0]] V fun e w' => Ext V w' ∧ ∃ A c, e = .returned (.tuple #[.slice A 0 c, .int .i64 6])) := Lib.hid fun V hx => by
        have hTb := tab_ext hx
        have h := sizesP16_c none 0 0 _ _ _ W [] [] V (Rd.nil _ _) (RdSS.nil _) (alone_sm hW [] (by decide))
        unfold SizesR at h
        rw [h2, if_neg (by decide)] at h
        exact h.mono fun e w' ⟨q1, A, n, c, q2, q3⟩ => ⟨q1, A, c, by have := nV_len q3; simp only [List.length_nil] at this; rw [q2, ← this]⟩
      have HVA : Hid (∀ V, Ext w V → Calls Tryd.prog 21 #[.string W] V fun e w' => e = .returned (.bool true) ∧ Ext V w') := Lib.hid fun V _ => by
        have h := valid_c W V (by omega)
        rw [hv] at h; exact h
      have HA : Hid (∀ V, Ext w V → Calls Tryd.prog 11 #[.agg #[.string W, .slice (some ⟨V.heap.size, 0, none⟩) 1 1, .slice none 0 0], .int .i64 0] (V.alloc (.cells #[.int .i64 0] 3)) fun e w' => e = .returned (.tuple #[.string W, .int .i64 0]) ∧ Ext V w') := Lib.hid fun V hx => by
        have hTb := tab_ext (hx.alloc (.cells #[.int .i64 0] 3))
        have h := atP16_c _ _ _ _ _ _ W [0] [] 0 _ (rdN_made V [0] #[.int .i64 0] 3 (n := 1) rfl rfl (by decide)) (RdSS.nil _) (alone_sm hW [0] (by decide))
        unfold atV at h
        rw [h4] at h
        exact h.mono fun e w' ⟨q1, q2⟩ => ⟨q1, ((Ext.refl V).alloc _).trans q2⟩
      clear h1 h2 h3 h4 hv
      go_enter Tryd.func7, Tryd.ntmps7
      go_wp2_with fail
      refine (HSH.out _ (Ext.refl _)).mono ?_; rintro e w1 ⟨rfl, hx1⟩
      have e1 : Ext w w1 := hx1
      clear hx1
      go_wp2_with fail
      refine (HM1.out _ e1).mono ?_; rintro e w2 ⟨rfl, hx2⟩
      have e2 : Ext w w2 := e1.trans hx2
      clear hx2
      go_wp2_with fail
      refine (HM2.out _ e2).mono ?_; rintro e w3 ⟨rfl, hx3⟩
      have e3 : Ext w w3 := e2.trans hx3
      clear hx3
      go_wp2_with fail
      refine (HM3.out _ e3).mono ?_; rintro e w4 ⟨rfl, hx4⟩
      have e4 : Ext w w4 := e3.trans hx4
      clear hx4
      go_wp2_with fail
      refine (HSI.out _ e4).mono ?_; rintro e w5 ⟨hx5, A9, c9, rfl⟩
      have e5 : Ext w w5 := e4.trans hx5
      clear hx5
      go_wp2_with fail
      refine (HVA.out _ e5).mono ?_; rintro e w6 ⟨rfl, hx6⟩
      have e6 : Ext w w6 := e5.trans hx6
      clear hx6
      go_wp2_with fail
      refine (HA.out _ e6).mono ?_; rintro e w7 ⟨rfl, hx7⟩
      have e7 : Ext w w7 := e6.trans hx7
      clear hx7
      go_wp2_with fail
      go_ret
      exact ⟨rfl, e7⟩
end Go.Proofs.YtejgkhmpmnjgaaaDoor
