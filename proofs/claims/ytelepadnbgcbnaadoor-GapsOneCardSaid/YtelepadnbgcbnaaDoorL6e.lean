/- Layer 6, GapsOne: the walk. -/
import Derived.Test.YtelepadnbgcbnaaDoorL6d
namespace Go.Proofs.YtelepadnbgcbnaaDoor
open Go.RowKit
set_option maxRecDepth 100000
set_option maxHeartbeats 4000000
theorem gapsOne_c (s : ByteArray) (z : List Int) (w : World) [Tab w] (hs : s.size ≤ maxLen) (hz : z.length = 3) (hw : ∀ x ∈ z, (Lit.int .u8 x).wf = true) :
    Calls Tryd.prog 7 #[.string s, .agg (z.map (Value.int .u8)).toArray] w fun e w' => e = .returned (.bool true) ∧ Below w.heap.size w w' := by
  match z, hz with
  | [z0, z1, z2], _ =>
    obtain ⟨a0, a1⟩ := bounds_u8 (hw z0 (by simp))
    obtain ⟨b0, b1⟩ := bounds_u8 (hw z1 (by simp))
    obtain ⟨d0, d1⟩ := bounds_u8 (hw z2 (by simp))
    unfold maxLen at hs
    obtain ⟨MN, hMN⟩ : ∃ MN, MN = min s.size 20 := ⟨_, rfl⟩
    have hmin1 : min (s.size : Int) 20 = (MN : Int) := by omega
    have hmin2 : (if (20 : Int) < (s.size : Int) then (20 : Int) else (s.size : Int)) = (MN : Int) := by split <;> omega
    have hML : (MN : Int) ≤ (s.size : Int) := by omega
    have hFT := fun w' => fit_c (s.extract 0 MN) w' (by simp; omega)
    have hcp := fitC_cp (bs (s.extract 0 MN))
    have hln : (fitC (bs (s.extract 0 MN))).length ≤ 20 := by rw [fitC_length, bs_length]; simp; omega
    generalize fitC (bs (s.extract 0 MN)) = cs at *
    have hel : (encs cs).length ≤ 1000 := by have := encs_le cs; omega
    obtain ⟨N, hN⟩ : ∃ N : Nat, z0 % 64 = (N : Int) := ⟨(z0 % 64).toNat, by omega⟩
    have hN63 : N ≤ 63 := by omega
    obtain ⟨a, ha⟩ : ∃ a : Nat, z1 % ((N : Int) + 1) = (a : Int) := ⟨(z1 % ((N : Int) + 1)).toNat, by have := Int.emod_nonneg z1 (show ((N : Int) + 1) ≠ 0 by omega); omega⟩
    have haN : a ≤ N := by have := Int.emod_lt_of_pos z1 (show 0 < ((N : Int) + 1) by omega); omega
    obtain ⟨b, hb⟩ : ∃ b : Nat, (N : Int) - (a : Int) = (b : Int) := ⟨N - a, by omega⟩
    obtain ⟨d, hd⟩ : ∃ d : Nat, z2 % ((b : Int) + 1) = (d : Int) := ⟨(z2 % ((b : Int) + 1)).toNat, by have := Int.emod_nonneg z2 (show ((b : Int) + 1) ≠ 0 by omega); omega⟩
    have hdb : d ≤ b := by have := Int.emod_lt_of_pos z2 (show 0 < ((b : Int) + 1) by omega); omega
    obtain ⟨r, hr⟩ : ∃ r : Nat, (b : Int) - (d : Int) = (r : Int) := ⟨b - d, by omega⟩
    have hsum : N = a + d + r := by omega
    obtain ⟨f1, f2, f3, f4, f5, f6⟩ := one_all a d r cs hcp (by omega) hel
    have hu : (mkS (encs cs)).toList.isEmpty = true ∧ mkS (encs cs) = ⟨#[]⟩ ∨ (mkS (encs cs)).toList.isEmpty = false ∧ mkS (encs cs) ≠ ⟨#[]⟩ := by
      rw [toList_bs, bs_mkS]
      cases h : encs cs with
      | nil => exact .inl ⟨rfl, rfl⟩
      | cons x y => exact .inr ⟨rfl, fun e => by have h2 : (mkS (x :: y)).size = 0 := congrArg ByteArray.size e; rw [size_mkS] at h2; cases h2⟩
    generalize mkS (encs cs) = U at *
    have HG : Hid (∀ w', Ext w w' → Calls Tryd.prog 10 #[.slice (some ⟨w'.heap.size, 0, none⟩) 4 4] (w'.alloc (.cells #[.int .i64 1, .int .i64 a, .string ⟨#[]⟩, .int .i64 2, .int .i64 0, .string U, .int .i64 3, .int .i64 d, .string ⟨#[]⟩, .int .i64 1, .int .i64 r, .string ⟨#[]⟩] 29)) fun e w'' => ∃ A c B k, e = .returned (.tuple #[.agg #[.slice A (N + 1) c, .slice B N k], .int .i64 0]) ∧ Ext (w'.alloc (.cells #[.int .i64 1, .int .i64 a, .string ⟨#[]⟩, .int .i64 2, .int .i64 0, .string U, .int .i64 3, .int .i64 d, .string ⟨#[]⟩, .int .i64 1, .int .i64 r, .string ⟨#[]⟩] 29)) w'' ∧
        Rd w'' 1 (.slice A (N + 1) c) (N + 1) ((List.replicate a (⟨#[]⟩ : ByteArray) ++ U :: List.replicate (d + r) ⟨#[]⟩).map Value.string) ∧ Rd w'' 1 (.slice B N k) N ((List.replicate a false ++ (List.replicate d true ++ List.replicate r false)).map Value.bool)) := Lib.hid fun w' hx => by
      have hTb := tab_ext hx
      have hrd : Rd (w'.alloc (.cells #[.int .i64 1, .int .i64 a, .string ⟨#[]⟩, .int .i64 2, .int .i64 0, .string U, .int .i64 3, .int .i64 d, .string ⟨#[]⟩, .int .i64 1, .int .i64 r, .string ⟨#[]⟩] 29)) 3 (.slice (some ⟨w'.heap.size, 0, none⟩) 4 4) 4 (spCells (oneL a d r U)) :=
        (Own.made w' w'.heap.size 29 3 4 _ (Nat.le_refl _) (by omega) rfl).rd
      have h := (gaps_c _ 4 4 (oneL a d r U) _ hrd rfl (by omega) f3 f4).mono fun e w'' h => h.ok f1 (n := N) (by rw [f2, hsum])
      rw [f5, f6] at h
      exact h
    have HBX : Hid (∀ (w' : World), Ext (w.alloc (.cells #[.int .u8 z0, .int .u8 z1, .int .u8 z2] 47)) w' → ∀ (q : Nat) (u : Value), (#[Value.int .u8 z0, Value.int .u8 z1, Value.int .u8 z2])[q]? = some u → w'.cell? ⟨w.heap.size, q, none⟩ = some u) :=
      Lib.hid fun w' hx q u hu => box_at _ _ _ _ hx q u hu
    have HFT := Lib.hid hFT; have HSUM := Lib.hid hsum; have HU := Lib.hid hu
    have hr63 : r ≤ 63 := by omega
    have hb63 : b ≤ 63 := by omega
    have ha63 : a ≤ 63 := by omega
    have hd63 : d ≤ 63 := by omega
    clear hFT hsum f1 f2 f3 f4 f5 f6 hcp hln hel hMN hu
    go_enter Tryd.func7, Tryd.ntmps7
    go_wp2_with fail
    refine (shown6_c _).mono ?_; rintro e w1 ⟨rfl, hx1⟩
    go_wp2_with fail
    refine (HFT.out _).mono ?_; rintro e w2 ⟨rfl, hx2⟩
    have hx12 := hx1.trans hx2
    have q0 := HBX.out w2 hx12 0 _ rfl
    have q1 := HBX.out w2 hx12 1 _ rfl
    have q2 := HBX.out w2 hx12 2 _ rfl
    go_wp2_with fail
    simp only [ha, hd]
    have hxw2 : Ext w w2 := ((Ext.refl w).alloc _).trans hx12
    refine (HG.out _ hxw2).mono ?_; rintro e w3 ⟨A, c, B, k, rfl, hx3, r1, r2⟩
    have HR1 := Lib.hid (r1.ext ((Ext.refl w3).alloc (.cells #[.slice A (N + 1) c, .slice B N k] 26))); have HR2 := Lib.hid (r2.ext ((Ext.refl w3).alloc (.cells #[.slice A (N + 1) c, .slice B N k] 26)))
    have HFIN := Lib.hid (((hxw2.alloc (.cells #[.int .i64 1, .int .i64 a, .string ⟨#[]⟩, .int .i64 2, .int .i64 0, .string U, .int .i64 3, .int .i64 d, .string ⟨#[]⟩, .int .i64 1, .int .i64 r, .string ⟨#[]⟩] 29)).trans hx3).alloc (.cells #[.slice A (N + 1) c, .slice B N k] 26))
    have g0 := box_at _ _ _ _ (Ext.refl (w3.alloc (.cells #[.slice A (N + 1) c, .slice B N k] 26))) 0 _ rfl
    have g1 := box_at _ _ _ _ (Ext.refl (w3.alloc (.cells #[.slice A (N + 1) c, .slice B N k] 26))) 1 _ rfl
    clear r1 r2 hx1 hx2 hx3 hx12 hxw2 q0 q1 q2 HG HBX HFT
    go_wp2_with fail
    go_loop [12] (fun q => ∃ j : Nat, j ≤ N + 1 ∧ q = .int .i64 j) (fun q => N + 1 - (intOf q).toNat)
    case atStart => exact ⟨0, by omega, rfl⟩
    case round =>
      obtain ⟨j, hj, rfl⟩ := hrel
      by_cases hle : j ≤ N
      · obtain ⟨b', off, hA, hb', p0⟩ := rd_at1 HR1.out (show j < N + 1 by omega) (u := .string (if j = a then U else ⟨#[]⟩)) (by rw [List.getElem?_map, one_put a (d + r) U j (by have := HSUM.out; omega)]; rfl)
        subst hA
        have i0 : (0 : Int) ≤ (j : Int) := by omega
        have i1 : (j : Int) < (N : Int) + 1 := by omega
        have i2 : (j : Int) ≤ (N : Int) := by omega
        have hjN : (j < N ∧ (j : Int) < (N : Int)) ∨ (j = N ∧ ¬ (j : Int) < (N : Int)) := by omega
        have hja : ((j : Int) < (a : Int) ∧ j ≠ a) ∨ j = a ∨ ((a : Int) < (j : Int) ∧ j ≠ a) := by omega
        have hjd : ((j : Int) < (a : Int) + (d : Int)) ∨ ((a : Int) + (d : Int) ≤ (j : Int)) := by omega
        have hsum := HSUM.out
        rcases hjN with ⟨n1, n2⟩ | ⟨n1, n2⟩
        · obtain ⟨b2, off2, hB, hb2, p1⟩ := rd_at1 HR2.out n1 (u := .bool (decide (a ≤ j ∧ j < a + d))) (by rw [List.getElem?_map, one_gone a d r j (by omega)]; rfl)
          subst hB
          rcases hja with ⟨ja, jn⟩ | ja | ⟨ja, jn⟩
          · rw [if_neg jn] at p0
            rw [decide_eq_false (by omega)] at p1
            have t1 : ((j : Int) == (a : Int)) = false := by rw [beq_eq_false_iff_ne]; omega
            have t2 : ¬ (a : Int) ≤ (j : Int) := by omega
            have t3 : ((j : Int) != (a : Int)) = true := by rw [bne_iff_ne]; omega
            rcases HU.out with ⟨u1, rfl⟩ | ⟨u1, u2⟩
            · clear hjd hsum n1 jn
              go_wp2_with fail
              go_round
              case rel => exact ⟨j + 1, by omega, by go_num⟩
              case measure => simp [intOf]; omega
            · have u3 := toList_ne (Ne.symm u2)
              clear hjd hsum n1 jn u2
              go_wp2_with fail
              go_round
              case rel => exact ⟨j + 1, by omega, by go_num⟩
              case measure => simp [intOf]; omega
          · subst ja
            rw [if_pos rfl] at p0
            have t4 : (j : Int) ≤ (j : Int) := by omega
            rcases hjd with hjd | hjd
            · rw [decide_eq_true (by omega)] at p1
              rcases HU.out with ⟨u1, rfl⟩ | ⟨u1, u2⟩
              · clear hsum n1
                go_wp2_with fail
                go_round
                case rel => exact ⟨j + 1, by omega, by go_num⟩
                case measure => simp [intOf]; omega
              · have u3 := toList_ne (Ne.symm u2)
                clear hsum n1 u2
                go_wp2_with fail
                go_round
                case rel => exact ⟨j + 1, by omega, by go_num⟩
                case measure => simp [intOf]; omega
            · rw [decide_eq_false (by omega)] at p1
              have t5 : ¬ (j : Int) < (j : Int) + (d : Int) := by omega
              rcases HU.out with ⟨u1, rfl⟩ | ⟨u1, u2⟩
              · clear hsum n1
                go_wp2_with fail
                go_round
                case rel => exact ⟨j + 1, by omega, by go_num⟩
                case measure => simp [intOf]; omega
              · have u3 := toList_ne (Ne.symm u2)
                clear hsum n1 u2
                go_wp2_with fail
                go_round
                case rel => exact ⟨j + 1, by omega, by go_num⟩
                case measure => simp [intOf]; omega
          · rw [if_neg jn] at p0
            have t1 : ((j : Int) == (a : Int)) = false := by rw [beq_eq_false_iff_ne]; omega
            have t2 : (a : Int) ≤ (j : Int) := by omega
            have t3 : ((j : Int) != (a : Int)) = true := by rw [bne_iff_ne]; omega
            rcases hjd with hjd | hjd
            · rw [decide_eq_true (by omega)] at p1
              rcases HU.out with ⟨u1, rfl⟩ | ⟨u1, u2⟩
              · clear hsum n1 jn
                go_wp2_with fail
                go_round
                case rel => exact ⟨j + 1, by omega, by go_num⟩
                case measure => simp [intOf]; omega
              · have u3 := toList_ne (Ne.symm u2)
                clear hsum n1 jn u2
                go_wp2_with fail
                go_round
                case rel => exact ⟨j + 1, by omega, by go_num⟩
                case measure => simp [intOf]; omega
            · rw [decide_eq_false (by omega)] at p1
              have t5 : ¬ (j : Int) < (a : Int) + (d : Int) := by omega
              rcases HU.out with ⟨u1, rfl⟩ | ⟨u1, u2⟩
              · clear hsum n1 jn
                go_wp2_with fail
                go_round
                case rel => exact ⟨j + 1, by omega, by go_num⟩
                case measure => simp [intOf]; omega
              · have u3 := toList_ne (Ne.symm u2)
                clear hsum n1 jn u2
                go_wp2_with fail
                go_round
                case rel => exact ⟨j + 1, by omega, by go_num⟩
                case measure => simp [intOf]; omega
        · skip
          rcases hja with ⟨ja, jn⟩ | ja | ⟨ja, jn⟩
          · rw [if_neg jn] at p0
            exfalso; omega
          · subst ja
            rw [if_pos rfl] at p0
            have t4 : (j : Int) ≤ (j : Int) := by omega
            rcases HU.out with ⟨u1, rfl⟩ | ⟨u1, u2⟩
            · clear hjd hsum n1
              go_wp2_with fail
              go_round
              case rel => exact ⟨j + 1, by omega, by go_num⟩
              case measure => simp [intOf]; omega
            · have u3 := toList_ne (Ne.symm u2)
              clear hjd hsum n1 u2
              go_wp2_with fail
              go_round
              case rel => exact ⟨j + 1, by omega, by go_num⟩
              case measure => simp [intOf]; omega
          · rw [if_neg jn] at p0
            have t1 : ((j : Int) == (a : Int)) = false := by rw [beq_eq_false_iff_ne]; omega
            have t2 : (a : Int) ≤ (j : Int) := by omega
            have t3 : ((j : Int) != (a : Int)) = true := by rw [bne_iff_ne]; omega
            rcases HU.out with ⟨u1, rfl⟩ | ⟨u1, u2⟩
            · clear hjd hsum n1 jn
              go_wp2_with fail
              go_round
              case rel => exact ⟨j + 1, by omega, by go_num⟩
              case measure => simp [intOf]; omega
            · have u3 := toList_ne (Ne.symm u2)
              clear hjd hsum n1 jn u2
              go_wp2_with fail
              go_round
              case rel => exact ⟨j + 1, by omega, by go_num⟩
              case measure => simp [intOf]; omega
      · obtain rfl : j = N + 1 := by omega
        have dn : ¬ ((N : Int) + 1 ≤ (N : Int)) := by omega
        go_wp2_with fail
        go_ret
        exact ⟨rfl, HFIN.out⟩
end Go.Proofs.YtelepadnbgcbnaaDoor
