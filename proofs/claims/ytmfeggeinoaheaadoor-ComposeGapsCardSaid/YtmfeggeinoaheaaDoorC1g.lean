/- Layer 1, the program: offset, Cut. -/
import Derived.Test.YtmfeggeinoaheaaDoorC1f
namespace Go.Proofs.YtmfeggeinoaheaaDoor
open Go.RowKit
set_option maxRecDepth 100000
set_option maxHeartbeats 1000000

theorem encs_take_succ (cs : List Nat) (i : Nat) (h : i < cs.length) : encs (cs.take (i + 1)) = encs (cs.take i) ++ enc1 cs[i] := by
  rw [List.take_succ_eq_append_getElem h, encs_append, encs_single]

theorem offset_c (s : ByteArray) (n : Nat) (w : World) (_hs : s.size ≤ 1000000000) (hn : n ≤ 1000000000) (cs : List Nat) (hd : dec (bs s) = some cs) :
    Calls Tryd.prog 30 #[.string s, .int .i64 n] w fun e w' => e = .returned (.int .i64 ((encs (cs.take n)).length : Nat)) ∧ Ext w w' := by
  obtain ⟨hcp, hbs⟩ := dec_some hd
  have HCP := Lib.hid hcp; have HBS := Lib.hid hbs
  clear hcp hbs hd
  go_enter Tryd.func30, Tryd.ntmps30
  go_wp2_with fail
  go_loopw [1] (fun m wr => ∃ (i j : Nat), i ≤ cs.length ∧ i + j = n ∧ m = .int .i64 j ∧ wr = w.iter s (encs (cs.take i)).length) (fun _ wr => s.size - wr.iterPos w.heap.size)
  case atStart => exact ⟨0, n, by omega, by omega, rfl, rfl⟩
  case round =>
    obtain ⟨i, j, hi, hij, rfl, rfl⟩ := hrel
    have hsz : (encs cs).length = s.size := by rw [← HBS.out, bs_length]
    have HSZ := Lib.hid hsz
    have HIJ := Lib.hid hij
    have hj : j ≤ 1000000000 := by omega
    clear hsz hij
    by_cases hr : i = cs.length
    · have hp : ¬ (encs (cs.take i)).length < s.size := by rw [hr, List.take_length, HSZ.out]; omega
      have hnx : ∀ ty, (Instr.next (.pointer (some ⟨w.heap.size, 0, none⟩)) true ty).run Tryd.prog (w.iter s (encs (cs.take i)).length) = _ := fun ty => run_next_end w s _ ty hp
      have hres : (encs (cs.take n)).length = s.size := by rw [List.take_of_length_le (by have := HIJ.out; omega), HSZ.out]
      have HRES := Lib.hid hres
      clear hr hres hp
      go_wp2_with fail
      go_ret
      rw [HRES.out]
      exact ⟨rfl, (Ext.refl w).iter _ _⟩
    · have hlt : i < cs.length := by omega
      have hsucc := encs_take_succ cs i hlt
      have hdr : (bs s).drop (encs (cs.take i)).length = enc1 cs[i] ++ encs (cs.drop (i + 1)) := by
        rw [HBS.out, encs_take_drop cs (i + 1), hsucc, List.append_assoc, List.drop_left]
      have hw := wid_pos cs[i]
      have hp : (encs (cs.take i)).length < s.size := by
        rw [← bs_length]
        have := congrArg List.length hdr
        rw [List.length_drop, List.length_append, enc1_length] at this
        omega
      have hnx : ∀ ty, (Instr.next (.pointer (some ⟨w.heap.size, 0, none⟩)) true ty).run Tryd.prog (w.iter s (encs (cs.take i)).length) = _ := fun ty => run_next_any w s _ ty hp
      have hdc : Utf8.decode s (encs (cs.take i)).length = (cs[i], wid cs[i]) := by
        rw [decode_rng]
        show rng ((bs s).drop _) = _
        rw [hdr]
        have hf := firstL_enc cs[i] (HCP.out _ (List.getElem_mem hlt)) (encs (cs.drop (i + 1)))
        rw [rng_first _ (by simp [enc1_ne]) (by rw [hf]; simp only; omega), hf]
      rw [hdc] at hnx
      have hl2 : (encs (cs.take (i + 1))).length = (encs (cs.take i)).length + wid cs[i] := by rw [hsucc, List.length_append, enc1_length]
      have HL2 := Lib.hid hl2
      generalize hcc : cs[i] = cp at *
      have HCC := Lib.hid hcc
      clear hdc hdr hsucc hr hl2 hcc
      by_cases hj0 : j = 0
      · have hq : ((j : Int) == 0) = true := by rw [hj0]; rfl
        have hres : (encs (cs.take n)).length = (encs (cs.take i)).length := by rw [show n = i from by have := HIJ.out; omega]
        have HRES := Lib.hid hres
        clear hj0 hres
        go_wp2_with fail
        go_ret
        rw [HRES.out]
        exact ⟨rfl, (Ext.refl w).iter _ _⟩
      · have hq : ((j : Int) == 0) = false := by rw [beq_eq_false_iff_ne]; omega
        have hj1 : 1 ≤ j := by omega
        clear hj0
        go_wp2_with fail
        go_roundw
        case rel => exact ⟨i + 1, j - 1, by omega, by have := HIJ.out; omega, by rw [show ((j - 1 : Nat) : Int) = (j : Int) - 1 from by omega], by rw [HL2.out]⟩
        case measure => simp; omega
theorem clone_c (s : ByteArray) (w : World) (hs : s.size ≤ 1000000000) : Calls Tryd.prog 31 #[.string s] w fun e w' => e = .returned (.string s) ∧ Ext w w' := by
  go_enter Tryd.func31, Tryd.ntmps31
  go_wp2_with fail
  refine (Tryd.stringslite_Clone s _ (by omega)).mono ?_
  rintro e w1 ⟨rfl, hx⟩
  have HX := Lib.hid hx; clear hx
  go_wp2_with fail
  go_ret
  exact ⟨rfl, HX.out⟩
theorem cut_c (s : ByteArray) (a b : Int) (w : World) (hs : s.size ≤ 1000000000) :
    Calls Tryd.prog 11 #[.string s, .int .i64 a, .int .i64 b] w fun e w' => e = .returned (cutV (cutF (bs s) a b)) ∧ Ext w w' := by
  have HC := Lib.hid (fun w' => count_c s w' hs)
  cases hd : dec (bs s) with
  | none =>
    have HD : Hid (cutF (bs s) a b = ([], 3)) := Lib.hid (by unfold cutF; rw [hd])
    have hcn : cntF (bs s) = -1 := by unfold cntF; rw [hd]
    clear hd
    go_enter Tryd.func11, Tryd.ntmps11
    go_wp2_with (go_at_call 9; refine (HC.out _).mono ?_; rintro e w1 ⟨rfl, hx1⟩)
    go_ret2
    rw [HD.out]
    exact ⟨rfl, hx1⟩
  | some cs =>
    obtain ⟨hcp, hbs⟩ := dec_some hd
    have hcn : cntF (bs s) = cs.length := by unfold cntF; rw [hd]
    have hl : cs.length ≤ 1000000000 := by have h2 := length_le_encs cs; rw [← hbs, bs_length] at h2; omega
    by_cases hr : 0 ≤ a ∧ a ≤ b ∧ b ≤ cs.length
    · have hcut : cutF (bs s) a b = (encs ((cs.take b.toNat).drop a.toNat), 0) := by unfold cutF; rw [hd]; simp only; rw [if_pos hr]
      obtain ⟨h0, h1, h2⟩ := hr
      obtain ⟨i, rfl⟩ := Int.eq_ofNat_of_zero_le h0
      obtain ⟨j, rfl⟩ := Int.eq_ofNat_of_zero_le (Int.le_trans h0 h1)
      rw [Int.toNat_natCast, Int.toNat_natCast] at hcut
      have hle := encs_take_le cs i j (by omega)
      have hle2 : (encs (cs.take j)).length ≤ s.size := by
        have := encs_take_le cs j cs.length (by omega); rw [List.take_length, ← hbs, bs_length] at this; exact this
      have hout : s.extract (encs (cs.take i)).length (encs (cs.take j)).length = mkS (encs ((cs.take j).drop i)) :=
        mkS_of (by rw [bs_extract, hbs, encs_cut cs i j (by omega)])
      have HO1 := Lib.hid (fun w' => offset_c s i w' hs (by omega) cs hd)
      have hdrop : bs (s.extract (encs (cs.take i)).length s.size) = encs (cs.drop i) := by
        rw [bs_extract, List.take_of_length_le (by rw [List.length_drop, bs_length]; omega), hbs, encs_take_drop cs i, List.drop_left]
      have hdd : dec (bs (s.extract (encs (cs.take i)).length s.size)) = some (cs.drop i) := by
        rw [hdrop]; exact dec_encs (fun c hc => hcp c (List.mem_of_mem_drop hc))
      have HO2 : Hid (∀ w', Calls Tryd.prog 30 #[.string (s.extract (encs (cs.take i)).length s.size), .int .i64 ((j : Int) - i)] w' fun e w'' => e = .returned (.int .i64 (((encs (cs.take j)).length : Int) - (encs (cs.take i)).length)) ∧ Ext w' w'') :=
        Lib.hid fun w' => by
          have h := offset_c (s.extract (encs (cs.take i)).length s.size) (j - i) w' (by simp; omega) (by omega) (cs.drop i) hdd
          rw [show (((j - i : Nat) : Int)) = (j : Int) - i from by omega] at h
          have e1 : (encs (cs.take j)).length = (encs (cs.take i)).length + (encs ((cs.drop i).take (j - i))).length := by
            rw [← List.length_append, ← encs_append]; congr 2
            rw [List.take_drop, show i + (j - i) = j from by omega]
            rw [show cs.take i = (cs.take j).take i from by rw [List.take_take, Nat.min_eq_left (by omega)]]
            exact (List.take_append_drop i (cs.take j)).symm
          refine h.mono fun e w'' ⟨he, hx⟩ => ⟨by rw [he]; exact ret_int (by omega), hx⟩
      have HCL := Lib.hid (fun w' => clone_c (s.extract (encs (cs.take i)).length (encs (cs.take j)).length) w' (by simp; omega))
      have HC2 := Lib.hid hcut; have HO := Lib.hid hout
      clear hcut hout hd hbs hcp hdrop hdd
      generalize (encs (cs.take i)).length = p at *
      generalize (encs (cs.take j)).length = q at *
      go_enter Tryd.func11, Tryd.ntmps11
      go_wp2_with fail
      refine (HC.out _).mono ?_; rintro e w1 ⟨rfl, hx1⟩
      go_wp2_with fail
      refine (HO1.out _).mono ?_; rintro e w2 ⟨rfl, hx2⟩
      go_wp2_with fail
      refine (HO2.out _).mono ?_; rintro e w3 ⟨rfl, hx3⟩
      go_wp2_with fail
      refine (HCL.out _).mono ?_; rintro e w4 ⟨rfl, hx4⟩
      go_wp2_with fail
      go_ret2
      rw [HC2.out, HO.out]
      exact ⟨rfl, ((hx1.trans hx2).trans hx3).trans hx4⟩
    · have hcut : cutF (bs s) a b = ([], 6) := by unfold cutF; rw [hd]; simp only; rw [if_neg hr]
      have HC2 := Lib.hid hcut; clear hcut hd hbs
      have hr' : a < 0 ∨ (0 ≤ a ∧ b < a) ∨ (0 ≤ a ∧ a ≤ b ∧ (cs.length : Int) < b) := by omega
      clear hr
      rcases hr' with h | ⟨h, h'⟩ | ⟨h, h', h''⟩
      all_goals
        go_enter Tryd.func11, Tryd.ntmps11
        go_wp2_with (go_at_call 9; refine (HC.out _).mono ?_; rintro e w1 ⟨rfl, hx1⟩)
        go_ret2
        rw [HC2.out]
        exact ⟨rfl, hx1⟩
end Go.Proofs.YtmfeggeinoaheaaDoor
