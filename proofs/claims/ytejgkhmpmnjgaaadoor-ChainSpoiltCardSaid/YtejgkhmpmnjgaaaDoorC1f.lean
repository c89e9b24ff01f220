/- Layer 1, the program: offset, Cut. -/
import Derived.Test.YtejgkhmpmnjgaaaDoorC1a
import Derived.Test.YtejgkhmpmnjgaaaDoorShelf
namespace Go.Proofs.YtejgkhmpmnjgaaaDoor
open Go.RowKit
set_option maxRecDepth 100000
set_option maxHeartbeats 1000000

theorem hasPrefix_iff (a b : List UInt8) : Lib.hasPrefix a b = decide (b <+: a) := by
  unfold Lib.hasPrefix
  rw [Bool.eq_iff_iff, List.isPrefixOf_iff_prefix, decide_eq_true_eq]

theorem count_c (s : ByteArray) (w : World) (hs : s.size ≤ 1000000000) :
    Calls Tryd.prog 19 #[.string s] w fun e w' => e = .returned (.int .i64 (cntF (bs s))) ∧ Ext w w' := by
  go_enter Tryd.func19, Tryd.ntmps19
  go_wp2_with fail
  go_loopw [3] (fun n wr => ∃ (cs : List Nat) (rest : List UInt8), (∀ c ∈ cs, IsCp c) ∧ bs s = encs cs ++ rest ∧ n = .int .i64 cs.length ∧ wr = w.iter s (encs cs).length) (fun _ wr => s.size - wr.iterPos w.heap.size)
  case atStart => exact ⟨[], bs s, by simp, by simp [encs], rfl, rfl⟩
  case round =>
    obtain ⟨cs, rest, hcp, hbs, rfl, rfl⟩ := hrel
    have hlen : (encs cs).length + rest.length = s.size := by rw [← bs_length, hbs, List.length_append]
    have hcl := length_le_encs cs
    have hdrop : (bs s).drop (encs cs).length = rest := by rw [hbs, List.drop_left]
    have HBS := Lib.hid hbs; have HDR := Lib.hid hdrop; have HCP := Lib.hid hcp
    clear hbs hdrop hcp
    by_cases hr : rest = []
    · have hp : ¬ (encs cs).length < s.size := by rw [← hlen, hr]; simp
      have hnx : ∀ ty, (Instr.next (.pointer (some ⟨w.heap.size, 0, none⟩)) true ty).run Tryd.prog (w.iter s (encs cs).length) = _ := fun ty => run_next_end w s _ ty hp
      have hdec : cntF (bs s) = cs.length := by unfold cntF; rw [HBS.out, hr, List.append_nil, dec_encs HCP.out]
      have HDEC := Lib.hid hdec
      clear hr hdec
      go_wp2_with fail
      go_ret
      rw [HDEC.out]
      exact ⟨rfl, (Ext.refl w).iter _ _⟩
    · have hpos : 0 < rest.length := List.length_pos_iff.2 hr
      have hp : (encs cs).length < s.size := by omega
      have hnx0 : ∀ ty, (Instr.next (.pointer (some ⟨w.heap.size, 0, none⟩)) true ty).run Tryd.prog (w.iter s (encs cs).length) = _ := fun ty => run_next_any w s _ ty hp
      have hdc : Utf8.decode s (encs cs).length = rng rest := by rw [decode_rng]; exact congrArg rng HDR.out
      rw [hdc] at hnx0
      obtain ⟨n, k, hf⟩ : ∃ n k, firstL rest = (n, k) := ⟨_, _, rfl⟩
      have hex : bs (s.extract (encs cs).length s.size) = rest := by
        rw [bs_extract, List.take_of_length_le (by rw [List.length_drop, bs_length]; omega)]; exact HDR.out
      by_cases hk : k = 0
      · obtain ⟨hrng, hnp⟩ := rng_bad rest hr (by rw [hf]; exact hk)
        rw [hrng] at hnx0
        have hdec : cntF (bs s) = -1 := by
          unfold cntF; rw [HBS.out, dec_append_some HCP.out, dec_none_of hr (by rw [hf]; exact hk)]; rfl
        have HPC : Hid (∀ w', Calls Tryd.prog 36 #[.string (s.extract (encs cs).length s.size), .string ⟨#[239, 191, 189]⟩] w' fun e w'' => e = .returned (.bool false) ∧ w'' = w') := Lib.hid fun w' => by
          have h := Tryd.strings_HasPrefix (s.extract (encs cs).length s.size) ⟨#[239, 191, 189]⟩ w'
          rw [show Lib.hasPrefix (s.extract (encs cs).length s.size).data.toList #[239, 191, 189].toList = false from by
            rw [show (s.extract (encs cs).length s.size).data.toList = rest from hex, hasPrefix_iff, decide_eq_false_iff_not]; exact hnp] at h
          exact h
        have HDEC := Lib.hid hdec
        have HX := Lib.hid hex; have HRNG := Lib.hid hrng; have HR := Lib.hid hr
        clear hr hdec hk hf hdc hex hrng
        go_wp2_with (go_at_call 36; refine (HPC.out _).mono ?_; rintro e w' ⟨rfl, rfl⟩)
        go_ret
        rw [HDEC.out]
        exact ⟨rfl, (Ext.refl w).iter _ _⟩
      · have hrng := rng_first rest hr (by rw [hf]; exact hk)
        rw [hrng, hf] at hnx0
        obtain ⟨hcp, hw, r, hr2⟩ := firstL_some hf (Nat.pos_of_ne_zero hk)
        have henc : encs (cs ++ [n]) = encs cs ++ enc1 n := by rw [encs_append, encs_single]
        have hl2 : (encs (cs ++ [n])).length = (encs cs).length + k := by rw [henc, List.length_append, enc1_length, hw]
        have hkp : 0 < k := Nat.pos_of_ne_zero hk
        have hrel : ∃ (cs' : List Nat) (rest' : List UInt8), (∀ c ∈ cs', IsCp c) ∧ bs s = encs cs' ++ rest' ∧ Value.int .i64 (cs.length + 1 : Int) = .int .i64 cs'.length ∧ w.iter s ((encs cs).length + k) = w.iter s (encs cs').length := by
          refine ⟨cs ++ [n], r, fun c hc => ?_, by rw [HBS.out, hr2, henc, List.append_assoc], ?_, by rw [hl2]⟩
          · rcases List.mem_append.1 hc with h | h
            · exact HCP.out c h
            · rw [List.mem_singleton.1 h]; exact hcp
          · rw [List.length_append]; go_num
        have HREL := Lib.hid hrel
        by_cases hn : n = 65533
        · have HPC : Hid (∀ w', Calls Tryd.prog 36 #[.string (s.extract (encs cs).length s.size), .string ⟨#[239, 191, 189]⟩] w' fun e w'' => e = .returned (.bool true) ∧ w'' = w') := Lib.hid fun w' => by
            have h := Tryd.strings_HasPrefix (s.extract (encs cs).length s.size) ⟨#[239, 191, 189]⟩ w'
            rw [show Lib.hasPrefix (s.extract (encs cs).length s.size).data.toList #[239, 191, 189].toList = true from by
              rw [show (s.extract (encs cs).length s.size).data.toList = rest from hex, hasPrefix_iff, decide_eq_true_eq]
              exact ⟨r, by rw [hr2, hn]; rfl⟩] at h
            exact h
          have ht : ((n : Int) == 65533) = true := by rw [hn]; rfl
          clear hr hk hf hdc hex hrng hr2 hcp hw henc hl2 hrel hn
          go_wp2_with (go_at_call 36; refine (HPC.out _).mono ?_; rintro e w' ⟨rfl, rfl⟩)
          go_roundw
          case rel => exact HREL.out
          case measure => simp; omega
        · have ht : ((n : Int) == 65533) = false := by rw [beq_eq_false_iff_ne]; omega
          clear hr hk hf hdc hex hrng hr2 hcp hw henc hl2 hrel hn
          go_wp2_with fail
          go_roundw
          case rel => exact HREL.out
          case measure => simp; omega
theorem valid_c (s : ByteArray) (w : World) (hs : s.size ≤ 1000000000) :
    Calls Tryd.prog 21 #[.string s] w fun e w' => e = .returned (.bool (dec (bs s)).isSome) ∧ Ext w w' := by
  go_enter Tryd.func21, Tryd.ntmps21
  go_wp2_with fail
  refine (count_c s _ hs).mono ?_
  rintro e w1 ⟨rfl, hx⟩
  have h : decide (0 ≤ cntF (bs s)) = (dec (bs s)).isSome := by
    unfold cntF
    cases dec (bs s) with
    | none => rfl
    | some cs => simp
  go_wp2_with fail
  go_ret
  exact ⟨rfl, hx⟩
end Go.Proofs.YtejgkhmpmnjgaaaDoor
namespace Go.Proofs.YtejgkhmpmnjgaaaDoor
open Go.RowKit
set_option maxRecDepth 100000
set_option maxHeartbeats 1000000

theorem encs_take_succ (cs : List Nat) (i : Nat) (h : i < cs.length) : encs (cs.take (i + 1)) = encs (cs.take i) ++ enc1 cs[i] := by
  rw [List.take_succ_eq_append_getElem h, encs_append, encs_single]

theorem clone_c (s : ByteArray) (w : World) (hs : s.size ≤ 1000000000) : Calls Tryd.prog 55 #[.string s] w fun e w' => e = .returned (.string s) ∧ Ext w w' := by
  go_enter Tryd.func55, Tryd.ntmps55
  go_wp2_with fail
  refine (Tryd.stringslite_Clone s _ (by omega)).mono ?_
  rintro e w1 ⟨rfl, hx⟩
  have HX := Lib.hid hx; clear hx
  go_wp2_with fail
  go_ret
  exact ⟨rfl, HX.out⟩
end Go.Proofs.YtejgkhmpmnjgaaaDoor
