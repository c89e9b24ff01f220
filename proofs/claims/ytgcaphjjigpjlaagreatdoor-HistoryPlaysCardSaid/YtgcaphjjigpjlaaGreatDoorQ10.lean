/- Packed: C1f P3 P4. -/
import Derived.BigQuiet
import Derived.Deep.QuietTactic
import Derived.Laws.AppendOwnNone
import Derived.Laws.BytesArg
import Derived.Lib.DecodeN
import Derived.Lib.Hide
import Derived.Lib.Strings
import Derived.Lib.UnsafeStr
import Derived.StillTailTactics
import Derived.Test.YtgcaphjjigpjlaaGreatDoorProg
import Derived.Test.YtgcaphjjigpjlaaGreatDoorShelf
import Derived.WalkKit
import Derived.WalkLawsBesides
import Derived.WalkSpells
import Derived.Test.YtgcaphjjigpjlaaGreatDoorQ00
import Derived.Test.YtgcaphjjigpjlaaGreatDoorQ01
import Derived.Test.YtgcaphjjigpjlaaGreatDoorQ02
namespace Go.Proofs.YtgcaphjjigpjlaaGreatDoor
open Go.RowKit
set_option maxRecDepth 100000
set_option maxHeartbeats 1000000
theorem hasPrefix_iff (a b : List UInt8) : Lib.hasPrefix a b = decide (b <+: a) := by
  unfold Lib.hasPrefix
  rw [Bool.eq_iff_iff, List.isPrefixOf_iff_prefix, decide_eq_true_eq]
theorem count_c (s : ByteArray) (w : World) (hs : s.size ≤ 1000000000) :
    Calls Tryz.prog 10 #[.string s] w fun e w' => e = .returned (.int .i64 (cntF (bs s))) ∧ Ext w w' := by
  go_enter Tryz.func10, Tryz.ntmps10
  go_wp2_with fail
  go_loopw [3] (fun n wr => ∃ (cs : List Nat) (rest : List UInt8), (∀ c ∈ cs, IsCp c) ∧ bs s = encs cs ++ rest ∧ n = .int .i64 cs.length ∧ wr = w.iter s (encs cs).length) (fun _ wr => s.size - wr.iterPos w.heap.size)
  case atStart => exact ⟨[], bs s, by simp, by simp [encs], rfl, rfl⟩
  case round =>
    obtain ⟨cs, rest, hcp, hbs, rfl, rfl⟩ := hrel
    have hlen : (encs cs).length + rest.length = s.size := by rw [← bs_length, hbs, List.length_append]
    have hcl := length_le_encs cs
    have hdrop : (bs s).drop (encs cs).length = rest := by rw [hbs, List.drop_left]
    have HBS := Lib.hid hbs; have HDR := Lib.hid hdrop; have HCP := Lib.hid hcp
    clear hbs hdrop hcp
    by_cases hr : rest = []
    · have hp : ¬ (encs cs).length < s.size := by rw [← hlen, hr]; simp
      have hnx : ∀ ty, (Instr.next (.pointer (some ⟨w.heap.size, 0, none⟩)) true ty).run Tryz.prog (w.iter s (encs cs).length) = _ := fun ty => run_next_end w s _ ty hp
      have hdec : cntF (bs s) = cs.length := by unfold cntF; rw [HBS.out, hr, List.append_nil, dec_encs HCP.out]
      have HDEC := Lib.hid hdec
      clear hr hdec
      go_wp2_with fail
      go_ret
      rw [HDEC.out]
      exact ⟨rfl, (Ext.refl w).iter _ _⟩
    · have hpos : 0 < rest.length := List.length_pos_iff.2 hr
      have hp : (encs cs).length < s.size := by omega
      have hnx0 : ∀ ty, (Instr.next (.pointer (some ⟨w.heap.size, 0, none⟩)) true ty).run Tryz.prog (w.iter s (encs cs).length) = _ := fun ty => run_next_any w s _ ty hp
      have hdc : Utf8.decode s (encs cs).length = rng rest := by rw [decode_rng]; exact congrArg rng HDR.out
      rw [hdc] at hnx0
      obtain ⟨n, k, hf⟩ : ∃ n k, firstL rest = (n, k) := ⟨_, _, rfl⟩
      have hex : bs (s.extract (encs cs).length s.size) = rest := by
        rw [bs_extract, List.take_of_length_le (by rw [List.length_drop, bs_length]; omega)]; exact HDR.out
      by_cases hk : k = 0
      · obtain ⟨hrng, hnp⟩ := rng_bad rest hr (by rw [hf]; exact hk)
        rw [hrng] at hnx0
        have hdec : cntF (bs s) = -1 := by
          unfold cntF; rw [HBS.out, dec_append_some HCP.out, dec_none_of hr (by rw [hf]; exact hk)]; rfl
        have HPC : Hid (∀ w', Calls Tryz.prog 28 #[.string (s.extract (encs cs).length s.size), .string ⟨#[239, 191, 189]⟩] w' fun e w'' => e = .returned (.bool false) ∧ w'' = w') := Lib.hid fun w' => by
          have h := Tryz.strings_HasPrefix (s.extract (encs cs).length s.size) ⟨#[239, 191, 189]⟩ w'
          rw [show Lib.hasPrefix (s.extract (encs cs).length s.size).data.toList #[239, 191, 189].toList = false from by
            rw [show (s.extract (encs cs).length s.size).data.toList = rest from hex, hasPrefix_iff, decide_eq_false_iff_not]; exact hnp] at h
          exact h
        have HDEC := Lib.hid hdec
        have HX := Lib.hid hex; have HRNG := Lib.hid hrng; have HR := Lib.hid hr
        clear hr hdec hk hf hdc hex hrng
        go_wp2_with (go_at_call 28; refine (HPC.out _).mono ?_; rintro e w' ⟨rfl, rfl⟩)
        go_ret
        rw [HDEC.out]
        exact ⟨rfl, (Ext.refl w).iter _ _⟩
      · have hrng := rng_first rest hr (by rw [hf]; exact hk)
        rw [hrng, hf] at hnx0
        obtain ⟨hcp, hw, r, hr2⟩ := firstL_some hf (Nat.pos_of_ne_zero hk)
        have henc : encs (cs ++ [n]) = encs cs ++ enc1 n := by rw [encs_append, encs_single]
        have hl2 : (encs (cs ++ [n])).length = (encs cs).length + k := by rw [henc, List.length_append, enc1_length, hw]
        have hkp : 0 < k := Nat.pos_of_ne_zero hk
        have hrel : ∃ (cs' : List Nat) (rest' : List UInt8), (∀ c ∈ cs', IsCp c) ∧ bs s = encs cs' ++ rest' ∧ Value.int .i64 (cs.length + 1 : Int) = .int .i64 cs'.length ∧ w.iter s ((encs cs).length + k) = w.iter s (encs cs').length := by
          refine ⟨cs ++ [n], r, fun c hc => ?_, by rw [HBS.out, hr2, henc, List.append_assoc], ?_, by rw [hl2]⟩
          · rcases List.mem_append.1 hc with h | h
            · exact HCP.out c h
            · rw [List.mem_singleton.1 h]; exact hcp
          · rw [List.length_append]; go_num
        have HREL := Lib.hid hrel
        by_cases hn : n = 65533
        · have HPC : Hid (∀ w', Calls Tryz.prog 28 #[.string (s.extract (encs cs).length s.size), .string ⟨#[239, 191, 189]⟩] w' fun e w'' => e = .returned (.bool true) ∧ w'' = w') := Lib.hid fun w' => by
            have h := Tryz.strings_HasPrefix (s.extract (encs cs).length s.size) ⟨#[239, 191, 189]⟩ w'
            rw [show Lib.hasPrefix (s.extract (encs cs).length s.size).data.toList #[239, 191, 189].toList = true from by
              rw [show (s.extract (encs cs).length s.size).data.toList = rest from hex, hasPrefix_iff, decide_eq_true_eq]
              exact ⟨r, by rw [hr2, hn]; rfl⟩] at h
            exact h
          have ht : ((n : Int) == 65533) = true := by rw [hn]; rfl
          clear hr hk hf hdc hex hrng hr2 hcp hw henc hl2 hrel hn
          go_wp2_with (go_at_call 28; refine (HPC.out _).mono ?_; rintro e w' ⟨rfl, rfl⟩)
          go_roundw
          case rel => exact HREL.out
          case measure => simp; omega
        · have ht : ((n : Int) == 65533) = false := by rw [beq_eq_false_iff_ne]; omega
          clear hr hk hf hdc hex hrng hr2 hcp hw henc hl2 hrel hn
          go_wp2_with fail
          go_roundw
          case rel => exact HREL.out
          case measure => simp; omega
theorem valid_c (s : ByteArray) (w : World) (hs : s.size ≤ 1000000000) :
    Calls Tryz.prog 104 #[.string s] w fun e w' => e = .returned (.bool (dec (bs s)).isSome) ∧ Ext w w' := by
  go_enter Tryz.func104, Tryz.ntmps104
  go_wp2_with fail
  refine (count_c s _ hs).mono ?_
  rintro e w1 ⟨rfl, hx⟩
  have h : decide (0 ≤ cntF (bs s)) = (dec (bs s)).isSome := by
    unfold cntF
    cases dec (bs s) with
    | none => rfl
    | some cs => simp
  go_wp2_with fail
  go_ret
  exact ⟨rfl, hx⟩
end Go.Proofs.YtgcaphjjigpjlaaGreatDoor
namespace Go.Proofs.YtgcaphjjigpjlaaGreatDoor
open Go.RowKit
set_option maxRecDepth 100000
set_option maxHeartbeats 1000000
theorem encs_take_succ (cs : List Nat) (i : Nat) (h : i < cs.length) : encs (cs.take (i + 1)) = encs (cs.take i) ++ enc1 cs[i] := by
  rw [List.take_succ_eq_append_getElem h, encs_append, encs_single]
end Go.Proofs.YtgcaphjjigpjlaaGreatDoor
namespace Go.Proofs.YtgcaphjjigpjlaaGreatDoor
open Go.RowKit
set_option maxRecDepth 100000
set_option maxHeartbeats 1000000
def ruleC (k : Int) : Array Value :=
  if k = 1 then #[.bool true, .int .i64 1048576, .bool true, .bool true, .bool false]
  else if k = 2 then #[.bool true, .int .i64 0, .bool false, .bool false, .bool true]
  else if k = 3 then #[.bool true, .int .i64 1048576, .bool true, .bool false, .bool false]
  else #[.bool false, .int .i64 0, .bool false, .bool false, .bool false]
theorem ruleOf_c (k : Int) (w : World) [hT : Tab w] :
    Calls Tryz.prog 91 #[.int .i64 k] w fun e w' => e = .returned (.agg (ruleC k)) ∧ Ext w w' := by
  have HX : Hid (∀ o, Ext w (w.alloc o)) := Lib.hid fun o => (Ext.refl w).alloc o
  rcases (by omega : k < 0 ∨ k = 0 ∨ k = 1 ∨ k = 2 ∨ k = 3 ∨ (0 ≤ k ∧ 4 ≤ k)) with h | h | h | h | h | ⟨h0, h⟩
  · have e : ruleC k = #[.bool false, .int .i64 0, .bool false, .bool false, .bool false] := by
      unfold ruleC; rw [if_neg (by omega), if_neg (by omega), if_neg (by omega)]
    rw [e]
    clear e
    go_enter Tryz.func91, Tryz.ntmps91
    go_wp2_with fail
    refine bodyPost_ret (results_cell_row rfl _ _ w.heap.size _ _ (0, 0) _ rfl (heap_alloc_new w _) Tryz.underlying121 rfl (by kernel_rfl)) rfl ?_
    exact ⟨rfl, HX.out _⟩
  · subst h
    have e : ruleC 0 = #[.bool false, .int .i64 0, .bool false, .bool false, .bool false] := by
      unfold ruleC; simp
    rw [e]
    clear e
    have c0 := fun o => tab_rules (w := w.alloc o) inferInstance 0 _ rfl
    have c1 := fun o => tab_rules (w := w.alloc o) inferInstance 1 _ rfl
    have c2 := fun o => tab_rules (w := w.alloc o) inferInstance 2 _ rfl
    have c3 := fun o => tab_rules (w := w.alloc o) inferInstance 3 _ rfl
    have c4 := fun o => tab_rules (w := w.alloc o) inferInstance 4 _ rfl
    go_enter Tryz.func91, Tryz.ntmps91
    go_wp2_with fail
    refine bodyPost_ret (results_cell_row rfl _ _ w.heap.size _ _ (0, 0) _ rfl (heap_alloc_new w _) Tryz.underlying121 rfl (by kernel_rfl)) rfl ?_
    exact ⟨rfl, HX.out _⟩
  · subst h
    have e : ruleC 1 = #[.bool true, .int .i64 1048576, .bool true, .bool true, .bool false] := by
      unfold ruleC; simp
    rw [e]
    clear e
    have c0 := fun o => tab_rules (w := w.alloc o) inferInstance 5 _ rfl
    have c1 := fun o => tab_rules (w := w.alloc o) inferInstance 6 _ rfl
    have c2 := fun o => tab_rules (w := w.alloc o) inferInstance 7 _ rfl
    have c3 := fun o => tab_rules (w := w.alloc o) inferInstance 8 _ rfl
    have c4 := fun o => tab_rules (w := w.alloc o) inferInstance 9 _ rfl
    go_enter Tryz.func91, Tryz.ntmps91
    go_wp2_with fail
    refine bodyPost_ret (results_cell_row rfl _ _ w.heap.size _ _ (0, 0) _ rfl (heap_alloc_new w _) Tryz.underlying121 rfl (by kernel_rfl)) rfl ?_
    exact ⟨rfl, HX.out _⟩
  · subst h
    have e : ruleC 2 = #[.bool true, .int .i64 0, .bool false, .bool false, .bool true] := by
      unfold ruleC; simp
    rw [e]
    clear e
    have c0 := fun o => tab_rules (w := w.alloc o) inferInstance 10 _ rfl
    have c1 := fun o => tab_rules (w := w.alloc o) inferInstance 11 _ rfl
    have c2 := fun o => tab_rules (w := w.alloc o) inferInstance 12 _ rfl
    have c3 := fun o => tab_rules (w := w.alloc o) inferInstance 13 _ rfl
    have c4 := fun o => tab_rules (w := w.alloc o) inferInstance 14 _ rfl
    go_enter Tryz.func91, Tryz.ntmps91
    go_wp2_with fail
    refine bodyPost_ret (results_cell_row rfl _ _ w.heap.size _ _ (0, 0) _ rfl (heap_alloc_new w _) Tryz.underlying121 rfl (by kernel_rfl)) rfl ?_
    exact ⟨rfl, HX.out _⟩
  · subst h
    have e : ruleC 3 = #[.bool true, .int .i64 1048576, .bool true, .bool false, .bool false] := by
      unfold ruleC; simp
    rw [e]
    clear e
    have c0 := fun o => tab_rules (w := w.alloc o) inferInstance 15 _ rfl
    have c1 := fun o => tab_rules (w := w.alloc o) inferInstance 16 _ rfl
    have c2 := fun o => tab_rules (w := w.alloc o) inferInstance 17 _ rfl
    have c3 := fun o => tab_rules (w := w.alloc o) inferInstance 18 _ rfl
    have c4 := fun o => tab_rules (w := w.alloc o) inferInstance 19 _ rfl
    go_enter Tryz.func91, Tryz.ntmps91
    go_wp2_with fail
    refine bodyPost_ret (results_cell_row rfl _ _ w.heap.size _ _ (0, 0) _ rfl (heap_alloc_new w _) Tryz.underlying121 rfl (by kernel_rfl)) rfl ?_
    exact ⟨rfl, HX.out _⟩
  · have e : ruleC k = #[.bool false, .int .i64 0, .bool false, .bool false, .bool false] := by
      unfold ruleC; rw [if_neg (by omega), if_neg (by omega), if_neg (by omega)]
    rw [e]
    clear e
    go_enter Tryz.func91, Tryz.ntmps91
    go_wp2_with fail
    refine bodyPost_ret (results_cell_row rfl _ _ w.heap.size _ _ (0, 0) _ rfl (heap_alloc_new w _) Tryz.underlying121 rfl (by kernel_rfl)) rfl ?_
    exact ⟨rfl, HX.out _⟩
theorem textMay_c (a b c p : Bool) (m : Int) (t : ByteArray) (w : World) (ht : t.size ≤ 1000000000) :
    Calls Tryz.prog 92 #[.agg #[.bool a, .int .i64 m, .bool b, .bool c, .bool p], .string t] w fun e w' => e = .returned (.bool (if p then (dec (bs t)).isSome else (bs t).isEmpty)) ∧ Ext w w' := by
  have HX : Hid (∀ o, Ext w (w.alloc o)) := Lib.hid fun o => (Ext.refl w).alloc o
  have HV := Lib.hid (fun w' => valid_c t w' ht)
  have htl := toList_bs t
  cases p
  · rw [if_neg (by decide)]
    obtain ⟨e, he⟩ : ∃ e, e = (bs t).isEmpty := ⟨_, rfl⟩
    have hE : t.toList.isEmpty = e := by rw [htl]; exact he.symm
    rw [← he]
    clear htl he
    cases e
    all_goals
      go_enter Tryz.func92, Tryz.ntmps92
      go_wp2_with fail
      go_ret
      exact ⟨rfl, HX.out _⟩
  · rw [if_pos rfl]
    clear htl
    generalize (dec (bs t)).isSome = v at *
    go_enter Tryz.func92, Tryz.ntmps92
    go_wp2_with fail
    refine (HV.out _).mono ?_; rintro e w1 ⟨rfl, hx1⟩
    go_wp2_with fail
    go_ret
    exact ⟨rfl, (HX.out _).trans hx1⟩
theorem may_c (k n : Int) (t : ByteArray) (w : World) [Tab w] (ht : t.size ≤ 1000000000) :
    Calls Tryz.prog 76 #[spanV k n t] w fun e w' => e = .returned (.int .i64 (mayS k n t)) ∧ Ext w w' := by
  have HX : Hid (∀ o, Ext w (w.alloc o)) := Lib.hid fun o => (Ext.refl w).alloc o
  have hR := fun (w' : World) [Tab w'] => ruleOf_c k w'
  rcases (by omega : k = 1 ∨ k = 2 ∨ k = 3 ∨ (k ≠ 1 ∧ k ≠ 2 ∧ k ≠ 3)) with hk | hk | hk | ⟨h1, h2, h3⟩
  · subst hk
    have hr : ruleC 1 = #[.bool true, .int .i64 1048576, .bool true, .bool true, .bool false] := by unfold ruleC; simp
    rw [hr] at hR
    have HR := Lib.hid hR
    clear hr hR
    have hs : mayS 1 n t = if n < 0 ∨ 1048576 < n then 2 else if (bs t).isEmpty then 0 else 3 := by unfold mayS; rw [if_pos (by omega)]
    rw [hs]
    clear hs
    have HM := Lib.hid (fun (w' : World) => textMay_c true true true false 1048576 t w' ht)
    rw [if_neg (by decide)] at HM
    generalize (bs t).isEmpty = v at *
    rcases (by omega : n < 0 ∨ (0 ≤ n ∧ 1048576 < n) ∨ (0 ≤ n ∧ n ≤ 1048576)) with hn | ⟨hn, hn'⟩ | ⟨hn, hn'⟩
    · rw [if_pos (by omega)]
      unfold spanV
      go_enter Tryz.func76, Tryz.ntmps76
      go_wp2_with fail
      refine (HR.out _).mono ?_; rintro e w1 ⟨rfl, hx1⟩
      have q0 := fun o => box_at _ _ _ _ (hx1.alloc o) 0 _ rfl
      have q1 := fun o => box_at _ _ _ _ (hx1.alloc o) 1 _ rfl
      have q2 := fun o => box_at _ _ _ _ (hx1.alloc o) 2 _ rfl
      go_wp2_with fail
      go_ret
      exact ⟨rfl, ((HX.out _).trans hx1).alloc _⟩
    · rw [if_pos (by omega)]
      unfold spanV
      go_enter Tryz.func76, Tryz.ntmps76
      go_wp2_with fail
      refine (HR.out _).mono ?_; rintro e w1 ⟨rfl, hx1⟩
      have q0 := fun o => box_at _ _ _ _ (hx1.alloc o) 0 _ rfl
      have q1 := fun o => box_at _ _ _ _ (hx1.alloc o) 1 _ rfl
      have q2 := fun o => box_at _ _ _ _ (hx1.alloc o) 2 _ rfl
      go_wp2_with fail
      go_ret
      exact ⟨rfl, ((HX.out _).trans hx1).alloc _⟩
    · rw [if_neg (by omega)]
      unfold spanV
      cases v
      all_goals
        go_enter Tryz.func76, Tryz.ntmps76
        go_wp2_with fail
        refine (HR.out _).mono ?_; rintro e w1 ⟨rfl, hx1⟩
        have q0 := fun o => box_at _ _ _ _ (hx1.alloc o) 0 _ rfl
        have q1 := fun o => box_at _ _ _ _ (hx1.alloc o) 1 _ rfl
        have q2 := fun o => box_at _ _ _ _ (hx1.alloc o) 2 _ rfl
        go_wp2_with fail
        refine (HM.out _).mono ?_; rintro e w2 ⟨rfl, hx2⟩
        go_wp2_with fail
        go_ret
        exact ⟨rfl, (((HX.out _).trans hx1).alloc _).trans hx2⟩
  · subst hk
    have hr : ruleC 2 = #[.bool true, .int .i64 0, .bool false, .bool false, .bool true] := by unfold ruleC; simp
    rw [hr] at hR
    have HR := Lib.hid hR
    clear hr hR
    have HM := Lib.hid (fun (w' : World) => textMay_c true false false true 0 t w' ht)
    rw [if_pos rfl] at HM
    rcases (by omega : n < 0 ∨ (0 ≤ n ∧ 0 < n) ∨ n = 0) with hn | ⟨hn, hn'⟩ | hn
    · have hs : mayS 2 n t = 2 := by unfold mayS; rw [if_neg (by omega), if_pos rfl, if_neg (by omega)]
      rw [hs]
      clear hs
      unfold spanV
      go_enter Tryz.func76, Tryz.ntmps76
      go_wp2_with fail
      refine (HR.out _).mono ?_; rintro e w1 ⟨rfl, hx1⟩
      have q0 := fun o => box_at _ _ _ _ (hx1.alloc o) 0 _ rfl
      have q1 := fun o => box_at _ _ _ _ (hx1.alloc o) 1 _ rfl
      have q2 := fun o => box_at _ _ _ _ (hx1.alloc o) 2 _ rfl
      go_wp2_with fail
      go_ret
      exact ⟨rfl, ((HX.out _).trans hx1).alloc _⟩
    · have hs : mayS 2 n t = 2 := by unfold mayS; rw [if_neg (by omega), if_pos rfl, if_neg (by omega)]
      rw [hs]
      clear hs
      unfold spanV
      go_enter Tryz.func76, Tryz.ntmps76
      go_wp2_with fail
      refine (HR.out _).mono ?_; rintro e w1 ⟨rfl, hx1⟩
      have q0 := fun o => box_at _ _ _ _ (hx1.alloc o) 0 _ rfl
      have q1 := fun o => box_at _ _ _ _ (hx1.alloc o) 1 _ rfl
      have q2 := fun o => box_at _ _ _ _ (hx1.alloc o) 2 _ rfl
      go_wp2_with fail
      go_ret
      exact ⟨rfl, ((HX.out _).trans hx1).alloc _⟩
    · subst hn
      have hs : mayS 2 0 t = if (dec (bs t)).isSome then 0 else 3 := by unfold mayS; rw [if_neg (by omega), if_pos rfl, if_pos rfl]
      rw [hs]
      clear hs
      generalize (dec (bs t)).isSome = v at *
      unfold spanV
      cases v
      all_goals
        go_enter Tryz.func76, Tryz.ntmps76
        go_wp2_with fail
        refine (HR.out _).mono ?_; rintro e w1 ⟨rfl, hx1⟩
        have q0 := fun o => box_at _ _ _ _ (hx1.alloc o) 0 _ rfl
        have q1 := fun o => box_at _ _ _ _ (hx1.alloc o) 1 _ rfl
        have q2 := fun o => box_at _ _ _ _ (hx1.alloc o) 2 _ rfl
        go_wp2_with fail
        refine (HM.out _).mono ?_; rintro e w2 ⟨rfl, hx2⟩
        go_wp2_with fail
        go_ret
        exact ⟨rfl, (((HX.out _).trans hx1).alloc _).trans hx2⟩
  · subst hk
    have hr : ruleC 3 = #[.bool true, .int .i64 1048576, .bool true, .bool false, .bool false] := by unfold ruleC; simp
    rw [hr] at hR
    have HR := Lib.hid hR
    clear hr hR
    have hs : mayS 3 n t = if n < 0 ∨ 1048576 < n then 2 else if (bs t).isEmpty then 0 else 3 := by unfold mayS; rw [if_pos (by omega)]
    rw [hs]
    clear hs
    have HM := Lib.hid (fun (w' : World) => textMay_c true true false false 1048576 t w' ht)
    rw [if_neg (by decide)] at HM
    generalize (bs t).isEmpty = v at *
    rcases (by omega : n < 0 ∨ (0 ≤ n ∧ 1048576 < n) ∨ (0 ≤ n ∧ n ≤ 1048576)) with hn | ⟨hn, hn'⟩ | ⟨hn, hn'⟩
    · rw [if_pos (by omega)]
      unfold spanV
      go_enter Tryz.func76, Tryz.ntmps76
      go_wp2_with fail
      refine (HR.out _).mono ?_; rintro e w1 ⟨rfl, hx1⟩
      have q0 := fun o => box_at _ _ _ _ (hx1.alloc o) 0 _ rfl
      have q1 := fun o => box_at _ _ _ _ (hx1.alloc o) 1 _ rfl
      have q2 := fun o => box_at _ _ _ _ (hx1.alloc o) 2 _ rfl
      go_wp2_with fail
      go_ret
      exact ⟨rfl, ((HX.out _).trans hx1).alloc _⟩
    · rw [if_pos (by omega)]
      unfold spanV
      go_enter Tryz.func76, Tryz.ntmps76
      go_wp2_with fail
      refine (HR.out _).mono ?_; rintro e w1 ⟨rfl, hx1⟩
      have q0 := fun o => box_at _ _ _ _ (hx1.alloc o) 0 _ rfl
      have q1 := fun o => box_at _ _ _ _ (hx1.alloc o) 1 _ rfl
      have q2 := fun o => box_at _ _ _ _ (hx1.alloc o) 2 _ rfl
      go_wp2_with fail
      go_ret
      exact ⟨rfl, ((HX.out _).trans hx1).alloc _⟩
    · rw [if_neg (by omega)]
      unfold spanV
      cases v
      all_goals
        go_enter Tryz.func76, Tryz.ntmps76
        go_wp2_with fail
        refine (HR.out _).mono ?_; rintro e w1 ⟨rfl, hx1⟩
        have q0 := fun o => box_at _ _ _ _ (hx1.alloc o) 0 _ rfl
        have q1 := fun o => box_at _ _ _ _ (hx1.alloc o) 1 _ rfl
        have q2 := fun o => box_at _ _ _ _ (hx1.alloc o) 2 _ rfl
        go_wp2_with fail
        refine (HM.out _).mono ?_; rintro e w2 ⟨rfl, hx2⟩
        go_wp2_with fail
        go_ret
        exact ⟨rfl, (((HX.out _).trans hx1).alloc _).trans hx2⟩
  · have hs : mayS k n t = 1 := by unfold mayS; rw [if_neg (by omega), if_neg (by omega)]
    have hr : ruleC k = #[.bool false, .int .i64 0, .bool false, .bool false, .bool false] := by unfold ruleC; rw [if_neg (by omega), if_neg (by omega), if_neg (by omega)]
    rw [hr] at hR
    have HR := Lib.hid hR
    clear hr hR
    rw [hs]
    clear hs
    unfold spanV
    go_enter Tryz.func76, Tryz.ntmps76
    go_wp2_with fail
    refine (HR.out _).mono ?_; rintro e w1 ⟨rfl, hx1⟩
    have q0 := fun o => box_at _ _ _ _ (hx1.alloc o) 0 _ rfl
    have q1 := fun o => box_at _ _ _ _ (hx1.alloc o) 1 _ rfl
    have q2 := fun o => box_at _ _ _ _ (hx1.alloc o) 2 _ rfl
    go_wp2_with fail
    go_ret
    exact ⟨rfl, ((HX.out _).trans hx1).alloc _⟩
theorem in_c (k n : Int) (t : ByteArray) (w : World) [Tab w] :
    Calls Tryz.prog 93 #[spanV k n t] w fun e w' => e = .returned (.int .i64 (inS k n)) ∧ Ext w w' := by
  have HX : Hid (∀ o, Ext w (w.alloc o)) := Lib.hid fun o => (Ext.refl w).alloc o
  have hR := fun (w' : World) [Tab w'] => ruleOf_c k w'
  rcases (by omega : k = 1 ∨ k = 2 ∨ k = 3 ∨ (k ≠ 1 ∧ k ≠ 2 ∧ k ≠ 3)) with hk | hk | hk | ⟨h1, h2, h3⟩
  · subst hk
    have hr : ruleC 1 = #[.bool true, .int .i64 1048576, .bool true, .bool true, .bool false] := by unfold ruleC; simp
    rw [hr] at hR
    have HR := Lib.hid hR
    clear hr hR
    have hs : inS 1 n = n := by unfold inS; rw [if_pos (by omega)]
    rw [hs]
    clear hs
    unfold spanV
    have hfd : ∀ W : World, (Instr.field 121 (.agg #[.bool true, .int .i64 1048576, .bool true, .bool true, .bool false]) 2).run Tryz.prog W = .ok (.bool true) W := fun _ => by kernel_rfl
    go_enter Tryz.func93, Tryz.ntmps93
    go_wp2_with fail
    refine (HR.out _).mono ?_; rintro e w1 ⟨rfl, hx1⟩
    have q0 := box_at _ _ _ _ hx1 0 _ rfl
    have q1 := box_at _ _ _ _ hx1 1 _ rfl
    have q2 := box_at _ _ _ _ hx1 2 _ rfl
    go_wp2_with fail
    go_ret
    exact ⟨rfl, (HX.out _).trans hx1⟩
  · subst hk
    have hr : ruleC 2 = #[.bool true, .int .i64 0, .bool false, .bool false, .bool true] := by unfold ruleC; simp
    rw [hr] at hR
    have HR := Lib.hid hR
    clear hr hR
    have hs : inS 2 n = 0 := by unfold inS; rw [if_neg (by omega)]
    rw [hs]
    clear hs
    unfold spanV
    have hfd : ∀ W : World, (Instr.field 121 (.agg #[.bool true, .int .i64 0, .bool false, .bool false, .bool true]) 2).run Tryz.prog W = .ok (.bool false) W := fun _ => by kernel_rfl
    go_enter Tryz.func93, Tryz.ntmps93
    go_wp2_with fail
    refine (HR.out _).mono ?_; rintro e w1 ⟨rfl, hx1⟩
    have q0 := box_at _ _ _ _ hx1 0 _ rfl
    have q1 := box_at _ _ _ _ hx1 1 _ rfl
    have q2 := box_at _ _ _ _ hx1 2 _ rfl
    go_wp2_with fail
    go_ret
    exact ⟨rfl, (HX.out _).trans hx1⟩
  · subst hk
    have hr : ruleC 3 = #[.bool true, .int .i64 1048576, .bool true, .bool false, .bool false] := by unfold ruleC; simp
    rw [hr] at hR
    have HR := Lib.hid hR
    clear hr hR
    have hs : inS 3 n = n := by unfold inS; rw [if_pos (by omega)]
    rw [hs]
    clear hs
    unfold spanV
    have hfd : ∀ W : World, (Instr.field 121 (.agg #[.bool true, .int .i64 1048576, .bool true, .bool false, .bool false]) 2).run Tryz.prog W = .ok (.bool true) W := fun _ => by kernel_rfl
    go_enter Tryz.func93, Tryz.ntmps93
    go_wp2_with fail
    refine (HR.out _).mono ?_; rintro e w1 ⟨rfl, hx1⟩
    have q0 := box_at _ _ _ _ hx1 0 _ rfl
    have q1 := box_at _ _ _ _ hx1 1 _ rfl
    have q2 := box_at _ _ _ _ hx1 2 _ rfl
    go_wp2_with fail
    go_ret
    exact ⟨rfl, (HX.out _).trans hx1⟩
  · skip
    have hr : ruleC k = #[.bool false, .int .i64 0, .bool false, .bool false, .bool false] := by unfold ruleC; rw [if_neg (by omega), if_neg (by omega), if_neg (by omega)]
    rw [hr] at hR
    have HR := Lib.hid hR
    clear hr hR
    have hs : inS k n = 0 := by unfold inS; rw [if_neg (by omega)]
    rw [hs]
    clear hs
    unfold spanV
    have hfd : ∀ W : World, (Instr.field 121 (.agg #[.bool false, .int .i64 0, .bool false, .bool false, .bool false]) 2).run Tryz.prog W = .ok (.bool false) W := fun _ => by kernel_rfl
    go_enter Tryz.func93, Tryz.ntmps93
    go_wp2_with fail
    refine (HR.out _).mono ?_; rintro e w1 ⟨rfl, hx1⟩
    have q0 := box_at _ _ _ _ hx1 0 _ rfl
    have q1 := box_at _ _ _ _ hx1 1 _ rfl
    have q2 := box_at _ _ _ _ hx1 2 _ rfl
    go_wp2_with fail
    go_ret
    exact ⟨rfl, (HX.out _).trans hx1⟩
theorem out_c (k n : Int) (t : ByteArray) (w : World) [Tab w] (ht : t.size ≤ 1000000000) :
    Calls Tryz.prog 78 #[spanV k n t] w fun e w' => e = .returned (.int .i64 (outS k n t)) ∧ Ext w w' := by
  have HX : Hid (∀ o, Ext w (w.alloc o)) := Lib.hid fun o => (Ext.refl w).alloc o
  have hR := fun (w' : World) [Tab w'] => ruleOf_c k w'
  have HV := Lib.hid (fun w' => count_c t w' ht)
  have hc0 : -1 ≤ cntF (bs t) := by unfold cntF; split <;> omega
  rcases (by omega : k = 1 ∨ k = 2 ∨ k = 3 ∨ (k ≠ 1 ∧ k ≠ 2 ∧ k ≠ 3)) with hk | hk | hk | ⟨h1, h2, h3⟩
  · subst hk
    have hr : ruleC 1 = #[.bool true, .int .i64 1048576, .bool true, .bool true, .bool false] := by unfold ruleC; simp
    rw [hr] at hR
    have HR := Lib.hid hR
    clear hr hR
    have hs : outS 1 n t = n := by unfold outS; rw [if_pos rfl]
    rw [hs]
    clear hs
    unfold spanV
    go_enter Tryz.func78, Tryz.ntmps78
    go_wp2_with fail
    refine (HR.out _).mono ?_; rintro e w1 ⟨rfl, hx1⟩
    have q0 := fun o => box_at _ _ _ _ (hx1.alloc o) 0 _ rfl
    have q1 := fun o => box_at _ _ _ _ (hx1.alloc o) 1 _ rfl
    have q2 := fun o => box_at _ _ _ _ (hx1.alloc o) 2 _ rfl
    go_wp2_with fail
    go_ret
    exact ⟨rfl, ((HX.out _).trans hx1).alloc _⟩
  · subst hk
    have hr : ruleC 2 = #[.bool true, .int .i64 0, .bool false, .bool false, .bool true] := by unfold ruleC; simp
    rw [hr] at hR
    have HR := Lib.hid hR
    clear hr hR
    have hs : outS 2 n t = max (cntF (bs t)) 0 := by unfold outS; rw [if_neg (by omega), if_pos rfl]
    rw [hs]
    clear hs
    generalize cntF (bs t) = v at *
    unfold spanV
    rcases (by omega : 0 < v ∨ v = 0 ∨ v < 0) with hv | hv | hv
    · have hv1 : max v 0 = v := by omega
      have hv2 : ¬ (v ≤ 0) := by omega
      rw [hv1]
      go_enter Tryz.func78, Tryz.ntmps78
      go_wp2_with fail
      refine (HR.out _).mono ?_; rintro e w1 ⟨rfl, hx1⟩
      have q0 := fun o => box_at _ _ _ _ (hx1.alloc o) 0 _ rfl
      have q1 := fun o => box_at _ _ _ _ (hx1.alloc o) 1 _ rfl
      have q2 := fun o => box_at _ _ _ _ (hx1.alloc o) 2 _ rfl
      go_wp2_with fail
      refine (HV.out _).mono ?_; rintro e w2 ⟨rfl, hx2⟩
      go_wp2_with fail
      go_ret
      exact ⟨rfl, (((HX.out _).trans hx1).alloc _).trans hx2⟩
    · subst hv
      have hv1 : max (0 : Int) 0 = 0 := by omega
      rw [hv1]
      go_enter Tryz.func78, Tryz.ntmps78
      go_wp2_with fail
      refine (HR.out _).mono ?_; rintro e w1 ⟨rfl, hx1⟩
      have q0 := fun o => box_at _ _ _ _ (hx1.alloc o) 0 _ rfl
      have q1 := fun o => box_at _ _ _ _ (hx1.alloc o) 1 _ rfl
      have q2 := fun o => box_at _ _ _ _ (hx1.alloc o) 2 _ rfl
      go_wp2_with fail
      refine (HV.out _).mono ?_; rintro e w2 ⟨rfl, hx2⟩
      go_wp2_with fail
      go_ret
      exact ⟨rfl, (((HX.out _).trans hx1).alloc _).trans hx2⟩
    · have hv1 : max v 0 = 0 := by omega
      have hv2 : v ≤ 0 := by omega
      rw [hv1]
      go_enter Tryz.func78, Tryz.ntmps78
      go_wp2_with fail
      refine (HR.out _).mono ?_; rintro e w1 ⟨rfl, hx1⟩
      have q0 := fun o => box_at _ _ _ _ (hx1.alloc o) 0 _ rfl
      have q1 := fun o => box_at _ _ _ _ (hx1.alloc o) 1 _ rfl
      have q2 := fun o => box_at _ _ _ _ (hx1.alloc o) 2 _ rfl
      go_wp2_with fail
      refine (HV.out _).mono ?_; rintro e w2 ⟨rfl, hx2⟩
      go_wp2_with fail
      go_ret
      exact ⟨rfl, (((HX.out _).trans hx1).alloc _).trans hx2⟩
  · subst hk
    have hr : ruleC 3 = #[.bool true, .int .i64 1048576, .bool true, .bool false, .bool false] := by unfold ruleC; simp
    rw [hr] at hR
    have HR := Lib.hid hR
    clear hr hR
    have hs : outS 3 n t = 0 := by unfold outS; rw [if_neg (by omega), if_neg (by omega)]
    rw [hs]
    clear hs
    unfold spanV
    go_enter Tryz.func78, Tryz.ntmps78
    go_wp2_with fail
    refine (HR.out _).mono ?_; rintro e w1 ⟨rfl, hx1⟩
    have q0 := fun o => box_at _ _ _ _ (hx1.alloc o) 0 _ rfl
    have q1 := fun o => box_at _ _ _ _ (hx1.alloc o) 1 _ rfl
    have q2 := fun o => box_at _ _ _ _ (hx1.alloc o) 2 _ rfl
    go_wp2_with fail
    go_ret
    exact ⟨rfl, ((HX.out _).trans hx1).alloc _⟩
  · skip
    have hr : ruleC k = #[.bool false, .int .i64 0, .bool false, .bool false, .bool false] := by unfold ruleC; rw [if_neg (by omega), if_neg (by omega), if_neg (by omega)]
    rw [hr] at hR
    have HR := Lib.hid hR
    clear hr hR
    have hs : outS k n t = 0 := by unfold outS; rw [if_neg (by omega), if_neg (by omega)]
    rw [hs]
    clear hs
    unfold spanV
    go_enter Tryz.func78, Tryz.ntmps78
    go_wp2_with fail
    refine (HR.out _).mono ?_; rintro e w1 ⟨rfl, hx1⟩
    have q0 := fun o => box_at _ _ _ _ (hx1.alloc o) 0 _ rfl
    have q1 := fun o => box_at _ _ _ _ (hx1.alloc o) 1 _ rfl
    have q2 := fun o => box_at _ _ _ _ (hx1.alloc o) 2 _ rfl
    go_wp2_with fail
    go_ret
    exact ⟨rfl, ((HX.out _).trans hx1).alloc _⟩
end Go.Proofs.YtgcaphjjigpjlaaGreatDoor
namespace Go.Proofs.YtgcaphjjigpjlaaGreatDoor
open Go.RowKit
set_option maxRecDepth 100000
set_option maxHeartbeats 1000000
theorem partIn_c (k n : Int) (t : ByteArray) (w : World) [Tab w] :
    Calls Tryz.prog 77 #[spanV k n t] w fun e w' => e = .returned (.int .i64 (inS k n)) ∧ Ext w w' := by
  have HX : Hid (∀ o, Ext w (w.alloc o)) := Lib.hid fun o => (Ext.refl w).alloc o
  have HC := Lib.hid (fun (w' : World) [Tab w'] => in_c k n t w')
  unfold spanV at HC
  generalize inS k n = y at *
  unfold spanV
  go_enter Tryz.func77, Tryz.ntmps77
  go_wp2_with fail
  refine (HC.out _).mono ?_; rintro e w1 ⟨rfl, hx1⟩
  go_wp2_with fail
  go_ret
  exact ⟨rfl, (HX.out _).trans hx1⟩
theorem sumIn_c (A : Option Addr) (n c : Nat) (l : List Sp) (w : World) [Tab w] (h : Rd w 3 (.slice A n c) n (spCells l)) (hl : l.length = n) (hn : n ≤ 1000) :
    Calls Tryz.prog 50 #[.slice A n c, .func (.func 77) #[] #[]] w fun e w' => e = .returned (.int .i64 (wrap64 (inL l))) ∧ Ext w w' := by
  have H := Lib.hid h; have HL := Lib.hid hl
  clear h hl
  go_enter Tryz.func50, Tryz.ntmps50
  go_wp2_with fail
  go_loopw [5, 10] (fun z q wr => ∃ j : Nat, j ≤ n ∧ q = .int .i64 j ∧ z = .int .i64 (wrap64 (inL (l.take j))) ∧ Ext w wr) (fun _ q _ => n - (intOf q).toNat)
  case atStart => exact ⟨0, by omega, rfl, by rw [inL_nil], Ext.refl _⟩
  case round =>
    obtain ⟨j, hj, rfl, rfl, hxr⟩ := hrel
    have htr := tab_ext hxr
    by_cases hlt : j < n
    · have hjl : j < l.length := by have := HL.out; omega
      obtain ⟨b, off, rfl, hb, q0, q1, q2⟩ := sp_at (H.out.ext hxr) HL.out hlt
      have dn : decide (j < n) = true := by rw [decide_eq_true_eq]; exact hlt
      have hst : wrap64 (wrap64 (inL (l.take j)) + inS l[j].1 l[j].2.1) = wrap64 (inL (l.take (j + 1))) := by rw [wrap_step, inL_take l j hjl]
      have HIN := Lib.hid (fun (w' : World) [Tab w'] => partIn_c l[j].1 l[j].2.1 l[j].2.2 w')
      unfold spanV at HIN
      have HST := Lib.hid hst
      have HX : Hid (∀ o, Ext wr (wr.alloc o)) := Lib.hid fun o => (Ext.refl wr).alloc o
      clear hst
      generalize inS l[j].1 l[j].2.1 = y at *
      generalize wrap64 (inL (l.take j)) = x at *
      generalize l[j].1 = a1 at *
      generalize l[j].2.1 = a2 at *
      generalize l[j].2.2 = a3 at *
      go_wp2_with fail
      refine (HIN.out _).mono ?_; rintro e w1 ⟨rfl, hx1⟩
      go_wp2_with fail
      go_roundw
      case rel => exact ⟨j + 1, by omega, by go_num, by rw [← HST.out], hxr.trans ((HX.out _).trans hx1)⟩
      case measure => simp [intOf]; omega
    · obtain rfl : j = n := by omega
      clear hlt hj
      have hall : l.take j = l := by rw [← HL.out]; exact List.take_length
      rw [hall]
      go_wp2_with fail
      go_ret
      exact ⟨rfl, hxr⟩
theorem in4_c (A : Option Addr) (n c : Nat) (l : List Sp) (w : World) [Tab w] (h : Rd w 3 (.slice A n c) n (spCells l)) (hl : l.length = n) (hn : n ≤ 1000) :
    Calls Tryz.prog 49 #[.slice A n c] w fun e w' => e = .returned (.int .i64 (wrap64 (inL l))) ∧ Ext w w' := by
  have HC : Hid (Calls Tryz.prog 50 #[.slice A n c, .func (.func 77) #[] #[]] w fun e w' => e = .returned (.int .i64 (wrap64 (inL l))) ∧ Ext w w') := Lib.hid (sumIn_c A n c l w h hl hn)
  generalize wrap64 (inL l) = y at *
  clear h hl
  go_enter Tryz.func49, Tryz.ntmps49
  go_wp2_with fail
  refine HC.out.mono ?_; rintro e w1 ⟨rfl, hx1⟩
  go_wp2_with fail
  go_ret
  exact ⟨rfl, hx1⟩
theorem partOut_c (k n : Int) (t : ByteArray) (w : World) [Tab w] (ht : t.size ≤ 1000000000) :
    Calls Tryz.prog 51 #[spanV k n t] w fun e w' => e = .returned (.int .i64 (outS k n t)) ∧ Ext w w' := by
  have HX : Hid (∀ o, Ext w (w.alloc o)) := Lib.hid fun o => (Ext.refl w).alloc o
  have HC := Lib.hid (fun (w' : World) [Tab w'] => out_c k n t w' ht)
  unfold spanV at HC
  generalize outS k n t = y at *
  unfold spanV
  go_enter Tryz.func51, Tryz.ntmps51
  go_wp2_with fail
  refine (HC.out _).mono ?_; rintro e w1 ⟨rfl, hx1⟩
  go_wp2_with fail
  go_ret
  exact ⟨rfl, (HX.out _).trans hx1⟩
theorem sumOut_c (A : Option Addr) (n c : Nat) (l : List Sp) (w : World) [Tab w] (h : Rd w 3 (.slice A n c) n (spCells l)) (hl : l.length = n) (hn : n ≤ 1000) (hs : ∀ s ∈ l, s.2.2.size ≤ 1000000000) :
    Calls Tryz.prog 50 #[.slice A n c, .func (.func 51) #[] #[]] w fun e w' => e = .returned (.int .i64 (wrap64 (outL l))) ∧ Ext w w' := by
  have H := Lib.hid h; have HL := Lib.hid hl; have HS := Lib.hid hs
  clear h hl hs
  go_enter Tryz.func50, Tryz.ntmps50
  go_wp2_with fail
  go_loopw [5, 10] (fun z q wr => ∃ j : Nat, j ≤ n ∧ q = .int .i64 j ∧ z = .int .i64 (wrap64 (outL (l.take j))) ∧ Ext w wr) (fun _ q _ => n - (intOf q).toNat)
  case atStart => exact ⟨0, by omega, rfl, by rw [outL_nil], Ext.refl _⟩
  case round =>
    obtain ⟨j, hj, rfl, rfl, hxr⟩ := hrel
    have htr := tab_ext hxr
    by_cases hlt : j < n
    · have hjl : j < l.length := by have := HL.out; omega
      obtain ⟨b, off, rfl, hb, q0, q1, q2⟩ := sp_at (H.out.ext hxr) HL.out hlt
      have dn : decide (j < n) = true := by rw [decide_eq_true_eq]; exact hlt
      have hst : wrap64 (wrap64 (outL (l.take j)) + outS l[j].1 l[j].2.1 l[j].2.2) = wrap64 (outL (l.take (j + 1))) := by rw [wrap_step, outL_take l j hjl]
      have HIN := Lib.hid (fun (w' : World) [Tab w'] => partOut_c l[j].1 l[j].2.1 l[j].2.2 w' (HS.out _ (List.getElem_mem hjl)))
      unfold spanV at HIN
      have HST := Lib.hid hst
      have HX : Hid (∀ o, Ext wr (wr.alloc o)) := Lib.hid fun o => (Ext.refl wr).alloc o
      clear hst
      generalize outS l[j].1 l[j].2.1 l[j].2.2 = y at *
      generalize wrap64 (outL (l.take j)) = x at *
      generalize l[j].1 = a1 at *
      generalize l[j].2.1 = a2 at *
      generalize l[j].2.2 = a3 at *
      go_wp2_with fail
      refine (HIN.out _).mono ?_; rintro e w1 ⟨rfl, hx1⟩
      go_wp2_with fail
      go_roundw
      case rel => exact ⟨j + 1, by omega, by go_num, by rw [← HST.out], hxr.trans ((HX.out _).trans hx1)⟩
      case measure => simp [intOf]; omega
    · obtain rfl : j = n := by omega
      clear hlt hj
      have hall : l.take j = l := by rw [← HL.out]; exact List.take_length
      rw [hall]
      go_wp2_with fail
      go_ret
      exact ⟨rfl, hxr⟩
theorem out4_c (A : Option Addr) (n c : Nat) (l : List Sp) (w : World) [Tab w] (h : Rd w 3 (.slice A n c) n (spCells l)) (hl : l.length = n) (hn : n ≤ 1000) (hs : ∀ s ∈ l, s.2.2.size ≤ 1000000000) :
    Calls Tryz.prog 30 #[.slice A n c] w fun e w' => e = .returned (.int .i64 (wrap64 (outL l))) ∧ Ext w w' := by
  have HC : Hid (Calls Tryz.prog 50 #[.slice A n c, .func (.func 51) #[] #[]] w fun e w' => e = .returned (.int .i64 (wrap64 (outL l))) ∧ Ext w w') := Lib.hid (sumOut_c A n c l w h hl hn hs)
  generalize wrap64 (outL l) = y at *
  clear h hl hs
  go_enter Tryz.func30, Tryz.ntmps30
  go_wp2_with fail
  refine HC.out.mono ?_; rintro e w1 ⟨rfl, hx1⟩
  go_wp2_with fail
  go_ret
  exact ⟨rfl, hx1⟩
theorem may4_c (A : Option Addr) (n c : Nat) (l : List Sp) (w : World) [Tab w] (h : Rd w 3 (.slice A n c) n (spCells l)) (hl : l.length = n) (hn : n ≤ 1000) (hs : ∀ s ∈ l, s.2.2.size ≤ 1000000000) :
    Calls Tryz.prog 48 #[.slice A n c] w fun e w' => e = .returned (.int .i64 (mayL l)) ∧ Ext w w' := by
  have HI4 : Hid (∀ w', Ext w w' → Calls Tryz.prog 49 #[.slice A n c] w' fun e w'' => e = .returned (.int .i64 (wrap64 (inL l))) ∧ Ext w' w'') := Lib.hid fun w' hx => have hTb := tab_ext hx; in4_c A n c l w' (h.ext hx) hl hn
  have H := Lib.hid h; have HL := Lib.hid hl; have HS := Lib.hid hs
  clear h hl hs
  go_enter Tryz.func48, Tryz.ntmps48
  go_wp2_with fail
  go_loopw [8] (fun q wr => ∃ j : Nat, j ≤ n ∧ q = .int .i64 j ∧ (∀ s ∈ l.take j, mayS s.1 s.2.1 s.2.2 = 0) ∧ Ext w wr) (fun q _ => n - (intOf q).toNat)
  case atStart => exact ⟨0, by omega, rfl, by simp, Ext.refl _⟩
  case round =>
    obtain ⟨j, hj, rfl, hz, hxr⟩ := hrel
    have htr := tab_ext hxr
    have HZ := Lib.hid hz
    clear hz
    by_cases hlt : j < n
    · have hjl : j < l.length := by have := HL.out; omega
      obtain ⟨b, off, rfl, hb, q0, q1, q2⟩ := sp_at (H.out.ext hxr) HL.out hlt
      have HX : Hid (∀ o, Ext wr (wr.alloc o)) := Lib.hid fun o => (Ext.refl wr).alloc o
      have dn : decide (j < n) = true := by rw [decide_eq_true_eq]; exact hlt
      have HM := Lib.hid (fun (w' : World) [Tab w'] => may_c l[j].1 l[j].2.1 l[j].2.2 w' (HS.out _ (List.getElem_mem hjl)))
      unfold spanV at HM
      by_cases hy : mayS l[j].1 l[j].2.1 l[j].2.2 = 0
      · have HZ1 : Hid (∀ s ∈ l.take (j + 1), mayS s.1 s.2.1 s.2.2 = 0) := Lib.hid (by
          intro s hs
          rw [List.take_add_one, List.getElem?_eq_getElem hjl] at hs
          rcases List.mem_append.1 hs with hs | hs
          · exact HZ.out s hs
          · simp at hs; subst hs; exact hy)
        rw [hy] at HM
        clear hy
        generalize l[j].1 = a1 at *
        generalize l[j].2.1 = a2 at *
        generalize l[j].2.2 = a3 at *
        go_wp2_with fail
        refine (HM.out _).mono ?_; rintro e w1 ⟨rfl, hx1⟩; have ht1 := tab_ext hx1
        go_wp2_with fail
        go_roundw
        case rel => exact ⟨j + 1, by omega, by go_num, HZ1.out, hxr.trans ((HX.out _).trans hx1)⟩
        case measure => simp [intOf]; omega
      · have HE := Lib.hid (show mayL l = mayS l[j].1 l[j].2.1 l[j].2.2 by unfold mayL; rw [errL_first l j hjl HZ.out hy, if_neg hy])
        have hb1 : (mayS l[j].1 l[j].2.1 l[j].2.2 != 0) = true := by rw [bne_iff_ne]; exact hy
        clear hy
        generalize mayS l[j].1 l[j].2.1 l[j].2.2 = y at *
        generalize l[j].1 = a1 at *
        generalize l[j].2.1 = a2 at *
        generalize l[j].2.2 = a3 at *
        go_wp2_with fail
        refine (HM.out _).mono ?_; rintro e w1 ⟨rfl, hx1⟩; have ht1 := tab_ext hx1
        go_wp2_with fail
        go_ret
        rw [HE.out]
        exact ⟨rfl, hxr.trans ((HX.out _).trans hx1)⟩
    · obtain rfl : j = n := by omega
      clear hlt hj
      have h0 : errL l = 0 := errL_all l (by have h := HZ.out; rw [← HL.out, List.take_length] at h; exact h)
      have HE := Lib.hid (show mayL l = if 1048576 < wrap64 (inL l) then 4 else 0 by unfold mayL; rw [if_pos h0])
      clear h0
      generalize wrap64 (inL l) = x at *
      by_cases hx : 1048576 < x
      · rw [if_pos hx] at HE
        go_wp2_with fail
        refine (HI4.out _ hxr).mono ?_; rintro e w1 ⟨rfl, hx1⟩; have ht1 := tab_ext hx1
        go_wp2_with fail
        go_ret
        rw [HE.out]
        exact ⟨rfl, hxr.trans hx1⟩
      · rw [if_neg hx] at HE
        have hx' : x ≤ 1048576 := by omega
        go_wp2_with fail
        refine (HI4.out _ hxr).mono ?_; rintro e w1 ⟨rfl, hx1⟩; have ht1 := tab_ext hx1
        go_wp2_with fail
        go_ret
        rw [HE.out]
        exact ⟨rfl, hxr.trans hx1⟩
theorem keep4_c (n : Int) (w : World) : Calls Tryz.prog 68 #[.int .i64 n] w (KeepR w n) := by
  rcases (by omega : n < 0 ∨ (0 ≤ n ∧ 1048576 < n) ∨ n = 0 ∨ (0 < n ∧ n ≤ 1048576)) with h | ⟨h0, h⟩ | h | ⟨h0, h⟩
  · have H := Lib.hid h
    go_enter Tryz.func68, Tryz.ntmps68
    go_wp2_with fail
    go_ret2
    exact ⟨Ext.refl _, .inl ⟨.inl H.out, rfl⟩⟩
  · have H := Lib.hid h
    go_enter Tryz.func68, Tryz.ntmps68
    go_wp2_with fail
    go_ret2
    exact ⟨Ext.refl _, .inl ⟨.inr H.out, rfl⟩⟩
  · subst h
    go_enter Tryz.func68, Tryz.ntmps68
    go_wp2_with fail
    go_ret2
    exact ⟨Ext.refl _, .inr ⟨by omega, by omega, _, rfl, Rd.nil _ _⟩⟩
  · have hk : keepL n = [(1, n, ⟨#[]⟩)] := by unfold keepL; rw [if_neg (by omega)]
    have HK := Lib.hid hk
    have hn : (n == 0) = false := by rw [beq_eq_false_iff_ne]; omega
    clear hk
    go_enter Tryz.func68, Tryz.ntmps68
    go_wp2_with fail
    go_ret2
    refine ⟨(Ext.refl w).alloc _, .inr ⟨by omega, h, _, rfl, ?_⟩⟩
    rw [HK.out]
    exact (Own.made w w.heap.size 60 3 1 #[.int .i64 1, .int .i64 n, .string ⟨#[]⟩] (Nat.le_refl _) (by omega) rfl).rd
end Go.Proofs.YtgcaphjjigpjlaaGreatDoor
