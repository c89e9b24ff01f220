/- Layer 1, the reference: first. -/
import Derived.Test.YthfkchpbbjpenaaDoorC1a
namespace Go.Proofs.YthfkchpbbjpenaaDoor
open Go.RowKit
set_option maxRecDepth 100000
set_option maxHeartbeats 1000000

theorem contF_next (l : List UInt8) (n0 j : Nat) (h : nth l (j + 1) / 64 = 2) : ((contF l n0 (j + 1) : Nat) : Int) = (contF l n0 j : Int) * 64 + (nth l (j + 1) : Int) - 128 := by
  show ((contF l n0 j * 64 + (nth l (j + 1) - 128) : Nat) : Int) = _
  omega
theorem first_nil_c (s : ByteArray) (w : World) (h0 : s.size = 0) :
    Calls Tryd.prog 38 #[.string s] w fun e w' => e = .returned (.tuple #[.int .i64 (firstL (bs s)).1, .int .i64 (firstL (bs s)).2]) ∧ w = w' := by
  have h1 : firstL (bs s) = (0, 0) := by
    have : bs s = [] := List.eq_nil_of_length_eq_zero (by rw [bs_length]; exact h0)
    rw [this]; exact firstL_nil
  have H := Lib.hid h1; clear h1
  have h2 : ((s.size : Int) == 0) = true := by rw [h0]; rfl
  have H0 := Lib.hid h0; clear h0
  go_enter Tryd.func38, Tryd.ntmps38
  go_wp2
  go_ret2
  rw [H.out]
  exact ⟨rfl, rfl⟩
theorem first_odd_c (s : ByteArray) (w : World) (hs : s.size ≤ 1000000000) (h0 : 0 < s.size) (hc : (128 ≤ nth (bs s) 0 ∧ nth (bs s) 0 < 192) ∨ 248 ≤ nth (bs s) 0) :
    Calls Tryd.prog 38 #[.string s] w fun e w' => e = .returned (.tuple #[.int .i64 (firstL (bs s)).1, .int .i64 (firstL (bs s)).2]) ∧ w = w' := by
  have H := Lib.hid (first_odd _ hc)
  have hz : ((s.size : Int) == 0) = false := by rw [beq_eq_false_iff_ne]; omega
  have hlt := nth_lt (bs s) 0
  rw [nth_bs s 0 h0] at hc hlt
  rcases hc with ⟨hc, hd⟩ | hc
  all_goals
    go_enter Tryd.func38, Tryd.ntmps38
    go_wp2
    go_ret2
    rw [H.out]
    exact ⟨rfl, rfl⟩

theorem first_1s_c (s : ByteArray) (w : World) (hs : s.size < 1 + 1) (h0 : 0 < s.size) (hl : 192 ≤ nth (bs s) 0) (hh : nth (bs s) 0 < 224) :
    Calls Tryd.prog 38 #[.string s] w fun e w' => e = .returned (.tuple #[.int .i64 (firstL (bs s)).1, .int .i64 (firstL (bs s)).2]) ∧ w = w' := by
  have H := Lib.hid (first_short (bs s) 1 (nth (bs s) 0 - 192) (Or.inl ⟨hl, hh, rfl, rfl⟩) (by rw [bs_length]; exact hs))
  have hz : ((s.size : Int) == 0) = false := by rw [beq_eq_false_iff_ne]; omega
  rw [nth_bs s 0 h0] at hl hh
  go_enter Tryd.func38, Tryd.ntmps38
  go_wp2
  go_ret2
  rw [H.out]
  exact ⟨rfl, rfl⟩
theorem first_1_c (s : ByteArray) (w : World) (hs : s.size ≤ 1000000000) (h1 : 1 + 1 ≤ s.size) (hl : 192 ≤ nth (bs s) 0) (hh : nth (bs s) 0 < 224) :
    Calls Tryd.prog 38 #[.string s] w fun e w' => e = .returned (.tuple #[.int .i64 (firstL (bs s)).1, .int .i64 (firstL (bs s)).2]) ∧ w = w' := by
  have h0 : 0 < s.size := by omega
  have hlead : Lead (nth (bs s) 0) 1 (nth (bs s) 0 - 192) := Or.inl ⟨hl, hh, rfl, rfl⟩
  have hlt := nth_lt (bs s) 0
  have hlen : 1 + 1 ≤ (bs s).length := by rw [bs_length]; exact h1
  have hz : ((s.size : Int) == 0) = false := by rw [beq_eq_false_iff_ne]; omega
  have e0 : ((nth (bs s) 0 : Nat) : Int) = (s[0]'h0).toNat := by rw [nth_bs s 0 h0]
  have hl' := hl; have hh' := hh
  rw [nth_bs s 0 h0] at hl' hh'
  have hd : decide (((s[0]'h0).toNat : Int) < 224) = true := by rw [decide_eq_true_eq]; omega
  obtain ⟨n0, hn0⟩ : ∃ n0, n0 = nth (bs s) 0 - 192 := ⟨_, rfl⟩
  have en : ((s[0]'h0).toNat : Int) - 192 = (n0 : Int) := by rw [← e0]; omega
  rw [← hn0] at hlead
  have hn32 : n0 < 32 := by omega
  have E0 := Lib.hid e0; have EN := Lib.hid en; have HN := Lib.hid hn0; have HLN := Lib.hid hlen; have HL := Lib.hid hlead
  clear e0 en hn0 hlen hlead hl hh hlt
  go_enter Tryd.func38, Tryd.ntmps38
  go_wp2
  go_loop [6, 7] (fun n i => ∃ j : Nat, j ≤ 1 ∧ i = .int .i64 (j + 1 : Nat) ∧ n = .int .i64 (contF (bs s) n0 j) ∧ ∀ t, 1 ≤ t → t ≤ j → nth (bs s) t / 64 = 2) (fun _ i => 1 + 1 - (intOf i).toNat)
  case atStart => exact ⟨0, by omega, rfl, by rw [EN.out]; rfl, fun t a b => by omega⟩
  case round =>
    obtain ⟨j, hj, rfl, rfl, hc⟩ := hrel
    have HC := Lib.hid hc; clear hc
    have hcl := contF_lt (bs s) n0 hn32 j (by omega)
    by_cases hlt : j < 1
    · have hjs : j + 1 < s.size := by omega
      have hb := nth_bs s (j + 1) hjs
      have hbl := nth_lt (bs s) (j + 1)
      by_cases hcc : nth (bs s) (j + 1) / 64 = 2
      · have HE := Lib.hid (contF_next (bs s) n0 j hcc)
        have g1 : 128 ≤ (s[j + 1]'hjs).toNat := by omega
        have g2 : (s[j + 1]'hjs).toNat ≤ 191 := by omega
        have HB := Lib.hid hb; have HCC := Lib.hid hcc; clear hb hcc
        go_wp2
        go_round
        case rel => exact ⟨j + 1, by omega, by go_num, by rw [HE.out, HB.out], fun t a b => by
          by_cases ht : t = j + 1
          · rw [ht]; exact HCC.out
          · exact HC.out t a (by omega)⟩
        case measure => simp [intOf]; omega
      · have H := Lib.hid (first_cont (bs s) 1 n0 (j + 1) HL.out (by omega) (by omega) hcc)
        have g3 : (s[j + 1]'hjs).toNat < 256 := by omega
        have g : (s[j + 1]'hjs).toNat < 128 ∨ 191 < (s[j + 1]'hjs).toNat := by omega
        have HB := Lib.hid hb; have HCC := Lib.hid hcc; clear hb hcc hbl
        rcases g with g | g
        all_goals
          go_wp2
          go_ret2
          rw [H.out]
          exact ⟨rfl, rfl⟩
    · obtain rfl : j = 1 := by omega
      have H := Lib.hid (first_end (bs s) 1 n0 HL.out HLN.out HC.out)
      generalize contF (bs s) n0 1 = m at *
      have hsz : ((sizeF (m : Int) != 1 + 1) = true ∧ firstL (bs s) = (0, 0)) ∨ ((sizeF (m : Int) != 1 + 1) = false ∧ firstL (bs s) = (m, 1 + 1)) := by
        by_cases q : sizeF (m : Int) = 1 + 1
        · exact .inr ⟨by rw [bne_eq_false_iff_eq]; exact q, (H.out).trans (if_pos q)⟩
        · exact .inl ⟨by rw [bne_iff_ne]; exact q, (H.out).trans (if_neg q)⟩
      clear H
      rcases hsz with ⟨q, H⟩ | ⟨q, H⟩
      all_goals
        have HH := Lib.hid H; clear H
        go_wp2_with (go_at_call 37; refine (size_c _ _).mono ?_; rintro e w' ⟨rfl, rfl⟩)
        go_ret2
        rw [HH.out]
        exact ⟨rfl, rfl⟩

theorem first_2s_c (s : ByteArray) (w : World) (hs : s.size < 2 + 1) (h0 : 0 < s.size) (hl : 224 ≤ nth (bs s) 0) (hh : nth (bs s) 0 < 240) :
    Calls Tryd.prog 38 #[.string s] w fun e w' => e = .returned (.tuple #[.int .i64 (firstL (bs s)).1, .int .i64 (firstL (bs s)).2]) ∧ w = w' := by
  have H := Lib.hid (first_short (bs s) 2 (nth (bs s) 0 - 224) (Or.inr (Or.inl ⟨hl, hh, rfl, rfl⟩)) (by rw [bs_length]; exact hs))
  have hz : ((s.size : Int) == 0) = false := by rw [beq_eq_false_iff_ne]; omega
  rw [nth_bs s 0 h0] at hl hh
  go_enter Tryd.func38, Tryd.ntmps38
  go_wp2
  go_ret2
  rw [H.out]
  exact ⟨rfl, rfl⟩
theorem first_2_c (s : ByteArray) (w : World) (hs : s.size ≤ 1000000000) (h1 : 2 + 1 ≤ s.size) (hl : 224 ≤ nth (bs s) 0) (hh : nth (bs s) 0 < 240) :
    Calls Tryd.prog 38 #[.string s] w fun e w' => e = .returned (.tuple #[.int .i64 (firstL (bs s)).1, .int .i64 (firstL (bs s)).2]) ∧ w = w' := by
  have h0 : 0 < s.size := by omega
  have hlead : Lead (nth (bs s) 0) 2 (nth (bs s) 0 - 224) := Or.inr (Or.inl ⟨hl, hh, rfl, rfl⟩)
  have hlt := nth_lt (bs s) 0
  have hlen : 2 + 1 ≤ (bs s).length := by rw [bs_length]; exact h1
  have hz : ((s.size : Int) == 0) = false := by rw [beq_eq_false_iff_ne]; omega
  have e0 : ((nth (bs s) 0 : Nat) : Int) = (s[0]'h0).toNat := by rw [nth_bs s 0 h0]
  have hl' := hl; have hh' := hh
  rw [nth_bs s 0 h0] at hl' hh'
  have hd : decide (((s[0]'h0).toNat : Int) < 240) = true := by rw [decide_eq_true_eq]; omega
  obtain ⟨n0, hn0⟩ : ∃ n0, n0 = nth (bs s) 0 - 224 := ⟨_, rfl⟩
  have en : ((s[0]'h0).toNat : Int) - 224 = (n0 : Int) := by rw [← e0]; omega
  rw [← hn0] at hlead
  have hn32 : n0 < 32 := by omega
  have E0 := Lib.hid e0; have EN := Lib.hid en; have HN := Lib.hid hn0; have HLN := Lib.hid hlen; have HL := Lib.hid hlead
  clear e0 en hn0 hlen hlead hl hh hlt
  go_enter Tryd.func38, Tryd.ntmps38
  go_wp2
  go_loop [6, 7] (fun n i => ∃ j : Nat, j ≤ 2 ∧ i = .int .i64 (j + 1 : Nat) ∧ n = .int .i64 (contF (bs s) n0 j) ∧ ∀ t, 1 ≤ t → t ≤ j → nth (bs s) t / 64 = 2) (fun _ i => 2 + 1 - (intOf i).toNat)
  case atStart => exact ⟨0, by omega, rfl, by rw [EN.out]; rfl, fun t a b => by omega⟩
  case round =>
    obtain ⟨j, hj, rfl, rfl, hc⟩ := hrel
    have HC := Lib.hid hc; clear hc
    have hcl := contF_lt (bs s) n0 hn32 j (by omega)
    by_cases hlt : j < 2
    · have hjs : j + 1 < s.size := by omega
      have hb := nth_bs s (j + 1) hjs
      have hbl := nth_lt (bs s) (j + 1)
      by_cases hcc : nth (bs s) (j + 1) / 64 = 2
      · have HE := Lib.hid (contF_next (bs s) n0 j hcc)
        have g1 : 128 ≤ (s[j + 1]'hjs).toNat := by omega
        have g2 : (s[j + 1]'hjs).toNat ≤ 191 := by omega
        have HB := Lib.hid hb; have HCC := Lib.hid hcc; clear hb hcc
        go_wp2
        go_round
        case rel => exact ⟨j + 1, by omega, by go_num, by rw [HE.out, HB.out], fun t a b => by
          by_cases ht : t = j + 1
          · rw [ht]; exact HCC.out
          · exact HC.out t a (by omega)⟩
        case measure => simp [intOf]; omega
      · have H := Lib.hid (first_cont (bs s) 2 n0 (j + 1) HL.out (by omega) (by omega) hcc)
        have g3 : (s[j + 1]'hjs).toNat < 256 := by omega
        have g : (s[j + 1]'hjs).toNat < 128 ∨ 191 < (s[j + 1]'hjs).toNat := by omega
        have HB := Lib.hid hb; have HCC := Lib.hid hcc; clear hb hcc hbl
        rcases g with g | g
        all_goals
          go_wp2
          go_ret2
          rw [H.out]
          exact ⟨rfl, rfl⟩
    · obtain rfl : j = 2 := by omega
      have H := Lib.hid (first_end (bs s) 2 n0 HL.out HLN.out HC.out)
      generalize contF (bs s) n0 2 = m at *
      have hsz : ((sizeF (m : Int) != 2 + 1) = true ∧ firstL (bs s) = (0, 0)) ∨ ((sizeF (m : Int) != 2 + 1) = false ∧ firstL (bs s) = (m, 2 + 1)) := by
        by_cases q : sizeF (m : Int) = 2 + 1
        · exact .inr ⟨by rw [bne_eq_false_iff_eq]; exact q, (H.out).trans (if_pos q)⟩
        · exact .inl ⟨by rw [bne_iff_ne]; exact q, (H.out).trans (if_neg q)⟩
      clear H
      rcases hsz with ⟨q, H⟩ | ⟨q, H⟩
      all_goals
        have HH := Lib.hid H; clear H
        go_wp2_with (go_at_call 37; refine (size_c _ _).mono ?_; rintro e w' ⟨rfl, rfl⟩)
        go_ret2
        rw [HH.out]
        exact ⟨rfl, rfl⟩

theorem first_3s_c (s : ByteArray) (w : World) (hs : s.size < 3 + 1) (h0 : 0 < s.size) (hl : 240 ≤ nth (bs s) 0) (hh : nth (bs s) 0 < 248) :
    Calls Tryd.prog 38 #[.string s] w fun e w' => e = .returned (.tuple #[.int .i64 (firstL (bs s)).1, .int .i64 (firstL (bs s)).2]) ∧ w = w' := by
  have H := Lib.hid (first_short (bs s) 3 (nth (bs s) 0 - 240) (Or.inr (Or.inr ⟨hl, hh, rfl, rfl⟩)) (by rw [bs_length]; exact hs))
  have hz : ((s.size : Int) == 0) = false := by rw [beq_eq_false_iff_ne]; omega
  rw [nth_bs s 0 h0] at hl hh
  go_enter Tryd.func38, Tryd.ntmps38
  go_wp2
  go_ret2
  rw [H.out]
  exact ⟨rfl, rfl⟩
theorem first_3_c (s : ByteArray) (w : World) (hs : s.size ≤ 1000000000) (h1 : 3 + 1 ≤ s.size) (hl : 240 ≤ nth (bs s) 0) (hh : nth (bs s) 0 < 248) :
    Calls Tryd.prog 38 #[.string s] w fun e w' => e = .returned (.tuple #[.int .i64 (firstL (bs s)).1, .int .i64 (firstL (bs s)).2]) ∧ w = w' := by
  have h0 : 0 < s.size := by omega
  have hlead : Lead (nth (bs s) 0) 3 (nth (bs s) 0 - 240) := Or.inr (Or.inr ⟨hl, hh, rfl, rfl⟩)
  have hlt := nth_lt (bs s) 0
  have hlen : 3 + 1 ≤ (bs s).length := by rw [bs_length]; exact h1
  have hz : ((s.size : Int) == 0) = false := by rw [beq_eq_false_iff_ne]; omega
  have e0 : ((nth (bs s) 0 : Nat) : Int) = (s[0]'h0).toNat := by rw [nth_bs s 0 h0]
  have hl' := hl; have hh' := hh
  rw [nth_bs s 0 h0] at hl' hh'
  have hd : decide (((s[0]'h0).toNat : Int) < 248) = true := by rw [decide_eq_true_eq]; omega
  obtain ⟨n0, hn0⟩ : ∃ n0, n0 = nth (bs s) 0 - 240 := ⟨_, rfl⟩
  have en : ((s[0]'h0).toNat : Int) - 240 = (n0 : Int) := by rw [← e0]; omega
  rw [← hn0] at hlead
  have hn32 : n0 < 32 := by omega
  have E0 := Lib.hid e0; have EN := Lib.hid en; have HN := Lib.hid hn0; have HLN := Lib.hid hlen; have HL := Lib.hid hlead
  clear e0 en hn0 hlen hlead hl hh hlt
  go_enter Tryd.func38, Tryd.ntmps38
  go_wp2
  go_loop [6, 7] (fun n i => ∃ j : Nat, j ≤ 3 ∧ i = .int .i64 (j + 1 : Nat) ∧ n = .int .i64 (contF (bs s) n0 j) ∧ ∀ t, 1 ≤ t → t ≤ j → nth (bs s) t / 64 = 2) (fun _ i => 3 + 1 - (intOf i).toNat)
  case atStart => exact ⟨0, by omega, rfl, by rw [EN.out]; rfl, fun t a b => by omega⟩
  case round =>
    obtain ⟨j, hj, rfl, rfl, hc⟩ := hrel
    have HC := Lib.hid hc; clear hc
    have hcl := contF_lt (bs s) n0 hn32 j (by omega)
    by_cases hlt : j < 3
    · have hjs : j + 1 < s.size := by omega
      have hb := nth_bs s (j + 1) hjs
      have hbl := nth_lt (bs s) (j + 1)
      by_cases hcc : nth (bs s) (j + 1) / 64 = 2
      · have HE := Lib.hid (contF_next (bs s) n0 j hcc)
        have g1 : 128 ≤ (s[j + 1]'hjs).toNat := by omega
        have g2 : (s[j + 1]'hjs).toNat ≤ 191 := by omega
        have HB := Lib.hid hb; have HCC := Lib.hid hcc; clear hb hcc
        go_wp2
        go_round
        case rel => exact ⟨j + 1, by omega, by go_num, by rw [HE.out, HB.out], fun t a b => by
          by_cases ht : t = j + 1
          · rw [ht]; exact HCC.out
          · exact HC.out t a (by omega)⟩
        case measure => simp [intOf]; omega
      · have H := Lib.hid (first_cont (bs s) 3 n0 (j + 1) HL.out (by omega) (by omega) hcc)
        have g3 : (s[j + 1]'hjs).toNat < 256 := by omega
        have g : (s[j + 1]'hjs).toNat < 128 ∨ 191 < (s[j + 1]'hjs).toNat := by omega
        have HB := Lib.hid hb; have HCC := Lib.hid hcc; clear hb hcc hbl
        rcases g with g | g
        all_goals
          go_wp2
          go_ret2
          rw [H.out]
          exact ⟨rfl, rfl⟩
    · obtain rfl : j = 3 := by omega
      have H := Lib.hid (first_end (bs s) 3 n0 HL.out HLN.out HC.out)
      generalize contF (bs s) n0 3 = m at *
      have hsz : ((sizeF (m : Int) != 3 + 1) = true ∧ firstL (bs s) = (0, 0)) ∨ ((sizeF (m : Int) != 3 + 1) = false ∧ firstL (bs s) = (m, 3 + 1)) := by
        by_cases q : sizeF (m : Int) = 3 + 1
        · exact .inr ⟨by rw [bne_eq_false_iff_eq]; exact q, (H.out).trans (if_pos q)⟩
        · exact .inl ⟨by rw [bne_iff_ne]; exact q, (H.out).trans (if_neg q)⟩
      clear H
      rcases hsz with ⟨q, H⟩ | ⟨q, H⟩
      all_goals
        have HH := Lib.hid H; clear H
        go_wp2_with (go_at_call 37; refine (size_c _ _).mono ?_; rintro e w' ⟨rfl, rfl⟩)
        go_ret2
        rw [HH.out]
        exact ⟨rfl, rfl⟩

theorem first_0_c (s : ByteArray) (w : World) (hs : s.size ≤ 1000000000) (h0 : 0 < s.size) (hh : nth (bs s) 0 < 128) :
    Calls Tryd.prog 38 #[.string s] w fun e w' => e = .returned (.tuple #[.int .i64 (firstL (bs s)).1, .int .i64 (firstL (bs s)).2]) ∧ w = w' := by
  have H := Lib.hid (first_one (bs s) (by rw [bs_length]; omega) hh)
  have hz : ((s.size : Int) == 0) = false := by rw [beq_eq_false_iff_ne]; omega
  have E := Lib.hid (nth_bs s 0 h0)
  rw [nth_bs s 0 h0] at hh
  have hq : (sizeF ((s[0]'h0).toNat : Int) != 1) = false := by
    rw [bne_eq_false_iff_eq]; unfold sizeF; rw [if_neg (by omega), if_pos (by omega)]
  go_enter Tryd.func38, Tryd.ntmps38
  go_wp2
  refine wp_loop_once ?_
  go_wp2_with (go_at_call 37; refine (size_c _ _).mono ?_; rintro e w' ⟨rfl, rfl⟩)
  go_ret2
  rw [H.out, E.out]
  exact ⟨rfl, rfl⟩
theorem first_c (s : ByteArray) (w : World) (hs : s.size ≤ 1000000000) :
    Calls Tryd.prog 38 #[.string s] w fun e w' => e = .returned (.tuple #[.int .i64 (firstL (bs s)).1, .int .i64 (firstL (bs s)).2]) ∧ w = w' := by
  by_cases h0 : s.size = 0
  · exact first_nil_c s w h0
  by_cases c0 : nth (bs s) 0 < 128
  · exact first_0_c s w hs (by omega) c0
  by_cases c1 : nth (bs s) 0 < 192
  · exact first_odd_c s w hs (by omega) (by omega)
  by_cases c2 : nth (bs s) 0 < 224
  · by_cases h : s.size < 1 + 1
    · exact first_1s_c s w h (by omega) (by omega) c2
    · exact first_1_c s w hs (by omega) (by omega) c2
  by_cases c3 : nth (bs s) 0 < 240
  · by_cases h : s.size < 2 + 1
    · exact first_2s_c s w h (by omega) (by omega) c3
    · exact first_2_c s w hs (by omega) (by omega) c3
  by_cases c4 : nth (bs s) 0 < 248
  · by_cases h : s.size < 3 + 1
    · exact first_3s_c s w h (by omega) (by omega) c4
    · exact first_3_c s w hs (by omega) (by omega) c4
  exact first_odd_c s w hs (by omega) (by omega)
end Go.Proofs.YthfkchpbbjpenaaDoor
