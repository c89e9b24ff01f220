/- Layer 1, PointsParts. -/
import Derived.Test.YtpiklijbdpdjcaaL1d
namespace Go.Proofs.Ytpiklijbdpdjcaa
open Go.RowKit
set_option maxRecDepth 100000
set_option maxHeartbeats 1000000

/-- A cut at places that there are not. -/
theorem cut_range (cs : List Nat) (hcp : ∀ c ∈ cs, IsCp c) (hl : cs.length ≤ 1000) (a b : Int) (h : ¬ (0 ≤ a ∧ a ≤ b ∧ b ≤ cs.length)) (w : World) :
    Calls Try.prog 11 #[.string (mkS (encs cs)), .int .i64 a, .int .i64 b] w fun e w' => e = .returned (.tuple #[.string ⟨#[]⟩, .int .i64 6]) ∧ Ext w w' := by
  have hc := cut_c (mkS (encs cs)) a b w (by rw [size_mkS]; have := encs_le cs; omega)
  have : cutF (bs (mkS (encs cs))) a b = ([], 6) := by unfold cutF; rw [bs_mkS, dec_encs hcp]; simp only; rw [if_neg h]
  rw [this] at hc
  exact hc

theorem pointsParts_c (s : ByteArray) (z0 z1 : Int) (w : World) (hs : s.size ≤ maxLen) (hw0 : (Lit.int .u16 z0).wf = true) (hw1 : (Lit.int .u16 z1).wf = true) :
    Calls Try.prog 5 #[.string s, .int .u16 z0, .int .u16 z1] w fun e w' => e = .returned (.bool true) ∧ Below w.heap.size w w' := by
  obtain ⟨a0, a1⟩ := bounds_u16 hw0
  obtain ⟨b0, b1⟩ := bounds_u16 hw1
  obtain ⟨x0, rfl⟩ := Int.eq_ofNat_of_zero_le a0
  obtain ⟨x1, rfl⟩ := Int.eq_ofNat_of_zero_le b0
  clear hw0 hw1 a0 b0
  have HF := Lib.hid (fun w' => few_c s w' hs)
  have hfs := few1_size s
  have HFIT := Lib.hid (fun w' => fit_c (few1 s) w' (by omega))
  generalize few1 s = t at *
  have hcp := fitC_cp (bs t)
  have hln : (fitC (bs t)).length ≤ 120 := by rw [fitC_length, bs_length]; exact hfs
  generalize fitC (bs t) = cs at *
  have HC := Lib.hid (fun w' => count_ok cs hcp (by omega) w')
  obtain ⟨n, hn⟩ : ∃ n, n = cs.length := ⟨_, rfl⟩
  rw [← hn] at HC hln
  obtain ⟨i, hi⟩ : ∃ i, i = x0 % (n + 1) := ⟨_, rfl⟩
  have hin : i ≤ n := by have := Nat.mod_lt x0 (show 0 < n + 1 by omega); rw [hi]; omega
  obtain ⟨k', hk'⟩ : ∃ k, k = x1 % (n - i + 1) := ⟨_, rfl⟩
  have hkn : k' ≤ n - i := by have := Nat.mod_lt x1 (show 0 < n - i + 1 by omega); rw [hk']; omega
  have e1 : (x0 : Int) % ((n : Int) + 1) = i := by rw [hi, show ((n : Int) + 1) = ((n + 1 : Nat) : Int) from by omega, Int.natCast_emod]
  have e2 : (x1 : Int) % ((n : Int) - i + 1) = k' := by rw [hk', show ((n : Int) - i + 1) = ((n - i + 1 : Nat) : Int) from by omega, Int.natCast_emod]
  have HI := Lib.hid hi; have HK := Lib.hid hk'
  clear hi hk'
  have H1 : Hid (∀ w', Calls Try.prog 11 #[.string (mkS (encs cs)), .int .i64 0, .int .i64 i] w' fun e w'' => e = .returned (.tuple #[.string (mkS (encs (cs.take i))), .int .i64 0]) ∧ Ext w' w'') :=
    Lib.hid (fun w' => by have h := cut_ok cs hcp (by omega) 0 i (by omega) (by omega) w'; rw [List.drop_zero] at h; exact h)
  have H2 := Lib.hid (fun w' => cut_ok cs hcp (by omega) i (i + k') (by omega) (by omega) w')
  have H3 : Hid (∀ w', Calls Try.prog 11 #[.string (mkS (encs cs)), .int .i64 ((i : Int) + k'), .int .i64 n] w' fun e w'' => e = .returned (.tuple #[.string (mkS (encs (cs.drop (i + k')))), .int .i64 0]) ∧ Ext w' w'') :=
    Lib.hid (fun w' => by have h := cut_ok cs hcp (by omega) (i + k') n (by omega) (by omega) w'; rw [List.take_of_length_le (by omega), Int.natCast_add] at h; exact h)
  have H4 : Hid (∀ w', Calls Try.prog 11 #[.string (mkS (encs cs)), .int .i64 ((i : Int) + k'), .int .i64 ((n : Int) + 1)] w' fun e w'' => e = .returned (.tuple #[.string ⟨#[]⟩, .int .i64 6]) ∧ Ext w' w'') :=
    Lib.hid (fun w' => cut_range cs hcp (by omega) _ _ (by omega) w')
  have H5 : Hid (∀ w', Calls Try.prog 11 #[.string (mkS (encs cs)), .int .i64 ((i : Int) + k' + 1), .int .i64 ((i : Int) + k')] w' fun e w'' => e = .returned (.tuple #[.string ⟨#[]⟩, .int .i64 6]) ∧ Ext w' w'') :=
    Lib.hid (fun w' => cut_range cs hcp (by omega) _ _ (by omega) w')
  simp only [Int.natCast_add] at H2
  have hla : (cs.take i).length = i := by rw [List.length_take]; omega
  have hlb : ((cs.take (i + k')).drop i).length = k' := by rw [List.length_drop, List.length_take]; omega
  have hlc : (cs.drop (i + k')).length = n - (i + k') := by rw [List.length_drop]; omega
  have HA := Lib.hid (fun w' => count_ok (cs.take i) (fun c hc => hcp c (List.mem_of_mem_take hc)) (by omega) w')
  have HB := Lib.hid (fun w' => count_ok ((cs.take (i + k')).drop i) (mem_cut hcp) (by omega) w')
  have HD := Lib.hid (fun w' => count_ok (cs.drop (i + k')) (fun c hc => hcp c (List.mem_of_mem_drop hc)) (by omega) w')
  rw [hla] at HA
  rw [hlb] at HB
  rw [hlc, show ((n - (i + k') : Nat) : Int) = (n : Int) - (i + k') from by omega] at HD
  have hall : mkS (encs (cs.take i)) ++ mkS (encs ((cs.take (i + k')).drop i)) ++ mkS (encs (cs.drop (i + k'))) = mkS (encs cs) := by
    rw [mkS_append, mkS_append, ← encs_append, ← encs_append]
    congr 2
    have h1 : cs.take i = (cs.take (i + k')).take i := by rw [List.take_take, Nat.min_eq_left (by omega)]
    rw [h1, List.take_append_drop, List.take_append_drop]
  have hsa : (mkS (encs (cs.take i))).size ≤ 1000 := by rw [size_mkS]; have := encs_le (cs.take i); omega
  have hsb : (mkS (encs ((cs.take (i + k')).drop i))).size ≤ 1000 := by rw [size_mkS]; have := encs_le ((cs.take (i + k')).drop i); omega
  have hsc : (mkS (encs (cs.drop (i + k')))).size ≤ 1000 := by rw [size_mkS]; have := encs_le (cs.drop (i + k')); omega
  clear hla hlb hlc hcp
  generalize mkS (encs (cs.take i)) = A at *
  generalize mkS (encs ((cs.take (i + k')).drop i)) = B at *
  generalize mkS (encs (cs.drop (i + k'))) = C at *
  generalize mkS (encs cs) = T at *
  have HN := Lib.hid hn
  clear hn hfs
  go_enter Try.func5, Try.ntmps5
  go_wp2_with fail
  refine (shown_c _).mono ?_; rintro e w1 ⟨rfl, hx1⟩
  go_wp2_with fail
  refine (HF.out _).mono ?_; rintro e w' ⟨rfl, rfl⟩
  go_wp2_with fail
  refine (HFIT.out _).mono ?_; rintro e w2 ⟨rfl, hx2⟩
  go_wp2_with fail
  refine (HC.out _).mono ?_; rintro e w3 ⟨rfl, hx3⟩
  go_wp2_with fail
  refine (H1.out _).mono ?_; rintro e w4 ⟨rfl, hx4⟩
  go_wp2_with fail
  refine (H2.out _).mono ?_; rintro e w5 ⟨rfl, hx5⟩
  go_wp2_with fail
  refine (H3.out _).mono ?_; rintro e w6 ⟨rfl, hx6⟩
  go_wp2_with fail
  refine (H4.out _).mono ?_; rintro e w7 ⟨rfl, hx7⟩
  go_wp2_with fail
  refine (H5.out _).mono ?_; rintro e w8 ⟨rfl, hx8⟩
  go_wp2_with fail
  refine (HA.out _).mono ?_; rintro e w9 ⟨rfl, hx9⟩
  clear e1 e2 hall hsa hsb hsc
  have hik : i + k' ≤ n := by omega
  clear hin hkn
  have q1 : ((k' : Int) == (i : Int) + k' - i) = true := by rw [beq_iff_eq]; omega
  go_wp2_with fail
  refine (HB.out _).mono ?_; rintro e w10 ⟨rfl, hx10⟩
  go_wp2_with fail
  refine (HD.out _).mono ?_; rintro e w11 ⟨rfl, hx11⟩
  go_wp2_with fail
  go_ret
  exact ⟨rfl, (((((((((hx1.trans hx2).trans hx3).trans hx4).trans hx5).trans hx6).trans hx7).trans hx8).trans hx9).trans hx10).trans hx11⟩
end Go.Proofs.Ytpiklijbdpdjcaa
