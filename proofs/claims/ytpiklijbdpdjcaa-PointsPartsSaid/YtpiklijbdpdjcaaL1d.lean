/- Layer 1, PointsTwice. -/
import Derived.Test.YtpiklijbdpdjcaaL1a
import Derived.OpenShut
namespace Go.Proofs.Ytpiklijbdpdjcaa
open Go.RowKit
set_option maxRecDepth 100000
set_option maxHeartbeats 1000000

theorem cutF_some {l : List UInt8} {cs : List Nat} (h : dec l = some cs) (i j : Nat) (hij : i ≤ j) (hj : j ≤ cs.length) : cutF l i j = (encs ((cs.take j).drop i), 0) := by
  unfold cutF; rw [h]; simp only; rw [if_pos ⟨by omega, by omega, by omega⟩, Int.toNat_natCast, Int.toNat_natCast]
/-- A cut at places that there are. -/
theorem cut_ok (cs : List Nat) (hcp : ∀ c ∈ cs, IsCp c) (hl : cs.length ≤ 1000) (i j : Nat) (hij : i ≤ j) (hj : j ≤ cs.length) (w : World) :
    Calls Try.prog 11 #[.string (mkS (encs cs)), .int .i64 i, .int .i64 j] w fun e w' => e = .returned (.tuple #[.string (mkS (encs ((cs.take j).drop i))), .int .i64 0]) ∧ Ext w w' := by
  have h := cut_c (mkS (encs cs)) i j w (by rw [size_mkS]; have := encs_le cs; omega)
  rw [cutF_some (by rw [bs_mkS]; exact dec_encs hcp) i j hij hj] at h
  exact h
theorem count_ok (cs : List Nat) (hcp : ∀ c ∈ cs, IsCp c) (hl : cs.length ≤ 1000) (w : World) :
    Calls Try.prog 15 #[.string (mkS (encs cs))] w fun e w' => e = .returned (.int .i64 cs.length) ∧ Ext w w' := by
  have h := count_c (mkS (encs cs)) w (by rw [size_mkS]; have := encs_le cs; omega)
  unfold cntF at h
  rw [bs_mkS, dec_encs hcp] at h
  exact h
theorem valid_ok (cs : List Nat) (hcp : ∀ c ∈ cs, IsCp c) (hl : cs.length ≤ 1000) (w : World) :
    Calls Try.prog 13 #[.string (mkS (encs cs))] w fun e w' => e = .returned (.bool true) ∧ Ext w w' := by
  have h := valid_c (mkS (encs cs)) w (by rw [size_mkS]; have := encs_le cs; omega)
  rw [bs_mkS, dec_encs hcp] at h
  exact h
theorem mem_cut {cs : List Nat} {i j : Nat} (hcp : ∀ c ∈ cs, IsCp c) : ∀ c ∈ (cs.take j).drop i, IsCp c := fun c hc => hcp c (List.mem_of_mem_take (List.mem_of_mem_drop hc))

theorem pointsTwice_c (s : ByteArray) (z : List Int) (w : World) (hs : s.size ≤ maxLen) (hz : z.length = 4) (hw : ∀ x ∈ z, (Lit.int .u16 x).wf = true) :
    Calls Try.prog 7 #[.string s, .agg (z.map (Value.int .u16)).toArray] w fun e w' => e = .returned (.bool true) ∧ Below w.heap.size w w' := by
  match z, hz with
  | [z0, z1, z2, z3], _ =>
    obtain ⟨a0, a1⟩ := bounds_u16 (hw z0 (by simp))
    obtain ⟨b0, b1⟩ := bounds_u16 (hw z1 (by simp))
    obtain ⟨c0, c1⟩ := bounds_u16 (hw z2 (by simp))
    obtain ⟨d0, d1⟩ := bounds_u16 (hw z3 (by simp))
    obtain ⟨x0, rfl⟩ := Int.eq_ofNat_of_zero_le a0
    obtain ⟨x1, rfl⟩ := Int.eq_ofNat_of_zero_le b0
    obtain ⟨x2, rfl⟩ := Int.eq_ofNat_of_zero_le c0
    obtain ⟨x3, rfl⟩ := Int.eq_ofNat_of_zero_le d0
    clear hw a0 b0 c0 d0
    have HF := Lib.hid (fun w' => few_c s w' hs)
    have hfs := few1_size s
    have HFIT := Lib.hid (fun w' => fit_c (few1 s) w' (by omega))
    generalize few1 s = t at *
    have hcp := fitC_cp (bs t)
    have hln : (fitC (bs t)).length ≤ 120 := by rw [fitC_length, bs_length]; exact hfs
    generalize fitC (bs t) = cs at *
    have HC := Lib.hid (fun w' => count_ok cs hcp (by omega) w')
    obtain ⟨n, hn⟩ : ∃ n, n = cs.length := ⟨_, rfl⟩
    rw [← hn] at HC hln
    obtain ⟨i, hi⟩ : ∃ i, i = x0 % (n + 1) := ⟨_, rfl⟩
    have hin : i ≤ n := by have := Nat.mod_lt x0 (show 0 < n + 1 by omega); rw [hi]; omega
    obtain ⟨k', hk'⟩ : ∃ k, k = x1 % (n - i + 1) := ⟨_, rfl⟩
    have hkn : k' ≤ n - i := by have := Nat.mod_lt x1 (show 0 < n - i + 1 by omega); rw [hk']; omega
    obtain ⟨j, hj⟩ : ∃ j, j = x2 % (k' + 1) := ⟨_, rfl⟩
    have hjn : j ≤ k' := by have := Nat.mod_lt x2 (show 0 < k' + 1 by omega); rw [hj]; omega
    obtain ⟨m', hm'⟩ : ∃ m, m = x3 % (k' - j + 1) := ⟨_, rfl⟩
    have hmn : m' ≤ k' - j := by have := Nat.mod_lt x3 (show 0 < k' - j + 1 by omega); rw [hm']; omega
    have e1 : (x0 : Int) % ((n : Int) + 1) = i := by rw [hi, show ((n : Int) + 1) = ((n + 1 : Nat) : Int) from by omega, Int.natCast_emod]
    have e2 : (x1 : Int) % ((n : Int) - i + 1) = k' := by rw [hk', show ((n : Int) - i + 1) = ((n - i + 1 : Nat) : Int) from by omega, Int.natCast_emod]
    have e3 : (x2 : Int) % (((i : Int) + k') - i + 1) = j := by rw [hj, show (((i : Int) + k') - i + 1) = ((k' + 1 : Nat) : Int) from by omega, Int.natCast_emod]
    have e4 : (x3 : Int) % (((i : Int) + k') - i - j + 1) = m' := by rw [hm', show (((i : Int) + k') - i - j + 1) = ((k' - j + 1 : Nat) : Int) from by omega, Int.natCast_emod]
    have HI := Lib.hid hi; have HK := Lib.hid hk'; have HJ := Lib.hid hj; have HM := Lib.hid hm'
    clear hi hk' hj hm'
    have hq : ((cs.take (i + k')).drop i).length = k' := by rw [List.length_drop, List.length_take]; omega
    have H1 := Lib.hid (fun w' => cut_ok cs hcp (by omega) i (i + k') (by omega) (by omega) w')
    have H2 := Lib.hid (fun w' => cut_ok ((cs.take (i + k')).drop i) (mem_cut hcp) (by omega) j (j + m') (by omega) (by omega) w')
    have H3 := Lib.hid (fun w' => cut_ok cs hcp (by omega) (i + j) (i + (j + m')) (by omega) (by omega) w')
    have hsame : ((((cs.take (i + k')).drop i)).take (j + m')).drop j = (cs.take (i + (j + m'))).drop (i + j) := by
      apply List.ext_getElem?
      intro q
      simp only [List.getElem?_drop, List.getElem?_take]
      by_cases hqm : j + q < j + m'
      · rw [if_pos hqm, if_pos (by omega), if_pos (by omega)]; congr 1; omega
      · rw [if_neg hqm, if_neg (by omega)]
    rw [hsame] at H2
    simp only [Int.natCast_add] at H1 H2 H3
    generalize mkS (encs cs) = T at *
    generalize mkS (encs ((cs.take (i + k')).drop i)) = U at *
    generalize mkS (encs ((cs.take (i + (j + m'))).drop (i + j))) = V at *
    have HN := Lib.hid hn
    clear hsame hq hcp hfs hn
    have hbox : ∀ (w' : World), Ext (w.alloc (.cells #[.int .u16 x0, .int .u16 x1, .int .u16 x2, .int .u16 x3] 38)) w' → ∀ (q : Nat) (u : Value), (#[Value.int .u16 x0, .int .u16 x1, .int .u16 x2, .int .u16 x3])[q]? = some u → w'.cell? ⟨w.heap.size, q, none⟩ = some u := by
      intro w' hx q u hu
      rw [hx.below.cell (p := ⟨w.heap.size, q, none⟩) (by simp), cell_of_row _ w.heap.size q _ 38 (0, 0) (heap_alloc_new w _)]
      exact hu
    have HBOX := Lib.hid hbox; clear hbox
    go_enter Try.func7, Try.ntmps7
    go_wp2_with fail
    refine (shown_c _).mono ?_; rintro e w1 ⟨rfl, hx1⟩
    go_wp2_with fail
    refine (HF.out _).mono ?_; rintro e w' ⟨rfl, rfl⟩
    go_wp2_with fail
    refine (HFIT.out _).mono ?_; rintro e w2 ⟨rfl, hx2⟩
    go_wp2_with fail
    refine (HC.out _).mono ?_; rintro e w3 ⟨rfl, hx3⟩
    have hx := (hx1.trans hx2).trans hx3
    have q0 := HBOX.out w3 hx 0 _ rfl
    have q1 := HBOX.out w3 hx 1 _ rfl
    go_wp2_with fail
    refine (H1.out _).mono ?_; rintro e w4 ⟨rfl, hx4⟩
    have hx' := hx.trans hx4
    have q2 := HBOX.out w4 hx' 2 _ rfl
    have q3 := HBOX.out w4 hx' 3 _ rfl
    go_wp2_with fail
    refine (H2.out _).mono ?_; rintro e w5 ⟨rfl, hx5⟩
    go_wp2_with fail
    refine (H3.out _).mono ?_; rintro e w6 ⟨rfl, hx6⟩
    go_wp2_with fail
    go_ret
    exact ⟨rfl, ((((Ext.refl w).alloc _).trans hx').trans hx5).trans hx6⟩
end Go.Proofs.Ytpiklijbdpdjcaa
