/- Layer 1, PointsJoin. -/
import Derived.Test.YtpiklijbdpdjcaaL1d
namespace Go.Proofs.Ytpiklijbdpdjcaa
open Go.RowKit
set_option maxRecDepth 100000
set_option maxHeartbeats 1000000

theorem odd_none (cs : List Nat) (hcp : ∀ c ∈ cs, IsCp c) (o : UInt8) (ho : 128 ≤ o.toNat) (r : List UInt8) : dec (encs cs ++ (o :: 97 :: r)) = none := by
  rw [dec_append_some hcp, dec_none_of (by simp)]
  · rfl
  · obtain ⟨n, k, e⟩ : ∃ n k, firstL (o :: 97 :: r) = (n, k) := ⟨_, _, rfl⟩
    rw [e]
    rcases Nat.eq_zero_or_pos k with hk | hk
    · exact hk
    · exfalso
      have h := first4_some (nth_lt _ 1) (nth_lt _ 2) (nth_lt _ 3) e hk
      have h0 : nth (o :: 97 :: r) 0 = o.toNat := rfl
      have h1 : nth (o :: 97 :: r) 1 = 97 := rfl
      rw [h0, h1] at h
      omega

theorem pointsJoin_c (a b : ByteArray) (c : Int) (w : World) (ha : a.size ≤ maxLen) (hb : b.size ≤ maxLen) (hc : (Lit.int .u8 c).wf = true) :
    Calls Try.prog 6 #[.string a, .string b, .int .u8 c] w fun e w' => e = .returned (.bool true) ∧ Below w.heap.size w w' := by
  obtain ⟨c0, c1⟩ := bounds_u8 hc
  obtain ⟨o, ho, ho1, ho2⟩ : ∃ o : UInt8, bits .or .u8 128 c = (o.toNat : Int) ∧ 128 ≤ o.toNat ∧ o.toNat < 256 := by
    have h : bits .or .u8 128 c = ((128 ||| c.toNat : Nat) : Int) := u8_or 128 c (by omega) (by omega) c0 (by omega)
    have hlt : 128 ||| c.toNat < 2 ^ 8 := Nat.or_lt_two_pow (by omega) (by omega)
    have hge : 128 ≤ 128 ||| c.toNat := Nat.left_le_or
    refine ⟨u8 (128 ||| c.toNat), ?_, ?_, ?_⟩
    · rw [h, u8_toNat (by omega)]
    · rw [u8_toNat (by omega)]; exact hge
    · rw [u8_toNat (by omega)]; omega
  have HA := Lib.hid (fun w' => few_c a w' ha)
  have HB := Lib.hid (fun w' => few_c b w' hb)
  have hfa := few1_size a
  have hfb := few1_size b
  have HFA := Lib.hid (fun w' => fit_c (few1 a) w' (by omega))
  have HFB := Lib.hid (fun w' => fit_c (few1 b) w' (by omega))
  generalize few1 a = ta at *
  generalize few1 b = tb at *
  have hxa := fitC_cp (bs ta)
  have hxb := fitC_cp (bs tb)
  have hla : (fitC (bs ta)).length ≤ 120 := by rw [fitC_length, bs_length]; exact hfa
  have hlb : (fitC (bs tb)).length ≤ 120 := by rw [fitC_length, bs_length]; exact hfb
  generalize fitC (bs ta) = xs at *
  generalize fitC (bs tb) = ys at *
  have HCX := Lib.hid (fun w' => count_ok xs hxa (by omega) w')
  have HCY := Lib.hid (fun w' => count_ok ys hxb (by omega) w')
  have hxy : ∀ c ∈ xs ++ ys, IsCp c := fun c hc => (List.mem_append.1 hc).elim (hxa c) (hxb c)
  have HCXY := Lib.hid (fun w' => count_ok (xs ++ ys) hxy (by simp; omega) w')
  have HVXY := Lib.hid (fun w' => valid_ok (xs ++ ys) hxy (by simp; omega) w')
  rw [encs_append, ← mkS_append] at HCXY HVXY
  rw [List.length_append, Int.natCast_add] at HCXY
  have hl1 : (encs xs).length ≤ 480 := by have := encs_le xs; omega
  have hl2 : (encs ys).length ≤ 480 := by have := encs_le ys; omega
  have hodd : dec (bs (mkS (encs xs) ++ mkS [o] ++ mkS [97] ++ mkS (encs ys))) = none := by
    rw [mkS_append, mkS_append, mkS_append, bs_mkS]
    have := odd_none xs hxa o ho1 (encs ys)
    simpa using this
  have hos : (mkS (encs xs) ++ mkS [o] ++ mkS [97] ++ mkS (encs ys)).size ≤ 1000 := by
    rw [mkS_append, mkS_append, mkS_append, size_mkS]; simp; omega
  have H1 : Hid (∀ w', Calls Try.prog 11 #[.string (mkS (encs xs) ++ mkS [o] ++ mkS [97] ++ mkS (encs ys)), .int .i64 0, .int .i64 0] w' fun e w'' => e = .returned (.tuple #[.string (mkS []), .int .i64 3]) ∧ Ext w' w'') := Lib.hid fun w' => by
    have h := cut_c _ 0 0 w' (show (mkS (encs xs) ++ mkS [o] ++ mkS [97] ++ mkS (encs ys)).size ≤ 1000000000 by omega)
    unfold cutF at h; rw [hodd] at h; exact h
  have H2 : Hid (∀ w', Calls Try.prog 13 #[.string (mkS (encs xs) ++ mkS [o] ++ mkS [97] ++ mkS (encs ys))] w' fun e w'' => e = .returned (.bool false) ∧ Ext w' w'') := Lib.hid fun w' => by
    have h := valid_c _ w' (show (mkS (encs xs) ++ mkS [o] ++ mkS [97] ++ mkS (encs ys)).size ≤ 1000000000 by omega)
    rw [hodd] at h; exact h
  have H3 : Hid (∀ w', Calls Try.prog 15 #[.string (mkS (encs xs) ++ mkS [o] ++ mkS [97] ++ mkS (encs ys))] w' fun e w'' => e = .returned (.int .i64 (-1)) ∧ Ext w' w'') := Lib.hid fun w' => by
    have h := count_c _ w' (show (mkS (encs xs) ++ mkS [o] ++ mkS [97] ++ mkS (encs ys)).size ≤ 1000000000 by omega)
    unfold cntF at h; rw [hodd] at h; exact h
  have hsx : (mkS (encs xs)).size ≤ 480 := by rw [size_mkS]; omega
  have hsy : (mkS (encs ys)).size ≤ 480 := by rw [size_mkS]; omega
  clear hodd hos hl1 hl2 hxy hxa hxb
  have hlx := hla; have hly := hlb
  generalize mkS (encs xs) = X at *
  generalize mkS (encs ys) = Y at *
  generalize hnx : xs.length = nx at *
  generalize hny : ys.length = ny at *
  clear hnx hny hfa hfb
  have HRUN := Lib.hid (fun w' : World => run_str (P := Try.prog) (w'.alloc (.cells #[.int .u8 o.toNat] 5)) 36 9 5 Try.underlying36 Try.underlying5 Try.underlying9
    (v := .slice (some ⟨w'.heap.size, 0, none⟩) 1 1) (n := 1) (l := [o]) (Own.made w' w'.heap.size 5 1 1 #[.int .u8 o.toNat] (Nat.le_refl _) (by omega) rfl).rd)
  have hso : (mkS [o]).size ≤ 1 := by rw [size_mkS]; exact Nat.le_refl _
  have e97 : mkS [97] = ⟨#[97]⟩ := rfl
  have em : mkS [] = ⟨#[]⟩ := rfl
  rw [e97] at H1 H2 H3
  rw [em] at H1
  clear e97 em
  generalize mkS [o] = O at *
  go_enter Try.func6, Try.ntmps6
  go_wp2_with fail
  refine (shown_c _).mono ?_; rintro e w1 ⟨rfl, hx1⟩
  go_wp2_with fail
  refine (HA.out _).mono ?_; rintro e w' ⟨rfl, rfl⟩
  go_wp2_with fail
  refine (HFA.out _).mono ?_; rintro e w2 ⟨rfl, hx2⟩
  go_wp2_with fail
  refine (HB.out _).mono ?_; rintro e w' ⟨rfl, rfl⟩
  go_wp2_with fail
  refine (HFB.out _).mono ?_; rintro e w3 ⟨rfl, hx3⟩
  go_wp2_with (with_reducible refine wpList_convert_run rfl rfl (HRUN.out _) rfl ?_)
  refine (H1.out _).mono ?_; rintro e w4 ⟨rfl, hx4⟩
  go_wp2_with fail
  refine (HVXY.out _).mono ?_; rintro e w5 ⟨rfl, hx5⟩
  go_wp2_with fail
  refine (HCXY.out _).mono ?_; rintro e w6 ⟨rfl, hx6⟩
  go_wp2_with fail
  refine (HCX.out _).mono ?_; rintro e w7 ⟨rfl, hx7⟩
  go_wp2_with fail
  refine (HCY.out _).mono ?_; rintro e w8 ⟨rfl, hx8⟩
  go_wp2_with fail
  refine (H2.out _).mono ?_; rintro e w9 ⟨rfl, hx9⟩
  go_wp2_with fail
  refine (H3.out _).mono ?_; rintro e w10 ⟨rfl, hx10⟩
  go_wp2_with fail
  go_ret
  exact ⟨rfl, (((((((((hx1.trans hx2).trans hx3).alloc _).trans hx4).trans hx5).trans hx6).trans hx7).trans hx8).trans hx9).trans hx10⟩
end Go.Proofs.Ytpiklijbdpdjcaa
