/- Layer 1, PointsOne. -/
import Derived.Test.YtpiklijbdpdjcaaL1a
import Derived.OpenShut
namespace Go.Proofs.Ytpiklijbdpdjcaa
open Go.RowKit
set_option maxRecDepth 100000
set_option maxHeartbeats 1000000

/-- Of, called with numbers that are written out: they lie in a block just made. -/
theorem of_new (rs : List Int) (n : Nat) (hn : rs.length = n) (hn' : n ≤ 1000) (hr : ∀ r ∈ rs, -2147483648 ≤ r ∧ r ≤ 2147483647) (w : World) (e' : TypeId) :
    Calls Try.prog 17 #[.slice (some ⟨w.heap.size, 0, none⟩) n n] (w.alloc (.cells (runesV rs).toArray e')) fun e w' => e = .returned (.string (mkS (ofL rs))) ∧ Ext w w' := by
  have hrd : Rd (w.alloc (.cells (runesV rs).toArray e')) 1 (.slice (some ⟨w.heap.size, 0, none⟩) n n) n (runesV rs) := by
    have h := (Own.made w w.heap.size e' 1 n (runesV rs).toArray (Nat.le_refl _) (by omega) (by simp [runesV, hn])).rd
    simpa using h
  subst hn
  refine (of_c _ rs _ hrd (by omega) hr).mono fun e w' ⟨he, hx⟩ => ⟨he, ((Ext.refl w).alloc _).trans hx⟩
theorem ofL_one (c : Int) : ofL [c] = of1 c := by simp [ofL]
theorem ofL_two (c : Int) : ofL [c, c] = of1 c ++ of1 c := by simp [ofL]

theorem pointsOne_c (c : Int) (w : World) (wc : (Lit.int .i32 c).wf = true) :
    Calls Try.prog 8 #[.int .i32 c] w fun e w' => e = .returned (.bool true) ∧ Below w.heap.size w w' := by
  have hb : -2147483648 ≤ c ∧ c ≤ 2147483647 := bounds_i32 wc
  have H1 : Hid (∀ w', Calls Try.prog 17 #[.slice (some ⟨w'.heap.size, 0, none⟩) 1 1] (w'.alloc (.cells #[.int .i32 c] 21)) fun e w'' => e = .returned (.string (mkS (ofL [c]))) ∧ Ext w' w'') :=
    Lib.hid (fun w' => of_new [c] 1 rfl (by omega) (by simpa using hb) w' 21)
  have H2 : Hid (∀ w', Calls Try.prog 17 #[.slice (some ⟨w'.heap.size, 0, none⟩) 2 2] (w'.alloc (.cells #[.int .i32 c, .int .i32 c] 21)) fun e w'' => e = .returned (.string (mkS (ofL [c, c]))) ∧ Ext w' w'') :=
    Lib.hid (fun w' => of_new [c, c] 2 rfl (by omega) (by simpa using hb) w' 21)
  rw [ofL_one] at H1
  rw [ofL_two, ← mkS_append] at H2
  clear wc
  obtain ⟨hb1, hb2⟩ := hb
  by_cases hcp : 0 ≤ c ∧ IsCp c.toNat
  · obtain ⟨hp, hcp⟩ := hcp
    obtain ⟨m, hm⟩ : ∃ m, m = c.toNat := ⟨_, rfl⟩
    have hmc : (m : Int) = c := by omega
    rw [← hm] at hcp
    have hof : of1 c = enc1 m := by unfold of1; rw [← hm, if_pos ⟨hp, hcp⟩]
    rw [hof] at H1 H2
    have hd : dec (bs (mkS (enc1 m))) = some [m] := by rw [bs_mkS, ← encs_single]; exact dec_encs (by simpa using hcp)
    have hsz : (mkS (enc1 m)).size = wid m := by rw [size_mkS, enc1_length]
    have H3 : Hid (∀ w', Calls Try.prog 13 #[.string (mkS (enc1 m))] w' fun e w'' => e = .returned (.bool true) ∧ Ext w' w'') := Lib.hid fun w' => by
      have h := valid_c (mkS (enc1 m)) w' (by rw [hsz]; have := wid_le m; omega)
      rw [hd] at h; exact h
    have H4 : Hid (∀ w', Calls Try.prog 15 #[.string (mkS (enc1 m))] w' fun e w'' => e = .returned (.int .i64 1) ∧ Ext w' w'') := Lib.hid fun w' => by
      have h := count_c (mkS (enc1 m)) w' (by rw [hsz]; have := wid_le m; omega)
      unfold cntF at h; rw [hd] at h; exact h
    unfold IsCp at hcp
    obtain ⟨hc1, hc2⟩ := hcp
    have hc3 : c < 55296 ∨ 57343 < c := by omega
    have hc4 : c ≤ 1114111 := by omega
    clear hof hd hc2 hb1 hb2
    generalize mkS (enc1 m) = s at *
    have hw : (c < 128 ∧ s.size = 1) ∨ (128 ≤ c ∧ c < 2048 ∧ s.size = 2) ∨ (2048 ≤ c ∧ c < 65536 ∧ s.size = 3) ∨ (65536 ≤ c ∧ s.size = 4) := by
      rw [hsz]; unfold wid
      by_cases c1 : m < 128
      · rw [if_pos c1]; exact .inl ⟨by omega, rfl⟩
      by_cases c2 : m < 2048
      · rw [if_neg c1, if_pos c2]; exact .inr (.inl ⟨by omega, by omega, rfl⟩)
      by_cases c3 : m < 65536
      · rw [if_neg c1, if_neg c2, if_pos c3]; exact .inr (.inr (.inl ⟨by omega, by omega, rfl⟩))
      · rw [if_neg c1, if_neg c2, if_neg c3]; exact .inr (.inr (.inr ⟨by omega, rfl⟩))
    clear hsz hc1 hm hmc
    rcases hc3 with hc3 | hc3 <;> rcases hw with ⟨c1, hz⟩ | ⟨c1, c2, hz⟩ | ⟨c1, c2, hz⟩ | ⟨c1, hz⟩
    all_goals first | (exfalso; omega) | skip
    all_goals
      go_enter Try.func8, Try.ntmps8
      go_wp2_with (first
        | (go_at_call 9; refine (shown_c _).mono ?_; rintro e w1 ⟨rfl, hx1⟩)
        | (go_at_call 17; (with_reducible refine (H1.out _).mono ?_); rintro e w2 ⟨rfl, hx2⟩)
        | (go_at_call 13; (with_reducible refine (H3.out _).mono ?_); rintro e w3 ⟨rfl, hx3⟩)
        | (go_at_call 15; (with_reducible refine (H4.out _).mono ?_); rintro e w4 ⟨rfl, hx4⟩)
        | (go_at_call 17; (with_reducible refine (H2.out _).mono ?_); rintro e w5 ⟨rfl, hx5⟩))
      go_ret
      exact ⟨rfl, (((hx1.trans hx2).trans hx3).trans hx4).trans hx5⟩
  · have hof : of1 c = [] := by unfold of1; rw [if_neg hcp]
    rw [hof] at H1
    clear hof H2
    unfold IsCp at hcp
    have hc : c < 0 ∨ 1114111 < c ∨ (0 ≤ c ∧ 55296 ≤ c ∧ c ≤ 57343) := by omega
    clear hcp
    have hs : mkS [] = ⟨#[]⟩ := rfl
    rw [hs] at H1
    clear hs
    rcases hc with h | h | ⟨h, h', h''⟩
    all_goals
      go_enter Try.func8, Try.ntmps8
      go_wp2_with (first
        | (go_at_call 9; refine (shown_c _).mono ?_; rintro e w1 ⟨rfl, hx1⟩)
        | (go_at_call 17; (with_reducible refine (H1.out _).mono ?_); rintro e w2 ⟨rfl, hx2⟩))
      go_ret
      exact ⟨rfl, hx1.trans hx2⟩
end Go.Proofs.Ytpiklijbdpdjcaa
