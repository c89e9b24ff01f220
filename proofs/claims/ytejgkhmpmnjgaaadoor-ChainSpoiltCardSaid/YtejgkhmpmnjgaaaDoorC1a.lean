/- Layer 1, the reference: Cut. -/
import Derived.Test.YtejgkhmpmnjgaaaDoorBa
import Derived.Deep.QuietTactic
import Derived.BigQuiet
namespace Go.Proofs.YtejgkhmpmnjgaaaDoor
open Go.RowKit

def sizeF (n : Int) : Int := if n < 0 ∨ n > 1114111 ∨ (n ≥ 55296 ∧ n ≤ 57343) then 0 else if n < 128 then 1 else if n < 2048 then 2 else if n < 65536 then 3 else 4

theorem size_c (n : Int) (w : World) : Calls Tryd.prog 62 #[.int .i64 n] w fun e w' => e = .returned (.int .i64 (sizeF n)) ∧ w = w' := by
  go_enter Tryd.func62, Tryd.ntmps62
  go_wp2
  all_goals (go_ret; refine ⟨?_, rfl⟩; apply ret_int; unfold sizeF; repeat' split)
  all_goals first | rfl | (exfalso; omega)

def Lead (b0 many n0 : Nat) : Prop := (192 ≤ b0 ∧ b0 < 224 ∧ many = 1 ∧ n0 = b0 - 192) ∨ (224 ≤ b0 ∧ b0 < 240 ∧ many = 2 ∧ n0 = b0 - 224) ∨ (240 ≤ b0 ∧ b0 < 248 ∧ many = 3 ∧ n0 = b0 - 240)
def contF (l : List UInt8) (n0 : Nat) : Nat → Nat
  | 0 => n0
  | j + 1 => contF l n0 j * 64 + (nth l (j + 1) - 128)
theorem contF_lt (l : List UInt8) (n0 : Nat) (h : n0 < 32) (j : Nat) (hj : j ≤ 3) : contF l n0 j < 20000000 := by
  have h1 := nth_lt l (0 + 1); have h2 := nth_lt l (1 + 1); have h3 := nth_lt l (2 + 1)
  have e0 : contF l n0 0 < 32 := h
  have e1 : contF l n0 1 < 2400 := by show contF l n0 0 * 64 + (nth l (0 + 1) - 128) < 2400; omega
  have e2 : contF l n0 2 < 160000 := by show contF l n0 1 * 64 + (nth l (1 + 1) - 128) < 160000; omega
  have e3 : contF l n0 3 < 12000000 := by show contF l n0 2 * 64 + (nth l (2 + 1) - 128) < 12000000; omega
  match j, hj with
  | 0, _ => omega
  | 1, _ => omega
  | 2, _ => omega
  | 3, _ => omega
theorem first_short (l : List UInt8) (many n0 : Nat) (hl : Lead (nth l 0) many n0) (h : l.length < many + 1) : firstL l = (0, 0) := by
  unfold firstL first4
  rcases hl with h1 | h1 | h1
  all_goals
    by_cases h0 : l.length = 0
    · rw [if_pos h0]
    · rw [if_neg h0, if_neg (by omega), if_neg (by omega), if_neg (by omega), if_neg (by omega)]
theorem first_odd (l : List UInt8) (h : (128 ≤ nth l 0 ∧ nth l 0 < 192) ∨ 248 ≤ nth l 0) : firstL l = (0, 0) := by
  unfold firstL first4
  by_cases h0 : l.length = 0
  · rw [if_pos h0]
  · rw [if_neg h0, if_neg (by omega), if_neg (by omega), if_neg (by omega), if_neg (by omega)]
theorem first_one (l : List UInt8) (h0 : l.length ≠ 0) (h : nth l 0 < 128) : firstL l = (nth l 0, 1) := by
  unfold firstL first4
  rw [if_neg h0, if_pos h]
theorem first_cont (l : List UInt8) (many n0 j : Nat) (hl : Lead (nth l 0) many n0) (hj : 1 ≤ j) (hj' : j ≤ many) (h : ¬ nth l j / 64 = 2) : firstL l = (0, 0) := by
  unfold firstL first4
  by_cases h0 : l.length = 0
  · rw [if_pos h0]
  rw [if_neg h0]
  rcases hl with h1 | h1 | h1
  · obtain rfl : j = 1 := by omega
    rw [if_neg (by omega), if_neg (by omega), if_neg (by omega), if_neg (by omega)]
  · obtain rfl | rfl : j = 1 ∨ j = 2 := by omega
    all_goals rw [if_neg (by omega), if_neg (by omega), if_neg (by omega), if_neg (by omega)]
  · obtain rfl | rfl | rfl : j = 1 ∨ j = 2 ∨ j = 3 := by omega
    all_goals rw [if_neg (by omega), if_neg (by omega), if_neg (by omega), if_neg (by omega)]
theorem sizeF_cp {n : Nat} (h : IsCp n) : sizeF n = wid n := by
  unfold IsCp at h; unfold sizeF wid; rw [if_neg (by omega)]
  by_cases a : n < 128
  · rw [if_pos (by omega), if_pos a]; rfl
  rw [if_neg (by omega), if_neg a]
  by_cases b : n < 2048
  · rw [if_pos (by omega), if_pos b]; rfl
  rw [if_neg (by omega), if_neg b]
  by_cases c : n < 65536
  · rw [if_pos (by omega), if_pos c]; rfl
  rw [if_neg (by omega), if_neg c]; rfl
theorem sizeF_not {n : Nat} (h : ¬ IsCp n) : sizeF n = 0 := by
  unfold IsCp at h; unfold sizeF; rw [if_pos (by omega)]
theorem first_zero {l : List UInt8} {n k : Nat} (h : firstL l = (n, k)) (hk : k = 0) : firstL l = (0, 0) := by
  rw [h]; subst hk
  unfold firstL first4 at h
  repeat' split at h
  all_goals simp at h
  all_goals first | exact h.elim | (rw [← h]) | skip
theorem wid_two {n : Nat} (h : wid n = 2) : 128 ≤ n ∧ n < 2048 := by
  unfold wid at h; repeat' split at h
  all_goals omega
theorem wid_three {n : Nat} (h : wid n = 3) : 2048 ≤ n ∧ n < 65536 := by
  unfold wid at h; repeat' split at h
  all_goals omega
theorem wid_four {n : Nat} (h : wid n = 4) : 65536 ≤ n := by
  unfold wid at h; repeat' split at h
  all_goals omega
theorem enc_two (b c : UInt8) (m : Nat) (h1 : 192 ≤ b.toNat) (h3 : c.toNat / 64 = 2) (hm : (b.toNat - 192) * 64 + (c.toNat - 128) = m) (g1 : 128 ≤ m) (g2 : m < 2048) : enc1 m = [b, c] := by
  have := c.toNat_lt
  have e0 : 192 + m / 64 = b.toNat := by omega
  have e1 : 128 + m % 64 = c.toNat := by omega
  unfold enc1; rw [if_neg (by omega), if_pos g2, e0, e1, u8_of, u8_of]
theorem enc_three (b c d : UInt8) (m : Nat) (h1 : 224 ≤ b.toNat) (h3 : c.toNat / 64 = 2) (h4 : d.toNat / 64 = 2)
    (hm : ((b.toNat - 224) * 64 + (c.toNat - 128)) * 64 + (d.toNat - 128) = m) (g1 : 2048 ≤ m) (g2 : m < 65536) : enc1 m = [b, c, d] := by
  have := c.toNat_lt; have := d.toNat_lt
  have e0 : 224 + m / 4096 = b.toNat := by omega
  have e1 : 128 + m / 64 % 64 = c.toNat := by omega
  have e2 : 128 + m % 64 = d.toNat := by omega
  unfold enc1; rw [if_neg (by omega), if_neg (by omega), if_pos g2, e0, e1, e2, u8_of, u8_of, u8_of]
theorem enc_four (b c d x : UInt8) (m : Nat) (h1 : 240 ≤ b.toNat) (h3 : c.toNat / 64 = 2) (h4 : d.toNat / 64 = 2) (h5 : x.toNat / 64 = 2)
    (hm : (((b.toNat - 240) * 64 + (c.toNat - 128)) * 64 + (d.toNat - 128)) * 64 + (x.toNat - 128) = m) (g1 : 65536 ≤ m) : enc1 m = [b, c, d, x] := by
  have := c.toNat_lt; have := d.toNat_lt; have := x.toNat_lt
  have e0 : 240 + m / 262144 = b.toNat := by omega
  have e1 : 128 + m / 4096 % 64 = c.toNat := by omega
  have e2 : 128 + m / 64 % 64 = d.toNat := by omega
  have e3 : 128 + m % 64 = x.toNat := by omega
  have n1 : ¬ m < 128 := by omega
  have n2 : ¬ m < 2048 := by omega
  have n3 : ¬ m < 65536 := by omega
  unfold enc1; rw [if_neg n1, if_neg n2, if_neg n3, e0, e1, e2, e3, u8_of, u8_of, u8_of, u8_of]
theorem num_two (m b0 b1 : Nat) (e0 : b0 = 192 + m / 64) (e1 : b1 = 128 + m % 64) : (b0 - 192) * 64 + (b1 - 128) = m := by omega
theorem num_three (m b0 b1 b2 : Nat) (e0 : b0 = 224 + m / 4096) (e1 : b1 = 128 + m / 64 % 64) (e2 : b2 = 128 + m % 64) : ((b0 - 224) * 64 + (b1 - 128)) * 64 + (b2 - 128) = m := by omega
theorem num_four (m b0 b1 b2 b3 : Nat) (e0 : b0 = 240 + m / 262144) (e1 : b1 = 128 + m / 4096 % 64) (e2 : b2 = 128 + m / 64 % 64) (e3 : b3 = 128 + m % 64) :
    (((b0 - 240) * 64 + (b1 - 128)) * 64 + (b2 - 128)) * 64 + (b3 - 128) = m := by omega
theorem lead_lo (n m a : Nat) (h : n = m + a) (hm : m < 32) : n < a + 32 := by omega
theorem uniq_num (b0 b1 b2 b3 many n0 n k len : Nat) (hl : Lead b0 many n0)
    (h : (k = 1 ∧ 1 ≤ len ∧ n < 128 ∧ b0 = n) ∨ (k = 2 ∧ 2 ≤ len ∧ 128 ≤ n ∧ n < 2048 ∧ b0 = 192 + n / 64 ∧ b1 = 128 + n % 64) ∨
      (k = 3 ∧ 3 ≤ len ∧ 2048 ≤ n ∧ n < 65536 ∧ IsCp n ∧ b0 = 224 + n / 4096 ∧ b1 = 128 + n / 64 % 64 ∧ b2 = 128 + n % 64) ∨
      (k = 4 ∧ 4 ≤ len ∧ 65536 ≤ n ∧ IsCp n ∧ b0 = 240 + n / 262144 ∧ b1 = 128 + n / 4096 % 64 ∧ b2 = 128 + n / 64 % 64 ∧ b3 = 128 + n % 64)) :
    (many = 1 ∧ k = 2 ∧ n0 * 64 + (b1 - 128) = n) ∨ (many = 2 ∧ k = 3 ∧ (n0 * 64 + (b1 - 128)) * 64 + (b2 - 128) = n) ∨
      (many = 3 ∧ k = 4 ∧ ((n0 * 64 + (b1 - 128)) * 64 + (b2 - 128)) * 64 + (b3 - 128) = n) := by
  unfold Lead at hl
  rcases h with ⟨rfl, hn, hm, e0⟩ | ⟨rfl, hn, hm, hm', e0, e1⟩ | ⟨rfl, hn, hm, hm', hc, e0, e1, e2⟩ | ⟨rfl, hn, hm, hc, e0, e1, e2, e3⟩
  · omega
  · have : n / 64 < 32 := by omega
    omega
  · have : n / 4096 < 16 := by omega
    clear hc
    rcases hl with h | h1 | h
    · omega
    · have q := num_three n b0 b1 b2 e0 e1 e2
      refine Or.inr (Or.inl ⟨by omega, by omega, ?_⟩); rw [h1.2.2.2]; exact q
    · omega
  · unfold IsCp at hc
    have : n / 262144 < 5 := by omega
    clear hc
    rcases hl with h | h | h1
    · omega
    · omega
    · have q := num_four n b0 b1 b2 b3 e0 e1 e2 e3
      refine Or.inr (Or.inr ⟨by omega, by omega, ?_⟩); rw [h1.2.2.2]; exact q
theorem first_uniq (l : List UInt8) (many n0 n k : Nat) (hl : Lead (nth l 0) many n0) (e : firstL l = (n, k)) (hk : 0 < k) : contF l n0 many = n ∧ k = many + 1 := by
  have h := first4_some (nth_lt l 1) (nth_lt l 2) (nth_lt l 3) e hk
  rcases uniq_num _ _ _ _ _ _ _ _ _ hl h with ⟨h1, h2, h3⟩ | ⟨h1, h2, h3⟩ | ⟨h1, h2, h3⟩
  all_goals (rw [h1]; exact ⟨h3, h2⟩)
theorem list2 {l : List UInt8} (h : 2 ≤ l.length) : ∃ b c t, l = b :: c :: t := by
  match l, h with
  | b :: c :: t, _ => exact ⟨b, c, t, rfl⟩
theorem list3 {l : List UInt8} (h : 3 ≤ l.length) : ∃ b c d t, l = b :: c :: d :: t := by
  match l, h with
  | b :: c :: d :: t, _ => exact ⟨b, c, d, t, rfl⟩
theorem list4 {l : List UInt8} (h : 4 ≤ l.length) : ∃ b c d e t, l = b :: c :: d :: e :: t := by
  match l, h with
  | b :: c :: d :: e :: t, _ => exact ⟨b, c, d, e, t, rfl⟩
theorem first_enc (l : List UInt8) (many n0 : Nat) (hl : Lead (nth l 0) many n0) (hn : many + 1 ≤ l.length) (hc : ∀ j, 1 ≤ j → j ≤ many → nth l j / 64 = 2)
    (hw : wid (contF l n0 many) = many + 1) : ∃ t, l = enc1 (contF l n0 many) ++ t := by
  rcases hl with h | h | h
  · obtain ⟨h1, h2, h3, h4⟩ := h
    rw [h3] at hw hn hc ⊢
    have c1 := hc 1 (by decide) (by decide)
    obtain ⟨b, c, t, rfl⟩ := list2 hn
    · have e := enc_two b c (contF (b :: c :: t) n0 1) h1 c1 (by rw [h4]; rfl) (wid_two hw).1 (wid_two hw).2
      exact ⟨t, by rw [e]; rfl⟩
  · obtain ⟨h1, h2, h3, h4⟩ := h
    rw [h3] at hw hn hc ⊢
    have c1 := hc 1 (by decide) (by decide)
    have c2 := hc 2 (by decide) (by decide)
    obtain ⟨b, c, d, t, rfl⟩ := list3 hn
    · have e := enc_three b c d (contF (b :: c :: d :: t) n0 2) h1 c1 c2 (by rw [h4]; rfl) (wid_three hw).1 (wid_three hw).2
      exact ⟨t, by rw [e]; rfl⟩
  · obtain ⟨h1, h2, h3, h4⟩ := h
    rw [h3] at hw hn hc ⊢
    have c1 := hc 1 (by decide) (by decide)
    have c2 := hc 2 (by decide) (by decide)
    have c3 := hc 3 (by decide) (by decide)
    obtain ⟨b, c, d, x, t, rfl⟩ := list4 hn
    · have e := enc_four b c d x (contF (b :: c :: d :: x :: t) n0 3) h1 c1 c2 c3 (by rw [h4]; rfl) (wid_four hw)
      exact ⟨t, by rw [e]; rfl⟩
theorem first_end (l : List UInt8) (many n0 : Nat) (hl : Lead (nth l 0) many n0) (hn : many + 1 ≤ l.length) (hc : ∀ j, 1 ≤ j → j ≤ many → nth l j / 64 = 2) :
    firstL l = if sizeF (contF l n0 many) = many + 1 then (contF l n0 many, many + 1) else (0, 0) := by
  by_cases q : sizeF (contF l n0 many) = many + 1
  · rw [if_pos q]
    have hcp : IsCp (contF l n0 many) := by
      by_cases hcp : IsCp (contF l n0 many)
      · exact hcp
      · rw [sizeF_not hcp] at q; omega
    rw [sizeF_cp hcp] at q
    have hw : wid (contF l n0 many) = many + 1 := by omega
    obtain ⟨t, he⟩ := first_enc l many n0 hl hn hc hw
    generalize contF l n0 many = m at *
    rw [he, firstL_enc _ hcp, hw]
  · rw [if_neg q]
    obtain ⟨n, k, e⟩ : ∃ n k, firstL l = (n, k) := ⟨_, _, rfl⟩
    rcases Nat.eq_zero_or_pos k with hk | hk
    · exact first_zero e hk
    · exfalso; apply q
      obtain ⟨h1, h2⟩ := first_uniq l many n0 n k hl e hk
      obtain ⟨hs, hw, _⟩ := firstL_some e hk
      rw [h1, sizeF_cp hs]; omega
end Go.Proofs.YtejgkhmpmnjgaaaDoor
namespace Go.Proofs.YtejgkhmpmnjgaaaDoor
open Go.RowKit
set_option maxRecDepth 100000
set_option maxHeartbeats 1000000

theorem contF_next (l : List UInt8) (n0 j : Nat) (h : nth l (j + 1) / 64 = 2) : ((contF l n0 (j + 1) : Nat) : Int) = (contF l n0 j : Int) * 64 + (nth l (j + 1) : Int) - 128 := by
  show ((contF l n0 j * 64 + (nth l (j + 1) - 128) : Nat) : Int) = _
  omega
theorem first_nil_c (s : ByteArray) (w : World) (h0 : s.size = 0) :
    Calls Tryd.prog 61 #[.string s] w fun e w' => e = .returned (.tuple #[.int .i64 (firstL (bs s)).1, .int .i64 (firstL (bs s)).2]) ∧ w = w' := by
  have h1 : firstL (bs s) = (0, 0) := by
    have : bs s = [] := List.eq_nil_of_length_eq_zero (by rw [bs_length]; exact h0)
    rw [this]; exact firstL_nil
  have H := Lib.hid h1; clear h1
  have h2 : ((s.size : Int) == 0) = true := by rw [h0]; rfl
  have H0 := Lib.hid h0; clear h0
  go_enter Tryd.func61, Tryd.ntmps61
  go_wp2
  go_ret2
  rw [H.out]
  exact ⟨rfl, rfl⟩
theorem first_odd_c (s : ByteArray) (w : World) (hs : s.size ≤ 1000000000) (h0 : 0 < s.size) (hc : (128 ≤ nth (bs s) 0 ∧ nth (bs s) 0 < 192) ∨ 248 ≤ nth (bs s) 0) :
    Calls Tryd.prog 61 #[.string s] w fun e w' => e = .returned (.tuple #[.int .i64 (firstL (bs s)).1, .int .i64 (firstL (bs s)).2]) ∧ w = w' := by
  have H := Lib.hid (first_odd _ hc)
  have hz : ((s.size : Int) == 0) = false := by rw [beq_eq_false_iff_ne]; omega
  have hlt := nth_lt (bs s) 0
  rw [nth_bs s 0 h0] at hc hlt
  rcases hc with ⟨hc, hd⟩ | hc
  all_goals
    go_enter Tryd.func61, Tryd.ntmps61
    go_wp2
    go_ret2
    rw [H.out]
    exact ⟨rfl, rfl⟩

theorem first_1s_c (s : ByteArray) (w : World) (hs : s.size < 1 + 1) (h0 : 0 < s.size) (hl : 192 ≤ nth (bs s) 0) (hh : nth (bs s) 0 < 224) :
    Calls Tryd.prog 61 #[.string s] w fun e w' => e = .returned (.tuple #[.int .i64 (firstL (bs s)).1, .int .i64 (firstL (bs s)).2]) ∧ w = w' := by
  have H := Lib.hid (first_short (bs s) 1 (nth (bs s) 0 - 192) (Or.inl ⟨hl, hh, rfl, rfl⟩) (by rw [bs_length]; exact hs))
  have hz : ((s.size : Int) == 0) = false := by rw [beq_eq_false_iff_ne]; omega
  rw [nth_bs s 0 h0] at hl hh
  go_enter Tryd.func61, Tryd.ntmps61
  go_wp2
  go_ret2
  rw [H.out]
  exact ⟨rfl, rfl⟩
theorem first_1_c (s : ByteArray) (w : World) (hs : s.size ≤ 1000000000) (h1 : 1 + 1 ≤ s.size) (hl : 192 ≤ nth (bs s) 0) (hh : nth (bs s) 0 < 224) :
    Calls Tryd.prog 61 #[.string s] w fun e w' => e = .returned (.tuple #[.int .i64 (firstL (bs s)).1, .int .i64 (firstL (bs s)).2]) ∧ w = w' := by
  have h0 : 0 < s.size := by omega
  have hlead : Lead (nth (bs s) 0) 1 (nth (bs s) 0 - 192) := Or.inl ⟨hl, hh, rfl, rfl⟩
  have hlt := nth_lt (bs s) 0
  have hlen : 1 + 1 ≤ (bs s).length := by rw [bs_length]; exact h1
  have hz : ((s.size : Int) == 0) = false := by rw [beq_eq_false_iff_ne]; omega
  have e0 : ((nth (bs s) 0 : Nat) : Int) = (s[0]'h0).toNat := by rw [nth_bs s 0 h0]
  have hl' := hl; have hh' := hh
  rw [nth_bs s 0 h0] at hl' hh'
  have hd : decide (((s[0]'h0).toNat : Int) < 224) = true := by rw [decide_eq_true_eq]; omega
  obtain ⟨n0, hn0⟩ : ∃ n0, n0 = nth (bs s) 0 - 192 := ⟨_, rfl⟩
  have en : ((s[0]'h0).toNat : Int) - 192 = (n0 : Int) := by rw [← e0]; omega
  rw [← hn0] at hlead
  have hn32 : n0 < 32 := by omega
  have E0 := Lib.hid e0; have EN := Lib.hid en; have HN := Lib.hid hn0; have HLN := Lib.hid hlen; have HL := Lib.hid hlead
  clear e0 en hn0 hlen hlead hl hh hlt
  go_enter Tryd.func61, Tryd.ntmps61
  go_wp2
  go_loop [6, 7] (fun n i => ∃ j : Nat, j ≤ 1 ∧ i = .int .i64 (j + 1 : Nat) ∧ n = .int .i64 (contF (bs s) n0 j) ∧ ∀ t, 1 ≤ t → t ≤ j → nth (bs s) t / 64 = 2) (fun _ i => 1 + 1 - (intOf i).toNat)
  case atStart => exact ⟨0, by omega, rfl, by rw [EN.out]; rfl, fun t a b => by omega⟩
  case round =>
    obtain ⟨j, hj, rfl, rfl, hc⟩ := hrel
    have HC := Lib.hid hc; clear hc
    have hcl := contF_lt (bs s) n0 hn32 j (by omega)
    by_cases hlt : j < 1
    · have hjs : j + 1 < s.size := by omega
      have hb := nth_bs s (j + 1) hjs
      have hbl := nth_lt (bs s) (j + 1)
      by_cases hcc : nth (bs s) (j + 1) / 64 = 2
      · have HE := Lib.hid (contF_next (bs s) n0 j hcc)
        have g1 : 128 ≤ (s[j + 1]'hjs).toNat := by omega
        have g2 : (s[j + 1]'hjs).toNat ≤ 191 := by omega
        have HB := Lib.hid hb; have HCC := Lib.hid hcc; clear hb hcc
        go_wp2
        go_round
        case rel => exact ⟨j + 1, by omega, by go_num, by rw [HE.out, HB.out], fun t a b => by
          by_cases ht : t = j + 1
          · rw [ht]; exact HCC.out
          · exact HC.out t a (by omega)⟩
        case measure => simp [intOf]; omega
      · have H := Lib.hid (first_cont (bs s) 1 n0 (j + 1) HL.out (by omega) (by omega) hcc)
        have g3 : (s[j + 1]'hjs).toNat < 256 := by omega
        have g : (s[j + 1]'hjs).toNat < 128 ∨ 191 < (s[j + 1]'hjs).toNat := by omega
        have HB := Lib.hid hb; have HCC := Lib.hid hcc; clear hb hcc hbl
        rcases g with g | g
        all_goals
          go_wp2
          go_ret2
          rw [H.out]
          exact ⟨rfl, rfl⟩
    · obtain rfl : j = 1 := by omega
      have H := Lib.hid (first_end (bs s) 1 n0 HL.out HLN.out HC.out)
      generalize contF (bs s) n0 1 = m at *
      have hsz : ((sizeF (m : Int) != 1 + 1) = true ∧ firstL (bs s) = (0, 0)) ∨ ((sizeF (m : Int) != 1 + 1) = false ∧ firstL (bs s) = (m, 1 + 1)) := by
        by_cases q : sizeF (m : Int) = 1 + 1
        · exact .inr ⟨by rw [bne_eq_false_iff_eq]; exact q, (H.out).trans (if_pos q)⟩
        · exact .inl ⟨by rw [bne_iff_ne]; exact q, (H.out).trans (if_neg q)⟩
      clear H
      rcases hsz with ⟨q, H⟩ | ⟨q, H⟩
      all_goals
        have HH := Lib.hid H; clear H
        go_wp2_with (go_at_call 62; refine (size_c _ _).mono ?_; rintro e w' ⟨rfl, rfl⟩)
        go_ret2
        rw [HH.out]
        exact ⟨rfl, rfl⟩

theorem first_2s_c (s : ByteArray) (w : World) (hs : s.size < 2 + 1) (h0 : 0 < s.size) (hl : 224 ≤ nth (bs s) 0) (hh : nth (bs s) 0 < 240) :
    Calls Tryd.prog 61 #[.string s] w fun e w' => e = .returned (.tuple #[.int .i64 (firstL (bs s)).1, .int .i64 (firstL (bs s)).2]) ∧ w = w' := by
  have H := Lib.hid (first_short (bs s) 2 (nth (bs s) 0 - 224) (Or.inr (Or.inl ⟨hl, hh, rfl, rfl⟩)) (by rw [bs_length]; exact hs))
  have hz : ((s.size : Int) == 0) = false := by rw [beq_eq_false_iff_ne]; omega
  rw [nth_bs s 0 h0] at hl hh
  go_enter Tryd.func61, Tryd.ntmps61
  go_wp2
  go_ret2
  rw [H.out]
  exact ⟨rfl, rfl⟩
theorem first_2_c (s : ByteArray) (w : World) (hs : s.size ≤ 1000000000) (h1 : 2 + 1 ≤ s.size) (hl : 224 ≤ nth (bs s) 0) (hh : nth (bs s) 0 < 240) :
    Calls Tryd.prog 61 #[.string s] w fun e w' => e = .returned (.tuple #[.int .i64 (firstL (bs s)).1, .int .i64 (firstL (bs s)).2]) ∧ w = w' := by
  have h0 : 0 < s.size := by omega
  have hlead : Lead (nth (bs s) 0) 2 (nth (bs s) 0 - 224) := Or.inr (Or.inl ⟨hl, hh, rfl, rfl⟩)
  have hlt := nth_lt (bs s) 0
  have hlen : 2 + 1 ≤ (bs s).length := by rw [bs_length]; exact h1
  have hz : ((s.size : Int) == 0) = false := by rw [beq_eq_false_iff_ne]; omega
  have e0 : ((nth (bs s) 0 : Nat) : Int) = (s[0]'h0).toNat := by rw [nth_bs s 0 h0]
  have hl' := hl; have hh' := hh
  rw [nth_bs s 0 h0] at hl' hh'
  have hd : decide (((s[0]'h0).toNat : Int) < 240) = true := by rw [decide_eq_true_eq]; omega
  obtain ⟨n0, hn0⟩ : ∃ n0, n0 = nth (bs s) 0 - 224 := ⟨_, rfl⟩
  have en : ((s[0]'h0).toNat : Int) - 224 = (n0 : Int) := by rw [← e0]; omega
  rw [← hn0] at hlead
  have hn32 : n0 < 32 := by omega
  have E0 := Lib.hid e0; have EN := Lib.hid en; have HN := Lib.hid hn0; have HLN := Lib.hid hlen; have HL := Lib.hid hlead
  clear e0 en hn0 hlen hlead hl hh hlt
  go_enter Tryd.func61, Tryd.ntmps61
  go_wp2
  go_loop [6, 7] (fun n i => ∃ j : Nat, j ≤ 2 ∧ i = .int .i64 (j + 1 : Nat) ∧ n = .int .i64 (contF (bs s) n0 j) ∧ ∀ t, 1 ≤ t → t ≤ j → nth (bs s) t / 64 = 2) (fun _ i => 2 + 1 - (intOf i).toNat)
  case atStart => exact ⟨0, by omega, rfl, by rw [EN.out]; rfl, fun t a b => by omega⟩
  case round =>
    obtain ⟨j, hj, rfl, rfl, hc⟩ := hrel
    have HC := Lib.hid hc; clear hc
    have hcl := contF_lt (bs s) n0 hn32 j (by omega)
    by_cases hlt : j < 2
    · have hjs : j + 1 < s.size := by omega
      have hb := nth_bs s (j + 1) hjs
      have hbl := nth_lt (bs s) (j + 1)
      by_cases hcc : nth (bs s) (j + 1) / 64 = 2
      · have HE := Lib.hid (contF_next (bs s) n0 j hcc)
        have g1 : 128 ≤ (s[j + 1]'hjs).toNat := by omega
        have g2 : (s[j + 1]'hjs).toNat ≤ 191 := by omega
        have HB := Lib.hid hb; have HCC := Lib.hid hcc; clear hb hcc
        go_wp2
        go_round
        case rel => exact ⟨j + 1, by omega, by go_num, by rw [HE.out, HB.out], fun t a b => by
          by_cases ht : t = j + 1
          · rw [ht]; exact HCC.out
          · exact HC.out t a (by omega)⟩
        case measure => simp [intOf]; omega
      · have H := Lib.hid (first_cont (bs s) 2 n0 (j + 1) HL.out (by omega) (by omega) hcc)
        have g3 : (s[j + 1]'hjs).toNat < 256 := by omega
        have g : (s[j + 1]'hjs).toNat < 128 ∨ 191 < (s[j + 1]'hjs).toNat := by omega
        have HB := Lib.hid hb; have HCC := Lib.hid hcc; clear hb hcc hbl
        rcases g with g | g
        all_goals
          go_wp2
          go_ret2
          rw [H.out]
          exact ⟨rfl, rfl⟩
    · obtain rfl : j = 2 := by omega
      have H := Lib.hid (first_end (bs s) 2 n0 HL.out HLN.out HC.out)
      generalize contF (bs s) n0 2 = m at *
      have hsz : ((sizeF (m : Int) != 2 + 1) = true ∧ firstL (bs s) = (0, 0)) ∨ ((sizeF (m : Int) != 2 + 1) = false ∧ firstL (bs s) = (m, 2 + 1)) := by
        by_cases q : sizeF (m : Int) = 2 + 1
        · exact .inr ⟨by rw [bne_eq_false_iff_eq]; exact q, (H.out).trans (if_pos q)⟩
        · exact .inl ⟨by rw [bne_iff_ne]; exact q, (H.out).trans (if_neg q)⟩
      clear H
      rcases hsz with ⟨q, H⟩ | ⟨q, H⟩
      all_goals
        have HH := Lib.hid H; clear H
        go_wp2_with (go_at_call 62; refine (size_c _ _).mono ?_; rintro e w' ⟨rfl, rfl⟩)
        go_ret2
        rw [HH.out]
        exact ⟨rfl, rfl⟩

theorem first_3s_c (s : ByteArray) (w : World) (hs : s.size < 3 + 1) (h0 : 0 < s.size) (hl : 240 ≤ nth (bs s) 0) (hh : nth (bs s) 0 < 248) :
    Calls Tryd.prog 61 #[.string s] w fun e w' => e = .returned (.tuple #[.int .i64 (firstL (bs s)).1, .int .i64 (firstL (bs s)).2]) ∧ w = w' := by
  have H := Lib.hid (first_short (bs s) 3 (nth (bs s) 0 - 240) (Or.inr (Or.inr ⟨hl, hh, rfl, rfl⟩)) (by rw [bs_length]; exact hs))
  have hz : ((s.size : Int) == 0) = false := by rw [beq_eq_false_iff_ne]; omega
  rw [nth_bs s 0 h0] at hl hh
  go_enter Tryd.func61, Tryd.ntmps61
  go_wp2
  go_ret2
  rw [H.out]
  exact ⟨rfl, rfl⟩
theorem first_3_c (s : ByteArray) (w : World) (hs : s.size ≤ 1000000000) (h1 : 3 + 1 ≤ s.size) (hl : 240 ≤ nth (bs s) 0) (hh : nth (bs s) 0 < 248) :
    Calls Tryd.prog 61 #[.string s] w fun e w' => e = .returned (.tuple #[.int .i64 (firstL (bs s)).1, .int .i64 (firstL (bs s)).2]) ∧ w = w' := by
  have h0 : 0 < s.size := by omega
  have hlead : Lead (nth (bs s) 0) 3 (nth (bs s) 0 - 240) := Or.inr (Or.inr ⟨hl, hh, rfl, rfl⟩)
  have hlt := nth_lt (bs s) 0
  have hlen : 3 + 1 ≤ (bs s).length := by rw [bs_length]; exact h1
  have hz : ((s.size : Int) == 0) = false := by rw [beq_eq_false_iff_ne]; omega
  have e0 : ((nth (bs s) 0 : Nat) : Int) = (s[0]'h0).toNat := by rw [nth_bs s 0 h0]
  have hl' := hl; have hh' := hh
  rw [nth_bs s 0 h0] at hl' hh'
  have hd : decide (((s[0]'h0).toNat : Int) < 248) = true := by rw [decide_eq_true_eq]; omega
  obtain ⟨n0, hn0⟩ : ∃ n0, n0 = nth (bs s) 0 - 240 := ⟨_, rfl⟩
  have en : ((s[0]'h0).toNat : Int) - 240 = (n0 : Int) := by rw [← e0]; omega
  rw [← hn0] at hlead
  have hn32 : n0 < 32 := by omega
  have E0 := Lib.hid e0; have EN := Lib.hid en; have HN := Lib.hid hn0; have HLN := Lib.hid hlen; have HL := Lib.hid hlead
  clear e0 en hn0 hlen hlead hl hh hlt
  go_enter Tryd.func61, Tryd.ntmps61
  go_wp2
  go_loop [6, 7] (fun n i => ∃ j : Nat, j ≤ 3 ∧ i = .int .i64 (j + 1 : Nat) ∧ n = .int .i64 (contF (bs s) n0 j) ∧ ∀ t, 1 ≤ t → t ≤ j → nth (bs s) t / 64 = 2) (fun _ i => 3 + 1 - (intOf i).toNat)
  case atStart => exact ⟨0, by omega, rfl, by rw [EN.out]; rfl, fun t a b => by omega⟩
  case round =>
    obtain ⟨j, hj, rfl, rfl, hc⟩ := hrel
    have HC := Lib.hid hc; clear hc
    have hcl := contF_lt (bs s) n0 hn32 j (by omega)
    by_cases hlt : j < 3
    · have hjs : j + 1 < s.size := by omega
      have hb := nth_bs s (j + 1) hjs
      have hbl := nth_lt (bs s) (j + 1)
      by_cases hcc : nth (bs s) (j + 1) / 64 = 2
      · have HE := Lib.hid (contF_next (bs s) n0 j hcc)
        have g1 : 128 ≤ (s[j + 1]'hjs).toNat := by omega
        have g2 : (s[j + 1]'hjs).toNat ≤ 191 := by omega
        have HB := Lib.hid hb; have HCC := Lib.hid hcc; clear hb hcc
        go_wp2
        go_round
        case rel => exact ⟨j + 1, by omega, by go_num, by rw [HE.out, HB.out], fun t a b => by
          by_cases ht : t = j + 1
          · rw [ht]; exact HCC.out
          · exact HC.out t a (by omega)⟩
        case measure => simp [intOf]; omega
      · have H := Lib.hid (first_cont (bs s) 3 n0 (j + 1) HL.out (by omega) (by omega) hcc)
        have g3 : (s[j + 1]'hjs).toNat < 256 := by omega
        have g : (s[j + 1]'hjs).toNat < 128 ∨ 191 < (s[j + 1]'hjs).toNat := by omega
        have HB := Lib.hid hb; have HCC := Lib.hid hcc; clear hb hcc hbl
        rcases g with g | g
        all_goals
          go_wp2
          go_ret2
          rw [H.out]
          exact ⟨rfl, rfl⟩
    · obtain rfl : j = 3 := by omega
      have H := Lib.hid (first_end (bs s) 3 n0 HL.out HLN.out HC.out)
      generalize contF (bs s) n0 3 = m at *
      have hsz : ((sizeF (m : Int) != 3 + 1) = true ∧ firstL (bs s) = (0, 0)) ∨ ((sizeF (m : Int) != 3 + 1) = false ∧ firstL (bs s) = (m, 3 + 1)) := by
        by_cases q : sizeF (m : Int) = 3 + 1
        · exact .inr ⟨by rw [bne_eq_false_iff_eq]; exact q, (H.out).trans (if_pos q)⟩
        · exact .inl ⟨by rw [bne_iff_ne]; exact q, (H.out).trans (if_neg q)⟩
      clear H
      rcases hsz with ⟨q, H⟩ | ⟨q, H⟩
      all_goals
        have HH := Lib.hid H; clear H
        go_wp2_with (go_at_call 62; refine (size_c _ _).mono ?_; rintro e w' ⟨rfl, rfl⟩)
        go_ret2
        rw [HH.out]
        exact ⟨rfl, rfl⟩

theorem first_0_c (s : ByteArray) (w : World) (hs : s.size ≤ 1000000000) (h0 : 0 < s.size) (hh : nth (bs s) 0 < 128) :
    Calls Tryd.prog 61 #[.string s] w fun e w' => e = .returned (.tuple #[.int .i64 (firstL (bs s)).1, .int .i64 (firstL (bs s)).2]) ∧ w = w' := by
  have H := Lib.hid (first_one (bs s) (by rw [bs_length]; omega) hh)
  have hz : ((s.size : Int) == 0) = false := by rw [beq_eq_false_iff_ne]; omega
  have E := Lib.hid (nth_bs s 0 h0)
  rw [nth_bs s 0 h0] at hh
  have hq : (sizeF ((s[0]'h0).toNat : Int) != 1) = false := by
    rw [bne_eq_false_iff_eq]; unfold sizeF; rw [if_neg (by omega), if_pos (by omega)]
  go_enter Tryd.func61, Tryd.ntmps61
  go_wp2
  refine wp_loop_once ?_
  go_wp2_with (go_at_call 62; refine (size_c _ _).mono ?_; rintro e w' ⟨rfl, rfl⟩)
  go_ret2
  rw [H.out, E.out]
  exact ⟨rfl, rfl⟩
theorem first_c (s : ByteArray) (w : World) (hs : s.size ≤ 1000000000) :
    Calls Tryd.prog 61 #[.string s] w fun e w' => e = .returned (.tuple #[.int .i64 (firstL (bs s)).1, .int .i64 (firstL (bs s)).2]) ∧ w = w' := by
  by_cases h0 : s.size = 0
  · exact first_nil_c s w h0
  by_cases c0 : nth (bs s) 0 < 128
  · exact first_0_c s w hs (by omega) c0
  by_cases c1 : nth (bs s) 0 < 192
  · exact first_odd_c s w hs (by omega) (by omega)
  by_cases c2 : nth (bs s) 0 < 224
  · by_cases h : s.size < 1 + 1
    · exact first_1s_c s w h (by omega) (by omega) c2
    · exact first_1_c s w hs (by omega) (by omega) c2
  by_cases c3 : nth (bs s) 0 < 240
  · by_cases h : s.size < 2 + 1
    · exact first_2s_c s w h (by omega) (by omega) c3
    · exact first_2_c s w hs (by omega) (by omega) c3
  by_cases c4 : nth (bs s) 0 < 248
  · by_cases h : s.size < 3 + 1
    · exact first_3s_c s w h (by omega) (by omega) c4
    · exact first_3_c s w hs (by omega) (by omega) c4
  exact first_odd_c s w hs (by omega) (by omega)
end Go.Proofs.YtejgkhmpmnjgaaaDoor
namespace Go.Proofs.YtejgkhmpmnjgaaaDoor
open Go.RowKit
set_option maxRecDepth 100000
set_option maxHeartbeats 1000000

/-- The places at which code points begin, and the end. -/
def startsL (cs : List Nat) : List Nat := (List.range (cs.length + 1)).map fun i => (encs (cs.take i)).length
def startsV (cs : List Nat) : List Value := (startsL cs).map fun (i : Nat) => Value.int .i64 i
theorem startsL_length (cs : List Nat) : (startsL cs).length = cs.length + 1 := by simp [startsL]
theorem startsV_length (cs : List Nat) : (startsV cs).length = cs.length + 1 := by simp [startsV, startsL_length]
theorem startsL_snoc (cs : List Nat) (c : Nat) : startsL (cs ++ [c]) = startsL cs ++ [(encs (cs ++ [c])).length] := by
  unfold startsL
  rw [List.length_append, List.length_singleton, List.range_succ, List.map_append]
  congr 1
  · apply List.map_congr_left
    intro i hi
    rw [List.mem_range] at hi
    rw [List.take_append_of_le_length (by omega)]
  · simp only [List.map_cons, List.map_nil]
    rw [List.take_of_length_le (by simp)]
theorem startsV_snoc (cs : List Nat) (c : Nat) : startsV (cs ++ [c]) = startsV cs ++ [Value.int .i64 ((encs (cs ++ [c])).length : Nat)] := by
  simp [startsV, startsL_snoc]

def StartsR (w : World) (l : List UInt8) (e : Ending) (w' : World) : Prop :=
  Ext w w' ∧ ((dec l = none ∧ e = .returned (.tuple #[.slice none 0 0, .bool false])) ∨
    ∃ cs v, dec l = some cs ∧ e = .returned (.tuple #[v, .bool true]) ∧ Own w' w.heap.size 3 1 v (cs.length + 1) (startsV cs))

theorem first_at (s : ByteArray) (w : World) (hs : s.size ≤ 1000000000) (p : Nat) (n k : Nat) (h : firstL ((bs s).drop p) = (n, k)) :
    Calls Tryd.prog 61 #[.string (s.extract p s.size)] w fun e w' => e = .returned (.tuple #[.int .i64 n, .int .i64 k]) ∧ w = w' := by
  have h1 := first_c (s.extract p s.size) w (by simp; omega)
  have h2 : bs (s.extract p s.size) = (bs s).drop p := by
    rw [bs_extract, List.take_of_length_le]; rw [List.length_drop, bs_length]; omega
  rw [h2, h] at h1
  exact h1

theorem info_int : (Tryd.prog.info? 3).map (fun i => (i.zero, i.size, i.bytes)) = some (some (.int .i64 0), 1, 8) := by kernel_rfl

theorem starts_c (s : ByteArray) (w : World) (hs : s.size ≤ 1000000000) :
    Calls Tryd.prog 43 #[.string s] w (StartsR w (bs s)) := by
  obtain ⟨i, hi, hz0, hz1, hz2⟩ := info_parts info_int
  have hown0 : Own (w.alloc (.cells #[.int .i64 0] 3)) w.heap.size 3 1 (.slice (some ⟨w.heap.size, 0, none⟩) 1 1) 1 (startsV []) :=
    Own.made w w.heap.size 3 1 1 #[.int .i64 0] (Nat.le_refl _) (by omega) rfl
  have hbel0 : Below w.heap.size w (w.alloc (.cells #[.int .i64 0] 3)) := (Below.refl _ _).alloc (Nat.le_refl _) _
  have HI := Lib.hid hi; have HZ0 := Lib.hid hz0; have HZ1 := Lib.hid hz1; have HZ2 := Lib.hid hz2
  have HO := Lib.hid hown0; have HB := Lib.hid hbel0
  clear hi hz0 hz1 hz2 hown0 hbel0
  go_enter Tryd.func43, Tryd.ntmps43
  go_wp2
  go_loopw [4, 5] (fun o a wr => ∃ (cs : List Nat) (rest : List UInt8), (∀ c ∈ cs, IsCp c) ∧ bs s = encs cs ++ rest ∧ a = .int .i64 ((encs cs).length : Nat) ∧ Own wr w.heap.size 3 1 o (cs.length + 1) (startsV cs) ∧ Below w.heap.size w wr) (fun _ a _ => s.size - (intOf a).toNat)
  case atStart => exact ⟨[], bs s, by simp, by simp [encs], rfl, HO.out, HB.out⟩
  case round =>
    obtain ⟨cs, rest, hcp, hbs, rfl, hown, hbel⟩ := hrel
    have hlen : (encs cs).length + rest.length = s.size := by rw [← bs_length, hbs, List.length_append]
    have hcl := length_le_encs cs
    have hdrop : (bs s).drop (encs cs).length = rest := by rw [hbs, List.drop_left]
    have HBS := Lib.hid hbs; have HDR := Lib.hid hdrop; have HCP := Lib.hid hcp
    clear hbs hdrop hcp
    by_cases hr : rest = []
    · have hz : (encs cs).length = s.size := by rw [← hlen, hr]; rfl
      have hd : decide ((encs cs).length < s.size) = false := by rw [decide_eq_false_iff_not]; omega
      have hdec : dec (bs s) = some cs := by rw [HBS.out, hr, List.append_nil]; exact dec_encs HCP.out
      have HDEC := Lib.hid hdec
      clear hz hlen hr hdec
      go_wp2
      go_ret2
      exact ⟨hbel, .inr ⟨cs, u4, HDEC.out, rfl, hown⟩⟩
    · obtain ⟨n, k, hf⟩ : ∃ n k, firstL rest = (n, k) := ⟨_, _, rfl⟩
      have hpos : 0 < rest.length := List.length_pos_iff.2 hr
      have hd : decide ((encs cs).length < s.size) = true := by rw [decide_eq_true_eq]; omega
      have hcall := fun w' => first_at s w' hs (encs cs).length n k (by rw [HDR.out]; exact hf)
      have HF := Lib.hid hf; have HC := Lib.hid hcall; have HR := Lib.hid hr
      clear hf hcall hr
      by_cases hk : k = 0
      · have hq : ((k : Int) == 0) = true := by rw [hk]; rfl
        have hdec : dec (bs s) = none := by
          rw [HBS.out, dec_append_some HCP.out, dec_none_of HR.out (by rw [HF.out]; exact hk)]; rfl
        have HDEC := Lib.hid hdec
        clear hk hdec
        go_wp2_with (go_at_call 61; refine (HC.out _).mono ?_; rintro e w' ⟨rfl, rfl⟩)
        go_ret2
        exact ⟨hbel, .inl ⟨HDEC.out, rfl⟩⟩
      · have hq : ((k : Int) == 0) = false := by rw [beq_eq_false_iff_ne]; omega
        obtain ⟨hcp, hw, r, hr⟩ := firstL_some HF.out (Nat.pos_of_ne_zero hk)
        have hkle : k ≤ rest.length := by rw [hr, List.length_append, enc1_length, hw]; omega
        have henc : encs (cs ++ [n]) = encs cs ++ enc1 n := by rw [encs_append, encs_single]
        have hl2 : (encs (cs ++ [n])).length = (encs cs).length + k := by rw [henc, List.length_append, enc1_length, hw]
        obtain ⟨v', w', happ, hown', hbel'⟩ := app_new (P := Tryd.prog) 22 22 3 i _ 1 8 Tryd.underlying22 HI.out HZ0.out HZ1.out HZ2.out rfl (by omega) (by omega)
          hbel hown (by omega) 1 #[.int .i64 (((encs cs).length : Int) + (k : Int))] rfl (by omega) (by simp [Value.oneCell']) 3
        have hown2 : Own w' w.heap.size 3 1 v' ((cs ++ [n]).length + 1) (startsV (cs ++ [n])) := by
          rw [startsV_snoc, hl2, List.length_append, Int.natCast_add]; exact hown'
        have HR2 := Lib.hid hr; have HCP2 := Lib.hid hcp; have HL2 := Lib.hid hl2; have HE := Lib.hid henc
        have HK := Lib.hid hk
        clear hr hcp hl2 henc hw hk
        have HAP := Lib.hid happ; clear happ
        go_wp2_with (first | (go_at_call 61; refine (HC.out _).mono ?_; rintro e w' ⟨rfl, rfl⟩) | (at_builtin; refine wpList_append_run rfl rfl HAP.out rfl rfl ?_))
        go_roundw
        case rel => exact ⟨cs ++ [n], r, fun c hc => by
            rcases List.mem_append.1 hc with h | h
            · exact HCP.out c h
            · rw [List.mem_singleton.1 h]; exact HCP2.out, by rw [HBS.out, HR2.out, HE.out, List.append_assoc], by rw [HL2.out]; go_num, hown2, hbel'⟩
        case measure => have := HK.out; simp [intOf]; omega
end Go.Proofs.YtejgkhmpmnjgaaaDoor
namespace Go.Proofs.YtejgkhmpmnjgaaaDoor
open Go.RowKit
set_option maxRecDepth 100000
set_option maxHeartbeats 1000000

def cntF (l : List UInt8) : Int := match dec l with | none => -1 | some cs => (cs.length : Int)
def cutF (l : List UInt8) (a b : Int) : List UInt8 × Int :=
  match dec l with
  | none => ([], 3)
  | some cs => if 0 ≤ a ∧ a ≤ b ∧ b ≤ cs.length then (encs ((cs.take b.toNat).drop a.toNat), 0) else ([], 6)

theorem validR_c (s : ByteArray) (w : World) (hs : s.size ≤ 1000000000) :
    Calls Tryd.prog 28 #[.string s] w fun e w' => e = .returned (.bool (dec (bs s)).isSome) ∧ Ext w w' := by
  go_enter Tryd.func28, Tryd.ntmps28
  go_wp2_with fail
  refine (starts_c s _ hs).mono ?_
  rintro e w1 ⟨hx, ⟨hd, rfl⟩ | ⟨cs, v, hd, rfl, hown⟩⟩
  all_goals
    have HD := Lib.hid hd; clear hd
    go_wp2_with fail
    go_ret
    rw [HD.out]
    exact ⟨rfl, hx⟩
theorem countR_c (s : ByteArray) (w : World) (hs : s.size ≤ 1000000000) :
    Calls Tryd.prog 26 #[.string s] w fun e w' => e = .returned (.int .i64 (cntF (bs s))) ∧ Ext w w' := by
  go_enter Tryd.func26, Tryd.ntmps26
  go_wp2_with fail
  refine (starts_c s _ hs).mono ?_
  rintro e w1 ⟨hx, ⟨hd, rfl⟩ | ⟨cs, v, hd, rfl, hown⟩⟩
  · have HD : Hid (cntF (bs s) = -1) := Lib.hid (by unfold cntF; rw [hd])
    clear hd
    go_wp2_with fail
    go_ret
    rw [HD.out]
    exact ⟨rfl, hx⟩
  · have HD : Hid (cntF (bs s) = cs.length) := Lib.hid (by unfold cntF; rw [hd])
    have hl : cs.length ≤ 1000000000 := by
      have := (dec_some hd).2; have h2 := length_le_encs cs; rw [← this, bs_length] at h2; omega
    clear hd
    obtain ⟨a, c, rfl, hc⟩ := hown.len
    go_wp2_with fail
    go_ret
    rw [HD.out]
    exact ⟨ret_int (by omega), hx⟩
end Go.Proofs.YtejgkhmpmnjgaaaDoor
namespace Go.Proofs.YtejgkhmpmnjgaaaDoor
open Go.RowKit
set_option maxRecDepth 100000
set_option maxHeartbeats 1000000

theorem startsV_at (cs : List Nat) (i : Nat) (h : i ≤ cs.length) : (startsV cs)[i]? = some (Value.int .i64 ((encs (cs.take i)).length : Nat)) := by
  unfold startsV startsL
  rw [List.map_map, List.getElem?_map, List.getElem?_range (by omega)]
  rfl
theorem encs_take_drop (cs : List Nat) (i : Nat) : encs cs = encs (cs.take i) ++ encs (cs.drop i) := by rw [← encs_append, List.take_append_drop]
theorem encs_cut (cs : List Nat) (i j : Nat) (h : i ≤ j) :
    ((encs cs).drop (encs (cs.take i)).length).take ((encs (cs.take j)).length - (encs (cs.take i)).length) = encs ((cs.take j).drop i) := by
  have e1 : cs.take j = cs.take i ++ (cs.take j).drop i := by
    rw [show cs.take i = (cs.take j).take i from by rw [List.take_take, Nat.min_eq_left h]]; exact (List.take_append_drop i (cs.take j)).symm
  have e2 : encs cs = encs (cs.take i) ++ (encs ((cs.take j).drop i) ++ encs (cs.drop j)) := by
    rw [encs_take_drop cs j, e1, encs_append, List.append_assoc]
    congr 2
    rw [← e1]
  have e3 : (encs (cs.take j)).length - (encs (cs.take i)).length = (encs ((cs.take j).drop i)).length := by
    conv => lhs; rw [e1, encs_append, List.length_append]
    omega
  rw [e3]
  conv => lhs; rw [e2]
  rw [List.drop_left, List.take_left]
theorem encs_take_le (cs : List Nat) (i j : Nat) (h : i ≤ j) : (encs (cs.take i)).length ≤ (encs (cs.take j)).length := by
  have e : cs.take i = (cs.take j).take i := by rw [List.take_take, Nat.min_eq_left h]
  have := congrArg List.length (encs_take_drop (cs.take j) i)
  rw [List.length_append, ← e] at this
  omega

def cutV (r : List UInt8 × Int) : Value := .tuple #[.string (mkS r.1), .int .i64 r.2]

end Go.Proofs.YtejgkhmpmnjgaaaDoor
