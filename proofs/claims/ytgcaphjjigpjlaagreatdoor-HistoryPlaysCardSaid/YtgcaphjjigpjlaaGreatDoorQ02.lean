/- Packed: C1a C3 C4 C1h C4d C5 Mg M7 Bn Mc. -/
import Derived.BigQuiet
import Derived.Deep.QuietTactic
import Derived.Laws.AppendOwnNone
import Derived.Laws.BytesArg
import Derived.Lib.DecodeN
import Derived.Lib.Hide
import Derived.Lib.Strings
import Derived.Lib.UnsafeStr
import Derived.StillTailTactics
import Derived.Test.YtgcaphjjigpjlaaGreatDoorProg
import Derived.WalkKit
import Derived.WalkLawsBesides
import Derived.WalkSpells
import Derived.Test.YtgcaphjjigpjlaaGreatDoorQ00
import Derived.Test.YtgcaphjjigpjlaaGreatDoorQ01
namespace Go.Proofs.YtgcaphjjigpjlaaGreatDoor
open Go.RowKit
def sizeF (n : Int) : Int := if n < 0 ∨ n > 1114111 ∨ (n ≥ 55296 ∧ n ≤ 57343) then 0 else if n < 128 then 1 else if n < 2048 then 2 else if n < 65536 then 3 else 4
theorem size_c (n : Int) (w : World) : Calls Tryz.prog 44 #[.int .i64 n] w fun e w' => e = .returned (.int .i64 (sizeF n)) ∧ w = w' := by
  go_enter Tryz.func44, Tryz.ntmps44
  go_wp2
  all_goals (go_ret; refine ⟨?_, rfl⟩; apply ret_int; unfold sizeF; repeat' split)
  all_goals first | rfl | (exfalso; omega)
def Lead (b0 many n0 : Nat) : Prop := (192 ≤ b0 ∧ b0 < 224 ∧ many = 1 ∧ n0 = b0 - 192) ∨ (224 ≤ b0 ∧ b0 < 240 ∧ many = 2 ∧ n0 = b0 - 224) ∨ (240 ≤ b0 ∧ b0 < 248 ∧ many = 3 ∧ n0 = b0 - 240)
def contF (l : List UInt8) (n0 : Nat) : Nat → Nat
  | 0 => n0
  | j + 1 => contF l n0 j * 64 + (nth l (j + 1) - 128)
theorem contF_lt (l : List UInt8) (n0 : Nat) (h : n0 < 32) (j : Nat) (hj : j ≤ 3) : contF l n0 j < 20000000 := by
  have h1 := nth_lt l (0 + 1); have h2 := nth_lt l (1 + 1); have h3 := nth_lt l (2 + 1)
  have e0 : contF l n0 0 < 32 := h
  have e1 : contF l n0 1 < 2400 := by show contF l n0 0 * 64 + (nth l (0 + 1) - 128) < 2400; omega
  have e2 : contF l n0 2 < 160000 := by show contF l n0 1 * 64 + (nth l (1 + 1) - 128) < 160000; omega
  have e3 : contF l n0 3 < 12000000 := by show contF l n0 2 * 64 + (nth l (2 + 1) - 128) < 12000000; omega
  match j, hj with
  | 0, _ => omega
  | 1, _ => omega
  | 2, _ => omega
  | 3, _ => omega
theorem first_short (l : List UInt8) (many n0 : Nat) (hl : Lead (nth l 0) many n0) (h : l.length < many + 1) : firstL l = (0, 0) := by
  unfold firstL first4
  rcases hl with h1 | h1 | h1
  all_goals
    by_cases h0 : l.length = 0
    · rw [if_pos h0]
    · rw [if_neg h0, if_neg (by omega), if_neg (by omega), if_neg (by omega), if_neg (by omega)]
theorem first_odd (l : List UInt8) (h : (128 ≤ nth l 0 ∧ nth l 0 < 192) ∨ 248 ≤ nth l 0) : firstL l = (0, 0) := by
  unfold firstL first4
  by_cases h0 : l.length = 0
  · rw [if_pos h0]
  · rw [if_neg h0, if_neg (by omega), if_neg (by omega), if_neg (by omega), if_neg (by omega)]
theorem first_one (l : List UInt8) (h0 : l.length ≠ 0) (h : nth l 0 < 128) : firstL l = (nth l 0, 1) := by
  unfold firstL first4
  rw [if_neg h0, if_pos h]
theorem first_cont (l : List UInt8) (many n0 j : Nat) (hl : Lead (nth l 0) many n0) (hj : 1 ≤ j) (hj' : j ≤ many) (h : ¬ nth l j / 64 = 2) : firstL l = (0, 0) := by
  unfold firstL first4
  by_cases h0 : l.length = 0
  · rw [if_pos h0]
  rw [if_neg h0]
  rcases hl with h1 | h1 | h1
  · obtain rfl : j = 1 := by omega
    rw [if_neg (by omega), if_neg (by omega), if_neg (by omega), if_neg (by omega)]
  · obtain rfl | rfl : j = 1 ∨ j = 2 := by omega
    all_goals rw [if_neg (by omega), if_neg (by omega), if_neg (by omega), if_neg (by omega)]
  · obtain rfl | rfl | rfl : j = 1 ∨ j = 2 ∨ j = 3 := by omega
    all_goals rw [if_neg (by omega), if_neg (by omega), if_neg (by omega), if_neg (by omega)]
theorem sizeF_cp {n : Nat} (h : IsCp n) : sizeF n = wid n := by
  unfold IsCp at h; unfold sizeF wid; rw [if_neg (by omega)]
  by_cases a : n < 128
  · rw [if_pos (by omega), if_pos a]; rfl
  rw [if_neg (by omega), if_neg a]
  by_cases b : n < 2048
  · rw [if_pos (by omega), if_pos b]; rfl
  rw [if_neg (by omega), if_neg b]
  by_cases c : n < 65536
  · rw [if_pos (by omega), if_pos c]; rfl
  rw [if_neg (by omega), if_neg c]; rfl
theorem sizeF_not {n : Nat} (h : ¬ IsCp n) : sizeF n = 0 := by
  unfold IsCp at h; unfold sizeF; rw [if_pos (by omega)]
theorem first_zero {l : List UInt8} {n k : Nat} (h : firstL l = (n, k)) (hk : k = 0) : firstL l = (0, 0) := by
  rw [h]; subst hk
  unfold firstL first4 at h
  repeat' split at h
  all_goals simp at h
  all_goals first | exact h.elim | (rw [← h]) | skip
theorem wid_two {n : Nat} (h : wid n = 2) : 128 ≤ n ∧ n < 2048 := by
  unfold wid at h; repeat' split at h
  all_goals omega
theorem wid_three {n : Nat} (h : wid n = 3) : 2048 ≤ n ∧ n < 65536 := by
  unfold wid at h; repeat' split at h
  all_goals omega
theorem wid_four {n : Nat} (h : wid n = 4) : 65536 ≤ n := by
  unfold wid at h; repeat' split at h
  all_goals omega
theorem enc_two (b c : UInt8) (m : Nat) (h1 : 192 ≤ b.toNat) (h3 : c.toNat / 64 = 2) (hm : (b.toNat - 192) * 64 + (c.toNat - 128) = m) (g1 : 128 ≤ m) (g2 : m < 2048) : enc1 m = [b, c] := by
  have := c.toNat_lt
  have e0 : 192 + m / 64 = b.toNat := by omega
  have e1 : 128 + m % 64 = c.toNat := by omega
  unfold enc1; rw [if_neg (by omega), if_pos g2, e0, e1, u8_of, u8_of]
theorem enc_three (b c d : UInt8) (m : Nat) (h1 : 224 ≤ b.toNat) (h3 : c.toNat / 64 = 2) (h4 : d.toNat / 64 = 2)
    (hm : ((b.toNat - 224) * 64 + (c.toNat - 128)) * 64 + (d.toNat - 128) = m) (g1 : 2048 ≤ m) (g2 : m < 65536) : enc1 m = [b, c, d] := by
  have := c.toNat_lt; have := d.toNat_lt
  have e0 : 224 + m / 4096 = b.toNat := by omega
  have e1 : 128 + m / 64 % 64 = c.toNat := by omega
  have e2 : 128 + m % 64 = d.toNat := by omega
  unfold enc1; rw [if_neg (by omega), if_neg (by omega), if_pos g2, e0, e1, e2, u8_of, u8_of, u8_of]
theorem enc_four (b c d x : UInt8) (m : Nat) (h1 : 240 ≤ b.toNat) (h3 : c.toNat / 64 = 2) (h4 : d.toNat / 64 = 2) (h5 : x.toNat / 64 = 2)
    (hm : (((b.toNat - 240) * 64 + (c.toNat - 128)) * 64 + (d.toNat - 128)) * 64 + (x.toNat - 128) = m) (g1 : 65536 ≤ m) : enc1 m = [b, c, d, x] := by
  have := c.toNat_lt; have := d.toNat_lt; have := x.toNat_lt
  have e0 : 240 + m / 262144 = b.toNat := by omega
  have e1 : 128 + m / 4096 % 64 = c.toNat := by omega
  have e2 : 128 + m / 64 % 64 = d.toNat := by omega
  have e3 : 128 + m % 64 = x.toNat := by omega
  have n1 : ¬ m < 128 := by omega
  have n2 : ¬ m < 2048 := by omega
  have n3 : ¬ m < 65536 := by omega
  unfold enc1; rw [if_neg n1, if_neg n2, if_neg n3, e0, e1, e2, e3, u8_of, u8_of, u8_of, u8_of]
theorem num_three (m b0 b1 b2 : Nat) (e0 : b0 = 224 + m / 4096) (e1 : b1 = 128 + m / 64 % 64) (e2 : b2 = 128 + m % 64) : ((b0 - 224) * 64 + (b1 - 128)) * 64 + (b2 - 128) = m := by omega
theorem num_four (m b0 b1 b2 b3 : Nat) (e0 : b0 = 240 + m / 262144) (e1 : b1 = 128 + m / 4096 % 64) (e2 : b2 = 128 + m / 64 % 64) (e3 : b3 = 128 + m % 64) :
    (((b0 - 240) * 64 + (b1 - 128)) * 64 + (b2 - 128)) * 64 + (b3 - 128) = m := by omega
theorem uniq_num (b0 b1 b2 b3 many n0 n k len : Nat) (hl : Lead b0 many n0)
    (h : (k = 1 ∧ 1 ≤ len ∧ n < 128 ∧ b0 = n) ∨ (k = 2 ∧ 2 ≤ len ∧ 128 ≤ n ∧ n < 2048 ∧ b0 = 192 + n / 64 ∧ b1 = 128 + n % 64) ∨
      (k = 3 ∧ 3 ≤ len ∧ 2048 ≤ n ∧ n < 65536 ∧ IsCp n ∧ b0 = 224 + n / 4096 ∧ b1 = 128 + n / 64 % 64 ∧ b2 = 128 + n % 64) ∨
      (k = 4 ∧ 4 ≤ len ∧ 65536 ≤ n ∧ IsCp n ∧ b0 = 240 + n / 262144 ∧ b1 = 128 + n / 4096 % 64 ∧ b2 = 128 + n / 64 % 64 ∧ b3 = 128 + n % 64)) :
    (many = 1 ∧ k = 2 ∧ n0 * 64 + (b1 - 128) = n) ∨ (many = 2 ∧ k = 3 ∧ (n0 * 64 + (b1 - 128)) * 64 + (b2 - 128) = n) ∨
      (many = 3 ∧ k = 4 ∧ ((n0 * 64 + (b1 - 128)) * 64 + (b2 - 128)) * 64 + (b3 - 128) = n) := by
  unfold Lead at hl
  rcases h with ⟨rfl, hn, hm, e0⟩ | ⟨rfl, hn, hm, hm', e0, e1⟩ | ⟨rfl, hn, hm, hm', hc, e0, e1, e2⟩ | ⟨rfl, hn, hm, hc, e0, e1, e2, e3⟩
  · omega
  · have : n / 64 < 32 := by omega
    omega
  · have : n / 4096 < 16 := by omega
    clear hc
    rcases hl with h | h1 | h
    · omega
    · have q := num_three n b0 b1 b2 e0 e1 e2
      refine Or.inr (Or.inl ⟨by omega, by omega, ?_⟩); rw [h1.2.2.2]; exact q
    · omega
  · unfold IsCp at hc
    have : n / 262144 < 5 := by omega
    clear hc
    rcases hl with h | h | h1
    · omega
    · omega
    · have q := num_four n b0 b1 b2 b3 e0 e1 e2 e3
      refine Or.inr (Or.inr ⟨by omega, by omega, ?_⟩); rw [h1.2.2.2]; exact q
theorem first_uniq (l : List UInt8) (many n0 n k : Nat) (hl : Lead (nth l 0) many n0) (e : firstL l = (n, k)) (hk : 0 < k) : contF l n0 many = n ∧ k = many + 1 := by
  have h := first4_some (nth_lt l 1) (nth_lt l 2) (nth_lt l 3) e hk
  rcases uniq_num _ _ _ _ _ _ _ _ _ hl h with ⟨h1, h2, h3⟩ | ⟨h1, h2, h3⟩ | ⟨h1, h2, h3⟩
  all_goals (rw [h1]; exact ⟨h3, h2⟩)
theorem list2 {l : List UInt8} (h : 2 ≤ l.length) : ∃ b c t, l = b :: c :: t := by
  match l, h with
  | b :: c :: t, _ => exact ⟨b, c, t, rfl⟩
theorem list3 {l : List UInt8} (h : 3 ≤ l.length) : ∃ b c d t, l = b :: c :: d :: t := by
  match l, h with
  | b :: c :: d :: t, _ => exact ⟨b, c, d, t, rfl⟩
theorem list4 {l : List UInt8} (h : 4 ≤ l.length) : ∃ b c d e t, l = b :: c :: d :: e :: t := by
  match l, h with
  | b :: c :: d :: e :: t, _ => exact ⟨b, c, d, e, t, rfl⟩
theorem first_enc (l : List UInt8) (many n0 : Nat) (hl : Lead (nth l 0) many n0) (hn : many + 1 ≤ l.length) (hc : ∀ j, 1 ≤ j → j ≤ many → nth l j / 64 = 2)
    (hw : wid (contF l n0 many) = many + 1) : ∃ t, l = enc1 (contF l n0 many) ++ t := by
  rcases hl with h | h | h
  · obtain ⟨h1, h2, h3, h4⟩ := h
    rw [h3] at hw hn hc ⊢
    have c1 := hc 1 (by decide) (by decide)
    obtain ⟨b, c, t, rfl⟩ := list2 hn
    · have e := enc_two b c (contF (b :: c :: t) n0 1) h1 c1 (by rw [h4]; rfl) (wid_two hw).1 (wid_two hw).2
      exact ⟨t, by rw [e]; rfl⟩
  · obtain ⟨h1, h2, h3, h4⟩ := h
    rw [h3] at hw hn hc ⊢
    have c1 := hc 1 (by decide) (by decide)
    have c2 := hc 2 (by decide) (by decide)
    obtain ⟨b, c, d, t, rfl⟩ := list3 hn
    · have e := enc_three b c d (contF (b :: c :: d :: t) n0 2) h1 c1 c2 (by rw [h4]; rfl) (wid_three hw).1 (wid_three hw).2
      exact ⟨t, by rw [e]; rfl⟩
  · obtain ⟨h1, h2, h3, h4⟩ := h
    rw [h3] at hw hn hc ⊢
    have c1 := hc 1 (by decide) (by decide)
    have c2 := hc 2 (by decide) (by decide)
    have c3 := hc 3 (by decide) (by decide)
    obtain ⟨b, c, d, x, t, rfl⟩ := list4 hn
    · have e := enc_four b c d x (contF (b :: c :: d :: x :: t) n0 3) h1 c1 c2 c3 (by rw [h4]; rfl) (wid_four hw)
      exact ⟨t, by rw [e]; rfl⟩
theorem first_end (l : List UInt8) (many n0 : Nat) (hl : Lead (nth l 0) many n0) (hn : many + 1 ≤ l.length) (hc : ∀ j, 1 ≤ j → j ≤ many → nth l j / 64 = 2) :
    firstL l = if sizeF (contF l n0 many) = many + 1 then (contF l n0 many, many + 1) else (0, 0) := by
  by_cases q : sizeF (contF l n0 many) = many + 1
  · rw [if_pos q]
    have hcp : IsCp (contF l n0 many) := by
      by_cases hcp : IsCp (contF l n0 many)
      · exact hcp
      · rw [sizeF_not hcp] at q; omega
    rw [sizeF_cp hcp] at q
    have hw : wid (contF l n0 many) = many + 1 := by omega
    obtain ⟨t, he⟩ := first_enc l many n0 hl hn hc hw
    generalize contF l n0 many = m at *
    rw [he, firstL_enc _ hcp, hw]
  · rw [if_neg q]
    obtain ⟨n, k, e⟩ : ∃ n k, firstL l = (n, k) := ⟨_, _, rfl⟩
    rcases Nat.eq_zero_or_pos k with hk | hk
    · exact first_zero e hk
    · exfalso; apply q
      obtain ⟨h1, h2⟩ := first_uniq l many n0 n k hl e hk
      obtain ⟨hs, hw, _⟩ := firstL_some e hk
      rw [h1, sizeF_cp hs]; omega
end Go.Proofs.YtgcaphjjigpjlaaGreatDoor
namespace Go.Proofs.YtgcaphjjigpjlaaGreatDoor
open Go.RowKit
set_option maxRecDepth 100000
set_option maxHeartbeats 1000000
theorem contF_next (l : List UInt8) (n0 j : Nat) (h : nth l (j + 1) / 64 = 2) : ((contF l n0 (j + 1) : Nat) : Int) = (contF l n0 j : Int) * 64 + (nth l (j + 1) : Int) - 128 := by
  show ((contF l n0 j * 64 + (nth l (j + 1) - 128) : Nat) : Int) = _
  omega
theorem first_nil_c (s : ByteArray) (w : World) (h0 : s.size = 0) :
    Calls Tryz.prog 75 #[.string s] w fun e w' => e = .returned (.tuple #[.int .i64 (firstL (bs s)).1, .int .i64 (firstL (bs s)).2]) ∧ w = w' := by
  have h1 : firstL (bs s) = (0, 0) := by
    have : bs s = [] := List.eq_nil_of_length_eq_zero (by rw [bs_length]; exact h0)
    rw [this]; exact firstL_nil
  have H := Lib.hid h1; clear h1
  have h2 : ((s.size : Int) == 0) = true := by rw [h0]; rfl
  have H0 := Lib.hid h0; clear h0
  go_enter Tryz.func75, Tryz.ntmps75
  go_wp2
  go_ret2
  rw [H.out]
  exact ⟨rfl, rfl⟩
theorem first_odd_c (s : ByteArray) (w : World) (hs : s.size ≤ 1000000000) (h0 : 0 < s.size) (hc : (128 ≤ nth (bs s) 0 ∧ nth (bs s) 0 < 192) ∨ 248 ≤ nth (bs s) 0) :
    Calls Tryz.prog 75 #[.string s] w fun e w' => e = .returned (.tuple #[.int .i64 (firstL (bs s)).1, .int .i64 (firstL (bs s)).2]) ∧ w = w' := by
  have H := Lib.hid (first_odd _ hc)
  have hz : ((s.size : Int) == 0) = false := by rw [beq_eq_false_iff_ne]; omega
  have hlt := nth_lt (bs s) 0
  rw [nth_bs s 0 h0] at hc hlt
  rcases hc with ⟨hc, hd⟩ | hc
  all_goals
    go_enter Tryz.func75, Tryz.ntmps75
    go_wp2
    go_ret2
    rw [H.out]
    exact ⟨rfl, rfl⟩
theorem first_1s_c (s : ByteArray) (w : World) (hs : s.size < 1 + 1) (h0 : 0 < s.size) (hl : 192 ≤ nth (bs s) 0) (hh : nth (bs s) 0 < 224) :
    Calls Tryz.prog 75 #[.string s] w fun e w' => e = .returned (.tuple #[.int .i64 (firstL (bs s)).1, .int .i64 (firstL (bs s)).2]) ∧ w = w' := by
  have H := Lib.hid (first_short (bs s) 1 (nth (bs s) 0 - 192) (Or.inl ⟨hl, hh, rfl, rfl⟩) (by rw [bs_length]; exact hs))
  have hz : ((s.size : Int) == 0) = false := by rw [beq_eq_false_iff_ne]; omega
  rw [nth_bs s 0 h0] at hl hh
  go_enter Tryz.func75, Tryz.ntmps75
  go_wp2
  go_ret2
  rw [H.out]
  exact ⟨rfl, rfl⟩
theorem first_1_c (s : ByteArray) (w : World) (hs : s.size ≤ 1000000000) (h1 : 1 + 1 ≤ s.size) (hl : 192 ≤ nth (bs s) 0) (hh : nth (bs s) 0 < 224) :
    Calls Tryz.prog 75 #[.string s] w fun e w' => e = .returned (.tuple #[.int .i64 (firstL (bs s)).1, .int .i64 (firstL (bs s)).2]) ∧ w = w' := by
  have h0 : 0 < s.size := by omega
  have hlead : Lead (nth (bs s) 0) 1 (nth (bs s) 0 - 192) := Or.inl ⟨hl, hh, rfl, rfl⟩
  have hlt := nth_lt (bs s) 0
  have hlen : 1 + 1 ≤ (bs s).length := by rw [bs_length]; exact h1
  have hz : ((s.size : Int) == 0) = false := by rw [beq_eq_false_iff_ne]; omega
  have e0 : ((nth (bs s) 0 : Nat) : Int) = (s[0]'h0).toNat := by rw [nth_bs s 0 h0]
  have hl' := hl; have hh' := hh
  rw [nth_bs s 0 h0] at hl' hh'
  have hd : decide (((s[0]'h0).toNat : Int) < 224) = true := by rw [decide_eq_true_eq]; omega
  obtain ⟨n0, hn0⟩ : ∃ n0, n0 = nth (bs s) 0 - 192 := ⟨_, rfl⟩
  have en : ((s[0]'h0).toNat : Int) - 192 = (n0 : Int) := by rw [← e0]; omega
  rw [← hn0] at hlead
  have hn32 : n0 < 32 := by omega
  have E0 := Lib.hid e0; have EN := Lib.hid en; have HN := Lib.hid hn0; have HLN := Lib.hid hlen; have HL := Lib.hid hlead
  clear e0 en hn0 hlen hlead hl hh hlt
  go_enter Tryz.func75, Tryz.ntmps75
  go_wp2
  go_loop [6, 7] (fun n i => ∃ j : Nat, j ≤ 1 ∧ i = .int .i64 (j + 1 : Nat) ∧ n = .int .i64 (contF (bs s) n0 j) ∧ ∀ t, 1 ≤ t → t ≤ j → nth (bs s) t / 64 = 2) (fun _ i => 1 + 1 - (intOf i).toNat)
  case atStart => exact ⟨0, by omega, rfl, by rw [EN.out]; rfl, fun t a b => by omega⟩
  case round =>
    obtain ⟨j, hj, rfl, rfl, hc⟩ := hrel
    have HC := Lib.hid hc; clear hc
    have hcl := contF_lt (bs s) n0 hn32 j (by omega)
    by_cases hlt : j < 1
    · have hjs : j + 1 < s.size := by omega
      have hb := nth_bs s (j + 1) hjs
      have hbl := nth_lt (bs s) (j + 1)
      by_cases hcc : nth (bs s) (j + 1) / 64 = 2
      · have HE := Lib.hid (contF_next (bs s) n0 j hcc)
        have g1 : 128 ≤ (s[j + 1]'hjs).toNat := by omega
        have g2 : (s[j + 1]'hjs).toNat ≤ 191 := by omega
        have HB := Lib.hid hb; have HCC := Lib.hid hcc; clear hb hcc
        go_wp2
        go_round
        case rel => exact ⟨j + 1, by omega, by go_num, by rw [HE.out, HB.out], fun t a b => by
          by_cases ht : t = j + 1
          · rw [ht]; exact HCC.out
          · exact HC.out t a (by omega)⟩
        case measure => simp [intOf]; omega
      · have H := Lib.hid (first_cont (bs s) 1 n0 (j + 1) HL.out (by omega) (by omega) hcc)
        have g3 : (s[j + 1]'hjs).toNat < 256 := by omega
        have g : (s[j + 1]'hjs).toNat < 128 ∨ 191 < (s[j + 1]'hjs).toNat := by omega
        have HB := Lib.hid hb; have HCC := Lib.hid hcc; clear hb hcc hbl
        rcases g with g | g
        all_goals
          go_wp2
          go_ret2
          rw [H.out]
          exact ⟨rfl, rfl⟩
    · obtain rfl : j = 1 := by omega
      have H := Lib.hid (first_end (bs s) 1 n0 HL.out HLN.out HC.out)
      generalize contF (bs s) n0 1 = m at *
      have hsz : ((sizeF (m : Int) != 1 + 1) = true ∧ firstL (bs s) = (0, 0)) ∨ ((sizeF (m : Int) != 1 + 1) = false ∧ firstL (bs s) = (m, 1 + 1)) := by
        by_cases q : sizeF (m : Int) = 1 + 1
        · exact .inr ⟨by rw [bne_eq_false_iff_eq]; exact q, (H.out).trans (if_pos q)⟩
        · exact .inl ⟨by rw [bne_iff_ne]; exact q, (H.out).trans (if_neg q)⟩
      clear H
      rcases hsz with ⟨q, H⟩ | ⟨q, H⟩
      all_goals
        have HH := Lib.hid H; clear H
        go_wp2_with (go_at_call 44; refine (size_c _ _).mono ?_; rintro e w' ⟨rfl, rfl⟩)
        go_ret2
        rw [HH.out]
        exact ⟨rfl, rfl⟩
theorem first_2s_c (s : ByteArray) (w : World) (hs : s.size < 2 + 1) (h0 : 0 < s.size) (hl : 224 ≤ nth (bs s) 0) (hh : nth (bs s) 0 < 240) :
    Calls Tryz.prog 75 #[.string s] w fun e w' => e = .returned (.tuple #[.int .i64 (firstL (bs s)).1, .int .i64 (firstL (bs s)).2]) ∧ w = w' := by
  have H := Lib.hid (first_short (bs s) 2 (nth (bs s) 0 - 224) (Or.inr (Or.inl ⟨hl, hh, rfl, rfl⟩)) (by rw [bs_length]; exact hs))
  have hz : ((s.size : Int) == 0) = false := by rw [beq_eq_false_iff_ne]; omega
  rw [nth_bs s 0 h0] at hl hh
  go_enter Tryz.func75, Tryz.ntmps75
  go_wp2
  go_ret2
  rw [H.out]
  exact ⟨rfl, rfl⟩
theorem first_2_c (s : ByteArray) (w : World) (hs : s.size ≤ 1000000000) (h1 : 2 + 1 ≤ s.size) (hl : 224 ≤ nth (bs s) 0) (hh : nth (bs s) 0 < 240) :
    Calls Tryz.prog 75 #[.string s] w fun e w' => e = .returned (.tuple #[.int .i64 (firstL (bs s)).1, .int .i64 (firstL (bs s)).2]) ∧ w = w' := by
  have h0 : 0 < s.size := by omega
  have hlead : Lead (nth (bs s) 0) 2 (nth (bs s) 0 - 224) := Or.inr (Or.inl ⟨hl, hh, rfl, rfl⟩)
  have hlt := nth_lt (bs s) 0
  have hlen : 2 + 1 ≤ (bs s).length := by rw [bs_length]; exact h1
  have hz : ((s.size : Int) == 0) = false := by rw [beq_eq_false_iff_ne]; omega
  have e0 : ((nth (bs s) 0 : Nat) : Int) = (s[0]'h0).toNat := by rw [nth_bs s 0 h0]
  have hl' := hl; have hh' := hh
  rw [nth_bs s 0 h0] at hl' hh'
  have hd : decide (((s[0]'h0).toNat : Int) < 240) = true := by rw [decide_eq_true_eq]; omega
  obtain ⟨n0, hn0⟩ : ∃ n0, n0 = nth (bs s) 0 - 224 := ⟨_, rfl⟩
  have en : ((s[0]'h0).toNat : Int) - 224 = (n0 : Int) := by rw [← e0]; omega
  rw [← hn0] at hlead
  have hn32 : n0 < 32 := by omega
  have E0 := Lib.hid e0; have EN := Lib.hid en; have HN := Lib.hid hn0; have HLN := Lib.hid hlen; have HL := Lib.hid hlead
  clear e0 en hn0 hlen hlead hl hh hlt
  go_enter Tryz.func75, Tryz.ntmps75
  go_wp2
  go_loop [6, 7] (fun n i => ∃ j : Nat, j ≤ 2 ∧ i = .int .i64 (j + 1 : Nat) ∧ n = .int .i64 (contF (bs s) n0 j) ∧ ∀ t, 1 ≤ t → t ≤ j → nth (bs s) t / 64 = 2) (fun _ i => 2 + 1 - (intOf i).toNat)
  case atStart => exact ⟨0, by omega, rfl, by rw [EN.out]; rfl, fun t a b => by omega⟩
  case round =>
    obtain ⟨j, hj, rfl, rfl, hc⟩ := hrel
    have HC := Lib.hid hc; clear hc
    have hcl := contF_lt (bs s) n0 hn32 j (by omega)
    by_cases hlt : j < 2
    · have hjs : j + 1 < s.size := by omega
      have hb := nth_bs s (j + 1) hjs
      have hbl := nth_lt (bs s) (j + 1)
      by_cases hcc : nth (bs s) (j + 1) / 64 = 2
      · have HE := Lib.hid (contF_next (bs s) n0 j hcc)
        have g1 : 128 ≤ (s[j + 1]'hjs).toNat := by omega
        have g2 : (s[j + 1]'hjs).toNat ≤ 191 := by omega
        have HB := Lib.hid hb; have HCC := Lib.hid hcc; clear hb hcc
        go_wp2
        go_round
        case rel => exact ⟨j + 1, by omega, by go_num, by rw [HE.out, HB.out], fun t a b => by
          by_cases ht : t = j + 1
          · rw [ht]; exact HCC.out
          · exact HC.out t a (by omega)⟩
        case measure => simp [intOf]; omega
      · have H := Lib.hid (first_cont (bs s) 2 n0 (j + 1) HL.out (by omega) (by omega) hcc)
        have g3 : (s[j + 1]'hjs).toNat < 256 := by omega
        have g : (s[j + 1]'hjs).toNat < 128 ∨ 191 < (s[j + 1]'hjs).toNat := by omega
        have HB := Lib.hid hb; have HCC := Lib.hid hcc; clear hb hcc hbl
        rcases g with g | g
        all_goals
          go_wp2
          go_ret2
          rw [H.out]
          exact ⟨rfl, rfl⟩
    · obtain rfl : j = 2 := by omega
      have H := Lib.hid (first_end (bs s) 2 n0 HL.out HLN.out HC.out)
      generalize contF (bs s) n0 2 = m at *
      have hsz : ((sizeF (m : Int) != 2 + 1) = true ∧ firstL (bs s) = (0, 0)) ∨ ((sizeF (m : Int) != 2 + 1) = false ∧ firstL (bs s) = (m, 2 + 1)) := by
        by_cases q : sizeF (m : Int) = 2 + 1
        · exact .inr ⟨by rw [bne_eq_false_iff_eq]; exact q, (H.out).trans (if_pos q)⟩
        · exact .inl ⟨by rw [bne_iff_ne]; exact q, (H.out).trans (if_neg q)⟩
      clear H
      rcases hsz with ⟨q, H⟩ | ⟨q, H⟩
      all_goals
        have HH := Lib.hid H; clear H
        go_wp2_with (go_at_call 44; refine (size_c _ _).mono ?_; rintro e w' ⟨rfl, rfl⟩)
        go_ret2
        rw [HH.out]
        exact ⟨rfl, rfl⟩
theorem first_3s_c (s : ByteArray) (w : World) (hs : s.size < 3 + 1) (h0 : 0 < s.size) (hl : 240 ≤ nth (bs s) 0) (hh : nth (bs s) 0 < 248) :
    Calls Tryz.prog 75 #[.string s] w fun e w' => e = .returned (.tuple #[.int .i64 (firstL (bs s)).1, .int .i64 (firstL (bs s)).2]) ∧ w = w' := by
  have H := Lib.hid (first_short (bs s) 3 (nth (bs s) 0 - 240) (Or.inr (Or.inr ⟨hl, hh, rfl, rfl⟩)) (by rw [bs_length]; exact hs))
  have hz : ((s.size : Int) == 0) = false := by rw [beq_eq_false_iff_ne]; omega
  rw [nth_bs s 0 h0] at hl hh
  go_enter Tryz.func75, Tryz.ntmps75
  go_wp2
  go_ret2
  rw [H.out]
  exact ⟨rfl, rfl⟩
theorem first_3_c (s : ByteArray) (w : World) (hs : s.size ≤ 1000000000) (h1 : 3 + 1 ≤ s.size) (hl : 240 ≤ nth (bs s) 0) (hh : nth (bs s) 0 < 248) :
    Calls Tryz.prog 75 #[.string s] w fun e w' => e = .returned (.tuple #[.int .i64 (firstL (bs s)).1, .int .i64 (firstL (bs s)).2]) ∧ w = w' := by
  have h0 : 0 < s.size := by omega
  have hlead : Lead (nth (bs s) 0) 3 (nth (bs s) 0 - 240) := Or.inr (Or.inr ⟨hl, hh, rfl, rfl⟩)
  have hlt := nth_lt (bs s) 0
  have hlen : 3 + 1 ≤ (bs s).length := by rw [bs_length]; exact h1
  have hz : ((s.size : Int) == 0) = false := by rw [beq_eq_false_iff_ne]; omega
  have e0 : ((nth (bs s) 0 : Nat) : Int) = (s[0]'h0).toNat := by rw [nth_bs s 0 h0]
  have hl' := hl; have hh' := hh
  rw [nth_bs s 0 h0] at hl' hh'
  have hd : decide (((s[0]'h0).toNat : Int) < 248) = true := by rw [decide_eq_true_eq]; omega
  obtain ⟨n0, hn0⟩ : ∃ n0, n0 = nth (bs s) 0 - 240 := ⟨_, rfl⟩
  have en : ((s[0]'h0).toNat : Int) - 240 = (n0 : Int) := by rw [← e0]; omega
  rw [← hn0] at hlead
  have hn32 : n0 < 32 := by omega
  have E0 := Lib.hid e0; have EN := Lib.hid en; have HN := Lib.hid hn0; have HLN := Lib.hid hlen; have HL := Lib.hid hlead
  clear e0 en hn0 hlen hlead hl hh hlt
  go_enter Tryz.func75, Tryz.ntmps75
  go_wp2
  go_loop [6, 7] (fun n i => ∃ j : Nat, j ≤ 3 ∧ i = .int .i64 (j + 1 : Nat) ∧ n = .int .i64 (contF (bs s) n0 j) ∧ ∀ t, 1 ≤ t → t ≤ j → nth (bs s) t / 64 = 2) (fun _ i => 3 + 1 - (intOf i).toNat)
  case atStart => exact ⟨0, by omega, rfl, by rw [EN.out]; rfl, fun t a b => by omega⟩
  case round =>
    obtain ⟨j, hj, rfl, rfl, hc⟩ := hrel
    have HC := Lib.hid hc; clear hc
    have hcl := contF_lt (bs s) n0 hn32 j (by omega)
    by_cases hlt : j < 3
    · have hjs : j + 1 < s.size := by omega
      have hb := nth_bs s (j + 1) hjs
      have hbl := nth_lt (bs s) (j + 1)
      by_cases hcc : nth (bs s) (j + 1) / 64 = 2
      · have HE := Lib.hid (contF_next (bs s) n0 j hcc)
        have g1 : 128 ≤ (s[j + 1]'hjs).toNat := by omega
        have g2 : (s[j + 1]'hjs).toNat ≤ 191 := by omega
        have HB := Lib.hid hb; have HCC := Lib.hid hcc; clear hb hcc
        go_wp2
        go_round
        case rel => exact ⟨j + 1, by omega, by go_num, by rw [HE.out, HB.out], fun t a b => by
          by_cases ht : t = j + 1
          · rw [ht]; exact HCC.out
          · exact HC.out t a (by omega)⟩
        case measure => simp [intOf]; omega
      · have H := Lib.hid (first_cont (bs s) 3 n0 (j + 1) HL.out (by omega) (by omega) hcc)
        have g3 : (s[j + 1]'hjs).toNat < 256 := by omega
        have g : (s[j + 1]'hjs).toNat < 128 ∨ 191 < (s[j + 1]'hjs).toNat := by omega
        have HB := Lib.hid hb; have HCC := Lib.hid hcc; clear hb hcc hbl
        rcases g with g | g
        all_goals
          go_wp2
          go_ret2
          rw [H.out]
          exact ⟨rfl, rfl⟩
    · obtain rfl : j = 3 := by omega
      have H := Lib.hid (first_end (bs s) 3 n0 HL.out HLN.out HC.out)
      generalize contF (bs s) n0 3 = m at *
      have hsz : ((sizeF (m : Int) != 3 + 1) = true ∧ firstL (bs s) = (0, 0)) ∨ ((sizeF (m : Int) != 3 + 1) = false ∧ firstL (bs s) = (m, 3 + 1)) := by
        by_cases q : sizeF (m : Int) = 3 + 1
        · exact .inr ⟨by rw [bne_eq_false_iff_eq]; exact q, (H.out).trans (if_pos q)⟩
        · exact .inl ⟨by rw [bne_iff_ne]; exact q, (H.out).trans (if_neg q)⟩
      clear H
      rcases hsz with ⟨q, H⟩ | ⟨q, H⟩
      all_goals
        have HH := Lib.hid H; clear H
        go_wp2_with (go_at_call 44; refine (size_c _ _).mono ?_; rintro e w' ⟨rfl, rfl⟩)
        go_ret2
        rw [HH.out]
        exact ⟨rfl, rfl⟩
theorem first_0_c (s : ByteArray) (w : World) (hs : s.size ≤ 1000000000) (h0 : 0 < s.size) (hh : nth (bs s) 0 < 128) :
    Calls Tryz.prog 75 #[.string s] w fun e w' => e = .returned (.tuple #[.int .i64 (firstL (bs s)).1, .int .i64 (firstL (bs s)).2]) ∧ w = w' := by
  have H := Lib.hid (first_one (bs s) (by rw [bs_length]; omega) hh)
  have hz : ((s.size : Int) == 0) = false := by rw [beq_eq_false_iff_ne]; omega
  have E := Lib.hid (nth_bs s 0 h0)
  rw [nth_bs s 0 h0] at hh
  have hq : (sizeF ((s[0]'h0).toNat : Int) != 1) = false := by
    rw [bne_eq_false_iff_eq]; unfold sizeF; rw [if_neg (by omega), if_pos (by omega)]
  go_enter Tryz.func75, Tryz.ntmps75
  go_wp2
  refine wp_loop_once ?_
  go_wp2_with (go_at_call 44; refine (size_c _ _).mono ?_; rintro e w' ⟨rfl, rfl⟩)
  go_ret2
  rw [H.out, E.out]
  exact ⟨rfl, rfl⟩
theorem first_c (s : ByteArray) (w : World) (hs : s.size ≤ 1000000000) :
    Calls Tryz.prog 75 #[.string s] w fun e w' => e = .returned (.tuple #[.int .i64 (firstL (bs s)).1, .int .i64 (firstL (bs s)).2]) ∧ w = w' := by
  by_cases h0 : s.size = 0
  · exact first_nil_c s w h0
  by_cases c0 : nth (bs s) 0 < 128
  · exact first_0_c s w hs (by omega) c0
  by_cases c1 : nth (bs s) 0 < 192
  · exact first_odd_c s w hs (by omega) (by omega)
  by_cases c2 : nth (bs s) 0 < 224
  · by_cases h : s.size < 1 + 1
    · exact first_1s_c s w h (by omega) (by omega) c2
    · exact first_1_c s w hs (by omega) (by omega) c2
  by_cases c3 : nth (bs s) 0 < 240
  · by_cases h : s.size < 2 + 1
    · exact first_2s_c s w h (by omega) (by omega) c3
    · exact first_2_c s w hs (by omega) (by omega) c3
  by_cases c4 : nth (bs s) 0 < 248
  · by_cases h : s.size < 3 + 1
    · exact first_3s_c s w h (by omega) (by omega) c4
    · exact first_3_c s w hs (by omega) (by omega) c4
  exact first_odd_c s w hs (by omega) (by omega)
end Go.Proofs.YtgcaphjjigpjlaaGreatDoor
namespace Go.Proofs.YtgcaphjjigpjlaaGreatDoor
open Go.RowKit
set_option maxRecDepth 100000
set_option maxHeartbeats 1000000
def startsL (cs : List Nat) : List Nat := (List.range (cs.length + 1)).map fun i => (encs (cs.take i)).length
def startsV (cs : List Nat) : List Value := (startsL cs).map fun (i : Nat) => Value.int .i64 i
theorem startsL_snoc (cs : List Nat) (c : Nat) : startsL (cs ++ [c]) = startsL cs ++ [(encs (cs ++ [c])).length] := by
  unfold startsL
  rw [List.length_append, List.length_singleton, List.range_succ, List.map_append]
  congr 1
  · apply List.map_congr_left
    intro i hi
    rw [List.mem_range] at hi
    rw [List.take_append_of_le_length (by omega)]
  · simp only [List.map_cons, List.map_nil]
    rw [List.take_of_length_le (by simp)]
theorem startsV_snoc (cs : List Nat) (c : Nat) : startsV (cs ++ [c]) = startsV cs ++ [Value.int .i64 ((encs (cs ++ [c])).length : Nat)] := by
  simp [startsV, startsL_snoc]
def StartsR (w : World) (l : List UInt8) (e : Ending) (w' : World) : Prop :=
  Ext w w' ∧ ((dec l = none ∧ e = .returned (.tuple #[.slice none 0 0, .bool false])) ∨
    ∃ cs v, dec l = some cs ∧ e = .returned (.tuple #[v, .bool true]) ∧ Own w' w.heap.size 3 1 v (cs.length + 1) (startsV cs))
theorem first_at (s : ByteArray) (w : World) (hs : s.size ≤ 1000000000) (p : Nat) (n k : Nat) (h : firstL ((bs s).drop p) = (n, k)) :
    Calls Tryz.prog 75 #[.string (s.extract p s.size)] w fun e w' => e = .returned (.tuple #[.int .i64 n, .int .i64 k]) ∧ w = w' := by
  have h1 := first_c (s.extract p s.size) w (by simp; omega)
  have h2 : bs (s.extract p s.size) = (bs s).drop p := by
    rw [bs_extract, List.take_of_length_le]; rw [List.length_drop, bs_length]; omega
  rw [h2, h] at h1
  exact h1
theorem info_int : (Tryz.prog.info? 3).map (fun i => (i.zero, i.size, i.bytes)) = some (some (.int .i64 0), 1, 8) := by kernel_rfl
theorem starts_c (s : ByteArray) (w : World) (hs : s.size ≤ 1000000000) :
    Calls Tryz.prog 46 #[.string s] w (StartsR w (bs s)) := by
  obtain ⟨i, hi, hz0, hz1, hz2⟩ := info_parts info_int
  have hown0 : Own (w.alloc (.cells #[.int .i64 0] 3)) w.heap.size 3 1 (.slice (some ⟨w.heap.size, 0, none⟩) 1 1) 1 (startsV []) :=
    Own.made w w.heap.size 3 1 1 #[.int .i64 0] (Nat.le_refl _) (by omega) rfl
  have hbel0 : Below w.heap.size w (w.alloc (.cells #[.int .i64 0] 3)) := (Below.refl _ _).alloc (Nat.le_refl _) _
  have HI := Lib.hid hi; have HZ0 := Lib.hid hz0; have HZ1 := Lib.hid hz1; have HZ2 := Lib.hid hz2
  have HO := Lib.hid hown0; have HB := Lib.hid hbel0
  clear hi hz0 hz1 hz2 hown0 hbel0
  go_enter Tryz.func46, Tryz.ntmps46
  go_wp2
  go_loopw [4, 5] (fun o a wr => ∃ (cs : List Nat) (rest : List UInt8), (∀ c ∈ cs, IsCp c) ∧ bs s = encs cs ++ rest ∧ a = .int .i64 ((encs cs).length : Nat) ∧ Own wr w.heap.size 3 1 o (cs.length + 1) (startsV cs) ∧ Below w.heap.size w wr) (fun _ a _ => s.size - (intOf a).toNat)
  case atStart => exact ⟨[], bs s, by simp, by simp [encs], rfl, HO.out, HB.out⟩
  case round =>
    obtain ⟨cs, rest, hcp, hbs, rfl, hown, hbel⟩ := hrel
    have hlen : (encs cs).length + rest.length = s.size := by rw [← bs_length, hbs, List.length_append]
    have hcl := length_le_encs cs
    have hdrop : (bs s).drop (encs cs).length = rest := by rw [hbs, List.drop_left]
    have HBS := Lib.hid hbs; have HDR := Lib.hid hdrop; have HCP := Lib.hid hcp
    clear hbs hdrop hcp
    by_cases hr : rest = []
    · have hz : (encs cs).length = s.size := by rw [← hlen, hr]; rfl
      have hd : decide ((encs cs).length < s.size) = false := by rw [decide_eq_false_iff_not]; omega
      have hdec : dec (bs s) = some cs := by rw [HBS.out, hr, List.append_nil]; exact dec_encs HCP.out
      have HDEC := Lib.hid hdec
      clear hz hlen hr hdec
      go_wp2
      go_ret2
      exact ⟨hbel, .inr ⟨cs, u4, HDEC.out, rfl, hown⟩⟩
    · obtain ⟨n, k, hf⟩ : ∃ n k, firstL rest = (n, k) := ⟨_, _, rfl⟩
      have hpos : 0 < rest.length := List.length_pos_iff.2 hr
      have hd : decide ((encs cs).length < s.size) = true := by rw [decide_eq_true_eq]; omega
      have hcall := fun w' => first_at s w' hs (encs cs).length n k (by rw [HDR.out]; exact hf)
      have HF := Lib.hid hf; have HC := Lib.hid hcall; have HR := Lib.hid hr
      clear hf hcall hr
      by_cases hk : k = 0
      · have hq : ((k : Int) == 0) = true := by rw [hk]; rfl
        have hdec : dec (bs s) = none := by
          rw [HBS.out, dec_append_some HCP.out, dec_none_of HR.out (by rw [HF.out]; exact hk)]; rfl
        have HDEC := Lib.hid hdec
        clear hk hdec
        go_wp2_with (go_at_call 75; refine (HC.out _).mono ?_; rintro e w' ⟨rfl, rfl⟩)
        go_ret2
        exact ⟨hbel, .inl ⟨HDEC.out, rfl⟩⟩
      · have hq : ((k : Int) == 0) = false := by rw [beq_eq_false_iff_ne]; omega
        obtain ⟨hcp, hw, r, hr⟩ := firstL_some HF.out (Nat.pos_of_ne_zero hk)
        have hkle : k ≤ rest.length := by rw [hr, List.length_append, enc1_length, hw]; omega
        have henc : encs (cs ++ [n]) = encs cs ++ enc1 n := by rw [encs_append, encs_single]
        have hl2 : (encs (cs ++ [n])).length = (encs cs).length + k := by rw [henc, List.length_append, enc1_length, hw]
        obtain ⟨v', w', happ, hown', hbel'⟩ := app_new (P := Tryz.prog) 54 54 3 i _ 1 8 Tryz.underlying54 HI.out HZ0.out HZ1.out HZ2.out rfl (by omega) (by omega)
          hbel hown (by omega) 1 #[.int .i64 (((encs cs).length : Int) + (k : Int))] rfl (by omega) (by simp [Value.oneCell']) 3
        have hown2 : Own w' w.heap.size 3 1 v' ((cs ++ [n]).length + 1) (startsV (cs ++ [n])) := by
          rw [startsV_snoc, hl2, List.length_append, Int.natCast_add]; exact hown'
        have HR2 := Lib.hid hr; have HCP2 := Lib.hid hcp; have HL2 := Lib.hid hl2; have HE := Lib.hid henc
        have HK := Lib.hid hk
        clear hr hcp hl2 henc hw hk
        have HAP := Lib.hid happ; clear happ
        go_wp2_with (first | (go_at_call 75; refine (HC.out _).mono ?_; rintro e w' ⟨rfl, rfl⟩) | (at_builtin; refine wpList_append_run rfl rfl HAP.out rfl rfl ?_))
        go_roundw
        case rel => exact ⟨cs ++ [n], r, fun c hc => by
            rcases List.mem_append.1 hc with h | h
            · exact HCP.out c h
            · rw [List.mem_singleton.1 h]; exact HCP2.out, by rw [HBS.out, HR2.out, HE.out, List.append_assoc], by rw [HL2.out]; go_num, hown2, hbel'⟩
        case measure => have := HK.out; simp [intOf]; omega
end Go.Proofs.YtgcaphjjigpjlaaGreatDoor
namespace Go.Proofs.YtgcaphjjigpjlaaGreatDoor
open Go.RowKit
set_option maxRecDepth 100000
set_option maxHeartbeats 1000000
def cntF (l : List UInt8) : Int := match dec l with | none => -1 | some cs => (cs.length : Int)
def cutF (l : List UInt8) (a b : Int) : List UInt8 × Int :=
  match dec l with
  | none => ([], 3)
  | some cs => if 0 ≤ a ∧ a ≤ b ∧ b ≤ cs.length then (encs ((cs.take b.toNat).drop a.toNat), 0) else ([], 6)
theorem validR_c (s : ByteArray) (w : World) (hs : s.size ≤ 1000000000) :
    Calls Tryz.prog 26 #[.string s] w fun e w' => e = .returned (.bool (dec (bs s)).isSome) ∧ Ext w w' := by
  go_enter Tryz.func26, Tryz.ntmps26
  go_wp2_with fail
  refine (starts_c s _ hs).mono ?_
  rintro e w1 ⟨hx, ⟨hd, rfl⟩ | ⟨cs, v, hd, rfl, hown⟩⟩
  all_goals
    have HD := Lib.hid hd; clear hd
    go_wp2_with fail
    go_ret
    rw [HD.out]
    exact ⟨rfl, hx⟩
theorem countR_c (s : ByteArray) (w : World) (hs : s.size ≤ 1000000000) :
    Calls Tryz.prog 27 #[.string s] w fun e w' => e = .returned (.int .i64 (cntF (bs s))) ∧ Ext w w' := by
  go_enter Tryz.func27, Tryz.ntmps27
  go_wp2_with fail
  refine (starts_c s _ hs).mono ?_
  rintro e w1 ⟨hx, ⟨hd, rfl⟩ | ⟨cs, v, hd, rfl, hown⟩⟩
  · have HD : Hid (cntF (bs s) = -1) := Lib.hid (by unfold cntF; rw [hd])
    clear hd
    go_wp2_with fail
    go_ret
    rw [HD.out]
    exact ⟨rfl, hx⟩
  · have HD : Hid (cntF (bs s) = cs.length) := Lib.hid (by unfold cntF; rw [hd])
    have hl : cs.length ≤ 1000000000 := by
      have := (dec_some hd).2; have h2 := length_le_encs cs; rw [← this, bs_length] at h2; omega
    clear hd
    obtain ⟨a, c, rfl, hc⟩ := hown.len
    go_wp2_with fail
    go_ret
    rw [HD.out]
    exact ⟨ret_int (by omega), hx⟩
end Go.Proofs.YtgcaphjjigpjlaaGreatDoor
namespace Go.Proofs.YtgcaphjjigpjlaaGreatDoor
open Go.RowKit
set_option maxRecDepth 100000
set_option maxHeartbeats 1000000
theorem startsV_at (cs : List Nat) (i : Nat) (h : i ≤ cs.length) : (startsV cs)[i]? = some (Value.int .i64 ((encs (cs.take i)).length : Nat)) := by
  unfold startsV startsL
  rw [List.map_map, List.getElem?_map, List.getElem?_range (by omega)]
  rfl
theorem encs_take_drop (cs : List Nat) (i : Nat) : encs cs = encs (cs.take i) ++ encs (cs.drop i) := by rw [← encs_append, List.take_append_drop]
theorem encs_cut (cs : List Nat) (i j : Nat) (h : i ≤ j) :
    ((encs cs).drop (encs (cs.take i)).length).take ((encs (cs.take j)).length - (encs (cs.take i)).length) = encs ((cs.take j).drop i) := by
  have e1 : cs.take j = cs.take i ++ (cs.take j).drop i := by
    rw [show cs.take i = (cs.take j).take i from by rw [List.take_take, Nat.min_eq_left h]]; exact (List.take_append_drop i (cs.take j)).symm
  have e2 : encs cs = encs (cs.take i) ++ (encs ((cs.take j).drop i) ++ encs (cs.drop j)) := by
    rw [encs_take_drop cs j, e1, encs_append, List.append_assoc]
    congr 2
    rw [← e1]
  have e3 : (encs (cs.take j)).length - (encs (cs.take i)).length = (encs ((cs.take j).drop i)).length := by
    conv => lhs; rw [e1, encs_append, List.length_append]
    omega
  rw [e3]
  conv => lhs; rw [e2]
  rw [List.drop_left, List.take_left]
theorem encs_take_le (cs : List Nat) (i j : Nat) (h : i ≤ j) : (encs (cs.take i)).length ≤ (encs (cs.take j)).length := by
  have e : cs.take i = (cs.take j).take i := by rw [List.take_take, Nat.min_eq_left h]
  have := congrArg List.length (encs_take_drop (cs.take j) i)
  rw [List.length_append, ← e] at this
  omega
def cutV (r : List UInt8 × Int) : Value := .tuple #[.string (mkS r.1), .int .i64 r.2]
theorem cutR_c (s : ByteArray) (a b : Int) (w : World) (hs : s.size ≤ 1000000000) :
    Calls Tryz.prog 100 #[.string s, .int .i64 a, .int .i64 b] w fun e w' => e = .returned (cutV (cutF (bs s) a b)) ∧ Ext w w' := by
  go_enter Tryz.func100, Tryz.ntmps100
  go_wp2_with fail
  refine (starts_c s _ hs).mono ?_
  rintro e w1 ⟨hx, ⟨hd, rfl⟩ | ⟨cs, v, hd, rfl, hown⟩⟩
  · have HD : Hid (cutF (bs s) a b = ([], 3)) := Lib.hid (by unfold cutF; rw [hd])
    clear hd
    go_wp2_with fail
    go_ret2
    rw [HD.out]
    exact ⟨rfl, hx⟩
  obtain ⟨hcp, hbs⟩ := dec_some hd
  have hl : cs.length ≤ 1000000000 := by have h2 := length_le_encs cs; rw [← hbs, bs_length] at h2; omega
  by_cases hr : 0 ≤ a ∧ a ≤ b ∧ b ≤ cs.length
  · have hcut : cutF (bs s) a b = (encs ((cs.take b.toNat).drop a.toNat), 0) := by unfold cutF; rw [hd]; simp only; rw [if_pos hr]
    obtain ⟨h0, h1, h2⟩ := hr
    obtain ⟨i, rfl⟩ := Int.eq_ofNat_of_zero_le h0
    obtain ⟨j, rfl⟩ := Int.eq_ofNat_of_zero_le (Int.le_trans h0 h1)
    rw [Int.toNat_natCast, Int.toNat_natCast] at hcut
    obtain ⟨g, c, rfl, hc, _, _, hcell⟩ := hown.cells (by omega)
    have c1 := hcell i _ (startsV_at cs i (by omega))
    have c2 := hcell j _ (startsV_at cs j (by omega))
    have hle := encs_take_le cs i j (by omega)
    have hle2 : (encs (cs.take j)).length ≤ s.size := by
      have := encs_take_le cs j cs.length (by omega); rw [List.take_length, ← hbs, bs_length] at this; exact this
    have hout : s.extract (encs (cs.take i)).length (encs (cs.take j)).length = mkS (encs ((cs.take j).drop i)) :=
      mkS_of (by rw [bs_extract, hbs, encs_cut cs i j (by omega)])
    have HC := Lib.hid hcut; have HO := Lib.hid hout
    clear hcut hout hd hbs hcp hcell
    generalize (encs (cs.take i)).length = p at *
    generalize (encs (cs.take j)).length = q at *
    go_wp2_with fail
    go_quiet (fail)
    go_wp2_with fail
    go_ret2
    rw [HC.out, HO.out]
    exact ⟨rfl, hx.drewN _⟩
  · have hcut : cutF (bs s) a b = ([], 6) := by unfold cutF; rw [hd]; simp only; rw [if_neg hr]
    have HC := Lib.hid hcut; clear hcut hd hbs
    have hr' : a < 0 ∨ (0 ≤ a ∧ b < a) ∨ (0 ≤ a ∧ a ≤ b ∧ (cs.length : Int) < b) := by omega
    obtain ⟨aa, c, rfl, hc⟩ := hown.len
    clear hr
    rcases hr' with h | ⟨h, h'⟩ | ⟨h, h', h''⟩
    all_goals
      go_wp2_with fail
      go_ret2
      rw [HC.out]
      exact ⟨rfl, hx⟩
end Go.Proofs.YtgcaphjjigpjlaaGreatDoor
namespace Go.Proofs.YtgcaphjjigpjlaaGreatDoor
open Go.RowKit
set_option maxRecDepth 100000
set_option maxHeartbeats 1000000
theorem toList_bs (t : ByteArray) : t.toList = bs t := by
  rw [ByteArray.toList_eq]; rfl
def spanV (k n : Int) (t : ByteArray) : Value := .agg #[.int .i64 k, .int .i64 n, .string t]
def mayS (k n : Int) (t : ByteArray) : Int :=
  if k = 1 ∨ k = 3 then (if n < 0 ∨ 1048576 < n then 2 else if (bs t).isEmpty then 0 else 3)
  else if k = 2 then (if n = 0 then (if (dec (bs t)).isSome then 0 else 3) else 2) else 1
def inS (k n : Int) : Int := if k = 1 ∨ k = 3 then n else 0
def outS (k n : Int) (t : ByteArray) : Int := if k = 1 then n else if k = 2 then max (cntF (bs t)) 0 else 0
theorem mayR_c (k n : Int) (t : ByteArray) (w : World) (ht : t.size ≤ 1000000000) :
    Calls Tryz.prog 56 #[spanV k n t] w fun e w' => e = .returned (.int .i64 (mayS k n t)) ∧ Ext w w' := by
  have HX : Hid (∀ o, Ext w (w.alloc o)) := Lib.hid fun o => (Ext.refl w).alloc o
  have HV := Lib.hid (fun w' => validR_c t w' ht)
  have htl := toList_bs t
  rcases (by omega : (k = 1 ∨ k = 3) ∨ k = 2 ∨ (k ≠ 1 ∧ k ≠ 2 ∧ k ≠ 3)) with hk | hk | ⟨h1, h2, h3⟩
  · have hs : mayS k n t = if n < 0 ∨ 1048576 < n then 2 else if (bs t).isEmpty then 0 else 3 := by unfold mayS; rw [if_pos hk]
    rw [hs]
    clear hs
    rcases (by omega : n < 0 ∨ (0 ≤ n ∧ 1048576 < n) ∨ (0 ≤ n ∧ n ≤ 1048576)) with hn | ⟨hn, hn'⟩ | ⟨hn, hn'⟩
    · rw [if_pos (by omega)]
      clear htl
      rcases hk with rfl | rfl
      all_goals
        unfold spanV
        go_enter Tryz.func56, Tryz.ntmps56
        go_wp2_with fail
        go_ret
        exact ⟨rfl, HX.out _⟩
    · rw [if_pos (by omega)]
      clear htl
      rcases hk with rfl | rfl
      all_goals
        unfold spanV
        go_enter Tryz.func56, Tryz.ntmps56
        go_wp2_with fail
        go_ret
        exact ⟨rfl, HX.out _⟩
    · rw [if_neg (by omega)]
      obtain ⟨e, he⟩ : ∃ e, e = (bs t).isEmpty := ⟨_, rfl⟩
      have hE : t.toList.isEmpty = e := by rw [htl]; exact he.symm
      rw [← he]
      clear htl he
      rcases hk with rfl | rfl
      all_goals
        cases e
        all_goals
          unfold spanV
          go_enter Tryz.func56, Tryz.ntmps56
          go_wp2_with fail
          go_ret
          exact ⟨rfl, HX.out _⟩
  · subst hk
    by_cases hn : n = 0
    · have hs : mayS 2 n t = if (dec (bs t)).isSome then 0 else 3 := by unfold mayS; rw [if_neg (by omega), if_pos rfl, if_pos hn]
      subst hn
      rw [hs]
      clear hs htl
      generalize (dec (bs t)).isSome = v at *
      unfold spanV
      cases v
      all_goals
        go_enter Tryz.func56, Tryz.ntmps56
        go_wp2_with fail
        refine (HV.out _).mono ?_; rintro e w1 ⟨rfl, hx1⟩
        go_wp2_with fail
        go_ret
        exact ⟨rfl, (HX.out _).trans hx1⟩
    · have hs : mayS 2 n t = 2 := by unfold mayS; rw [if_neg (by omega), if_pos rfl, if_neg hn]
      have hn1 : (n != 0) = true := by rw [bne_iff_ne]; exact hn
      rw [hs]
      clear hs htl
      unfold spanV
      go_enter Tryz.func56, Tryz.ntmps56
      go_wp2_with fail
      go_ret
      exact ⟨rfl, HX.out _⟩
  · have hs : mayS k n t = 1 := by unfold mayS; rw [if_neg (by omega), if_neg (by omega)]
    have b1 : (k == 1) = false := by rw [beq_eq_false_iff_ne]; exact h1
    have b2 : (k == 2) = false := by rw [beq_eq_false_iff_ne]; exact h2
    have b3 : (k == 3) = false := by rw [beq_eq_false_iff_ne]; exact h3
    rw [hs]
    clear hs htl
    unfold spanV
    go_enter Tryz.func56, Tryz.ntmps56
    go_wp2_with fail
    go_ret
    exact ⟨rfl, HX.out _⟩
theorem inR_c (k n : Int) (t : ByteArray) (w : World) :
    Calls Tryz.prog 57 #[spanV k n t] w fun e w' => e = .returned (.int .i64 (inS k n)) ∧ Ext w w' := by
  rcases (by omega : k = 1 ∨ k = 3 ∨ (k ≠ 1 ∧ k ≠ 3)) with hk | hk | ⟨h1, h3⟩
  · have hs : inS k n = n := by unfold inS; rw [if_pos (by omega)]
    subst hk
    rw [hs]
    clear hs
    unfold spanV
    go_enter Tryz.func57, Tryz.ntmps57
    go_wp2_with fail
    go_ret
    exact ⟨rfl, (Ext.refl w).alloc _⟩
  · have hs : inS k n = n := by unfold inS; rw [if_pos (by omega)]
    subst hk
    rw [hs]
    clear hs
    unfold spanV
    go_enter Tryz.func57, Tryz.ntmps57
    go_wp2_with fail
    go_ret
    exact ⟨rfl, (Ext.refl w).alloc _⟩
  · have hs : inS k n = 0 := by unfold inS; rw [if_neg (by omega)]
    have b1 : (k == 1) = false := by rw [beq_eq_false_iff_ne]; exact h1
    have b3 : (k == 3) = false := by rw [beq_eq_false_iff_ne]; exact h3
    rw [hs]
    clear hs
    unfold spanV
    go_enter Tryz.func57, Tryz.ntmps57
    go_wp2_with fail
    go_ret
    exact ⟨rfl, (Ext.refl w).alloc _⟩
theorem outR_c (k n : Int) (t : ByteArray) (w : World) (ht : t.size ≤ 1000000000) :
    Calls Tryz.prog 58 #[spanV k n t] w fun e w' => e = .returned (.int .i64 (outS k n t)) ∧ Ext w w' := by
  have HX : Hid (∀ o, Ext w (w.alloc o)) := Lib.hid fun o => (Ext.refl w).alloc o
  have HV := Lib.hid (fun w' => countR_c t w' ht)
  have hc0 : -1 ≤ cntF (bs t) := by unfold cntF; split <;> omega
  rcases (by omega : k = 1 ∨ k = 2 ∨ (k ≠ 1 ∧ k ≠ 2)) with hk | hk | ⟨h1, h2⟩
  · have hs : outS k n t = n := by unfold outS; rw [if_pos hk]
    subst hk
    rw [hs]
    clear hs
    unfold spanV
    go_enter Tryz.func58, Tryz.ntmps58
    go_wp2_with fail
    go_ret
    exact ⟨rfl, (Ext.refl w).alloc _⟩
  · have hs : outS k n t = max (cntF (bs t)) 0 := by unfold outS; rw [if_neg (by omega), if_pos hk]
    subst hk
    rw [hs]
    clear hs
    generalize cntF (bs t) = v at *
    unfold spanV
    rcases (by omega : 0 < v ∨ v = 0 ∨ v < 0) with hv | hv | hv
    · have hv1 : max v 0 = v := by omega
      have hv2 : ¬ (v ≤ 0) := by omega
      rw [hv1]
      clear hv1
      go_enter Tryz.func58, Tryz.ntmps58
      go_wp2_with fail
      refine (HV.out _).mono ?_; rintro e w1 ⟨rfl, hx1⟩
      go_wp2_with fail
      go_ret
      exact ⟨rfl, (HX.out _).trans hx1⟩
    · subst hv
      have hv1 : max (0 : Int) 0 = 0 := by omega
      rw [hv1]
      clear hv1
      go_enter Tryz.func58, Tryz.ntmps58
      go_wp2_with fail
      refine (HV.out _).mono ?_; rintro e w1 ⟨rfl, hx1⟩
      go_wp2_with fail
      go_ret
      exact ⟨rfl, (HX.out _).trans hx1⟩
    · have hv1 : max v 0 = 0 := by omega
      have hv2 : v ≤ 0 := by omega
      rw [hv1]
      clear hv1
      go_enter Tryz.func58, Tryz.ntmps58
      go_wp2_with fail
      refine (HV.out _).mono ?_; rintro e w1 ⟨rfl, hx1⟩
      go_wp2_with fail
      go_ret
      exact ⟨rfl, (HX.out _).trans hx1⟩
  · have hs : outS k n t = 0 := by unfold outS; rw [if_neg h1, if_neg h2]
    have b1 : (k == 1) = false := by rw [beq_eq_false_iff_ne]; exact h1
    have b2 : (k == 2) = false := by rw [beq_eq_false_iff_ne]; exact h2
    rw [hs]
    clear hs
    unfold spanV
    go_enter Tryz.func58, Tryz.ntmps58
    go_wp2_with fail
    go_ret
    exact ⟨rfl, (Ext.refl w).alloc _⟩
end Go.Proofs.YtgcaphjjigpjlaaGreatDoor
namespace Go.Proofs.YtgcaphjjigpjlaaGreatDoor
open Go.RowKit
set_option maxRecDepth 100000
set_option maxHeartbeats 1000000
abbrev Sp := Int × Int × ByteArray
def spCells (l : List Sp) : List Value := l.flatMap fun s => [.int .i64 s.1, .int .i64 s.2.1, .string s.2.2]
theorem spCells_length (l : List Sp) : (spCells l).length = l.length * 3 := by
  induction l with
  | nil => rfl
  | cons a t ih =>
    have e : spCells (a :: t) = [.int .i64 a.1, .int .i64 a.2.1, .string a.2.2] ++ spCells t := rfl
    rw [e, List.length_append, ih, List.length_cons, List.length_cons, List.length_cons, List.length_cons, List.length_nil]; omega
theorem spCells_append (a b : List Sp) : spCells (a ++ b) = spCells a ++ spCells b := by simp [spCells]
theorem spCells_at (l : List Sp) (i : Nat) (h : i < l.length) : (spCells l)[i * 3]? = some (.int .i64 l[i].1) ∧ (spCells l)[i * 3 + 1]? = some (.int .i64 l[i].2.1) ∧ (spCells l)[i * 3 + 2]? = some (.string l[i].2.2) := by
  induction l generalizing i with
  | nil => simp at h
  | cons a t ih =>
    have e : spCells (a :: t) = .int .i64 a.1 :: .int .i64 a.2.1 :: .string a.2.2 :: spCells t := rfl
    cases i with
    | zero => rw [e]; exact ⟨rfl, rfl, rfl⟩
    | succ i =>
      have h' := ih i (by simpa using h)
      rw [e, show (i + 1) * 3 = i * 3 + 3 from by omega]
      exact h'
theorem sp_at {w : World} {A : Option Addr} {n c : Nat} {l : List Sp} (h : Rd w 3 (.slice A n c) n (spCells l)) (hl : l.length = n) {i : Nat} (hi : i < n) :
    ∃ b off, A = some ⟨b, off, none⟩ ∧ b < w.heap.size ∧ w.cell? ⟨b, off + i * 3, none⟩ = some (.int .i64 (l[i]'(by omega)).1) ∧ w.cell? ⟨b, off + i * 3 + 1, none⟩ = some (.int .i64 (l[i]'(by omega)).2.1) ∧ w.cell? ⟨b, off + i * 3 + 2, none⟩ = some (.string (l[i]'(by omega)).2.2) := by
  obtain ⟨h1, A', c', hv, hc, h2⟩ := h
  injection hv with e1 e2 e3
  subst e1; subst e3
  obtain ⟨b, off, hA, hb, hcell⟩ := h2 (by omega)
  obtain ⟨a0, a1, a2⟩ := spCells_at l i (by omega)
  exact ⟨b, off, hA, hb, hcell _ _ a0, by rw [Nat.add_assoc]; exact hcell _ _ a1, by rw [Nat.add_assoc]; exact hcell _ _ a2⟩
def inL (l : List Sp) : Int := (l.map fun s => inS s.1 s.2.1).sum
theorem wrap_step (a b : Int) : wrap64 (wrap64 a + b) = wrap64 (a + b) := by unfold wrap64; omega
theorem wrap_zero : wrap64 0 = 0 := by unfold wrap64; omega
theorem inL_nil (l : List Sp) : wrap64 (inL (l.take 0)) = 0 := by rw [List.take_zero]; exact wrap_zero
theorem inL_take (l : List Sp) (i : Nat) (h : i < l.length) : inL (l.take (i + 1)) = inL (l.take i) + inS l[i].1 l[i].2.1 := by
  unfold inL
  rw [List.take_add_one, List.getElem?_eq_getElem h, List.map_append, List.sum_append]
  simp
def outL (l : List Sp) : Int := (l.map fun s => outS s.1 s.2.1 s.2.2).sum
theorem outL_nil (l : List Sp) : wrap64 (outL (l.take 0)) = 0 := by rw [List.take_zero]; exact wrap_zero
theorem outL_take (l : List Sp) (i : Nat) (h : i < l.length) : outL (l.take (i + 1)) = outL (l.take i) + outS l[i].1 l[i].2.1 l[i].2.2 := by
  unfold outL
  rw [List.take_add_one, List.getElem?_eq_getElem h, List.map_append, List.sum_append]
  simp
theorem inR4_c (A : Option Addr) (n c : Nat) (l : List Sp) (w : World) (h : Rd w 3 (.slice A n c) n (spCells l)) (hl : l.length = n) (hn : n ≤ 1000) :
    Calls Tryz.prog 33 #[.slice A n c] w fun e w' => e = .returned (.int .i64 (wrap64 (inL l))) ∧ Ext w w' := by
  have H := Lib.hid h; have HL := Lib.hid hl
  clear h hl
  go_enter Tryz.func33, Tryz.ntmps33
  go_wp2_with fail
  go_loopw [3, 4] (fun z q wr => ∃ j : Nat, j ≤ n ∧ q = .int .i64 j ∧ z = .int .i64 (wrap64 (inL (l.take j))) ∧ Ext w wr) (fun _ q _ => n - (intOf q).toNat)
  case atStart => exact ⟨0, by omega, rfl, by rw [inL_nil], Ext.refl _⟩
  case round =>
    obtain ⟨j, hj, rfl, rfl, hxr⟩ := hrel
    by_cases hlt : j < n
    · have hjl : j < l.length := by have := HL.out; omega
      obtain ⟨b, off, rfl, hb, q0, q1, q2⟩ := sp_at (H.out.ext hxr) HL.out hlt
      have dn : decide (j < n) = true := by rw [decide_eq_true_eq]; exact hlt
      have hst : wrap64 (wrap64 (inL (l.take j)) + inS l[j].1 l[j].2.1) = wrap64 (inL (l.take (j + 1))) := by rw [wrap_step, inL_take l j hjl]
      have HIN := Lib.hid (fun w' => inR_c l[j].1 l[j].2.1 l[j].2.2 w')
      unfold spanV at HIN
      have HST := Lib.hid hst
      clear hst
      generalize inS l[j].1 l[j].2.1 = y at *
      generalize wrap64 (inL (l.take j)) = x at *
      generalize l[j].1 = a1 at *
      generalize l[j].2.1 = a2 at *
      generalize l[j].2.2 = a3 at *
      go_wp2_with fail
      refine (HIN.out _).mono ?_; rintro e w1 ⟨rfl, hx1⟩
      go_wp2_with fail
      go_roundw
      case rel => exact ⟨j + 1, by omega, by go_num, by rw [← HST.out], hxr.trans hx1⟩
      case measure => simp [intOf]; omega
    · obtain rfl : j = n := by omega
      clear hlt hj
      have hall : l.take j = l := by rw [← HL.out]; exact List.take_length
      rw [hall]
      go_wp2_with fail
      go_ret
      exact ⟨rfl, hxr⟩
theorem outR4_c (A : Option Addr) (n c : Nat) (l : List Sp) (w : World) (h : Rd w 3 (.slice A n c) n (spCells l)) (hl : l.length = n) (hn : n ≤ 1000) (hs : ∀ s ∈ l, s.2.2.size ≤ 1000000000) :
    Calls Tryz.prog 34 #[.slice A n c] w fun e w' => e = .returned (.int .i64 (wrap64 (outL l))) ∧ Ext w w' := by
  have H := Lib.hid h; have HL := Lib.hid hl
  have HS := Lib.hid hs
  clear h hl hs
  go_enter Tryz.func34, Tryz.ntmps34
  go_wp2_with fail
  go_loopw [3, 4] (fun z q wr => ∃ j : Nat, j ≤ n ∧ q = .int .i64 j ∧ z = .int .i64 (wrap64 (outL (l.take j))) ∧ Ext w wr) (fun _ q _ => n - (intOf q).toNat)
  case atStart => exact ⟨0, by omega, rfl, by rw [outL_nil], Ext.refl _⟩
  case round =>
    obtain ⟨j, hj, rfl, rfl, hxr⟩ := hrel
    by_cases hlt : j < n
    · have hjl : j < l.length := by have := HL.out; omega
      obtain ⟨b, off, rfl, hb, q0, q1, q2⟩ := sp_at (H.out.ext hxr) HL.out hlt
      have dn : decide (j < n) = true := by rw [decide_eq_true_eq]; exact hlt
      have hst : wrap64 (wrap64 (outL (l.take j)) + outS l[j].1 l[j].2.1 l[j].2.2) = wrap64 (outL (l.take (j + 1))) := by rw [wrap_step, outL_take l j hjl]
      have HIN := Lib.hid (fun w' => outR_c l[j].1 l[j].2.1 l[j].2.2 w' (HS.out _ (List.getElem_mem hjl)))
      unfold spanV at HIN
      have HST := Lib.hid hst
      clear hst
      generalize outS l[j].1 l[j].2.1 l[j].2.2 = y at *
      generalize wrap64 (outL (l.take j)) = x at *
      generalize l[j].1 = a1 at *
      generalize l[j].2.1 = a2 at *
      generalize l[j].2.2 = a3 at *
      go_wp2_with fail
      refine (HIN.out _).mono ?_; rintro e w1 ⟨rfl, hx1⟩
      go_wp2_with fail
      go_roundw
      case rel => exact ⟨j + 1, by omega, by go_num, by rw [← HST.out], hxr.trans hx1⟩
      case measure => simp [intOf]; omega
    · obtain rfl : j = n := by omega
      clear hlt hj
      have hall : l.take j = l := by rw [← HL.out]; exact List.take_length
      rw [hall]
      go_wp2_with fail
      go_ret
      exact ⟨rfl, hxr⟩
def errL : List Sp → Int
  | [] => 0
  | s :: t => if mayS s.1 s.2.1 s.2.2 = 0 then errL t else mayS s.1 s.2.1 s.2.2
def mayL (l : List Sp) : Int := if errL l = 0 then (if 1048576 < wrap64 (inL l) then 4 else 0) else errL l
theorem errL_all (l : List Sp) (h : ∀ s ∈ l, mayS s.1 s.2.1 s.2.2 = 0) : errL l = 0 := by
  induction l with
  | nil => rfl
  | cons a t ih => rw [errL, if_pos (h a (by simp))]; exact ih (fun s hs => h s (by simp [hs]))
theorem errL_first (l : List Sp) (j : Nat) (hj : j < l.length) (h : ∀ s ∈ l.take j, mayS s.1 s.2.1 s.2.2 = 0) (hn : mayS l[j].1 l[j].2.1 l[j].2.2 ≠ 0) : errL l = mayS l[j].1 l[j].2.1 l[j].2.2 := by
  induction l generalizing j with
  | nil => simp at hj
  | cons a t ih =>
    cases j with
    | zero => rw [errL]; exact if_neg hn
    | succ j =>
      rw [errL, if_pos (h a (by simp))]
      exact ih j (by simpa using hj) (fun s hs => h s (by simp [hs])) hn
theorem mayR4_c (A : Option Addr) (n c : Nat) (l : List Sp) (w : World) (h : Rd w 3 (.slice A n c) n (spCells l)) (hl : l.length = n) (hn : n ≤ 1000) (hs : ∀ s ∈ l, s.2.2.size ≤ 1000000000) :
    Calls Tryz.prog 32 #[.slice A n c] w fun e w' => e = .returned (.int .i64 (mayL l)) ∧ Ext w w' := by
  have HI4 : Hid (∀ w', Ext w w' → Calls Tryz.prog 33 #[.slice A n c] w' fun e w'' => e = .returned (.int .i64 (wrap64 (inL l))) ∧ Ext w' w'') := Lib.hid fun w' hx => inR4_c A n c l w' (h.ext hx) hl hn
  have H := Lib.hid h; have HL := Lib.hid hl; have HS := Lib.hid hs
  clear h hl hs
  go_enter Tryz.func32, Tryz.ntmps32
  go_wp2_with fail
  go_loopw [3] (fun q wr => ∃ j : Nat, j ≤ n ∧ q = .int .i64 j ∧ (∀ s ∈ l.take j, mayS s.1 s.2.1 s.2.2 = 0) ∧ Ext w wr) (fun q _ => n - (intOf q).toNat)
  case atStart => exact ⟨0, by omega, rfl, by simp, Ext.refl _⟩
  case round =>
    obtain ⟨j, hj, rfl, hz, hxr⟩ := hrel
    have HZ := Lib.hid hz
    clear hz
    by_cases hlt : j < n
    · have hjl : j < l.length := by have := HL.out; omega
      obtain ⟨b, off, rfl, hb, q0, q1, q2⟩ := sp_at (H.out.ext hxr) HL.out hlt
      have dn : decide (j < n) = true := by rw [decide_eq_true_eq]; exact hlt
      have HM := Lib.hid (fun w' => mayR_c l[j].1 l[j].2.1 l[j].2.2 w' (HS.out _ (List.getElem_mem hjl)))
      unfold spanV at HM
      by_cases hy : mayS l[j].1 l[j].2.1 l[j].2.2 = 0
      · have HZ1 : Hid (∀ s ∈ l.take (j + 1), mayS s.1 s.2.1 s.2.2 = 0) := Lib.hid (by
          intro s hs
          rw [List.take_add_one, List.getElem?_eq_getElem hjl] at hs
          rcases List.mem_append.1 hs with hs | hs
          · exact HZ.out s hs
          · simp at hs; subst hs; exact hy)
        rw [hy] at HM
        clear hy
        generalize l[j].1 = a1 at *
        generalize l[j].2.1 = a2 at *
        generalize l[j].2.2 = a3 at *
        go_wp2_with fail
        refine (HM.out _).mono ?_; rintro e w1 ⟨rfl, hx1⟩
        go_wp2_with fail
        go_roundw
        case rel => exact ⟨j + 1, by omega, by go_num, HZ1.out, hxr.trans hx1⟩
        case measure => simp [intOf]; omega
      · have HE := Lib.hid (show mayL l = mayS l[j].1 l[j].2.1 l[j].2.2 by unfold mayL; rw [errL_first l j hjl HZ.out hy, if_neg hy])
        have hb1 : (mayS l[j].1 l[j].2.1 l[j].2.2 != 0) = true := by rw [bne_iff_ne]; exact hy
        clear hy
        generalize mayS l[j].1 l[j].2.1 l[j].2.2 = y at *
        generalize l[j].1 = a1 at *
        generalize l[j].2.1 = a2 at *
        generalize l[j].2.2 = a3 at *
        go_wp2_with fail
        refine (HM.out _).mono ?_; rintro e w1 ⟨rfl, hx1⟩
        go_wp2_with fail
        go_ret
        rw [HE.out]
        exact ⟨rfl, hxr.trans hx1⟩
    · obtain rfl : j = n := by omega
      clear hlt hj
      have h0 : errL l = 0 := errL_all l (by have h := HZ.out; rw [← HL.out, List.take_length] at h; exact h)
      have HE := Lib.hid (show mayL l = if 1048576 < wrap64 (inL l) then 4 else 0 by unfold mayL; rw [if_pos h0])
      clear h0
      generalize wrap64 (inL l) = x at *
      by_cases hx : 1048576 < x
      · rw [if_pos hx] at HE
        go_wp2_with fail
        refine (HI4.out _ hxr).mono ?_; rintro e w1 ⟨rfl, hx1⟩
        go_wp2_with fail
        go_ret
        rw [HE.out]
        exact ⟨rfl, hxr.trans hx1⟩
      · rw [if_neg hx] at HE
        have hx' : x ≤ 1048576 := by omega
        go_wp2_with fail
        refine (HI4.out _ hxr).mono ?_; rintro e w1 ⟨rfl, hx1⟩
        go_wp2_with fail
        go_ret
        rw [HE.out]
        exact ⟨rfl, hxr.trans hx1⟩
end Go.Proofs.YtgcaphjjigpjlaaGreatDoor
namespace Go.Proofs.YtgcaphjjigpjlaaGreatDoor
open Go.RowKit
set_option maxRecDepth 100000
set_option maxHeartbeats 1000000
def keepL (n : Int) : List Sp := if n = 0 then [] else [(1, n, ⟨#[]⟩)]
def KeepR (w : World) (n : Int) (e : Ending) (w' : World) : Prop :=
  Ext w w' ∧ (((n < 0 ∨ 1048576 < n) ∧ e = .returned (.tuple #[.slice none 0 0, .int .i64 2])) ∨
    (0 ≤ n ∧ n ≤ 1048576 ∧ ∃ v, e = .returned (.tuple #[v, .int .i64 0]) ∧ Rd w' 3 v (keepL n).length (spCells (keepL n))))
theorem keepR4_c (n : Int) (w : World) : Calls Tryz.prog 73 #[.int .i64 n] w (KeepR w n) := by
  rcases (by omega : n < 0 ∨ (0 ≤ n ∧ 1048576 < n) ∨ n = 0 ∨ (0 < n ∧ n ≤ 1048576)) with h | ⟨h0, h⟩ | h | ⟨h0, h⟩
  · have H := Lib.hid h
    go_enter Tryz.func73, Tryz.ntmps73
    go_wp2_with fail
    go_ret2
    exact ⟨Ext.refl _, .inl ⟨.inl H.out, rfl⟩⟩
  · have H := Lib.hid h
    go_enter Tryz.func73, Tryz.ntmps73
    go_wp2_with fail
    go_ret2
    exact ⟨Ext.refl _, .inl ⟨.inr H.out, rfl⟩⟩
  · subst h
    go_enter Tryz.func73, Tryz.ntmps73
    go_wp2_with fail
    go_ret2
    exact ⟨Ext.refl _, .inr ⟨by omega, by omega, _, rfl, Rd.nil _ _⟩⟩
  · have hk : keepL n = [(1, n, ⟨#[]⟩)] := by unfold keepL; rw [if_neg (by omega)]
    have HK := Lib.hid hk
    have hn : (n == 0) = false := by rw [beq_eq_false_iff_ne]; omega
    clear hk
    go_enter Tryz.func73, Tryz.ntmps73
    go_wp2_with fail
    go_ret2
    refine ⟨(Ext.refl w).alloc _, .inr ⟨by omega, h, _, rfl, ?_⟩⟩
    rw [HK.out]
    exact (Own.made w w.heap.size 60 3 1 #[.int .i64 1, .int .i64 n, .string ⟨#[]⟩] (Nat.le_refl _) (by omega) rfl).rd
end Go.Proofs.YtgcaphjjigpjlaaGreatDoor
namespace Go.Proofs.YtgcaphjjigpjlaaGreatDoor
open Go.RowKit
set_option maxRecDepth 100000
set_option maxHeartbeats 1000000
theorem take_more (l m : List Sp) (j : Nat) (hl : j < l.length) (hm : j < m.length) (h : l.take j = m.take j) : l.take (j + 1) = m.take (j + 1) ↔ l[j] = m[j] := by
  have e1 : l.take (j + 1) = l.take j ++ [l[j]] := by rw [List.take_add_one, List.getElem?_eq_getElem hl]; rfl
  have e2 : m.take (j + 1) = m.take j ++ [m[j]] := by rw [List.take_add_one, List.getElem?_eq_getElem hm]; rfl
  rw [e1, e2, h]
  exact ⟨fun e => by have e3 := List.append_cancel_left e; injection e3, fun e => by rw [e]⟩
theorem toList_ne {a b : ByteArray} (h : a ≠ b) : (a.toList == b.toList) = false := by
  rw [beq_eq_false_iff_ne]
  intro e
  rw [toList_bs, toList_bs] at e
  exact h (bs_inj e)
theorem sameG_c (A B : Option Addr) (n c k d : Nat) (l m : List Sp) (w : World) (h : Rd w 3 (.slice A n c) n (spCells l)) (h' : Rd w 3 (.slice B k d) k (spCells m)) (hl : l.length = n) (hm : m.length = k) (hn : n ≤ 100000) :
    Calls Tryz.prog 20 #[.slice A n c, .slice B k d] w fun e w' => e = .returned (.bool (decide (l = m))) ∧ Ext w w' := by
  by_cases hnk : n = k
  · subst hnk
    have H := Lib.hid h; have H' := Lib.hid h'; have HL := Lib.hid hl; have HM := Lib.hid hm
    clear h h' hl hm
    go_enter Tryz.func20, Tryz.ntmps20
    go_wp2_with fail
    go_loopw [5] (fun q wr => ∃ j : Nat, j ≤ n ∧ q = .int .i64 j ∧ Ext w wr ∧ l.take j = m.take j) (fun q _ => n - (intOf q).toNat)
    case atStart => exact ⟨0, by omega, rfl, Ext.refl _, rfl⟩
    case round =>
      obtain ⟨j, hj, rfl, hxr, heq⟩ := hrel
      by_cases hlt : j < n
      · have hjl : j < l.length := by have := HL.out; omega
        have hjm : j < m.length := by have := HM.out; omega
        obtain ⟨b, off, rfl, hb, q0, q1, q2⟩ := sp_at (H.out.ext hxr) HL.out hlt
        obtain ⟨b', off', rfl, hb', r0, r1, r2⟩ := sp_at (H'.out.ext hxr) HM.out hlt
        have dn : decide (j < n) = true := by rw [decide_eq_true_eq]; exact hlt
        have i0 : (0 : Int) ≤ (j : Int) := by omega
        have i1 : (j : Int) < (n : Int) := by omega
        have HT := Lib.hid (take_more l m j hjl hjm heq)
        have HNO : Hid (l[j] ≠ m[j] → ¬ l = m) := Lib.hid (fun hne e => hne (by subst e; rfl))
        obtain ⟨a1, ha1⟩ : ∃ a1, l[j].1 = a1 := ⟨_, rfl⟩
        obtain ⟨a2, ha2⟩ : ∃ a2, l[j].2.1 = a2 := ⟨_, rfl⟩
        obtain ⟨a3, ha3⟩ : ∃ a3, l[j].2.2 = a3 := ⟨_, rfl⟩
        obtain ⟨b1, hb1⟩ : ∃ b1, m[j].1 = b1 := ⟨_, rfl⟩
        obtain ⟨b2, hb2⟩ : ∃ b2, m[j].2.1 = b2 := ⟨_, rfl⟩
        obtain ⟨b3, hb3⟩ : ∃ b3, m[j].2.2 = b3 := ⟨_, rfl⟩
        have hlj : l[j] = (a1, a2, a3) := by rw [← ha1, ← ha2, ← ha3]
        have hmj : m[j] = (b1, b2, b3) := by rw [← hb1, ← hb2, ← hb3]
        rw [hlj] at q0 q1 q2
        rw [hmj] at r0 r1 r2
        rw [hlj, hmj] at HT HNO
        simp only at q0 q1 q2 r0 r1 r2
        clear hlj hmj ha1 ha2 ha3 hb1 hb2 hb3 heq
        by_cases c1 : a1 = b1
        · by_cases c2 : a2 = b2
          · by_cases c3 : a3 = b3
            · subst c1; subst c2; subst c3
              have HOK := Lib.hid (HT.out.2 rfl)
              clear HT HNO
              go_wp2_with fail
              go_quiet (fail)
              go_wp2_with fail
              go_roundw
              case rel => exact ⟨j + 1, by omega, by go_num, hxr.drewN _, HOK.out⟩
              case measure => simp [intOf]; omega
            · have HD := Lib.hid (decide_eq_false (HNO.out (fun e => c3 (by injection e with _ e; injection e))))
              have hc := toList_ne c3
              subst c1; subst c2
              clear HT HNO c3
              go_wp2_with fail
              go_quiet (fail)
              go_wp2_with fail
              go_ret
              rw [HD.out]
              exact ⟨rfl, hxr.drewN _⟩
          · have HD := Lib.hid (decide_eq_false (HNO.out (fun e => c2 (by injection e with _ e; injection e))))
            have hc : (a2 == b2) = false := by rw [beq_eq_false_iff_ne]; exact c2
            subst c1
            clear HT HNO c2
            go_wp2_with fail
            go_quiet (fail)
            go_wp2_with fail
            go_ret
            rw [HD.out]
            exact ⟨rfl, hxr.drewN _⟩
        · have HD := Lib.hid (decide_eq_false (HNO.out (fun e => c1 (by injection e))))
          have hc : (a1 == b1) = false := by rw [beq_eq_false_iff_ne]; exact c1
          clear HT HNO c1
          go_wp2_with fail
          go_quiet (fail)
          go_wp2_with fail
          go_ret
          rw [HD.out]
          exact ⟨rfl, hxr.drewN _⟩
      · obtain rfl : j = n := by omega
        have HD := Lib.hid (decide_eq_true (show l = m by
          rw [List.take_of_length_le (by have := HL.out; omega), List.take_of_length_le (by have := HM.out; omega)] at heq; exact heq))
        clear hlt hj heq
        go_wp2_with fail
        go_ret
        rw [HD.out]
        exact ⟨rfl, hxr⟩
  · have HD := Lib.hid (decide_eq_false (show ¬ l = m from fun e => hnk (by rw [← hl, ← hm, e])))
    have hne : ((n : Int) != (k : Int)) = true := by rw [bne_iff_ne]; omega
    clear h h' hl hm hnk
    go_enter Tryz.func20, Tryz.ntmps20
    go_wp2_with fail
    go_ret
    rw [HD.out]
    exact ⟨rfl, Ext.refl _⟩
theorem sameR4_c (A B : Option Addr) (n c d : Nat) (l : List Sp) (w : World) (h : Rd w 3 (.slice A n c) n (spCells l)) (h' : Rd w 3 (.slice B n d) n (spCells l)) (hl : l.length = n) (hn : n ≤ 1000) :
    Calls Tryz.prog 20 #[.slice A n c, .slice B n d] w fun e w' => e = .returned (.bool true) ∧ Ext w w' := by
  have g := sameG_c A B n c n d l l w h h' hl hl (by omega)
  rw [decide_eq_true rfl] at g
  exact g
end Go.Proofs.YtgcaphjjigpjlaaGreatDoor
namespace Go.Proofs.YtgcaphjjigpjlaaGreatDoor
open Go.RowKit
set_option maxRecDepth 100000
theorem ba_assoc (a b c : ByteArray) : a ++ b ++ c = a ++ (b ++ c) := by apply bs_inj; simp [bs]
theorem ba_nil (a : ByteArray) : a ++ ⟨#[]⟩ = a := by apply bs_inj; simp [bs]
theorem nil_ba (a : ByteArray) : (⟨#[]⟩ : ByteArray) ++ a = a := by apply bs_inj; simp [bs]
theorem bs_append (a b : ByteArray) : bs (a ++ b) = bs a ++ bs b := by simp [bs]
theorem ba_empty {a : ByteArray} (h : a.size = 0) : a = ⟨#[]⟩ := by
  apply bs_inj
  have e : (bs a).length = 0 := by rw [bs_length, h]
  rw [List.eq_nil_of_length_eq_zero e]; rfl
theorem ba_size (a b : ByteArray) : (a ++ b).size = a.size + b.size := by rw [← bs_length, bs_append, List.length_append, bs_length, bs_length]
def emp (s : Sp) : Prop := s.2.1 = 0 ∧ s.2.2.size = 0
instance (s : Sp) : Decidable (emp s) := by unfold emp; infer_instance
def mrg (s t : Sp) : Sp := (s.1, s.2.1 + t.2.1, s.2.2 ++ t.2.2)
theorem mrg_assoc (a b c : Sp) : mrg (mrg a b) c = mrg a (mrg b c) := by
  unfold mrg; simp only; rw [ba_assoc, Int.add_assoc]
def normC (s : Sp) (r : List Sp) : List Sp :=
  if emp s then r else match r with
    | [] => [s]
    | t :: r' => if s.1 = t.1 then mrg s t :: r' else s :: t :: r'
def normL (l : List Sp) : List Sp := l.foldr normC []
def snocN (out : List Sp) (s : Sp) : List Sp :=
  if emp s then out else match out with
    | [] => [s]
    | [t] => if t.1 = s.1 then [mrg t s] else [t, s]
    | t :: u :: r => t :: snocN (u :: r) s
theorem snocN_emp (out : List Sp) (s : Sp) (h : emp s) : snocN out s = out := by
  unfold snocN; split
  all_goals first | rfl | (rename_i h2; exact absurd h h2)
theorem snocN_nil (s : Sp) (h : ¬ emp s) : snocN [] s = [s] := by rw [snocN, if_neg h]
theorem snocN_one (t s : Sp) (h : ¬ emp s) : snocN [t] s = if t.1 = s.1 then [mrg t s] else [t, s] := by rw [snocN, if_neg h]
theorem snocN_two (t u : Sp) (r : List Sp) (s : Sp) (h : ¬ emp s) : snocN (t :: u :: r) s = t :: snocN (u :: r) s := by rw [snocN, if_neg h]
theorem snocN_last (ys : List Sp) (t s : Sp) (h : ¬ emp s) : snocN (ys ++ [t]) s = ys ++ if t.1 = s.1 then [mrg t s] else [t, s] := by
  induction ys with
  | nil => rw [List.nil_append, List.nil_append, snocN_one _ _ h]
  | cons y ys ih =>
    cases ys with
    | nil => rw [List.cons_append, List.nil_append, snocN_two _ _ _ _ h, snocN_one _ _ h]; rfl
    | cons z zs =>
      rw [List.cons_append, List.cons_append, snocN_two _ _ _ _ h]
      rw [List.cons_append] at ih
      rw [ih]; rfl
theorem normC_emp (s : Sp) (r : List Sp) (h : emp s) : normC s r = r := by unfold normC; rw [if_pos h]
theorem normC_nil (s : Sp) (h : ¬ emp s) : normC s [] = [s] := by unfold normC; rw [if_neg h]
theorem normC_cons (s t : Sp) (r : List Sp) (h : ¬ emp s) : normC s (t :: r) = if s.1 = t.1 then mrg s t :: r else s :: t :: r := by
  unfold normC; rw [if_neg h]
theorem normC_snoc (a s : Sp) (r : List Sp) (ha : ¬ emp a) (hs : ¬ emp s) : normC a (snocN r s) = snocN (normC a r) s := by
  match r with
  | [] =>
    rw [snocN_nil s hs, normC_nil a ha, normC_cons _ _ _ ha, snocN_one _ _ hs]
  | [t] =>
    rw [snocN_one _ _ hs, normC_cons _ _ _ ha]
    by_cases h1 : t.1 = s.1
    · rw [if_pos h1]
      have h2 : (mrg t s).1 = t.1 := rfl
      rw [normC_cons _ _ _ ha, h2]
      by_cases h3 : a.1 = t.1
      · rw [if_pos h3, if_pos h3, snocN_one _ _ hs, if_pos (show (mrg a t).1 = s.1 from h3.trans h1), mrg_assoc]
      · rw [if_neg h3, if_neg h3, snocN_two _ _ _ _ hs, snocN_one _ _ hs, if_pos h1]
    · rw [if_neg h1, normC_cons _ _ _ ha]
      by_cases h3 : a.1 = t.1
      · rw [if_pos h3, if_pos h3, snocN_one _ _ hs, if_neg (show ¬ (mrg a t).1 = s.1 from fun e => h1 (h3.symm.trans e))]
      · rw [if_neg h3, if_neg h3, snocN_two _ _ _ _ hs, snocN_one _ _ hs, if_neg h1]
  | t :: u :: r =>
    rw [snocN_two _ _ _ _ hs, normC_cons _ _ _ ha, normC_cons _ _ _ ha]
    by_cases h3 : a.1 = t.1
    · rw [if_pos h3, if_pos h3, snocN_two _ _ _ _ hs]
    · rw [if_neg h3, if_neg h3, snocN_two _ _ _ _ hs, snocN_two _ _ _ _ hs]
theorem norm_snoc (l : List Sp) (s : Sp) : normL (l ++ [s]) = snocN (normL l) s := by
  unfold normL
  rw [List.foldr_append]
  by_cases hs : emp s
  · rw [snocN_emp _ _ hs, List.foldr_cons, normC_emp _ _ hs]; rfl
  · rw [List.foldr_cons, List.foldr_nil, normC_nil s hs]
    induction l with
    | nil => rw [List.foldr_nil, List.foldr_nil, snocN_nil s hs]
    | cons a t ih =>
      rw [List.foldr_cons, List.foldr_cons, ih]
      by_cases ha : emp a
      · rw [normC_emp _ _ ha, normC_emp _ _ ha]
      · exact normC_snoc a s _ ha hs
def isN : List Sp → Prop
  | [] => True
  | [s] => ¬ emp s
  | s :: t :: r => ¬ emp s ∧ s.1 ≠ t.1 ∧ isN (t :: r)
theorem mrg_emp (s t : Sp) (hs : ¬ emp s) (h0 : 0 ≤ s.2.1) (h1 : 0 ≤ t.2.1) : ¬ emp (mrg s t) := by
  intro ⟨h2, h3⟩
  simp only [mrg] at h2 h3
  rw [ba_size] at h3
  exact hs ⟨by omega, by omega⟩
def pos (l : List Sp) : Prop := ∀ s ∈ l, 0 ≤ s.2.1
theorem normC_pos (s : Sp) (r : List Sp) (h0 : 0 ≤ s.2.1) (hr : pos r) : pos (normC s r) := by
  by_cases hs : emp s
  · rw [normC_emp _ _ hs]; exact hr
  · cases r with
    | nil => rw [normC_nil _ hs]; intro x hx; rw [List.mem_singleton] at hx; subst hx; exact h0
    | cons t r =>
      rw [normC_cons _ _ _ hs]
      split
      · intro x hx
        rcases List.mem_cons.1 hx with rfl | hx
        · have := hr t (by simp); simp only [mrg]; omega
        · exact hr x (by simp [hx])
      · intro x hx
        rcases List.mem_cons.1 hx with rfl | hx
        · exact h0
        · exact hr x hx
theorem normC_is (s : Sp) (r : List Sp) (h0 : 0 ≤ s.2.1) (hr : pos r) (h : isN r) : isN (normC s r) := by
  by_cases hs : emp s
  · rw [normC_emp _ _ hs]; exact h
  · match r, h with
    | [], _ => rw [normC_nil _ hs]; exact hs
    | [t], h =>
      rw [normC_cons _ _ _ hs]
      split
      · exact mrg_emp s t hs h0 (hr t (by simp))
      · rename_i hk; exact ⟨hs, hk, h⟩
    | t :: u :: r, h =>
      rw [normC_cons _ _ _ hs]
      split
      · rename_i hk; exact ⟨mrg_emp s t hs h0 (hr t (by simp)), by show s.1 ≠ u.1; rw [hk]; exact h.2.1, h.2.2⟩
      · rename_i hk; exact ⟨hs, hk, h⟩
theorem norm_pos (l : List Sp) (h : pos l) : pos (normL l) := by
  induction l with
  | nil => exact h
  | cons a t ih => exact normC_pos a _ (h a (by simp)) (ih (fun s hs => h s (by simp [hs])))
theorem norm_is (l : List Sp) (h : pos l) : isN (normL l) := by
  induction l with
  | nil => exact trivial
  | cons a t ih => exact normC_is a _ (h a (by simp)) (norm_pos t (fun s hs => h s (by simp [hs]))) (ih (fun s hs => h s (by simp [hs])))
theorem is_norm (l : List Sp) (h : isN l) : normL l = l := by
  induction l with
  | nil => rfl
  | cons a t ih =>
    cases t with
    | nil => show normC a [] = _; exact normC_nil a h
    | cons b t =>
      show normC a (normL (b :: t)) = _
      rw [ih h.2.2, normC_cons _ _ _ h.1, if_neg h.2.1]
theorem normC_two (s t : Sp) (r : List Sp) (hs : ¬ emp s) (ht : ¬ emp t) (hk : s.1 = t.1) (h0 : 0 ≤ s.2.1) (h1 : 0 ≤ t.2.1) : normC (mrg s t) r = normC s (normC t r) := by
  have hm := mrg_emp s t hs h0 h1
  cases r with
  | nil => rw [normC_nil _ hm, normC_nil _ ht, normC_cons _ _ _ hs, if_pos hk]
  | cons u r =>
    rw [normC_cons _ _ _ hm, normC_cons _ _ _ ht]
    by_cases h2 : t.1 = u.1
    · rw [if_pos h2, if_pos (show (mrg s t).1 = u.1 from hk.trans h2), normC_cons _ _ _ hs, if_pos (show s.1 = (mrg t u).1 from hk), mrg_assoc]
    · rw [if_neg h2, if_neg (show ¬ (mrg s t).1 = u.1 from fun e => h2 (hk.symm.trans e)), normC_cons _ _ _ hs, if_pos hk]
theorem norm_len (l : List Sp) : (normL l).length ≤ l.length := by
  induction l with
  | nil => exact Nat.le_refl _
  | cons a t ih =>
    show (normC a (normL t)).length ≤ _
    by_cases ha : emp a
    · rw [normC_emp _ _ ha, List.length_cons]; omega
    · generalize normL t = r at *
      cases r with
      | nil => rw [normC_nil _ ha]; simp
      | cons u r =>
        rw [normC_cons _ _ _ ha]
        split
        · simp at ih ⊢; omega
        · simp at ih ⊢; omega
end Go.Proofs.YtgcaphjjigpjlaaGreatDoor
namespace Go.Proofs.YtgcaphjjigpjlaaGreatDoor
open Go.RowKit
set_option maxRecDepth 100000
set_option maxHeartbeats 1000000
def of1 (r : Int) : List UInt8 := if 0 ≤ r ∧ IsCp r.toNat then enc1 r.toNat else []
def ofL (rs : List Int) : List UInt8 := rs.flatMap of1
def runesV (rs : List Int) : List Value := rs.map (Value.int .i32)
theorem ofL_snoc (rs : List Int) (r : Int) : ofL (rs ++ [r]) = ofL rs ++ of1 r := by simp [ofL]
theorem of1_le (r : Int) : (of1 r).length ≤ 4 := by
  unfold of1; split
  · rw [enc1_length]; exact wid_le _
  · simp
theorem ofL_le (rs : List Int) : (ofL rs).length ≤ 4 * rs.length := by
  induction rs with
  | nil => simp [ofL]
  | cons r rs ih => have := of1_le r; simp only [ofL, List.flatMap_cons, List.length_append, List.length_cons] at *; omega
theorem info_u8 : (Tryz.prog.info? 5).map (fun i => (i.zero, i.size, i.bytes)) = some (some (.int .u8 0), 1, 1) := by kernel_rfl
theorem byteCells_append (a b : List UInt8) : Lib.byteCells (a ++ b) = Lib.byteCells a ++ Lib.byteCells b := by simp [Lib.byteCells]
theorem ofR_c (v : Value) (rs : List Int) (w : World) (hv : Rd w 1 v rs.length (runesV rs)) (hn : rs.length ≤ 10000000) (hr : ∀ r ∈ rs, -2147483648 ≤ r ∧ r ≤ 2147483647) :
    Calls Tryz.prog 24 #[v] w fun e w' => e = .returned (.string (mkS (ofL rs))) ∧ Ext w w' := by
  obtain ⟨i, hi, hz0, hz1, hz2⟩ := info_parts info_u8
  have hown0 : Own (w.alloc (.cells #[] 5)) w.heap.size 5 1 (.slice (some ⟨w.heap.size, 0, none⟩) 0 0) 0 (Lib.byteCells (ofL (rs.take 0))) :=
    Own.made w w.heap.size 5 1 0 #[] (Nat.le_refl _) (by omega) rfl
  have hbel0 : Below w.heap.size w (w.alloc (.cells #[] 5)) := (Below.refl _ _).alloc (Nat.le_refl _) _
  have HI := Lib.hid hi; have HZ0 := Lib.hid hz0; have HZ1 := Lib.hid hz1; have HZ2 := Lib.hid hz2
  have HO := Lib.hid hown0; have HB := Lib.hid hbel0; have HR := Lib.hid hr; have HV := Lib.hid hv
  obtain ⟨A, c, hva, hc⟩ : ∃ A c, v = .slice A rs.length c ∧ rs.length ≤ c := by obtain ⟨_, A, c, h, h', _⟩ := hv; exact ⟨A, c, h, h'⟩
  clear hi hz0 hz1 hz2 hown0 hbel0 hr hv
  subst hva
  go_enter Tryz.func24, Tryz.ntmps24
  go_wp2_with fail
  go_loopw [3, 4] (fun o j wr => ∃ k : Nat, k ≤ rs.length ∧ j = .int .i64 k ∧ Own wr w.heap.size 5 1 o (ofL (rs.take k)).length (Lib.byteCells (ofL (rs.take k))) ∧ Below w.heap.size w wr) (fun _ j _ => rs.length - (intOf j).toNat)
  case atStart => exact ⟨0, by omega, rfl, HO.out, HB.out⟩
  case round =>
    obtain ⟨k, hk, rfl, hown, hbel⟩ := hrel
    by_cases hlt : k < rs.length
    · have hx : Ext w wr := hbel
      obtain ⟨b, off, u, rfl, hb, hu, hcell⟩ := (HV.out.ext hx).cell hlt
      obtain ⟨r, hrk⟩ : ∃ r, r = rs[k] := ⟨_, rfl⟩
      have hu2 : u = .int .i32 r := by
        rw [hrk]; unfold runesV at hu; rw [List.getElem?_map, List.getElem?_eq_getElem hlt] at hu; simpa using hu.symm
      subst hu2
      have hbd := HR.out r (by rw [hrk]; exact List.getElem_mem hlt)
      have hsn : ofL (rs.take (k + 1)) = ofL (rs.take k) ++ of1 r := by rw [List.take_succ_eq_append_getElem hlt, ofL_snoc, hrk]
      have hlen : (ofL (rs.take k)).length ≤ 40000000 := by have := ofL_le (rs.take k); rw [List.length_take] at this; omega
      have HSN := Lib.hid hsn; have HRK := Lib.hid hrk
      obtain ⟨hb1, hb2⟩ := hbd
      clear hsn hrk hu
      by_cases hcp : 0 ≤ r ∧ IsCp r.toNat
      · obtain ⟨hp, hcp⟩ := hcp
        obtain ⟨m, rfl⟩ := Int.eq_ofNat_of_zero_le hp
        rw [Int.toNat_natCast] at hcp
        have hsz := sizeF_cp hcp
        have hof : of1 (m : Int) = enc1 m := by unfold of1; rw [Int.toNat_natCast, if_pos ⟨hp, hcp⟩]
        have HOF := Lib.hid hof
        have hm : m ≤ 1114111 := hcp.1
        clear hcp hof hp
        by_cases c1 : m < 128
        · have hw : wid m = 1 := by unfold wid; rw [if_pos c1]
          have he : Lib.byteCells (enc1 m) = [.int .u8 (m : Int)] := by
            unfold enc1; rw [if_pos c1]; simp only [Lib.byteCells, List.map_cons, List.map_nil]
            rw [u8_toNat (by omega)]
          have hl : (enc1 m).length = 1 := by rw [enc1_length, hw]
          rw [hw] at hsz
          obtain ⟨v', w', happ, hown', hbel'⟩ := app_new (P := Tryz.prog) 76 76 5 i _ 1 1 Tryz.underlying76 HI.out HZ0.out HZ1.out HZ2.out rfl (by omega) (by omega)
            hbel hown (by omega) 1 #[.int .u8 (m : Int)] rfl (by omega) (by simp [Value.oneCell']) 5
          have hown2 : Own w' w.heap.size 5 1 v' (ofL (rs.take (k + 1))).length (Lib.byteCells (ofL (rs.take (k + 1)))) := by
            rw [HSN.out, HOF.out, byteCells_append, List.length_append, hl, he]; exact hown'
          have HW := Lib.hid hw; have HE := Lib.hid he; have HL := Lib.hid hl; have HAP := Lib.hid happ
          clear hw he hl happ
          go_wp2_with (first | (go_at_call 44; refine (size_c _ _).mono ?_; rintro e w' ⟨rfl, rfl⟩) | (at_builtin; refine wpList_append_run rfl rfl HAP.out rfl rfl ?_))
          go_roundw
          case rel => exact ⟨k + 1, by omega, by go_num, hown2, hbel'⟩
          case measure => simp [intOf]; omega
        by_cases c2 : m < 2048
        · have hw : wid m = 2 := by unfold wid; rw [if_neg c1, if_pos c2]
          have he : Lib.byteCells (enc1 m) = [.int .u8 (192 + (m : Int) / 64), .int .u8 (128 + (m : Int) % 64)] := by
            unfold enc1; rw [if_neg c1, if_pos c2]; simp only [Lib.byteCells, List.map_cons, List.map_nil]
            rw [u8_toNat (by omega), u8_toNat (by omega)]; rfl
          have hl : (enc1 m).length = 2 := by rw [enc1_length, hw]
          rw [hw] at hsz
          obtain ⟨v', w', happ, hown', hbel'⟩ := app_new (P := Tryz.prog) 76 76 5 i _ 1 1 Tryz.underlying76 HI.out HZ0.out HZ1.out HZ2.out rfl (by omega) (by omega)
            hbel hown (by omega) 2 #[.int .u8 (192 + (m : Int) / 64), .int .u8 (128 + (m : Int) % 64)] rfl (by omega) (by simp [Value.oneCell']) 5
          have hown2 : Own w' w.heap.size 5 1 v' (ofL (rs.take (k + 1))).length (Lib.byteCells (ofL (rs.take (k + 1)))) := by
            rw [HSN.out, HOF.out, byteCells_append, List.length_append, hl, he]; exact hown'
          have HW := Lib.hid hw; have HE := Lib.hid he; have HL := Lib.hid hl; have HAP := Lib.hid happ
          clear hw he hl happ
          go_wp2_with (first | (go_at_call 44; refine (size_c _ _).mono ?_; rintro e w' ⟨rfl, rfl⟩) | (at_builtin; refine wpList_append_run rfl rfl HAP.out rfl rfl ?_))
          go_roundw
          case rel => exact ⟨k + 1, by omega, by go_num, hown2, hbel'⟩
          case measure => simp [intOf]; omega
        by_cases c3 : m < 65536
        · have hw : wid m = 3 := by unfold wid; rw [if_neg c1, if_neg c2, if_pos c3]
          have he : Lib.byteCells (enc1 m) = [.int .u8 (224 + (m : Int) / 4096), .int .u8 (128 + (m : Int) / 64 % 64), .int .u8 (128 + (m : Int) % 64)] := by
            unfold enc1; rw [if_neg c1, if_neg c2, if_pos c3]; simp only [Lib.byteCells, List.map_cons, List.map_nil]
            rw [u8_toNat (by omega), u8_toNat (by omega), u8_toNat (by omega)]; rfl
          have hl : (enc1 m).length = 3 := by rw [enc1_length, hw]
          rw [hw] at hsz
          obtain ⟨v', w', happ, hown', hbel'⟩ := app_new (P := Tryz.prog) 76 76 5 i _ 1 1 Tryz.underlying76 HI.out HZ0.out HZ1.out HZ2.out rfl (by omega) (by omega)
            hbel hown (by omega) 3 #[.int .u8 (224 + (m : Int) / 4096), .int .u8 (128 + (m : Int) / 64 % 64), .int .u8 (128 + (m : Int) % 64)] rfl (by omega) (by simp [Value.oneCell']) 5
          have hown2 : Own w' w.heap.size 5 1 v' (ofL (rs.take (k + 1))).length (Lib.byteCells (ofL (rs.take (k + 1)))) := by
            rw [HSN.out, HOF.out, byteCells_append, List.length_append, hl, he]; exact hown'
          have HW := Lib.hid hw; have HE := Lib.hid he; have HL := Lib.hid hl; have HAP := Lib.hid happ
          clear hw he hl happ
          go_wp2_with (first | (go_at_call 44; refine (size_c _ _).mono ?_; rintro e w' ⟨rfl, rfl⟩) | (at_builtin; refine wpList_append_run rfl rfl HAP.out rfl rfl ?_))
          go_roundw
          case rel => exact ⟨k + 1, by omega, by go_num, hown2, hbel'⟩
          case measure => simp [intOf]; omega
        · have hw : wid m = 4 := by unfold wid; rw [if_neg c1, if_neg c2, if_neg c3]
          have he : Lib.byteCells (enc1 m) = [.int .u8 (240 + (m : Int) / 262144), .int .u8 (128 + (m : Int) / 4096 % 64), .int .u8 (128 + (m : Int) / 64 % 64), .int .u8 (128 + (m : Int) % 64)] := by
            unfold enc1; rw [if_neg c1, if_neg c2, if_neg c3]; simp only [Lib.byteCells, List.map_cons, List.map_nil]
            rw [u8_toNat (by omega), u8_toNat (by omega), u8_toNat (by omega), u8_toNat (by omega)]; rfl
          have hl : (enc1 m).length = 4 := by rw [enc1_length, hw]
          rw [hw] at hsz
          obtain ⟨v', w', happ, hown', hbel'⟩ := app_new (P := Tryz.prog) 76 76 5 i _ 1 1 Tryz.underlying76 HI.out HZ0.out HZ1.out HZ2.out rfl (by omega) (by omega)
            hbel hown (by omega) 4 #[.int .u8 (240 + (m : Int) / 262144), .int .u8 (128 + (m : Int) / 4096 % 64), .int .u8 (128 + (m : Int) / 64 % 64), .int .u8 (128 + (m : Int) % 64)] rfl (by omega) (by simp [Value.oneCell']) 5
          have hown2 : Own w' w.heap.size 5 1 v' (ofL (rs.take (k + 1))).length (Lib.byteCells (ofL (rs.take (k + 1)))) := by
            rw [HSN.out, HOF.out, byteCells_append, List.length_append, hl, he]; exact hown'
          have HW := Lib.hid hw; have HE := Lib.hid he; have HL := Lib.hid hl; have HAP := Lib.hid happ
          clear hw he hl happ
          go_wp2_with (first | (go_at_call 44; refine (size_c _ _).mono ?_; rintro e w' ⟨rfl, rfl⟩) | (at_builtin; refine wpList_append_run rfl rfl HAP.out rfl rfl ?_))
          go_roundw
          case rel => exact ⟨k + 1, by omega, by go_num, hown2, hbel'⟩
          case measure => simp [intOf]; omega
      · have hsz : sizeF r = 0 := by
          unfold sizeF
          unfold IsCp at hcp
          rw [if_pos (by omega)]
        have hof : of1 r = [] := by unfold of1; rw [if_neg hcp]
        have hown2 : Own wr w.heap.size 5 1 u3 (ofL (rs.take (k + 1))).length (Lib.byteCells (ofL (rs.take (k + 1)))) := by
          rw [HSN.out, hof, List.append_nil]; exact hown
        have HOF := Lib.hid hof
        clear hcp hof
        go_wp2_with (go_at_call 44; refine (size_c _ _).mono ?_; rintro e w' ⟨rfl, rfl⟩)
        go_roundw
        case rel => exact ⟨k + 1, by omega, by go_num, hown2, hbel⟩
        case measure => simp [intOf]; omega
    · have hk2 : k = rs.length := by omega
      have hout : Rd wr 1 u3 (ofL rs).length (Lib.byteCells (ofL rs)) := by
        have h := hown.rd; rw [hk2, List.take_length] at h; exact h
      have HRUN := Lib.hid (run_str (P := Tryz.prog) wr 76 9 5 Tryz.underlying76 Tryz.underlying5 Tryz.underlying9 hout)
      clear hk2
      go_wp2_with (with_reducible refine wpList_convert_run rfl rfl HRUN.out rfl ?_)
      go_ret
      exact ⟨rfl, hbel⟩
end Go.Proofs.YtgcaphjjigpjlaaGreatDoor
namespace Go.Proofs.YtgcaphjjigpjlaaGreatDoor
open Go.RowKit
set_option maxRecDepth 100000
set_option maxHeartbeats 1000000
def tab8 : List Nat := [97, 98, 99, 120, 121, 233, 8364, 128512]
def fit1 (b : UInt8) : Nat := tab8.getD (b.toNat % 8) 0
def fitC (l : List UInt8) : List Nat := l.map fit1
theorem tab8_cp (i : Nat) : IsCp (tab8.getD i 0) := by
  match i with
  | 0 | 1 | 2 | 3 | 4 | 5 | 6 | 7 => decide
  | i + 8 => exact (by decide : IsCp 0)
theorem fitC_cp (l : List UInt8) : ∀ c ∈ fitC l, IsCp c := by
  intro c hc
  obtain ⟨b, _, rfl⟩ := List.mem_map.1 hc
  exact tab8_cp _
theorem fitC_length (l : List UInt8) : (fitC l).length = l.length := by simp [fitC]
theorem ofL_cps (cs : List Nat) (h : ∀ c ∈ cs, IsCp c) : ofL (cs.map fun (c : Nat) => (c : Int)) = encs cs := by
  induction cs with
  | nil => rfl
  | cons c cs ih =>
    have h1 : of1 (c : Int) = enc1 c := by unfold of1; rw [Int.toNat_natCast, if_pos ⟨by omega, h c (by simp)⟩]
    rw [encs_cons, ← ih (fun x hx => h x (by simp [hx])), ← h1]; simp [ofL]
def fitR (l : List UInt8) : List Int := (fitC l).map fun (c : Nat) => (c : Int)
theorem fitR_le (l : List UInt8) : ∀ r ∈ fitR l, -2147483648 ≤ r ∧ r ≤ 2147483647 := by
  intro r hr
  obtain ⟨c, hc, rfl⟩ := List.mem_map.1 hr
  have := (fitC_cp l c hc).1
  omega
theorem info_i32 : (Tryz.prog.info? 21).map (fun i => (i.zero, i.size, i.bytes)) = some (some (.int .i32 0), 1, 4) := by kernel_rfl
def tabV : Array Value := #[.int .i32 97, .int .i32 98, .int .i32 99, .int .i32 120, .int .i32 121, .int .i32 233, .int .i32 8364, .int .i32 128512]
theorem tabV_at (i : Nat) (h : i < 8) : tabV[i]? = some (.int .i32 (tab8.getD i 0 : Nat)) := by
  match i, h with
  | 0, _ | 1, _ | 2, _ | 3, _ | 4, _ | 5, _ | 6, _ | 7, _ => rfl
theorem fitR_snoc (s : ByteArray) (k : Nat) (h : k < s.size) : fitR ((bs s).take (k + 1)) = fitR ((bs s).take k) ++ [((tab8.getD ((s[k]'h).toNat % 8) 0 : Nat) : Int)] := by
  have h' : k < (bs s).length := by rw [bs_length]; exact h
  rw [List.take_succ_eq_append_getElem h']
  simp only [fitR, fitC, List.map_append, List.map_cons, List.map_nil]
  rfl
theorem fit_c (s : ByteArray) (w : World) (hs : s.size ≤ 10000000) :
    Calls Tryz.prog 5 #[.string s] w fun e w' => e = .returned (.string (mkS (encs (fitC (bs s))))) ∧ Ext w w' := by
  obtain ⟨i, hi, hz0, hz1, hz2⟩ := info_parts info_i32
  have HI := Lib.hid hi; have HZ0 := Lib.hid hz0; have HZ1 := Lib.hid hz1; have HZ2 := Lib.hid hz2
  clear hi hz0 hz1 hz2
  have hrel0 : Own ((w.alloc (.cells tabV 61)).alloc (.cells #[] 21)) (w.heap.size + 1) 21 1 (.slice (some ⟨w.heap.size + 1, 0, none⟩) 0 0) 0 (runesV (fitR ((bs s).take 0))) ∧
      Below (w.heap.size + 1) (w.alloc (.cells tabV 61)) ((w.alloc (.cells tabV 61)).alloc (.cells #[] 21)) := by
    have h := Own.made (w.alloc (.cells tabV 61)) (w.heap.size + 1) 21 1 0 #[] (by simp) (by omega) rfl
    exact ⟨by simpa [fitR, fitC, runesV] using h, (Below.refl _ _).alloc (by simp) _⟩
  have HR0 := Lib.hid hrel0; clear hrel0
  go_enter Tryz.func5, Tryz.ntmps5
  go_wp2_with fail
  go_loopw [4, 5] (fun o j wr => ∃ k : Nat, k ≤ s.size ∧ j = .int .i64 k ∧ Own wr (w.heap.size + 1) 21 1 o k (runesV (fitR ((bs s).take k))) ∧ Below (w.heap.size + 1) (w.alloc (.cells tabV 61)) wr) (fun _ j _ => s.size - (intOf j).toNat)
  case atStart => exact ⟨0, by omega, rfl, HR0.out.1, HR0.out.2⟩
  case round =>
    obtain ⟨k, hk, rfl, hown, hbel⟩ := hrel
    by_cases hlt : k < s.size
    · have hb := (s[k]'hlt).toNat_lt
      have hm : (s[k]'hlt).toNat % 8 < 8 := Nat.mod_lt _ (by decide)
      have hcell : wr.cell? ⟨w.heap.size, (s[k]'hlt).toNat % 8, none⟩ = some (.int .i32 (tab8.getD ((s[k]'hlt).toNat % 8) 0 : Nat)) := by
        rw [hbel.cell (p := ⟨w.heap.size, (s[k]'hlt).toNat % 8, none⟩) (by simp)]
        rw [cell_of_row (w.alloc (.cells tabV 61)) w.heap.size _ tabV 61 (0, 0) (heap_alloc_new w _)]
        exact tabV_at _ hm
      have HSN := Lib.hid (fitR_snoc s k hlt)
      generalize htb : tab8.getD ((s[k]'hlt).toNat % 8) 0 = tb at *
      obtain ⟨v', w', happ, hown', hbel'⟩ := app_new (P := Tryz.prog) 62 62 21 i _ 1 4 Tryz.underlying62 HI.out HZ0.out HZ1.out HZ2.out rfl (by omega) (by omega)
        hbel hown (by omega) 1 #[.int .i32 (tb : Int)] rfl (by omega) (by simp [Value.oneCell']) 21
      have hown2 : Own w' (w.heap.size + 1) 21 1 v' (k + 1) (runesV (fitR ((bs s).take (k + 1)))) := by
        rw [HSN.out]; simpa [runesV] using hown'
      have HAP := Lib.hid happ; have HTB := Lib.hid htb
      clear happ htb
      go_wp2_with (at_builtin; refine wpList_append_run rfl rfl HAP.out rfl rfl ?_)
      go_roundw
      case rel => exact ⟨k + 1, by omega, by go_num, hown2, hbel'⟩
      case measure => simp [intOf]; omega
    · have hk2 : k = s.size := by omega
      have hlen : (fitR (bs s)).length = s.size := by simp [fitR, fitC, bs_length]
      have hrd : Rd wr 1 u4 (fitR (bs s)).length (runesV (fitR (bs s))) := by
        have h := hown.rd; rw [hk2, List.take_of_length_le (by rw [bs_length]; omega)] at h; rw [hlen]; exact h
      have HOF := Lib.hid (ofR_c u4 (fitR (bs s)) wr hrd (by omega) (fitR_le _))
      have hres : ofL (fitR (bs s)) = encs (fitC (bs s)) := ofL_cps _ (fitC_cp _)
      have HRES := Lib.hid hres
      have hx : Ext w wr := ((Ext.refl w).alloc _).trans (hbel.mono (by simp))
      clear hk2 hlen hres
      go_wp2_with (go_at_call 24; refine HOF.out.mono ?_; rintro e w' ⟨rfl, hx2⟩)
      go_ret
      rw [HRES.out]
      exact ⟨rfl, hx.trans hx2⟩
end Go.Proofs.YtgcaphjjigpjlaaGreatDoor
namespace Go.Proofs.YtgcaphjjigpjlaaGreatDoor
open Go.RowKit
set_option maxRecDepth 100000
set_option maxHeartbeats 1000000
theorem info_sp : (Tryz.prog.info? 60).map (fun i => (i.zero, i.size, i.bytes)) = some (some (.agg #[.int .i64 0, .int .i64 0, .string ⟨#[]⟩]), 3, 32) := by kernel_rfl
def fitOne (s : Sp) (n : Int) : Sp × Int :=
  if s.1 % 3 = 1 then ((2, 0, mkS (encs (fitC ((bs s.2.2).take 6)))), n) else ((1 + s.1 % 3, min (s.2.1 % 7) n, ⟨#[]⟩), n - min (s.2.1 % 7) n)
def fitRun (l : List Sp) (n : Int) : List Sp × Int := l.foldl (fun r s => (r.1 ++ [(fitOne s r.2).1], (fitOne s r.2).2)) ([], n)
theorem fitRun_take (l : List Sp) (n : Int) (j : Nat) (h : j < l.length) : fitRun (l.take (j + 1)) n = ((fitRun (l.take j) n).1 ++ [(fitOne l[j] (fitRun (l.take j) n).2).1], (fitOne l[j] (fitRun (l.take j) n).2).2) := by
  unfold fitRun
  rw [List.take_add_one, List.getElem?_eq_getElem h, List.foldl_append]
  rfl
theorem fitOne_left (s : Sp) (n : Int) (h : 0 ≤ n) : 0 ≤ (fitOne s n).2 ∧ (fitOne s n).2 ≤ n := by
  unfold fitOne; split
  · exact ⟨h, Int.le_refl _⟩
  · simp only; omega
theorem fitRun_len (l : List Sp) (n : Int) (j : Nat) (h : j ≤ l.length) : (fitRun (l.take j) n).1.length = j := by
  induction j with
  | zero => rfl
  | succ j ih => rw [fitRun_take l n j h, List.length_append, ih (by omega)]; rfl
theorem fitRun_left (l : List Sp) (n : Int) (h0 : 0 ≤ n) (j : Nat) (h : j ≤ l.length) : 0 ≤ (fitRun (l.take j) n).2 ∧ (fitRun (l.take j) n).2 ≤ n := by
  induction j with
  | zero => exact ⟨h0, Int.le_refl _⟩
  | succ j ih =>
    have h1 := ih (by omega)
    have h2 := fitOne_left l[j] _ h1.1
    rw [fitRun_take l n j h]; simp only; omega
def fitL (l : List Sp) (n : Int) : List Sp :=
  (fitRun (l.take 12) n).1 ++ if 0 < (fitRun (l.take 12) n).2 then [(1, (fitRun (l.take 12) n).2, ⟨#[]⟩)] else []
theorem fitR4_c (A : Option Addr) (q c : Nat) (l : List Sp) (n : Int) (w : World) (h : Rd w 3 (.slice A q c) q (spCells l)) (hl : l.length = q) (hs : ∀ s ∈ l, s.2.2.size ≤ maxLen) (hn : 0 ≤ n) (hn' : n ≤ 1000000000) :
    Calls Tryz.prog 9 #[.slice A q c, .int .i64 n] w fun e w' => ∃ v, e = .returned v ∧ Ext w w' ∧ Own w' w.heap.size 60 3 v (fitL l n).length (spCells (fitL l n)) := by
  obtain ⟨i, hi, hz0, hz1, hz2⟩ := info_parts info_sp
  have H := Lib.hid h; have HL := Lib.hid hl; have HS := Lib.hid hs
  have hrel0 : Own (w.alloc (.cells #[] 60)) w.heap.size 60 3 (.slice (some ⟨w.heap.size, 0, none⟩) 0 0) 0 (spCells []) ∧ Below w.heap.size w (w.alloc (.cells #[] 60)) :=
    ⟨Own.made w w.heap.size 60 3 0 #[] (Nat.le_refl _) (by omega) rfl, (Below.refl _ _).alloc (Nat.le_refl _) _⟩
  have HR0 := Lib.hid hrel0
  clear h hl hs hrel0
  go_enter Tryz.func9, Tryz.ntmps9
  go_wp2_with fail
  go_loopw [1, 5, 6] (fun m o z wr => ∃ j : Nat, j ≤ q ∧ j ≤ 12 ∧ z = .int .i64 j ∧ m = .int .i64 (fitRun (l.take j) n).2 ∧ Own wr w.heap.size 60 3 o j (spCells (fitRun (l.take j) n).1) ∧ Below w.heap.size w wr) (fun _ _ z _ => 12 - (intOf z).toNat)
  case atStart => exact ⟨0, by omega, by omega, rfl, rfl, HR0.out.1, HR0.out.2⟩
  case round =>
    obtain ⟨j, hj, hj12, rfl, rfl, hown, hbel⟩ := hrel
    by_cases hlt : j < q ∧ j < 12
    · have hjl : j < l.length := by have := HL.out; omega
      obtain ⟨b, off, rfl, hb, q0, q1, q2⟩ := sp_at (H.out.ext hbel) HL.out hlt.1
      have dn : decide (j < q) = true := by rw [decide_eq_true_eq]; exact hlt.1
      have d12 : decide ((j : Int) < 12) = true := by rw [decide_eq_true_eq]; omega
      have i0 : (0 : Int) ≤ (j : Int) := by omega
      have i1 : (j : Int) < (q : Int) := by omega
      have hsz : l[j].2.2.size ≤ maxLen := HS.out _ (List.getElem_mem hjl)
      have hst := fitRun_take l n j hjl
      have hle := fitRun_left l n hn j (by omega)
      obtain ⟨R1, hR1⟩ : ∃ R1, fitRun (l.take (j + 1)) n = R1 := ⟨_, rfl⟩
      rw [hR1] at hst
      have HR1 := Lib.hid hR1
      clear hR1
      generalize (fitRun (l.take j) n).1 = xs at *
      generalize (fitRun (l.take j) n).2 = m at *
      unfold fitOne at hst
      generalize l[j].1 = a1 at *
      generalize l[j].2.1 = a2 at *
      generalize l[j].2.2 = a3 at *
      have m0 : 0 ≤ m := hle.1
      have m1 : m ≤ 1000000000 := by omega
      obtain ⟨t1, ht1⟩ : ∃ t1, a1.tmod 3 = t1 := ⟨_, rfl⟩
      have w1 : wrap64 (t1 + 3) = t1 + 3 := by have := tmod_le a1 3 (by omega); unfold wrap64; omega
      have w2 : (t1 + 3).tmod 3 = a1 % 3 := by rw [← ht1]; exact tmod_mod a1 3 (by omega)
      have w3 : 0 ≤ a1 % 3 ∧ a1 % 3 ≤ 2 := by omega
      by_cases hput : a1 % 3 = 1
      · rw [if_pos hput] at hst
        rw [hput] at w2
        have HST := Lib.hid hst
        clear hst w3 hput
        go_wp2_with fail
        have r2 : (wr.alloc (.cells #[.int .i64 2, .int .i64 0, .string ⟨#[]⟩] 60)).cell? ⟨b, off + j * 3 + 2, none⟩ = some (.string a3) := ext_cell ((Ext.refl _).alloc _) q2
        generalize hW0 : wr.alloc (.cells #[.int .i64 2, .int .i64 0, .string ⟨#[]⟩] 60) = W0 at *
        refine region_tail 13 (by kernel_rfl) (by kernel_rfl) ?_
        intro W1 hW1
        simp only [List.take_succ_cons, List.take_zero, List.drop_succ_cons, List.drop_zero]
        have hx01 : Ext W0 W1 := by rw [hW1]; exact (Ext.refl _).drew
        have r2' := ext_cell hx01 r2
        obtain ⟨MN, hMN⟩ : ∃ MN, MN = min a3.size 6 := ⟨_, rfl⟩
        have hif : (if (6 : Int) < (a3.size : Int) then (6 : Int) else (a3.size : Int)) = (MN : Int) := by split <;> omega
        have hle2 : (MN : Int) ≤ (a3.size : Int) := by omega
        have hle3 : MN ≤ a3.size := by omega
        have HF := Lib.hid (fun w' => fit_c (a3.extract 0 MN) w' (by simp; omega))
        have HMN := Lib.hid hMN
        clear hW1 hMN q0 q1 q2
        unfold maxLen at hsz
        repeat still_step
        refine wpStill_nil ?_
        go_wp2_with fail
        refine (HF.out _).mono ?_; rintro e w1 ⟨rfl, hx1⟩
        have hX : mkS (encs (fitC (bs (a3.extract 0 MN)))) = mkS (encs (fitC ((bs a3).take 6))) := by
          rw [bs_extract, HMN.out, List.drop_zero, Nat.sub_zero, ← bs_length, Nat.min_comm, ← List.take_eq_take_min]
        rw [← hX] at HST
        clear hX
        generalize mkS (encs (fitC (bs (a3.extract 0 MN)))) = X at *
        have hxx : Ext (wr.alloc (.cells #[.int .i64 2, .int .i64 0, .string ⟨#[]⟩] 60)) w1 := by rw [hW0]; exact hx01.trans hx1
        have z0 := box_at _ _ _ _ hxx 0 _ rfl
        have z1 := box_at _ _ _ _ hxx 1 _ rfl
        have z2 := box_at _ _ _ _ hxx 2 _ rfl
        have zf := box_free _ _ _ _ hxx 2
        have hx2 : Ext wr (w1.setCell ⟨wr.heap.size, 2, none⟩ (.string X)) := Below.setCell (((Ext.refl wr).alloc _).trans hxx) (by simp) _
        have HOW := Lib.hid (hown.ext hx2); have HBE := Lib.hid (hbel.trans (hx2.mono hown.2))
        generalize hw2 : w1.setCell ⟨wr.heap.size, 2, none⟩ (.string X) = w2 at *
        have hsz2 : w1.heap.size = w2.heap.size := by rw [← hw2]; simp
        obtain ⟨v', w', happ, hown', hbel'⟩ := app_new (P := Tryz.prog) 23 23 60 i _ 3 32 Tryz.underlying23 hi hz0 hz1 hz2 rfl (by omega) (by omega)
          HBE.out HOW.out (by omega) 1 #[.int .i64 2, .int .i64 0, .string X] rfl (by omega) (by simp [Value.oneCell']) 60
        have HAP := Lib.hid happ; clear happ
        rw [← hsz2, ← hw2] at HAP
        have hown2 : Own w' w.heap.size 60 3 v' (j + 1) (spCells R1.1) := by rw [HST.out, spCells_append]; exact hown'
        clear hw2 hsz2
        go_wp2_with (at_builtin; refine wpList_append_run rfl rfl HAP.out rfl rfl ?_)
        go_roundw
        case rel => exact ⟨j + 1, by omega, by omega, by go_num, by rw [HR1.out, HST.out], by rw [HR1.out]; exact hown2, hbel'⟩
        case measure => simp [intOf]; omega
      · rw [if_neg hput] at hst
        obtain ⟨t2, ht2⟩ : ∃ t2, a2.tmod 7 = t2 := ⟨_, rfl⟩
        have v1 : wrap64 (t2 + 7) = t2 + 7 := by have := tmod_le a2 7 (by omega); unfold wrap64; omega
        have v2 : (t2 + 7).tmod 7 = a2 % 7 := by rw [← ht2]; exact tmod_mod a2 7 (by omega)
        have v3 : 0 ≤ a2 % 7 ∧ a2 % 7 ≤ 6 := by omega
        generalize a2 % 7 = y at *
        obtain ⟨y0, y6⟩ := v3
        rcases (by omega : a1 % 3 = 0 ∨ a1 % 3 = 2) with hk | hk
        · rw [hk] at hst w2
          clear w3 hput hk hle q2
          rcases (by omega : y < m ∨ m < y ∨ y = m) with hc | hc | hc
          · have c1 : y ≤ m := by omega
            have c2 : ¬ m ≤ y := by omega
            have hw : wrap64 (m - y) = m - y := by unfold wrap64; omega
            rw [Int.min_eq_left c1] at hst
            have HST := Lib.hid hst
            clear hst hc
            have hbx := hbel.alloc hown.2 (.cells #[.int .i64 1, .int .i64 y, .string ⟨#[]⟩] 60)
            have hox := hown.alloc (.cells #[.int .i64 1, .int .i64 y, .string ⟨#[]⟩] 60)
            obtain ⟨v', w', happ, hown', hbel'⟩ := app_new (P := Tryz.prog) 23 23 60 i _ 3 32 Tryz.underlying23 hi hz0 hz1 hz2 rfl (by omega) (by omega)
              hbx hox (by omega) 1 #[.int .i64 1, .int .i64 y, .string ⟨#[]⟩] rfl (by omega) (by simp [Value.oneCell']) 60
            rw [size_alloc] at happ
            have HAP := Lib.hid happ; clear happ
            have hown2 : Own w' w.heap.size 60 3 v' (j + 1) (spCells R1.1) := by rw [HST.out, spCells_append]; exact hown'
            go_wp2_with (at_builtin; refine wpList_append_run rfl rfl HAP.out rfl rfl ?_)
            go_roundw
            case rel => exact ⟨j + 1, by omega, by omega, by go_num, by rw [HR1.out, HST.out], by rw [HR1.out]; exact hown2, hbel'⟩
            case measure => simp [intOf]; omega
          · have c1 : ¬ y ≤ m := by omega
            have c2 : m ≤ y := by omega
            have hw : wrap64 0 = 0 := wrap_zero
            rw [Int.min_eq_right c2] at hst
            have HST := Lib.hid hst
            clear hst hc
            have hbx := hbel.alloc hown.2 (.cells #[.int .i64 1, .int .i64 m, .string ⟨#[]⟩] 60)
            have hox := hown.alloc (.cells #[.int .i64 1, .int .i64 m, .string ⟨#[]⟩] 60)
            obtain ⟨v', w', happ, hown', hbel'⟩ := app_new (P := Tryz.prog) 23 23 60 i _ 3 32 Tryz.underlying23 hi hz0 hz1 hz2 rfl (by omega) (by omega)
              hbx hox (by omega) 1 #[.int .i64 1, .int .i64 m, .string ⟨#[]⟩] rfl (by omega) (by simp [Value.oneCell']) 60
            rw [size_alloc] at happ
            have HAP := Lib.hid happ; clear happ
            have hown2 : Own w' w.heap.size 60 3 v' (j + 1) (spCells R1.1) := by rw [HST.out, spCells_append]; exact hown'
            go_wp2_with (at_builtin; refine wpList_append_run rfl rfl HAP.out rfl rfl ?_)
            go_roundw
            case rel => exact ⟨j + 1, by omega, by omega, by go_num, by rw [HR1.out, HST.out]; simp, by rw [HR1.out]; exact hown2, hbel'⟩
            case measure => simp [intOf]; omega
          · subst hc
            have hw : wrap64 0 = 0 := wrap_zero
            rw [Int.min_self] at hst
            have HST := Lib.hid hst
            clear hst
            have hbx := hbel.alloc hown.2 (.cells #[.int .i64 1, .int .i64 y, .string ⟨#[]⟩] 60)
            have hox := hown.alloc (.cells #[.int .i64 1, .int .i64 y, .string ⟨#[]⟩] 60)
            obtain ⟨v', w', happ, hown', hbel'⟩ := app_new (P := Tryz.prog) 23 23 60 i _ 3 32 Tryz.underlying23 hi hz0 hz1 hz2 rfl (by omega) (by omega)
              hbx hox (by omega) 1 #[.int .i64 1, .int .i64 y, .string ⟨#[]⟩] rfl (by omega) (by simp [Value.oneCell']) 60
            rw [size_alloc] at happ
            have HAP := Lib.hid happ; clear happ
            have hown2 : Own w' w.heap.size 60 3 v' (j + 1) (spCells R1.1) := by rw [HST.out, spCells_append]; exact hown'
            go_wp2_with (at_builtin; refine wpList_append_run rfl rfl HAP.out rfl rfl ?_)
            go_roundw
            case rel => exact ⟨j + 1, by omega, by omega, by go_num, by rw [HR1.out, HST.out]; simp, by rw [HR1.out]; exact hown2, hbel'⟩
            case measure => simp [intOf]; omega
        · rw [hk] at hst w2
          clear w3 hput hk hle q2
          rcases (by omega : y < m ∨ m < y ∨ y = m) with hc | hc | hc
          · have c1 : y ≤ m := by omega
            have c2 : ¬ m ≤ y := by omega
            have hw : wrap64 (m - y) = m - y := by unfold wrap64; omega
            rw [Int.min_eq_left c1] at hst
            have HST := Lib.hid hst
            clear hst hc
            have hbx := hbel.alloc hown.2 (.cells #[.int .i64 3, .int .i64 y, .string ⟨#[]⟩] 60)
            have hox := hown.alloc (.cells #[.int .i64 3, .int .i64 y, .string ⟨#[]⟩] 60)
            obtain ⟨v', w', happ, hown', hbel'⟩ := app_new (P := Tryz.prog) 23 23 60 i _ 3 32 Tryz.underlying23 hi hz0 hz1 hz2 rfl (by omega) (by omega)
              hbx hox (by omega) 1 #[.int .i64 3, .int .i64 y, .string ⟨#[]⟩] rfl (by omega) (by simp [Value.oneCell']) 60
            rw [size_alloc] at happ
            have HAP := Lib.hid happ; clear happ
            have hown2 : Own w' w.heap.size 60 3 v' (j + 1) (spCells R1.1) := by rw [HST.out, spCells_append]; exact hown'
            go_wp2_with (at_builtin; refine wpList_append_run rfl rfl HAP.out rfl rfl ?_)
            go_roundw
            case rel => exact ⟨j + 1, by omega, by omega, by go_num, by rw [HR1.out, HST.out], by rw [HR1.out]; exact hown2, hbel'⟩
            case measure => simp [intOf]; omega
          · have c1 : ¬ y ≤ m := by omega
            have c2 : m ≤ y := by omega
            have hw : wrap64 0 = 0 := wrap_zero
            rw [Int.min_eq_right c2] at hst
            have HST := Lib.hid hst
            clear hst hc
            have hbx := hbel.alloc hown.2 (.cells #[.int .i64 3, .int .i64 m, .string ⟨#[]⟩] 60)
            have hox := hown.alloc (.cells #[.int .i64 3, .int .i64 m, .string ⟨#[]⟩] 60)
            obtain ⟨v', w', happ, hown', hbel'⟩ := app_new (P := Tryz.prog) 23 23 60 i _ 3 32 Tryz.underlying23 hi hz0 hz1 hz2 rfl (by omega) (by omega)
              hbx hox (by omega) 1 #[.int .i64 3, .int .i64 m, .string ⟨#[]⟩] rfl (by omega) (by simp [Value.oneCell']) 60
            rw [size_alloc] at happ
            have HAP := Lib.hid happ; clear happ
            have hown2 : Own w' w.heap.size 60 3 v' (j + 1) (spCells R1.1) := by rw [HST.out, spCells_append]; exact hown'
            go_wp2_with (at_builtin; refine wpList_append_run rfl rfl HAP.out rfl rfl ?_)
            go_roundw
            case rel => exact ⟨j + 1, by omega, by omega, by go_num, by rw [HR1.out, HST.out]; simp, by rw [HR1.out]; exact hown2, hbel'⟩
            case measure => simp [intOf]; omega
          · subst hc
            have hw : wrap64 0 = 0 := wrap_zero
            rw [Int.min_self] at hst
            have HST := Lib.hid hst
            clear hst
            have hbx := hbel.alloc hown.2 (.cells #[.int .i64 3, .int .i64 y, .string ⟨#[]⟩] 60)
            have hox := hown.alloc (.cells #[.int .i64 3, .int .i64 y, .string ⟨#[]⟩] 60)
            obtain ⟨v', w', happ, hown', hbel'⟩ := app_new (P := Tryz.prog) 23 23 60 i _ 3 32 Tryz.underlying23 hi hz0 hz1 hz2 rfl (by omega) (by omega)
              hbx hox (by omega) 1 #[.int .i64 3, .int .i64 y, .string ⟨#[]⟩] rfl (by omega) (by simp [Value.oneCell']) 60
            rw [size_alloc] at happ
            have HAP := Lib.hid happ; clear happ
            have hown2 : Own w' w.heap.size 60 3 v' (j + 1) (spCells R1.1) := by rw [HST.out, spCells_append]; exact hown'
            go_wp2_with (at_builtin; refine wpList_append_run rfl rfl HAP.out rfl rfl ?_)
            go_roundw
            case rel => exact ⟨j + 1, by omega, by omega, by go_num, by rw [HR1.out, HST.out]; simp, by rw [HR1.out]; exact hown2, hbel'⟩
            case measure => simp [intOf]; omega
    · have hall : l.take j = l.take 12 := by
        rcases (by omega : j = 12 ∨ j = q) with e | e
        · rw [e]
        · have e2 := HL.out
          rw [List.take_of_length_le (by omega), List.take_of_length_le (by omega)]
      have hcase : (decide (j < q) = false) ∨ (decide (j < q) = true ∧ decide ((j : Int) < 12) = false) := by
        by_cases e : j < q
        · exact .inr ⟨by rw [decide_eq_true_eq]; exact e, by rw [decide_eq_false_iff_not]; omega⟩
        · exact .inl (by rw [decide_eq_false_iff_not]; exact e)
      rw [hall] at hown ⊢
      have hle := fitRun_left l n hn (min 12 l.length) (by omega)
      have h12 : l.take (min 12 l.length) = l.take 12 := List.take_eq_take_min.symm
      rw [h12] at hle
      have hj' : (fitRun (l.take 12) n).1.length = j := by rw [← hall]; exact fitRun_len l n j (by have := HL.out; omega)
      have hfl : fitL l n = (fitRun (l.take 12) n).1 ++ if 0 < (fitRun (l.take 12) n).2 then [(1, (fitRun (l.take 12) n).2, ⟨#[]⟩)] else [] := rfl
      have HJ := Lib.hid hj'
      have HFL := Lib.hid hfl
      clear hall hj' hfl h12
      generalize (fitRun (l.take 12) n).1 = xs at *
      generalize (fitRun (l.take 12) n).2 = m at *
      obtain ⟨m0, mn⟩ := hle
      clear hlt
      rcases hcase with d1 | ⟨d1, d2⟩
      all_goals
        by_cases hm : 0 < m
        · rw [if_pos hm] at HFL
          obtain ⟨v', w', happ, hown', hbel'⟩ := app_new (P := Tryz.prog) 23 23 60 i _ 3 32 Tryz.underlying23 hi hz0 hz1 hz2 rfl (by omega) (by omega)
            hbel hown (by omega) 1 #[.int .i64 1, .int .i64 m, .string ⟨#[]⟩] rfl (by omega) (by simp [Value.oneCell']) 60
          have HAP := Lib.hid happ; clear happ
          go_wp2_with (at_builtin; refine wpList_append_run rfl rfl HAP.out rfl rfl ?_)
          go_ret
          refine ⟨v', rfl, hbel', ?_⟩
          rw [HFL.out, spCells_append, List.length_append, HJ.out]
          exact hown'
        · rw [if_neg hm] at HFL
          have hm' : m ≤ 0 := by omega
          go_wp2_with fail
          go_ret
          refine ⟨_, rfl, hbel, ?_⟩
          rw [HFL.out, List.append_nil, HJ.out]
          exact hown
end Go.Proofs.YtgcaphjjigpjlaaGreatDoor
namespace Go.Proofs.YtgcaphjjigpjlaaGreatDoor
open Go.RowKit
set_option maxRecDepth 100000
set_option maxHeartbeats 1000000
def sumN (l : List Sp) : Int := (l.map fun s => s.2.1).sum
def sumT (l : List Sp) : Nat := (l.map fun s => s.2.2.size).sum
theorem sumN_normC (s : Sp) (r : List Sp) : sumN (normC s r) = s.2.1 + sumN r := by
  by_cases hs : emp s
  · rw [normC_emp _ _ hs, hs.1]; omega
  · cases r with
    | nil => rw [normC_nil _ hs]; rfl
    | cons t r =>
      rw [normC_cons _ _ _ hs]
      split
      · simp [sumN, mrg]; omega
      · simp [sumN]
theorem sumT_normC (s : Sp) (r : List Sp) : sumT (normC s r) = s.2.2.size + sumT r := by
  by_cases hs : emp s
  · rw [normC_emp _ _ hs, hs.2]; omega
  · cases r with
    | nil => rw [normC_nil _ hs]; rfl
    | cons t r =>
      rw [normC_cons _ _ _ hs]
      split
      · simp only [sumT, mrg, List.map_cons, List.sum_cons, ba_size]; omega
      · simp [sumT]
theorem sumN_norm (l : List Sp) : sumN (normL l) = sumN l := by
  induction l with
  | nil => rfl
  | cons a t ih => show sumN (normC a (normL t)) = _; rw [sumN_normC, ih]; rfl
theorem sumT_norm (l : List Sp) : sumT (normL l) = sumT l := by
  induction l with
  | nil => rfl
  | cons a t ih => show sumT (normC a (normL t)) = _; rw [sumT_normC, ih]; rfl
theorem sumN_append (a b : List Sp) : sumN (a ++ b) = sumN a + sumN b := by simp [sumN]
theorem sumT_append (a b : List Sp) : sumT (a ++ b) = sumT a + sumT b := by simp [sumT]
theorem sumN_pos (l : List Sp) (h : pos l) : 0 ≤ sumN l := by
  induction l with
  | nil => exact Int.le_refl _
  | cons a t ih => have := h a (by simp); have := ih (fun s hs => h s (by simp [hs])); simp [sumN] at *; omega
structure Ok (l : List Sp) : Prop where
  pos : pos l
  n : sumN l ≤ 1000000000
  t : sumT l ≤ 1000000000
theorem Ok.take {l : List Sp} (h : Ok l) (j : Nat) : Ok (l.take j) := by
  have e := List.take_append_drop j l
  have h1 : Go.Proofs.YtgcaphjjigpjlaaGreatDoor.pos (l.drop j) := fun s hs => h.pos s (List.mem_of_mem_drop hs)
  have h2 : sumN (l.take j) + sumN (l.drop j) = sumN l := by rw [← sumN_append, e]
  have h3 : sumT (l.take j) + sumT (l.drop j) = sumT l := by rw [← sumT_append, e]
  have := sumN_pos _ h1; have := h.n; have := h.t
  exact ⟨fun s hs => h.pos s (List.mem_of_mem_take hs), by omega, by omega⟩
theorem Ok.norm {l : List Sp} (h : Ok l) : Ok (normL l) := ⟨norm_pos l h.pos, by rw [sumN_norm]; exact h.n, by rw [sumT_norm]; exact h.t⟩
theorem norm_snoc_take (l : List Sp) (j : Nat) (h : j < l.length) : normL (l.take (j + 1)) = snocN (normL (l.take j)) l[j] := by
  rw [List.take_add_one, List.getElem?_eq_getElem h]
  exact norm_snoc _ _
theorem norm_take_len (l : List Sp) (j : Nat) : (normL (l.take j)).length ≤ j := by
  have := norm_len (l.take j); rw [List.length_take] at this; omega
theorem norm_ends (xs : List Sp) : xs = [] ∨ ∃ ys t, xs = ys ++ [t] := by
  rcases List.eq_nil_or_concat xs with h | ⟨ys, t, h⟩
  · exact .inl h
  · exact .inr ⟨ys, t, by simpa using h⟩
theorem ok_step (l : List Sp) (j : Nat) (h : j < l.length) (ho : Ok l) : ∀ ys t, normL (l.take j) = ys ++ [t] → 0 ≤ t.2.1 ∧ 0 ≤ l[j].2.1 ∧ t.2.1 + l[j].2.1 ≤ 1000000000 ∧ t.2.2.size + l[j].2.2.size ≤ 1000000000 := by
  intro ys t e
  have h1 := (ho.take (j + 1))
  have e1 : l.take (j + 1) = l.take j ++ [l[j]] := by rw [List.take_add_one, List.getElem?_eq_getElem h]; rfl
  have n1 : sumN (l.take (j + 1)) = sumN ys + t.2.1 + l[j].2.1 := by
    rw [e1, sumN_append, ← sumN_norm (l.take j), e, sumN_append]; simp [sumN]
  have n2 : sumT (l.take (j + 1)) = sumT ys + t.2.2.size + l[j].2.2.size := by
    rw [e1, sumT_append, ← sumT_norm (l.take j), e, sumT_append]; simp [sumT]
  have hp := (ho.take j).norm.pos
  rw [e] at hp
  have p1 := sumN_pos ys (fun s hs => hp s (by simp [hs]))
  have p2 := hp t (by simp)
  have p3 := ho.pos l[j] (List.getElem_mem h)
  have := h1.n; have := h1.t
  omega
theorem info_sp5 : (Tryz.prog.info? 60).map (fun i => (i.zero, i.size, i.bytes)) = some (some (.agg #[.int .i64 0, .int .i64 0, .string ⟨#[]⟩]), 3, 32) := by kernel_rfl
theorem spCells_set2 (ys : List Sp) (t1 t2 n : Int) (t3 x : ByteArray) (p : Nat) (hp : ys.length = p) :
    ((spCells (ys ++ [(t1, t2, t3)])).set (p * 3 + 1) (.int .i64 n)).set (p * 3 + 2) (.string x) = spCells (ys ++ [(t1, n, x)]) := by
  have hl : (spCells ys).length = p * 3 := by rw [spCells_length, hp]
  rw [spCells_append, spCells_append, List.set_append_right _ _ (by omega), List.set_append_right _ _ (by omega), hl, Nat.add_sub_cancel_left, Nat.add_sub_cancel_left]
  rfl
theorem Own.free {w : World} {B : Nat} {e : TypeId} {size n c g : Nat} {xs : List Value} (h : Own w B e size (.slice (some ⟨g, 0, none⟩) n c) n xs) (j : Nat) : w.frozen? ⟨g, j, none⟩ = false := by
  obtain ⟨⟨h1, h2⟩, h3⟩ := h
  rcases h2 with ⟨h2, _⟩ | ⟨g', cap, cur, hv, hb, hg, hc, hm, hs, ht⟩
  · cases h2
  · injection hv with e1 e2 e3
    injection e1 with e1
    injection e1 with e1
    subst e1
    unfold World.frozen?
    simp only [hg]
    simp
theorem Own.set {w : World} {B : Nat} {e : TypeId} {size n c g : Nat} {xs : List Value} (h : Own w B e size (.slice (some ⟨g, 0, none⟩) n c) n xs) {j : Nat} (_hj : j < n * size) (u : Value) :
    Own (w.setCell ⟨g, j, none⟩ u) B e size (.slice (some ⟨g, 0, none⟩) n c) n (xs.set j u) := by
  obtain ⟨⟨h1, h2⟩, h3⟩ := h
  rcases h2 with ⟨h2, _⟩ | ⟨g', cap, cur, hv, hb, hg, hc, hm, hs, ht⟩
  · cases h2
  · injection hv with e1 e2 e3
    injection e1 with e1
    injection e1 with e1
    subst e1; subst e3
    refine ⟨⟨by rw [List.length_set]; exact h1, .inr ⟨g, c, cur.setIfInBounds j u, rfl, hb, ?_, hc, hm, by rw [Array.size_setIfInBounds]; exact hs, ?_⟩⟩, by simpa using h3⟩
    · exact heap_setCell_same w g j cur e u hg
    · rw [Array.toList_setIfInBounds, List.take_set, ht]
theorem ofR5_c (A : Option Addr) (q c : Nat) (l : List Sp) (w : World) (h : Rd w 3 (.slice A q c) q (spCells l)) (hl : l.length = q) (hq : q ≤ 100000) (ho : Ok l) :
    Calls Tryz.prog 36 #[.slice A q c] w fun e w' => ∃ v, e = .returned v ∧ Ext w w' ∧ Own w' w.heap.size 60 3 v (normL l).length (spCells (normL l)) := by
  obtain ⟨i, hi, hz0, hz1, hz2⟩ := info_parts info_sp5
  have H := Lib.hid h; have HL := Lib.hid hl; have HO := Lib.hid ho
  have hrel0 : Own (w.alloc (.cells #[] 60)) w.heap.size 60 3 (.slice (some ⟨w.heap.size, 0, none⟩) 0 0) 0 (spCells []) ∧ Below w.heap.size w (w.alloc (.cells #[] 60)) :=
    ⟨Own.made w w.heap.size 60 3 0 #[] (Nat.le_refl _) (by omega) rfl, (Below.refl _ _).alloc (Nat.le_refl _) _⟩
  have HR0 := Lib.hid hrel0
  clear h hl ho hrel0
  go_enter Tryz.func36, Tryz.ntmps36
  go_wp2_with fail
  go_loopw [3, 4] (fun o z wr => ∃ j : Nat, j ≤ q ∧ z = .int .i64 j ∧ Own wr w.heap.size 60 3 o (normL (l.take j)).length (spCells (normL (l.take j))) ∧ Below w.heap.size w wr) (fun _ z _ => q - (intOf z).toNat)
  case atStart => exact ⟨0, by omega, rfl, HR0.out.1, HR0.out.2⟩
  case round =>
    obtain ⟨j, hj, rfl, hown, hbel⟩ := hrel
    by_cases hlt : j < q
    · have hjl : j < l.length := by have := HL.out; omega
      obtain ⟨b, off, rfl, hb, q0, q1, q2⟩ := sp_at (H.out.ext hbel) HL.out hlt
      have dn : decide (j < q) = true := by rw [decide_eq_true_eq]; exact hlt
      have i0 : (0 : Int) ≤ (j : Int) := by omega
      have i1 : (j : Int) < (q : Int) := by omega
      have hst := norm_snoc_take l j hjl
      have hlen := norm_take_len l j
      have hok := HO.out.take (j + 1)
      have hokn := (HO.out.take j).norm
      have hsp := ok_step l j hjl HO.out
      obtain ⟨R1, hR1⟩ : ∃ R1, normL (l.take (j + 1)) = R1 := ⟨_, rfl⟩
      rw [hR1] at hst
      have HR1 := Lib.hid hR1
      clear hR1 hok
      obtain ⟨a1, ha1⟩ : ∃ a1, l[j].1 = a1 := ⟨_, rfl⟩
      obtain ⟨a2, ha2⟩ : ∃ a2, l[j].2.1 = a2 := ⟨_, rfl⟩
      obtain ⟨a3, ha3⟩ : ∃ a3, l[j].2.2 = a3 := ⟨_, rfl⟩
      have hlj : l[j] = (a1, a2, a3) := by rw [← ha1, ← ha2, ← ha3]
      rw [hlj] at hst hsp q0 q1 q2
      simp only at q0 q1 q2
      clear hlj ha1 ha2 ha3
      have hbx := hbel.alloc hown.2 (.cells #[.int .i64 a1, .int .i64 a2, .string a3] 60)
      by_cases hemp : emp (a1, a2, a3)
      · rw [snocN_emp _ _ hemp] at hst
        obtain ⟨e1, e2⟩ := hemp
        have e1' : a2 = 0 := e1
        have e2' := ba_empty e2
        simp only at e2'
        subst e1'; subst e2'
        have HST := Lib.hid hst
        have hox := hown.alloc (.cells #[.int .i64 a1, .int .i64 0, .string ⟨#[]⟩] 60)
        clear hst e1 e2
        go_wp2_with fail
        go_roundw
        case rel => exact ⟨j + 1, by omega, by go_num, by rw [HR1.out, HST.out]; exact hox, hbx⟩
        case measure => simp [intOf]; omega
      · have hne : (a2 == 0) = false ∨ ((a2 == 0) = true ∧ a3.toList.isEmpty = false) := by
          by_cases h2 : a2 = 0
          · right
            refine ⟨by rw [beq_iff_eq]; exact h2, ?_⟩
            rw [toList_bs]
            cases hb3 : bs a3 with
            | nil => exact absurd ⟨h2, by rw [← bs_length, hb3]; rfl⟩ hemp
            | cons x y => rfl
          · left; rw [beq_eq_false_iff_ne]; exact h2
        rcases hne with n1 | ⟨n1, n2⟩
        all_goals
          rcases norm_ends (normL (l.take j)) with hxs | hxs
          · generalize normL (l.take j) = xs at *
            obtain rfl : xs = [] := hxs
            have hst2 : R1 = [] ++ [(a1, a2, a3)] := by rw [hst, snocN_nil _ hemp]; rfl
            have HST := Lib.hid hst2
            simp only [List.length_nil] at hown
            have hox := hown.alloc (.cells #[.int .i64 a1, .int .i64 a2, .string a3] 60)
            obtain ⟨ag, cg, rfl, _⟩ := hown.len
            clear hst hst2 hemp hown
            go_wp2_with fail
            go_quiet (fail)
            obtain ⟨v', w', happ, hown', hbel'⟩ := app_new (P := Tryz.prog) 23 23 60 i _ 3 32 Tryz.underlying23 hi hz0 hz1 hz2 rfl (by omega) (by omega)
              (below_drewN hbx nq) (own_drewN hox nq) (by omega) 1 #[.int .i64 a1, .int .i64 a2, .string a3] rfl (by omega) (by simp [Value.oneCell']) 60
            rw [size_drewN, size_alloc] at happ
            have HAP := Lib.hid happ
            have hown2 : Own w' w.heap.size 60 3 v' R1.length (spCells R1) := by rw [HST.out, spCells_append, List.length_append]; exact hown'
            clear happ hown'
            go_wp2_with (at_builtin; refine wpList_append_run rfl rfl HAP.out rfl rfl ?_)
            go_roundw
            case rel => exact ⟨j + 1, by omega, by go_num, by rw [HR1.out]; exact hown2, hbel'⟩
            case measure => simp [intOf]; omega
          · generalize normL (l.take j) = xs at *
            obtain ⟨ys, t, rfl⟩ := hxs
            obtain ⟨t1, t2, t3⟩ := t
            have hst2 := hst
            rw [snocN_last _ _ _ hemp] at hst2
            obtain ⟨g, cg, rfl, hcg, hBg, hgs, hcell⟩ := hown.cells (by simp)
            have hn1 : (ys ++ [(t1, t2, t3)]).length = ys.length + 1 := by simp
            rw [hn1] at hown ⊢
            obtain ⟨p, hp⟩ : ∃ p, ys.length = p := ⟨_, rfl⟩
            rw [hp] at hown ⊢
            have hc0 : (spCells (ys ++ [(t1, t2, t3)]))[p * 3]? = some (.int .i64 t1) ∧ (spCells (ys ++ [(t1, t2, t3)]))[p * 3 + 1]? = some (.int .i64 t2) ∧ (spCells (ys ++ [(t1, t2, t3)]))[p * 3 + 2]? = some (.string t3) := by
              have h := spCells_at (ys ++ [(t1, t2, t3)]) p (by simp; omega)
              have e : (ys ++ [(t1, t2, t3)])[p]'(by simp; omega) = (t1, t2, t3) := by rw [List.getElem_append_right (by omega)]; simp [hp]
              rw [e] at h; exact h
            have x0 := ext_cell ((Ext.refl wr).alloc (.cells #[.int .i64 a1, .int .i64 a2, .string a3] 60)) (hcell _ _ hc0.1)
            have x1 := ext_cell ((Ext.refl wr).alloc (.cells #[.int .i64 a1, .int .i64 a2, .string a3] 60)) (hcell _ _ hc0.2.1)
            have x2 := ext_cell ((Ext.refl wr).alloc (.cells #[.int .i64 a1, .int .i64 a2, .string a3] 60)) (hcell _ _ hc0.2.2)
            have hox := hown.alloc (.cells #[.int .i64 a1, .int .i64 a2, .string a3] 60)
            have p0 : (0 : Int) < ((p + 1 : Nat) : Int) := by omega
            have p1 : ((p + 1 : Nat) : Int) - 1 = (p : Int) := by omega
            have p2 : (0 : Int) ≤ (p : Int) := by omega
            have p3 : (p : Int) < ((p + 1 : Nat) : Int) := by omega
            have hpj : p + 1 ≤ j := by rw [hn1] at hlen; omega
            have p4 : IntKind.i64.wrap (p : Int) = (p : Int) := by rw [IntKind.wrap_i64]; omega
            have p5 : (0 : Int) < (p : Int) + 1 := by omega
            have p6 : (p : Int) < (p : Int) + 1 := by omega
            have HP := Lib.hid hp
            clear hst hp hc0 hn1 hown hcell
            by_cases hk : t1 = a1
            · rw [if_pos hk] at hst2
              subst hk
              have HST := Lib.hid hst2
              clear hst2 hemp
              obtain ⟨s0, s1, s2, s3⟩ := hsp ys (t1, t2, t3) rfl
              simp only at s0 s1 s2 s3
              clear hsp
              go_wp2_with fail
              go_quiet (fail)
              have hx0 : Ext (wr.alloc (.cells #[.int .i64 t1, .int .i64 a2, .string a3] 60)) ((wr.alloc (.cells #[.int .i64 t1, .int .i64 a2, .string a3] 60)).drewN nq) := (Ext.refl _).drewN nq
              have z1 := box_at _ _ _ _ hx0 1 _ rfl
              have z2 := box_at _ _ _ _ hx0 2 _ rfl
              have y1 := ext_cell hx0 x1
              have y2 := ext_cell hx0 x2
              have hbx1 := below_drewN hbx nq
              have hox1 := own_drewN hox nq
              obtain ⟨G, hG⟩ : ∃ G, wr.heap.size = G := ⟨_, rfl⟩
              rw [hG] at z1 z2 hgs ⊢
              generalize (wr.alloc (.cells #[.int .i64 t1, .int .i64 a2, .string a3] 60)).drewN nq = W0 at *
              clear hx0 x0 x1 x2 hbx hox q0 q1 q2 hG hcg
              go_wp2_with fail
              refine region_tail 14 (by kernel_rfl) (by kernel_rfl) ?_
              intro W1 hW1
              simp only [List.take_succ_cons, List.take_zero, List.drop_succ_cons, List.drop_zero]
              have hx01 : Ext W0 W1 := by rw [hW1]; exact (Ext.refl _).drew
              have z1' := ext_cell hx01 z1
              have z2' := ext_cell hx01 z2
              have y1' := ext_cell hx01 y1
              have y2' := ext_cell hx01 y2
              have hox2 := hox1.ext hx01
              have hbx2 : Below w.heap.size w W1 := by rw [hW1]; exact hbx1.drew
              have fz := hox2.free (p * 3 + 1)
              have hws : IntKind.i64.wrap (t2 + a2) = t2 + a2 := by rw [IntKind.wrap_i64]; omega
              clear z1 z2 y1 y2 hbx1 hox1 hW1 hx01
              repeat still_step
              refine wpStill_nil ?_
              go_wp2_with fail
              have hox3 := hox2.set (j := p * 3 + 1) (by omega) (.int .i64 (t2 + a2))
              have hbx3 : Below w.heap.size w (W1.setCell ⟨g, p * 3 + 1, none⟩ (.int .i64 (t2 + a2))) := hbx2.setCell hBg _
              have z3 : (W1.setCell ⟨g, p * 3 + 1, none⟩ (.int .i64 (t2 + a2))).cell? ⟨G, 2, none⟩ = some (.string a3) := by
                exact (World.cell?_setCell_other _ _ _ _ (by intro e; injection e; omega)).trans z2'
              have y3 : (W1.setCell ⟨g, p * 3 + 1, none⟩ (.int .i64 (t2 + a2))).cell? ⟨g, p * 3 + 2, none⟩ = some (.string t3) := by
                exact (World.cell?_setCell_other _ _ _ _ (by intro e; injection e; omega)).trans y2'
              generalize W1.setCell ⟨g, p * 3 + 1, none⟩ (.int .i64 (t2 + a2)) = W2 at *
              clear hox2 hbx2 z1' z2' y1' y2' fz hws
              refine region_tail 14 (by kernel_rfl) (by kernel_rfl) ?_
              intro W3 hW3
              simp only [List.take_succ_cons, List.take_zero, List.drop_succ_cons, List.drop_zero]
              have hx23 : Ext W2 W3 := by rw [hW3]; exact (Ext.refl _).drew
              have z3' := ext_cell hx23 z3
              have y3' := ext_cell hx23 y3
              have hox4 := hox3.ext hx23
              have hbx4 : Below w.heap.size w W3 := by rw [hW3]; exact hbx3.drew
              have fz := hox4.free (p * 3 + 2)
              clear z3 y3 hbx3 hox3 hW3 hx23
              have hcc : ¬ 9223372036854775807 < t3.size + a3.size := by omega
              repeat still_step
              refine wpStill_nil ?_
              go_wp2_with fail
              have hox5 := hox4.set (j := p * 3 + 2) (by omega) (.string (t3 ++ a3))
              have hbx5 : Below w.heap.size w (W3.setCell ⟨g, p * 3 + 2, none⟩ (.string (t3 ++ a3))) := hbx4.setCell hBg _
              rw [spCells_set2 ys t1 t2 (t2 + a2) t3 (t3 ++ a3) p HP.out] at hox5
              have hown2 : Own (W3.setCell ⟨g, p * 3 + 2, none⟩ (.string (t3 ++ a3))) w.heap.size 60 3 (.slice (some ⟨g, 0, none⟩) (p + 1) cg) R1.length (spCells R1) := by
                rw [HST.out, List.length_append, HP.out]; exact hox5
              clear hox5 hox4 hbx4
              go_roundw
              case rel => exact ⟨j + 1, by omega, by go_num, by rw [HR1.out]; exact hown2, hbx5⟩
              case measure => simp [intOf]; omega
            · have hkb : (t1 == a1) = false := by rw [beq_eq_false_iff_ne]; exact hk
              rw [if_neg hk] at hst2
              have hst3 : R1 = (ys ++ [(t1, t2, t3)]) ++ [(a1, a2, a3)] := by rw [hst2, List.append_assoc]; rfl
              have HST := Lib.hid hst3
              have HP1 : Hid ((ys ++ [(t1, t2, t3)]).length = p + 1) := Lib.hid (by simp [HP.out])
              clear hst2 hst3 hemp hk
              go_wp2_with fail
              go_quiet (fail)
              obtain ⟨v', w', happ, hown', hbel'⟩ := app_new (P := Tryz.prog) 23 23 60 i _ 3 32 Tryz.underlying23 hi hz0 hz1 hz2 rfl (by omega) (by omega)
                (below_drewN hbx nq) (own_drewN hox nq) (by omega) 1 #[.int .i64 a1, .int .i64 a2, .string a3] rfl (by omega) (by simp [Value.oneCell']) 60
              rw [size_drewN, size_alloc] at happ
              have HAP := Lib.hid happ
              have hown2 : Own w' w.heap.size 60 3 v' R1.length (spCells R1) := by rw [HST.out, spCells_append, List.length_append, HP1.out]; exact hown'
              clear happ hown'
              go_wp2_with (at_builtin; refine wpList_append_run rfl rfl HAP.out rfl rfl ?_)
              go_roundw
              case rel => exact ⟨j + 1, by omega, by go_num, by rw [HR1.out]; exact hown2, hbel'⟩
              case measure => simp [intOf]; omega
    · obtain rfl : j = q := by omega
      have hall : l.take j = l := by rw [← HL.out]; exact List.take_length
      have dn : decide (j < j) = false := by rw [decide_eq_false_iff_not]; exact hlt
      rw [hall] at hown
      clear hlt hj hall
      go_wp2_with fail
      go_ret
      exact ⟨_, rfl, hbel, hown⟩
end Go.Proofs.YtgcaphjjigpjlaaGreatDoor
namespace Go.Proofs.YtgcaphjjigpjlaaGreatDoor
open Go.RowKit
set_option maxRecDepth 100000
def full (l : List Sp) : List Sp := l.filter fun s => ! decide (emp s)
theorem full_append (a b : List Sp) : full (a ++ b) = full a ++ full b := by simp [full]
theorem full_one_emp (s : Sp) (h : emp s) : full [s] = [] := by simp [full, h]
theorem full_one (s : Sp) (h : ¬ emp s) : full [s] = [s] := by simp [full, h]
theorem full_len (l : List Sp) : (full l).length ≤ l.length := List.length_filter_le _ _
theorem full_mem {l : List Sp} {s : Sp} (h : s ∈ full l) : s ∈ l ∧ ¬ emp s := by
  have := List.mem_filter.1 h
  exact ⟨this.1, by simpa using this.2⟩
theorem full_self (l : List Sp) (h : ∀ s ∈ l, ¬ emp s) : full l = l := by
  unfold full
  rw [List.filter_eq_self]
  intro s hs
  simp [h s hs]
theorem full_take_emp (l : List Sp) (j : Nat) (h : j < l.length) (he : emp l[j]) : full (l.take (j + 1)) = full (l.take j) := by
  rw [List.take_add_one, List.getElem?_eq_getElem h, Option.toList_some, full_append, full_one_emp _ he, List.append_nil]
theorem full_take (l : List Sp) (j : Nat) (h : j < l.length) (he : ¬ emp l[j]) : full (l.take (j + 1)) = full (l.take j) ++ [l[j]] := by
  rw [List.take_add_one, List.getElem?_eq_getElem h, Option.toList_some, full_append, full_one _ he]
theorem norm_full (l : List Sp) : normL (full l) = normL l := by
  induction l with
  | nil => rfl
  | cons a t ih =>
    have e : full (a :: t) = full [a] ++ full t := full_append [a] t
    by_cases h : emp a
    · rw [e, full_one_emp _ h, List.nil_append, ih]
      show _ = normC a (normL t)
      rw [normC_emp _ _ h]
    · rw [e, full_one _ h]
      show normC a (normL (full t)) = normC a (normL t)
      rw [ih]
theorem Ok.full {l : List Sp} (h : Ok l) : Ok (full l) :=
  ⟨fun s hs => h.pos s (full_mem hs).1, by rw [← sumN_norm, norm_full, sumN_norm]; exact h.n, by rw [← sumT_norm, norm_full, sumT_norm]; exact h.t⟩
theorem Ok.drop {l : List Sp} (h : Ok l) (j : Nat) : Ok (l.drop j) := by
  have e := List.take_append_drop j l
  have h1 : Go.Proofs.YtgcaphjjigpjlaaGreatDoor.pos (l.take j) := fun s hs => h.pos s (List.mem_of_mem_take hs)
  have h2 : sumN (l.take j) + sumN (l.drop j) = sumN l := by rw [← sumN_append, e]
  have h3 : sumT (l.take j) + sumT (l.drop j) = sumT l := by rw [← sumT_append, e]
  have := sumN_pos _ h1; have := h.n; have := h.t
  exact ⟨fun s hs => h.pos s (List.mem_of_mem_drop hs), by omega, by omega⟩
def catT (l : List Sp) : ByteArray := l.foldr (fun s r => s.2.2 ++ r) ⟨#[]⟩
theorem catT_append (a b : List Sp) : catT (a ++ b) = catT a ++ catT b := by
  induction a with
  | nil => show catT b = ⟨#[]⟩ ++ catT b; rw [nil_ba]
  | cons s t ih =>
    show s.2.2 ++ catT (t ++ b) = (s.2.2 ++ catT t) ++ catT b
    rw [ih, ba_assoc]
theorem catT_one (s : Sp) : catT [s] = s.2.2 := ba_nil _
theorem catT_size (l : List Sp) : (catT l).size = sumT l := by
  induction l with
  | nil => rfl
  | cons s t ih =>
    show (s.2.2 ++ catT t).size = _
    rw [ba_size, ih]; simp [sumT]
theorem sumN_take (l : List Sp) (j : Nat) (h : j < l.length) : sumN (l.take (j + 1)) = sumN (l.take j) + l[j].2.1 := by
  rw [List.take_add_one, List.getElem?_eq_getElem h, Option.toList_some, sumN_append]; simp [sumN]
theorem catT_take (l : List Sp) (j : Nat) (h : j < l.length) : catT (l.take (j + 1)) = catT (l.take j) ++ l[j].2.2 := by
  rw [List.take_add_one, List.getElem?_eq_getElem h, Option.toList_some, catT_append, catT_one]
theorem norm_head (l : List Sp) (h : ∀ s ∈ l, ¬ emp s) : (l = [] ∧ normL l = []) ∨ ∃ s r t r', l = s :: r ∧ normL l = t :: r' ∧ t.1 = s.1 := by
  cases l with
  | nil => exact .inl ⟨rfl, rfl⟩
  | cons s r =>
    right
    have hs := h s (by simp)
    refine ⟨s, r, ?_⟩
    cases hr : normL r with
    | nil => exact ⟨s, [], rfl, by show normC s (normL r) = _; rw [hr, normC_nil _ hs], rfl⟩
    | cons t r' =>
      by_cases e : s.1 = t.1
      · exact ⟨mrg s t, r', rfl, by show normC s (normL r) = _; rw [hr, normC_cons _ _ _ hs, if_pos e], rfl⟩
      · exact ⟨s, t :: r', rfl, by show normC s (normL r) = _; rw [hr, normC_cons _ _ _ hs, if_neg e], rfl⟩
theorem norm_run (k : Int) (r : List Sp) (hr : ∀ s ∈ r, ¬ emp s) (hd : ∀ s t, r = s :: t → s.1 ≠ k) :
    ∀ l : List Sp, l ≠ [] → (∀ s ∈ l, ¬ emp s) → (∀ s ∈ l, s.1 = k) → normL (l ++ r) = (k, sumN l, catT l) :: normL r := by
  intro l
  induction l with
  | nil => intro h; exact absurd rfl h
  | cons s t ih =>
    intro _ h1 h2
    have hs := h1 s (by simp)
    have hk : s.1 = k := h2 s (by simp)
    obtain ⟨s1, s2, s3⟩ := s
    simp only at hk
    subst hk
    show normC _ (normL (t ++ r)) = _
    cases t with
    | nil =>
      have e1 : sumN [(s1, s2, s3)] = s2 := by simp [sumN]
      rw [List.nil_append, e1, catT_one]
      rcases norm_head r hr with ⟨_, h⟩ | ⟨a, b, c, d, ha, hc, hac⟩
      · rw [h, normC_nil _ hs]
      · rw [hc, normC_cons _ _ _ hs, if_neg (fun e => hd a b ha (by rw [← hac]; exact e.symm))]
    | cons u t =>
      rw [ih (by simp) (fun x hx => h1 x (by simp [List.mem_cons.1 hx])) (fun x hx => h2 x (by simp [List.mem_cons.1 hx]))]
      rw [normC_cons _ _ _ hs, if_pos rfl]
      have e1 : sumN ((s1, s2, s3) :: u :: t) = s2 + sumN (u :: t) := by simp [sumN]
      rw [e1]
      rfl
def runOf (l : List Sp) (n : Nat) : Prop := 1 ≤ n ∧ n ≤ l.length ∧ (∀ i (h : i < l.length), i < n → l[i].1 = (l[0]'(by omega)).1) ∧ ∀ h : n < l.length, l[n].1 ≠ (l[0]'(by omega)).1
theorem runOf_norm (l : List Sp) (n : Nat) (h : runOf l n) (hf : ∀ s ∈ l, ¬ emp s) : ∃ k, (∀ s ∈ l.take n, s.1 = k) ∧ normL l = (k, sumN (l.take n), catT (l.take n)) :: normL (l.drop n) := by
  obtain ⟨h1, h2, h3, h4⟩ := h
  have hk : ∀ s ∈ l.take n, s.1 = (l[0]'(by omega)).1 := by
    intro s hs
    obtain ⟨i, hi, rfl⟩ := List.mem_iff_getElem.1 hs
    rw [List.length_take] at hi
    rw [List.getElem_take]
    exact h3 i (by omega) (by omega)
  refine ⟨(l[0]'(by omega)).1, hk, ?_⟩
  have e := norm_run (l[0]'(by omega)).1 (l.drop n) (fun s hs => hf s (List.mem_of_mem_drop hs)) (fun s t hst => ?_) (l.take n) (fun e => ?_) (fun s hs => hf s (List.mem_of_mem_take hs)) hk
  · rw [List.take_append_drop] at e; exact e
  · have hn : n < l.length := by
      rcases Nat.lt_or_ge n l.length with h | h
      · exact h
      · rw [List.drop_eq_nil_of_le h] at hst; cases hst
    rw [List.drop_eq_getElem_cons hn] at hst
    injection hst with e1 e2
    rw [← e1]; exact h4 hn
  · have : (l.take n).length = 0 := by rw [e]; rfl
    rw [List.length_take] at this; omega
end Go.Proofs.YtgcaphjjigpjlaaGreatDoor
namespace Go.Proofs.YtgcaphjjigpjlaaGreatDoor
open Go.RowKit
set_option maxRecDepth 100000
theorem spCells_one (l : List Sp) : ∀ u ∈ spCells l, u.oneCell' = true := by
  intro u hu
  unfold spCells at hu
  obtain ⟨s, _, hs⟩ := List.mem_flatMap.1 hu
  simp only [List.mem_cons, List.not_mem_nil, or_false] at hs
  rcases hs with rfl | rfl | rfl <;> rfl
theorem inL_append (a b : List Sp) : inL (a ++ b) = inL a + inL b := by simp [inL]
theorem errL_take (l : List Sp) (j : Nat) (h : j < l.length) : errL (l.take (j + 1)) = if errL (l.take j) = 0 then mayS l[j].1 l[j].2.1 l[j].2.2 else errL (l.take j) := by
  induction l generalizing j with
  | nil => simp at h
  | cons a t ih =>
    cases j with
    | zero =>
      show (if mayS a.1 a.2.1 a.2.2 = 0 then (0 : Int) else mayS a.1 a.2.1 a.2.2) = if (0 : Int) = 0 then mayS a.1 a.2.1 a.2.2 else 0
      rw [if_pos rfl]
      split
      · rename_i h2; exact h2.symm
      · rfl
    | succ j =>
      rw [List.take_succ_cons, List.take_succ_cons, errL, errL]
      split
      · exact ih j (by simpa using h)
      · rfl
theorem errL_pre (l : List Sp) (j : Nat) (h : errL (l.take j) ≠ 0) : errL l = errL (l.take j) := by
  induction l generalizing j with
  | nil => simp
  | cons a t ih =>
    cases j with
    | zero => exact absurd rfl h
    | succ j =>
      rw [List.take_succ_cons, errL] at h ⊢
      rw [errL]
      split
      · rename_i h2; rw [if_pos h2] at h; exact ih j h
      · rfl
theorem mayS_put {cs : List Nat} (h : ∀ c ∈ cs, IsCp c) : mayS 2 0 (mkS (encs cs)) = 0 := by
  unfold mayS; rw [if_neg (by omega), if_pos rfl, if_pos rfl, bs_mkS, dec_encs h]; rfl
theorem fitRun_may (l : List Sp) (n : Int) (h0 : 0 ≤ n) (j : Nat) (hj : j ≤ l.length) : (∀ s ∈ (fitRun (l.take j) n).1, mayS s.1 s.2.1 s.2.2 = 0) ∧ inL (fitRun (l.take j) n).1 = n - (fitRun (l.take j) n).2 := by
  induction j with
  | zero => exact ⟨by simp [fitRun], by simp [fitRun, inL]⟩
  | succ j ih =>
    obtain ⟨h1, h2⟩ := ih (by omega)
    have h3 := fitRun_left l n h0 j (by omega)
    rw [fitRun_take l n j hj]
    generalize (fitRun (l.take j) n).1 = xs at *
    generalize (fitRun (l.take j) n).2 = m at *
    have hone : mayS (fitOne l[j] m).1.1 (fitOne l[j] m).1.2.1 (fitOne l[j] m).1.2.2 = 0 ∧ inS (fitOne l[j] m).1.1 (fitOne l[j] m).1.2.1 = m - (fitOne l[j] m).2 := by
      unfold fitOne
      split
      · refine ⟨?_, ?_⟩
        · exact mayS_put (fitC_cp _)
        · unfold inS; simp only; rw [if_neg (by omega)]; omega
      · rename_i hk
        have e : 1 + l[j].1 % 3 = 1 ∨ 1 + l[j].1 % 3 = 3 := by omega
        refine ⟨?_, ?_⟩
        · unfold mayS; simp only; rw [if_pos e, if_neg (by omega)]; rfl
        · unfold inS; simp only; rw [if_pos e]; omega
    refine ⟨?_, ?_⟩
    · intro s hs
      rcases List.mem_append.1 hs with hs | hs
      · exact h1 s hs
      · rw [List.mem_singleton] at hs; subst hs; exact hone.1
    · rw [inL_append, h2]
      have e : inL [(fitOne l[j] m).1] = m - (fitOne l[j] m).2 := by rw [← hone.2]; simp [inL]
      rw [e]; simp only; omega
theorem fitL_all (l : List Sp) (n : Int) (h0 : 0 ≤ n) (h1 : n ≤ 1048576) : (∀ s ∈ fitL l n, mayS s.1 s.2.1 s.2.2 = 0) ∧ inL (fitL l n) = n := by
  have e12 : l.take (min 12 l.length) = l.take 12 := List.take_eq_take_min.symm
  have h2 := fitRun_may l n h0 (min 12 l.length) (by omega)
  have h3 := fitRun_left l n h0 (min 12 l.length) (by omega)
  rw [e12] at h2 h3
  unfold fitL
  generalize (fitRun (l.take 12) n).1 = xs at *
  generalize (fitRun (l.take 12) n).2 = m at *
  by_cases hm : 0 < m
  · rw [if_pos hm]
    refine ⟨?_, ?_⟩
    · intro s hs
      rcases List.mem_append.1 hs with hs | hs
      · exact h2.1 s hs
      · rw [List.mem_singleton] at hs; subst hs
        unfold mayS; simp only; rw [if_pos (by simp), if_neg (by omega)]; rfl
    · rw [inL_append, h2.2]; simp [inL, inS]
  · rw [if_neg hm, List.append_nil]
    exact ⟨h2.1, by rw [h2.2]; omega⟩
theorem fitL_len (l : List Sp) (n : Int) : (fitL l n).length ≤ 13 := by
  have e12 : l.take (min 12 l.length) = l.take 12 := List.take_eq_take_min.symm
  have h := fitRun_len l n (min 12 l.length) (by omega)
  rw [e12] at h
  unfold fitL
  rw [List.length_append, h]
  split
  · simp; omega
  · simp; omega
theorem fitOne_text (s : Sp) (m : Int) : (fitOne s m).1.2.2.size ≤ 24 := by
  unfold fitOne
  split
  · simp only
    rw [size_mkS]
    have h1 := encs_le (fitC ((bs s.2.2).take 6))
    have h2 := fitC_length ((bs s.2.2).take 6)
    have h3 : ((bs s.2.2).take 6).length ≤ 6 := by rw [List.length_take]; omega
    omega
  · exact Nat.zero_le _
theorem fitRun_text (l : List Sp) (n : Int) : ∀ s ∈ (fitRun l n).1, s.2.2.size ≤ 24 := by
  have key : ∀ (l : List Sp) (r : List Sp × Int), (∀ s ∈ r.1, s.2.2.size ≤ 24) → ∀ s ∈ (l.foldl (fun r s => (r.1 ++ [(fitOne s r.2).1], (fitOne s r.2).2)) r).1, s.2.2.size ≤ 24 := by
    intro l
    induction l with
    | nil => intro r h; exact h
    | cons a t ih =>
      intro r h
      rw [List.foldl_cons]
      apply ih
      intro s hs
      rcases List.mem_append.1 hs with hs | hs
      · exact h s hs
      · rw [List.mem_singleton] at hs; subst hs; exact fitOne_text _ _
  exact key l ([], n) (by simp)
theorem fitL_text (l : List Sp) (n : Int) : ∀ s ∈ fitL l n, s.2.2.size ≤ 24 := by
  intro s hs
  unfold fitL at hs
  rcases List.mem_append.1 hs with hs | hs
  · exact fitRun_text _ _ s hs
  · split at hs
    · rw [List.mem_singleton] at hs; subst hs; exact Nat.zero_le _
    · simp at hs
theorem may_pos (s : Sp) (h : mayS s.1 s.2.1 s.2.2 = 0) : 0 ≤ s.2.1 ∧ s.2.1 ≤ 1048576 ∧ inS s.1 s.2.1 = s.2.1 := by
  unfold mayS at h
  split at h
  · rename_i hk
    split at h
    · omega
    · rename_i hn
      exact ⟨by omega, by omega, by unfold inS; rw [if_pos hk]⟩
  · rename_i hk
    split at h
    · split at h
      · rename_i h0
        rw [h0]
        exact ⟨by omega, by omega, by unfold inS; rw [if_neg hk]⟩
      · omega
    · omega
theorem may_sum (l : List Sp) (h : ∀ s ∈ l, mayS s.1 s.2.1 s.2.2 = 0) : pos l ∧ (l.map fun s => s.2.1).sum = inL l := by
  refine ⟨fun s hs => (may_pos s (h s hs)).1, ?_⟩
  unfold inL
  congr 1
  apply List.map_congr_left
  intro s hs
  exact (may_pos s (h s hs)).2.2.symm
end Go.Proofs.YtgcaphjjigpjlaaGreatDoor
namespace Go.Proofs.YtgcaphjjigpjlaaGreatDoor
open Go.RowKit
set_option maxRecDepth 100000
theorem inS_mrg (s t : Sp) (h : s.1 = t.1) : inS (mrg s t).1 (mrg s t).2.1 = inS s.1 s.2.1 + inS t.1 t.2.1 := by
  unfold mrg inS; simp only; rw [← h]; split <;> omega
theorem inL_cons (s : Sp) (l : List Sp) : inL (s :: l) = inS s.1 s.2.1 + inL l := rfl
theorem outL_cons (s : Sp) (l : List Sp) : outL (s :: l) = outS s.1 s.2.1 s.2.2 + outL l := rfl
theorem inL_normC (s : Sp) (r : List Sp) : inL (normC s r) = inS s.1 s.2.1 + inL r := by
  by_cases hs : emp s
  · rw [normC_emp _ _ hs]
    have e : inS s.1 s.2.1 = 0 := by unfold inS; rw [hs.1]; split <;> rfl
    omega
  · cases r with
    | nil => rw [normC_nil _ hs]; rfl
    | cons t r =>
      rw [normC_cons _ _ _ hs]
      split
      · rename_i hk; rw [inL_cons, inL_cons, inS_mrg s t hk]; omega
      · rfl
theorem inL_norm (l : List Sp) : inL (normL l) = inL l := by
  induction l with
  | nil => rfl
  | cons a t ih => show inL (normC a (normL t)) = _; rw [inL_normC, ih]; rfl
theorem may_text {s : Sp} (h : mayS s.1 s.2.1 s.2.2 = 0) : (s.1 = 2 ∧ s.2.1 = 0 ∧ ∃ cs, dec (bs s.2.2) = some cs) ∨ ((s.1 = 1 ∨ s.1 = 3) ∧ 0 ≤ s.2.1 ∧ s.2.1 ≤ 1048576 ∧ s.2.2 = ⟨#[]⟩) := by
  unfold mayS at h
  split at h
  · rename_i hk
    split at h
    · omega
    · split at h
      · rename_i hn he
        refine .inr ⟨hk, by omega, by omega, ba_empty ?_⟩
        rw [← bs_length, List.isEmpty_iff.1 he]; rfl
      · omega
  · split at h
    · rename_i hk
      split at h
      · rename_i h0
        split at h
        · rename_i hd
          exact .inl ⟨hk, h0, Option.isSome_iff_exists.1 hd⟩
        · omega
      · omega
    · omega
theorem dec_cat {a b : ByteArray} {cs ds : List Nat} (h1 : dec (bs a) = some cs) (h2 : dec (bs b) = some ds) : dec (bs (a ++ b)) = some (cs ++ ds) := by
  obtain ⟨c1, e1⟩ := dec_some h1
  obtain ⟨c2, e2⟩ := dec_some h2
  rw [bs_append, e1, e2, ← encs_append]
  exact dec_encs (fun c hc => (List.mem_append.1 hc).elim (c1 c) (c2 c))
theorem cntF_some {l : List UInt8} {cs : List Nat} (h : dec l = some cs) : cntF l = (cs.length : Int) := by unfold cntF; rw [h]
theorem outS_mrg (s t : Sp) (h : s.1 = t.1) (hs : mayS s.1 s.2.1 s.2.2 = 0) (ht : mayS t.1 t.2.1 t.2.2 = 0) : outS (mrg s t).1 (mrg s t).2.1 (mrg s t).2.2 = outS s.1 s.2.1 s.2.2 + outS t.1 t.2.1 t.2.2 := by
  rcases may_text hs with ⟨k1, n1, cs, d1⟩ | ⟨k1, _, _, t1⟩
  · rcases may_text ht with ⟨k2, n2, ds, d2⟩ | ⟨k2, _, _, t2⟩
    · unfold mrg outS
      simp only
      rw [k1, k2, if_neg (show ¬ (2 : Int) = 1 by omega), if_pos rfl, if_neg (show ¬ (2 : Int) = 1 by omega), if_pos rfl, if_neg (show ¬ (2 : Int) = 1 by omega), if_pos rfl, cntF_some d1, cntF_some d2, cntF_some (dec_cat d1 d2), List.length_append]
      omega
    · omega
  · unfold mrg outS
    simp only
    rw [← h]
    rcases k1 with k | k
    · rw [k, if_pos rfl, if_pos rfl, if_pos rfl]
    · rw [k, if_neg (by omega), if_neg (by omega), if_neg (by omega), if_neg (by omega), if_neg (by omega), if_neg (by omega)]; rfl
theorem outS_emp (s : Sp) (h : emp s) : outS s.1 s.2.1 s.2.2 = 0 := by
  unfold outS
  rw [h.1, ba_empty h.2]
  split
  · rfl
  · split
    · rfl
    · rfl
theorem outL_normC (s : Sp) (r : List Sp) (hs : mayS s.1 s.2.1 s.2.2 = 0) (hr : ∀ u ∈ r, mayS u.1 u.2.1 u.2.2 = 0) : outL (normC s r) = outS s.1 s.2.1 s.2.2 + outL r := by
  by_cases he : emp s
  · rw [normC_emp _ _ he, outS_emp s he]; omega
  · cases r with
    | nil => rw [normC_nil _ he]; rfl
    | cons t r =>
      rw [normC_cons _ _ _ he]
      split
      · rename_i hk; rw [outL_cons, outL_cons, outS_mrg s t hk hs (hr t (by simp))]; omega
      · rfl
theorem mayS_mrg (s t : Sp) (h : s.1 = t.1) (hs : mayS s.1 s.2.1 s.2.2 = 0) (ht : mayS t.1 t.2.1 t.2.2 = 0) (hb : s.2.1 + t.2.1 ≤ 1048576) : mayS (mrg s t).1 (mrg s t).2.1 (mrg s t).2.2 = 0 := by
  rcases may_text hs with ⟨k1, n1, cs, d1⟩ | ⟨k1, p1, _, t1⟩
  · rcases may_text ht with ⟨k2, n2, ds, d2⟩ | ⟨k2, _, _, t2⟩
    · unfold mrg mayS
      simp only
      rw [k1, if_neg (by omega), if_pos rfl, n1, n2, if_pos (by omega), dec_cat d1 d2]; rfl
    · omega
  · rcases may_text ht with ⟨k2, n2, ds, d2⟩ | ⟨k2, p2, _, t2⟩
    · omega
    · unfold mrg mayS
      simp only
      rw [if_pos k1, if_neg (by omega), t1, t2, ba_nil]; rfl
theorem le_sumN (l : List Sp) (h : pos l) : ∀ s ∈ l, s.2.1 ≤ sumN l := by
  induction l with
  | nil => intro s hs; cases hs
  | cons a t ih =>
    intro s hs
    have ht : pos t := fun s hs => h s (by simp [hs])
    have h1 := sumN_pos t ht
    have h2 := h a (by simp)
    have e : sumN (a :: t) = a.2.1 + sumN t := rfl
    rcases List.mem_cons.1 hs with rfl | hs
    · omega
    · have := ih ht s hs; omega
theorem le_sumT (l : List Sp) : ∀ s ∈ l, s.2.2.size ≤ sumT l := by
  induction l with
  | nil => intro s hs; cases hs
  | cons a t ih =>
    intro s hs
    have e : sumT (a :: t) = a.2.2.size + sumT t := rfl
    rcases List.mem_cons.1 hs with rfl | hs
    · omega
    · have := ih s hs; omega
theorem norm_may (l : List Sp) (h : ∀ s ∈ l, mayS s.1 s.2.1 s.2.2 = 0) (hb : sumN l ≤ 1048576) : ∀ s ∈ normL l, mayS s.1 s.2.1 s.2.2 = 0 := by
  induction l with
  | nil => intro s hs; cases hs
  | cons a t ih =>
    have ha := h a (by simp)
    have ht : ∀ s ∈ t, mayS s.1 s.2.1 s.2.2 = 0 := fun s hs => h s (by simp [hs])
    have hpt := (may_sum t ht).1
    have hpa := may_pos a ha
    have e : sumN (a :: t) = a.2.1 + sumN t := rfl
    have ih' := ih ht (by omega)
    have hn := norm_pos t hpt
    have hsn := sumN_norm t
    show ∀ s ∈ normC a (normL t), _
    generalize normL t = r at *
    by_cases he : emp a
    · rw [normC_emp _ _ he]; exact ih'
    · cases r with
      | nil => rw [normC_nil _ he]; intro s hs; rw [List.mem_singleton] at hs; subst hs; exact ha
      | cons u r =>
        rw [normC_cons _ _ _ he]
        split
        · rename_i hk
          intro s hs
          rcases List.mem_cons.1 hs with rfl | hs
          · have := le_sumN _ hn u (by simp)
            exact mayS_mrg a u hk ha (ih' u (by simp)) (by omega)
          · exact ih' s (by simp [hs])
        · intro s hs
          rcases List.mem_cons.1 hs with rfl | hs
          · exact ha
          · exact ih' s hs
theorem outL_norm (l : List Sp) (h : ∀ s ∈ l, mayS s.1 s.2.1 s.2.2 = 0) (hb : sumN l ≤ 1048576) : outL (normL l) = outL l := by
  induction l with
  | nil => rfl
  | cons a t ih =>
    have ht : ∀ s ∈ t, mayS s.1 s.2.1 s.2.2 = 0 := fun s hs => h s (by simp [hs])
    have e : sumN (a :: t) = a.2.1 + sumN t := rfl
    have hpa := may_pos a (h a (by simp))
    show outL (normC a (normL t)) = _
    rw [outL_normC a _ (h a (by simp)) (norm_may t ht (by omega)), ih ht (by omega)]; rfl
theorem mayL_ok (l : List Sp) (h : ∀ s ∈ l, mayS s.1 s.2.1 s.2.2 = 0) (h0 : 0 ≤ inL l) (h1 : inL l ≤ 1048576) : mayL l = 0 := by
  have hw : wrap64 (inL l) = inL l := by unfold wrap64; omega
  unfold mayL
  rw [errL_all _ h, if_pos rfl, hw, if_neg (by omega)]
end Go.Proofs.YtgcaphjjigpjlaaGreatDoor
namespace Go.Proofs.YtgcaphjjigpjlaaGreatDoor
set_option maxRecDepth 100000
inductive Tok where
  | ins (c : Nat)
  | keep
  | del
deriving DecidableEq
def tokS (s : Sp) : List Tok := if s.1 = 2 then ((dec (bs s.2.2)).getD []).map Tok.ins else List.replicate s.2.1.toNat (if s.1 = 3 then Tok.del else Tok.keep)
def tok (l : List Sp) : List Tok := l.flatMap tokS
def one : Tok → Sp
  | .ins c => (2, 0, mkS (enc1 c))
  | .keep => (1, 1, ⟨#[]⟩)
  | .del => (3, 1, ⟨#[]⟩)
def spT (ts : List Tok) : List Sp := normL (ts.map one)
def OkW (s : Sp) : Prop := (s.1 = 2 ∧ s.2.1 = 0 ∧ ∃ cs, dec (bs s.2.2) = some cs) ∨ ((s.1 = 1 ∨ s.1 = 3) ∧ 0 ≤ s.2.1 ∧ s.2.2 = ⟨#[]⟩)
def OkT (ts : List Tok) : Prop := ∀ c, Tok.ins c ∈ ts → IsCp c
theorem okW_of_may {s : Sp} (h : mayS s.1 s.2.1 s.2.2 = 0) : OkW s := by
  rcases may_text h with h | ⟨h1, h2, _, h4⟩
  · exact .inl h
  · exact .inr ⟨h1, h2, h4⟩
theorem OkW.nonneg {s : Sp} (h : OkW s) : 0 ≤ s.2.1 := by
  rcases h with ⟨_, h, _⟩ | ⟨_, h, _⟩ <;> omega
theorem tok_nil : tok [] = [] := rfl
theorem tok_cons (s : Sp) (r : List Sp) : tok (s :: r) = tokS s ++ tok r := rfl
theorem tok_append (a b : List Sp) : tok (a ++ b) = tok a ++ tok b := by simp [tok]
theorem tokS_text (t : ByteArray) (n : Int) {cs : List Nat} (h : dec (bs t) = some cs) : tokS (2, n, t) = cs.map Tok.ins := by simp [tokS, h]
theorem tokS_num (k n : Int) (t : ByteArray) (hk : k ≠ 2) : tokS (k, n, t) = List.replicate n.toNat (if k = 3 then Tok.del else Tok.keep) := by simp [tokS, hk]
theorem tokS_emp (s : Sp) (h : emp s) : tokS s = [] := by
  obtain ⟨k, n, t⟩ := s
  obtain ⟨h1, h2⟩ := h
  simp only at h1 h2
  subst h1
  have ht : t = ⟨#[]⟩ := ba_empty h2
  subst ht
  by_cases hk : k = 2
  · subst hk; rfl
  · rw [tokS_num _ _ _ hk]; rfl
theorem tokS_mrg (s t : Sp) (hk : s.1 = t.1) (hs : OkW s) (ht : OkW t) : tokS (mrg s t) = tokS s ++ tokS t := by
  obtain ⟨k, n, a⟩ := s
  obtain ⟨k', m, b⟩ := t
  simp only at hk
  subst hk
  rcases hs with ⟨h1, h2, cs, h3⟩ | ⟨h1, h2, h3⟩
  · simp only at h1 h2 h3
    subst h1; subst h2
    rcases ht with ⟨_, g2, ds, g3⟩ | ⟨g1, _⟩
    · simp only at g2 g3
      subst g2
      show tokS (2, 0 + 0, a ++ b) = _
      rw [tokS_text _ _ (dec_cat h3 g3), tokS_text _ _ h3, tokS_text _ _ g3, List.map_append]
    · simp only at g1; omega
  · simp only at h1 h2 h3
    rcases ht with ⟨g1, _⟩ | ⟨_, g2, g3⟩
    · simp only at g1; omega
    · simp only at g2 g3
      show tokS (k, n + m, a ++ b) = _
      rw [tokS_num _ _ _ (by omega), tokS_num _ _ _ (by omega), tokS_num _ _ _ (by omega), Int.toNat_add h2 g2, List.replicate_append_replicate]
theorem okW_mrg (s t : Sp) (hk : s.1 = t.1) (hs : OkW s) (ht : OkW t) : OkW (mrg s t) := by
  obtain ⟨k, n, a⟩ := s
  obtain ⟨k', m, b⟩ := t
  simp only at hk
  subst hk
  rcases hs with ⟨h1, h2, cs, h3⟩ | ⟨h1, h2, h3⟩
  · simp only at h1 h2 h3
    rcases ht with ⟨_, g2, ds, g3⟩ | ⟨g1, _⟩
    · simp only at g2 g3
      exact .inl ⟨h1, by simp only [mrg]; omega, _, dec_cat h3 g3⟩
    · simp only at g1; omega
  · simp only at h1 h2 h3
    rcases ht with ⟨g1, _⟩ | ⟨_, g2, g3⟩
    · simp only at g1; omega
    · simp only at g2 g3
      refine .inr ⟨h1, by simp only [mrg]; omega, ?_⟩
      simp only [mrg]
      rw [h3, g3]; rfl
theorem normC_okW (s : Sp) (r : List Sp) (hs : OkW s) (hr : ∀ x ∈ r, OkW x) : (∀ x ∈ normC s r, OkW x) ∧ tok (normC s r) = tokS s ++ tok r := by
  by_cases he : emp s
  · rw [normC_emp _ _ he, tokS_emp _ he]
    exact ⟨hr, rfl⟩
  · cases r with
    | nil =>
      rw [normC_nil _ he]
      exact ⟨fun x hx => by rw [List.mem_singleton] at hx; subst hx; exact hs, rfl⟩
    | cons t r =>
      have ht := hr t (List.mem_cons_self ..)
      rw [normC_cons _ _ _ he]
      by_cases hk : s.1 = t.1
      · rw [if_pos hk]
        refine ⟨fun x hx => ?_, by rw [tok_cons, tokS_mrg _ _ hk hs ht, tok_cons, List.append_assoc]⟩
        rcases List.mem_cons.1 hx with rfl | hx
        · exact okW_mrg _ _ hk hs ht
        · exact hr x (List.mem_cons_of_mem _ hx)
      · rw [if_neg hk]
        refine ⟨fun x hx => ?_, rfl⟩
        rcases List.mem_cons.1 hx with rfl | hx
        · exact hs
        · exact hr x hx
theorem norm_okW (l : List Sp) (h : ∀ s ∈ l, OkW s) : (∀ x ∈ normL l, OkW x) ∧ tok (normL l) = tok l := by
  induction l with
  | nil => exact ⟨fun x hx => (by cases hx), rfl⟩
  | cons s r ih =>
    have h1 := ih fun x hx => h x (List.mem_cons_of_mem _ hx)
    have h2 := normC_okW s (normL r) (h s (List.mem_cons_self ..)) h1.1
    exact ⟨h2.1, by show tok (normC s (normL r)) = _; rw [h2.2, h1.2, tok_cons]⟩
theorem tok_norm (l : List Sp) (h : ∀ s ∈ l, OkW s) : tok (normL l) = tok l := (norm_okW l h).2
theorem num_one (k : Int) (r : List Sp) (n : Nat) : normC (k, (n : Int), ⟨#[]⟩) r = (List.replicate n (k, (1 : Int), (⟨#[]⟩ : ByteArray))).foldr normC r := by
  induction n with
  | zero => rw [normC_emp _ _ ⟨rfl, rfl⟩]; rfl
  | succ n ih =>
    rw [List.replicate_succ, List.foldr_cons, ← ih]
    by_cases h0 : n = 0
    · subst h0
      rw [normC_emp (k, ((0 : Nat) : Int), ⟨#[]⟩) r ⟨rfl, rfl⟩]; rfl
    · have e := normC_two (k, 1, ⟨#[]⟩) (k, (n : Int), ⟨#[]⟩) r (fun h => by have := h.1; simp only at this; omega) (fun h => by have := h.1; simp only at this; omega) rfl (by simp only; omega) (by simp only; omega)
      rw [← e]
      unfold mrg
      simp only
      rw [ba_nil, show (1 : Int) + (n : Int) = ((n + 1 : Nat) : Int) by omega]
theorem text_one (r : List Sp) (cs : List Nat) (hc : ∀ c ∈ cs, IsCp c) : normC (2, 0, mkS (encs cs)) r = (cs.map fun c => ((2 : Int), (0 : Int), mkS (enc1 c))).foldr normC r := by
  induction cs with
  | nil => rw [normC_emp _ _ ⟨rfl, rfl⟩]; rfl
  | cons c cs ih =>
    rw [List.map_cons, List.foldr_cons, ← ih fun x hx => hc x (List.mem_cons_of_mem _ hx)]
    have hne : ∀ d, ¬ emp (2, 0, mkS (enc1 d)) := fun d h => by
      have h2 := h.2
      simp only at h2
      rw [size_mkS, enc1_length] at h2
      have := wid_pos d; omega
    by_cases h0 : cs = []
    · subst h0
      rw [encs_single, normC_emp (2, 0, mkS (encs [])) r ⟨rfl, rfl⟩]
    · have hne2 : ¬ emp (2, 0, mkS (encs cs)) := fun h => by
        have h2 := h.2
        simp only at h2
        rw [size_mkS] at h2
        have := length_le_encs cs
        exact h0 (List.eq_nil_of_length_eq_zero (by omega))
      rw [← normC_two _ _ r (hne c) hne2 rfl (Int.le_refl _) (Int.le_refl _)]
      unfold mrg
      simp only
      rw [encs_cons, Int.add_zero]
      congr 3
theorem span_one (s : Sp) (r : List Sp) (h : OkW s) : normC s r = ((tokS s).map one).foldr normC r := by
  obtain ⟨k, n, t⟩ := s
  rcases h with ⟨h1, h2, cs, h3⟩ | ⟨h1, h2, h3⟩
  · simp only at h1 h2 h3
    subst h1; subst h2
    obtain ⟨hc, he⟩ := dec_some h3
    rw [tokS_text _ _ h3, List.map_map, mkS_of he, text_one r cs hc]
    rfl
  · simp only at h1 h2 h3
    subst h3
    rw [tokS_num _ _ _ (by omega), List.map_replicate]
    have hn := num_one k r n.toNat
    rw [Int.toNat_of_nonneg h2] at hn
    rw [hn]
    rcases h1 with rfl | rfl <;> rfl
theorem norm_tok (l : List Sp) (h : ∀ s ∈ l, OkW s) : normL l = spT (tok l) := by
  induction l with
  | nil => rfl
  | cons s r ih =>
    have h1 := ih fun x hx => h x (List.mem_cons_of_mem _ hx)
    show normC s (normL r) = _
    rw [h1, span_one s _ (h s (List.mem_cons_self ..))]
    unfold spT normL
    rw [tok_cons, List.map_append, List.foldr_append]
theorem one_ok (t : Tok) (h : OkT [t]) : OkW (one t) ∧ tokS (one t) = [t] := by
  cases t with
  | ins c =>
    have hc : IsCp c := h c (List.mem_singleton.2 rfl)
    have hd : dec (bs (mkS (enc1 c))) = some [c] := by
      rw [bs_mkS, ← encs_single, dec_encs]
      intro x hx
      rw [List.mem_singleton] at hx; subst hx; exact hc
    exact ⟨.inl ⟨rfl, rfl, _, hd⟩, tokS_text _ _ hd⟩
  | keep => exact ⟨.inr ⟨.inl rfl, by show (0 : Int) ≤ 1; omega, rfl⟩, rfl⟩
  | del => exact ⟨.inr ⟨.inr rfl, by show (0 : Int) ≤ 1; omega, rfl⟩, rfl⟩
theorem okT_cons {t : Tok} {ts : List Tok} (h : OkT (t :: ts)) : OkT [t] ∧ OkT ts :=
  ⟨fun c hc => h c (by rw [List.mem_singleton] at hc; rw [hc]; exact List.mem_cons_self ..), fun c hc => h c (List.mem_cons_of_mem _ hc)⟩
theorem map_one (ts : List Tok) (h : OkT ts) : (∀ s ∈ ts.map one, OkW s) ∧ tok (ts.map one) = ts := by
  induction ts with
  | nil => exact ⟨fun x hx => (by cases hx), rfl⟩
  | cons t ts ih =>
    obtain ⟨h1, h2⟩ := okT_cons h
    obtain ⟨g1, g2⟩ := one_ok t h1
    obtain ⟨g3, g4⟩ := ih h2
    refine ⟨fun x hx => ?_, by rw [List.map_cons, tok_cons, g2, g4]; rfl⟩
    rcases List.mem_cons.1 hx with rfl | hx
    · exact g1
    · exact g3 x hx
theorem tok_spT (ts : List Tok) (h : OkT ts) : tok (spT ts) = ts := by
  unfold spT
  rw [tok_norm _ (map_one ts h).1, (map_one ts h).2]
theorem spT_okW (ts : List Tok) (h : OkT ts) : ∀ s ∈ spT ts, OkW s := (norm_okW _ (map_one ts h).1).1
theorem okW_pos (l : List Sp) (h : ∀ s ∈ l, OkW s) : pos l := fun s hs => (h s hs).nonneg
theorem spT_is (ts : List Tok) (h : OkT ts) : isN (spT ts) := norm_is _ (okW_pos _ (map_one ts h).1)
theorem okT_append {a b : List Tok} : OkT (a ++ b) ↔ OkT a ∧ OkT b :=
  ⟨fun h => ⟨fun c hc => h c (List.mem_append_left _ hc), fun c hc => h c (List.mem_append_right _ hc)⟩, fun h c hc => (List.mem_append.1 hc).elim (h.1 c) (h.2 c)⟩
theorem tokS_okT (s : Sp) (h : OkW s) : OkT (tokS s) := by
  obtain ⟨k, n, t⟩ := s
  intro c hc
  rcases h with ⟨h1, h2, cs, h3⟩ | ⟨h1, h2, h3⟩
  · simp only at h1 h2 h3
    subst h1
    rw [tokS_text _ _ h3] at hc
    obtain ⟨x, hx, e⟩ := List.mem_map.1 hc
    injection e with e
    subst e
    exact (dec_some h3).1 x hx
  · simp only at h1
    rw [tokS_num _ _ _ (by omega)] at hc
    have e := (List.mem_replicate.1 hc).2
    split at e <;> cases e
theorem tok_okT (l : List Sp) (h : ∀ s ∈ l, OkW s) : OkT (tok l) := by
  induction l with
  | nil => intro c hc; cases hc
  | cons s r ih =>
    rw [tok_cons, okT_append]
    exact ⟨tokS_okT s (h s (List.mem_cons_self ..)), ih fun x hx => h x (List.mem_cons_of_mem _ hx)⟩
def tin (ts : List Tok) : Nat := (ts.filter fun t => match t with | .ins _ => false | _ => true).length
def tout (ts : List Tok) : Nat := (ts.filter fun t => match t with | .del => false | _ => true).length
theorem tin_append (a b : List Tok) : tin (a ++ b) = tin a + tin b := by simp [tin]
theorem tout_append (a b : List Tok) : tout (a ++ b) = tout a + tout b := by simp [tout]
theorem tin_span (s : Sp) (h : OkW s) : (tin (tokS s) : Int) = inS s.1 s.2.1 ∧ (tout (tokS s) : Int) = outS s.1 s.2.1 s.2.2 := by
  obtain ⟨k, n, t⟩ := s
  rcases h with ⟨h1, h2, cs, h3⟩ | ⟨h1, h2, h3⟩
  · simp only at h1 h2 h3
    subst h1
    rw [tokS_text _ _ h3]
    unfold inS outS
    rw [if_neg (by omega), if_neg (by omega), if_pos rfl, cntF_some h3]
    unfold tin tout
    rw [List.filter_map, List.filter_map]
    constructor
    · simp [Function.comp_def]
    · simp only [Function.comp_def, List.length_map]
      rw [List.filter_eq_self.2 fun _ _ => rfl]
      omega
  · simp only at h1 h2 h3
    rw [tokS_num _ _ _ (by omega)]
    unfold inS outS tin tout
    rcases h1 with rfl | rfl
    · simp; omega
    · simp; omega
theorem tin_ok (l : List Sp) (h : ∀ s ∈ l, OkW s) : (tin (tok l) : Int) = inL l ∧ (tout (tok l) : Int) = outL l := by
  induction l with
  | nil => exact ⟨rfl, rfl⟩
  | cons s r ih =>
    have h1 := ih fun x hx => h x (List.mem_cons_of_mem _ hx)
    have h2 := tin_span s (h s (List.mem_cons_self ..))
    rw [tok_cons, tin_append, tout_append, inL_cons, outL_cons]
    omega
end Go.Proofs.YtgcaphjjigpjlaaGreatDoor
namespace Go.Proofs.YtgcaphjjigpjlaaGreatDoor
set_option maxRecDepth 100000
def insT (ts : List Tok) : List Nat := ts.filterMap fun t => match t with | .ins c => some c | _ => none
theorem insT_append (a b : List Tok) : insT (a ++ b) = insT a ++ insT b := by simp [insT]
theorem insT_span (s : Sp) (h : OkW s) : (encs (insT (tokS s))).length ≤ s.2.2.size := by
  obtain ⟨k, n, t⟩ := s
  rcases h with ⟨h1, h2, cs, h3⟩ | ⟨h1, h2, h3⟩
  · simp only at h1 h2 h3
    subst h1
    rw [tokS_text _ _ h3]
    have e : insT (cs.map Tok.ins) = cs := by unfold insT; rw [List.filterMap_map]; exact List.filterMap_some
    rw [e, ← bs_length, (dec_some h3).2]
    exact Nat.le_refl _
  · simp only at h1
    rw [tokS_num _ _ _ (by omega)]
    have e : insT (List.replicate n.toNat (if k = 3 then Tok.del else Tok.keep)) = [] := by
      unfold insT
      rw [List.filterMap_eq_nil_iff]
      intro a ha
      have := (List.mem_replicate.1 ha).2
      subst this
      by_cases hk : k = 3 <;> simp [hk]
    rw [e]; exact Nat.zero_le _
theorem insT_sum (l : List Sp) (h : ∀ s ∈ l, OkW s) : (encs (insT (tok l))).length ≤ sumT l := by
  induction l with
  | nil => exact Nat.zero_le _
  | cons s r ih =>
    have h1 := ih fun x hx => h x (List.mem_cons_of_mem _ hx)
    have h2 := insT_span s (h s (List.mem_cons_self ..))
    have e : sumT (s :: r) = s.2.2.size + sumT r := rfl
    rw [tok_cons, insT_append, encs_append, List.length_append, e]; omega
theorem tok_take (l : List Sp) (j : Nat) (h : j < l.length) : tok (l.take (j + 1)) = tok (l.take j) ++ tokS l[j] := by
  rw [List.take_add_one, List.getElem?_eq_getElem h, tok_append]
  simp [tok]
end Go.Proofs.YtgcaphjjigpjlaaGreatDoor
namespace Go.Proofs.YtgcaphjjigpjlaaGreatDoor
set_option maxRecDepth 100000
def apT : List Tok → List Nat → List Nat
  | [], _ => []
  | .ins c :: r, cs => c :: apT r cs
  | .keep :: r, cs => cs.take 1 ++ apT r (cs.drop 1)
  | .del :: r, cs => apT r (cs.drop 1)
theorem tin_ins (c : Nat) (r : List Tok) : tin (.ins c :: r) = tin r := by simp [tin]
theorem tin_keep (r : List Tok) : tin (.keep :: r) = tin r + 1 := by simp [tin]
theorem tin_del (r : List Tok) : tin (.del :: r) = tin r + 1 := by simp [tin]
theorem tout_cins (c : Nat) (r : List Tok) : tout (.ins c :: r) = tout r + 1 := by simp [tout]
theorem tout_keep (r : List Tok) : tout (.keep :: r) = tout r + 1 := by simp [tout]
theorem tout_del (r : List Tok) : tout (.del :: r) = tout r := by simp [tout]
theorem apT_append (a b : List Tok) (cs : List Nat) : apT (a ++ b) cs = apT a cs ++ apT b (cs.drop (tin a)) := by
  induction a generalizing cs with
  | nil => rfl
  | cons t a ih =>
    cases t with
    | ins c => rw [List.cons_append, apT, apT, ih, tin_ins]; rfl
    | keep => rw [List.cons_append, apT, apT, ih, tin_keep, List.drop_drop, List.append_assoc, Nat.add_comm]
    | del => rw [List.cons_append, apT, apT, ih, tin_del, List.drop_drop, Nat.add_comm]
theorem apT_ins (us cs : List Nat) : apT (us.map Tok.ins) cs = us := by
  induction us with
  | nil => rfl
  | cons u us ih => rw [List.map_cons, apT, ih]
theorem apT_keep (n : Nat) (cs : List Nat) : apT (List.replicate n Tok.keep) cs = cs.take n := by
  induction n generalizing cs with
  | zero => rfl
  | succ n ih =>
    rw [List.replicate_succ, apT, ih]
    cases cs with
    | nil => simp
    | cons c cs => simp
theorem apT_del (n : Nat) (cs : List Nat) : apT (List.replicate n Tok.del) cs = [] := by
  induction n generalizing cs with
  | zero => rfl
  | succ n ih => rw [List.replicate_succ, apT, ih]
theorem apT_length (ts : List Tok) (cs : List Nat) (h : tin ts ≤ cs.length) : (apT ts cs).length = tout ts := by
  induction ts generalizing cs with
  | nil => rfl
  | cons t ts ih =>
    cases t with
    | ins c => rw [tin_ins] at h; rw [apT, List.length_cons, ih cs h, tout_cins]
    | keep =>
      rw [tin_keep] at h
      rw [apT, List.length_append, ih _ (by rw [List.length_drop]; omega), tout_keep, List.length_take]; omega
    | del =>
      rw [tin_del] at h
      rw [apT, ih _ (by rw [List.length_drop]; omega), tout_del]
theorem apT_cp (ts : List Tok) (cs : List Nat) (h : OkT ts) (hc : ∀ c ∈ cs, IsCp c) : ∀ c ∈ apT ts cs, IsCp c := by
  induction ts generalizing cs with
  | nil => intro c hc; cases hc
  | cons t ts ih =>
    obtain ⟨h1, h2⟩ := okT_cons h
    cases t with
    | ins c =>
      intro d hd
      rcases List.mem_cons.1 hd with rfl | hd
      · exact h1 d (List.mem_singleton.2 rfl)
      · exact ih cs h2 hc d hd
    | keep =>
      intro d hd
      rcases List.mem_append.1 hd with hd | hd
      · exact hc d (List.mem_of_mem_take hd)
      · exact ih _ h2 (fun x hx => hc x (List.mem_of_mem_drop hx)) d hd
    | del =>
      intro d hd
      exact ih _ h2 (fun x hx => hc x (List.mem_of_mem_drop hx)) d hd
theorem apT_size (ts : List Tok) (cs : List Nat) : (encs (apT ts cs)).length ≤ (encs (insT ts)).length + (encs cs).length := by
  induction ts generalizing cs with
  | nil => exact Nat.zero_le _
  | cons t ts ih =>
    have hd : (encs cs).length = (encs (cs.take 1)).length + (encs (cs.drop 1)).length := by rw [← List.length_append, ← encs_append, List.take_append_drop]
    cases t with
    | ins c =>
      have e : insT (Tok.ins c :: ts) = c :: insT ts := rfl
      have := ih cs
      rw [apT, e, encs_cons, encs_cons, List.length_append, List.length_append]; omega
    | keep =>
      have e : insT (Tok.keep :: ts) = insT ts := rfl
      have := ih (cs.drop 1)
      rw [apT, e, encs_append, List.length_append]; omega
    | del =>
      have e : insT (Tok.del :: ts) = insT ts := rfl
      have := ih (cs.drop 1)
      rw [apT, e]; omega
def toE (l : List Sp) (s : ByteArray) : Int := if mayL l = 0 then (match dec (bs s) with | none => 3 | some cs => if (cs.length : Int) = inL l then 0 else 5) else mayL l
def toS (l : List Sp) (s : ByteArray) : ByteArray := if toE l s = 0 then mkS (encs (apT (tok l) ((dec (bs s)).getD []))) else ⟨#[]⟩
def toV (l : List Sp) (s : ByteArray) : Value := .tuple #[.string (toS l s), .int .i64 (toE l s)]
theorem to_may {l : List Sp} {s : ByteArray} (h : mayL l ≠ 0) : toV l s = .tuple #[.string ⟨#[]⟩, .int .i64 (mayL l)] := by
  have e : toE l s = mayL l := if_neg h
  unfold toV toS
  rw [e, if_neg h]
theorem to_none {l : List Sp} {s : ByteArray} (h : mayL l = 0) (hd : dec (bs s) = none) : toV l s = .tuple #[.string ⟨#[]⟩, .int .i64 3] := by
  have e : toE l s = 3 := by unfold toE; rw [if_pos h, hd]
  unfold toV toS
  rw [e, if_neg (by decide)]
theorem to_len {l : List Sp} {s : ByteArray} {cs : List Nat} (h : mayL l = 0) (hd : dec (bs s) = some cs) (hn : (cs.length : Int) ≠ inL l) : toV l s = .tuple #[.string ⟨#[]⟩, .int .i64 5] := by
  have e : toE l s = 5 := by unfold toE; rw [if_pos h, hd]; exact if_neg hn
  unfold toV toS
  rw [e, if_neg (by decide)]
theorem to_ok {l : List Sp} {s : ByteArray} {cs : List Nat} (h : mayL l = 0) (hd : dec (bs s) = some cs) (hn : (cs.length : Int) = inL l) : toE l s = 0 ∧ toS l s = mkS (encs (apT (tok l) cs)) := by
  have e : toE l s = 0 := by unfold toE; rw [if_pos h, hd]; exact if_pos hn
  refine ⟨e, ?_⟩
  unfold toS
  rw [if_pos e, hd]; rfl
theorem ap_text (X us : List Nat) (t : ByteArray) (hd : dec (bs t) = some us) : mkS (encs X) ++ t = mkS (encs (X ++ us)) := by
  apply bs_inj
  rw [bs_append, bs_mkS, bs_mkS, (dec_some hd).2, encs_append]
theorem tin_map_ins (us : List Nat) : tin (us.map Tok.ins) = 0 := by
  induction us with
  | nil => rfl
  | cons u us ih => rw [List.map_cons, tin_ins, ih]
theorem tin_rep (t : Tok) (ht : t = .keep ∨ t = .del) (n : Nat) : tin (List.replicate n t) = n := by
  induction n with
  | zero => rfl
  | succ n ih => rcases ht with rfl | rfl <;> simp [List.replicate_succ, tin_keep, tin_del, ih]
theorem tin_le_of_take (l : List Sp) (j : Nat) : tin (tok (l.take j)) ≤ tin (tok l) := by
  have e := congrArg tok (List.take_append_drop j l)
  rw [tok_append] at e
  have := congrArg tin e
  rw [tin_append] at this; omega
end Go.Proofs.YtgcaphjjigpjlaaGreatDoor
namespace Go.Proofs.YtgcaphjjigpjlaaGreatDoor
set_option maxRecDepth 100000
theorem tout_le (ts : List Tok) : tout ts ≤ tin ts + (encs (insT ts)).length := by
  induction ts with
  | nil => exact Nat.zero_le _
  | cons t ts ih =>
    cases t with
    | ins c =>
      have e : insT (Tok.ins c :: ts) = c :: insT ts := rfl
      have := wid_pos c
      rw [tout_cins, tin_ins, e, encs_cons, List.length_append, enc1_length]; omega
    | keep =>
      have e : insT (Tok.keep :: ts) = insT ts := rfl
      rw [tout_keep, tin_keep, e]; omega
    | del =>
      have e : insT (Tok.del :: ts) = insT ts := rfl
      rw [tout_del, tin_del, e]; omega
theorem outL_le (l : List Sp) (h : ∀ s ∈ l, OkW s) : 0 ≤ outL l ∧ outL l ≤ inL l + sumT l := by
  obtain ⟨h1, h2⟩ := tin_ok l h
  have h3 := tout_le (tok l)
  have h4 := insT_sum l h
  omega
theorem fit_sumT (l : List Sp) (n : Int) : sumT (fitL l n) ≤ 312 := by
  have h1 : ∀ (k : List Sp), (∀ s ∈ k, s.2.2.size ≤ 24) → sumT k ≤ k.length * 24 := by
    intro k
    induction k with
    | nil => intro _; exact Nat.zero_le _
    | cons a t ih =>
      intro h
      have h2 := h a (List.mem_cons_self ..)
      have h3 := ih fun s hs => h s (List.mem_cons_of_mem _ hs)
      have e : sumT (a :: t) = a.2.2.size + sumT t := rfl
      rw [e, List.length_cons, Nat.add_mul]; omega
  have h2 := h1 (fitL l n) (fitL_text l n)
  have h3 := fitL_len l n
  omega
theorem fit_out (l : List Sp) (n : Int) (h0 : 0 ≤ n) (h1 : n ≤ 1048576) : 0 ≤ outL (fitL l n) ∧ outL (fitL l n) ≤ n + 312 := by
  obtain ⟨hm, hi⟩ := fitL_all l n h0 h1
  have h2 := outL_le (fitL l n) fun s hs => okW_of_may (hm s hs)
  have h3 := fit_sumT l n
  omega
end Go.Proofs.YtgcaphjjigpjlaaGreatDoor
namespace Go.Proofs.YtgcaphjjigpjlaaGreatDoor
set_option maxRecDepth 100000
set_option linter.unusedSimpArgs false
theorem tin_nil : tin [] = 0 := rfl
theorem tout_nil : tout [] = 0 := rfl
def compT : List Tok → List Tok → List Tok
  | a, .ins c :: b => .ins c :: compT a b
  | .del :: a, [] => .del :: compT a []
  | .ins _ :: _, [] => []
  | .keep :: _, [] => []
  | [], [] => []
  | .del :: a, .keep :: b => .del :: compT a (.keep :: b)
  | .ins c :: a, .keep :: b => .ins c :: compT a b
  | .keep :: a, .keep :: b => .keep :: compT a b
  | [], .keep :: _ => []
  | .del :: a, .del :: b => .del :: compT a (.del :: b)
  | .ins _ :: a, .del :: b => compT a b
  | .keep :: a, .del :: b => .del :: compT a b
  | [], .del :: _ => []
termination_by a b => a.length + b.length
def overT : List Tok → List Tok → List Tok
  | a, .ins _ :: s => .keep :: overT a s
  | .ins c :: a, [] => .ins c :: overT a []
  | .del :: _, [] => []
  | .keep :: _, [] => []
  | [], [] => []
  | .ins c :: a, .keep :: s => .ins c :: overT a (.keep :: s)
  | .keep :: a, .keep :: s => .keep :: overT a s
  | .del :: a, .keep :: s => .del :: overT a s
  | [], .keep :: _ => []
  | .ins c :: a, .del :: s => .ins c :: overT a (.del :: s)
  | .keep :: a, .del :: s => overT a s
  | .del :: a, .del :: s => overT a s
  | [], .del :: _ => []
termination_by a s => a.length + s.length
theorem compT_ins (a b : List Tok) (c : Nat) : compT a (.ins c :: b) = .ins c :: compT a b := by rw [compT]
theorem overT_ins (a b : List Tok) (c : Nat) : overT a (.ins c :: b) = .keep :: overT a b := by rw [overT]
theorem compT_len (x y : List Tok) : tout x = tin y → tin (compT x y) = tin x ∧ tout (compT x y) = tout y := by
  fun_induction compT x y <;> intro h <;> simp only [tin_ins, tin_keep, tin_del, tout_cins, tout_keep, tout_del, tin_nil, tout_nil, List.length_cons, List.length_nil] at * <;> first | omega | (rename_i ih; have := ih (by omega); omega) | trivial | simp
theorem compT_assoc : ∀ (n : Nat) (x y z : List Tok), x.length + y.length + z.length ≤ n → tout x = tin y → tout y = tin z → compT (compT x y) z = compT x (compT y z) := by
  intro n
  induction n with
  | zero =>
    intro x y z h _ _
    cases x <;> cases y <;> cases z <;> simp at h
    simp [compT]
  | succ n ih =>
    intro x y z h hf hg
    rcases z with _ | ⟨c | _ | _, z⟩
    case cons.ins => rw [compT_ins, compT_ins, compT_ins, ih _ _ _ (by simp only [List.length_cons] at h; omega) hf (by rw [tin_ins] at hg; exact hg)]
    all_goals
      rcases y with _ | ⟨_ | _ | _, y⟩ <;> rcases x with _ | ⟨_ | _ | _, x⟩ <;>
      (try simp only [compT]) <;> (try simp only [tin_ins, tin_keep, tin_del, tout_cins, tout_keep, tout_del, tin_nil, tout_nil, List.length_cons, List.length_nil] at *) <;>
      first
      | omega
      | rfl
      | (rw [ih] <;> (try simp only [compT]) <;> (try simp only [tin_ins, tin_keep, tin_del, tout_cins, tout_keep, tout_del, tin_nil, tout_nil, List.length_cons, List.length_nil]) <;> first | rfl | omega)
theorem overT_len (a s : List Tok) : tin a = tin s → tin (overT a s) = tout s := by
  fun_induction overT a s <;> intro h <;> simp only [tin_ins, tin_keep, tin_del, tout_cins, tout_keep, tout_del, tin_nil, tout_nil, List.length_cons, List.length_nil] at * <;> first | omega | (rename_i ih; have := ih (by omega); omega)
theorem over_one : ∀ (n : Nat) (a s t : List Tok), a.length + s.length + t.length ≤ n → tin a = tin s → tout s = tin t → overT a (compT s t) = overT (overT a s) t := by
  intro n
  induction n with
  | zero =>
    intro x y z h _ _
    cases x <;> cases y <;> cases z <;> simp at h
    simp [compT, overT]
  | succ n ih =>
    intro x y z h hf hg
    rcases z with _ | ⟨c | _ | _, z⟩
    case cons.ins => rw [compT_ins, overT_ins, overT_ins, ih _ _ _ (by simp only [List.length_cons] at h; omega) hf (by rw [tin_ins] at hg; exact hg)]
    all_goals
      rcases y with _ | ⟨_ | _ | _, y⟩ <;> rcases x with _ | ⟨_ | _ | _, x⟩ <;>
      (try simp only [compT, overT]) <;> (try simp only [tin_ins, tin_keep, tin_del, tout_cins, tout_keep, tout_del, tin_nil, tout_nil, List.length_cons, List.length_nil] at *) <;>
      first
      | omega
      | rfl
      | (rw [← ih] <;> (try simp only [compT, overT]) <;> (try simp only [tin_ins, tin_keep, tin_del, tout_cins, tout_keep, tout_del, tin_nil, tout_nil, List.length_cons, List.length_nil]) <;> first | rfl | omega)
theorem apT_comp : ∀ (n : Nat) (x y : List Tok) (cs : List Nat), x.length + y.length ≤ n → tout x = tin y → tin x = cs.length → apT (compT x y) cs = apT y (apT x cs) := by
  intro n
  induction n with
  | zero =>
    intro x y cs h _ _
    cases x <;> cases y <;> simp at h
    simp [compT, apT]
  | succ n ih =>
    intro x y cs h hf hg
    rcases y with _ | ⟨c | _ | _, y⟩
    case cons.ins => rw [compT_ins, apT, apT, ih _ _ _ (by simp only [List.length_cons] at h; omega) (by rw [tin_ins] at hf; exact hf) hg]
    all_goals
      rcases x with _ | ⟨_ | _ | _, x⟩ <;> rcases cs with _ | ⟨d, cs⟩ <;>
      (try simp only [compT, apT, List.take_succ_cons, List.take_zero, List.drop_succ_cons, List.drop_zero, List.cons_append, List.nil_append]) <;> (try simp only [tin_ins, tin_keep, tin_del, tout_cins, tout_keep, tout_del, tin_nil, tout_nil, List.length_cons, List.length_nil] at *) <;>
      first
      | omega
      | rfl
      | (rw [ih] <;> (try simp only [compT, apT, List.take_succ_cons, List.take_zero, List.drop_succ_cons, List.drop_zero, List.cons_append, List.nil_append]) <;> (try simp only [tin_ins, tin_keep, tin_del, tout_cins, tout_keep, tout_del, tin_nil, tout_nil, List.length_cons, List.length_nil]) <;> first | rfl | omega)
end Go.Proofs.YtgcaphjjigpjlaaGreatDoor
namespace Go.Proofs.YtgcaphjjigpjlaaGreatDoor
set_option maxRecDepth 100000
set_option linter.unusedSimpArgs false
end Go.Proofs.YtgcaphjjigpjlaaGreatDoor
namespace Go.Proofs.YtgcaphjjigpjlaaGreatDoor
open Go.RowKit
set_option maxRecDepth 100000
set_option maxHeartbeats 4000000
set_option linter.unusedSimpArgs false
def nV (l : List Int) : List Value := l.map (Value.int .i64)
theorem nV_append (a b : List Int) : nV (a ++ b) = nV a ++ nV b := by simp [nV]
theorem nV_len {w : World} {v : Value} {n : Nat} {l : List Int} (h : Rd w 1 v n (nV l)) : l.length = n := by have := h.1; simpa [nV] using this
theorem int_at {w : World} {A : Option Addr} {n c : Nat} {l : List Int} (h : Rd w 1 (.slice A n c) n (nV l)) {j : Nat} (hj : j < n) (hl : j < l.length) :
    ∃ b off, A = some ⟨b, off, none⟩ ∧ w.cell? ⟨b, off + j, none⟩ = some (.int .i64 l[j]) ∧ b < w.heap.size := by
  obtain ⟨b, off, u, hA, hb, hu, hc⟩ := h.cell hj
  refine ⟨b, off, hA, ?_, hb⟩
  rw [hc, ← hu]
  simp [nV, hl]
theorem sameRow_c (A : Option Addr) (n c : Nat) (a : List Int) (B : Option Addr) (m d : Nat) (b : List Int) (w : World) (h : Rd w 1 (.slice A n c) n (nV a)) (h' : Rd w 1 (.slice B m d) m (nV b)) (hn : n ≤ 1000000) (hm : m ≤ 1000000) :
    Calls Tryz.prog 43 #[.slice A n c, .slice B m d] w fun e w' => e = .returned (.bool (decide (a = b))) ∧ Ext w w' := by
  have ha := nV_len h
  have hb := nV_len h'
  by_cases hl : n = m
  · subst hl
    have H := Lib.hid h; have H' := Lib.hid h'; have HA := Lib.hid ha; have HB := Lib.hid hb
    clear h h' ha hb
    go_enter Tryz.func43, Tryz.ntmps43
    go_wp2_with fail
    go_loopw [5] (fun z wr => ∃ j : Nat, j ≤ n ∧ z = .int .i64 j ∧ Hid (a.take j = b.take j) ∧ Hid (Ext w wr)) (fun z _ => n - (intOf z).toNat)
    case atStart => exact ⟨0, by omega, rfl, Lib.hid rfl, Lib.hid (Ext.refl _)⟩
    case round =>
      obtain ⟨j, hj, rfl, HE, HX⟩ := hrel
      by_cases hlt : j < n
      · have dn : decide (j < n) = true := by rw [decide_eq_true_eq]; exact hlt
        have hja : j < a.length := by have := HA.out; omega
        have hjb : j < b.length := by have := HB.out; omega
        obtain ⟨b1, o1, rfl, q1, _⟩ := int_at (H.out.ext HX.out) hlt hja
        obtain ⟨b2, o2, rfl, q2, _⟩ := int_at (H'.out.ext HX.out) hlt hjb
        have i0 : (0 : Int) ≤ (j : Int) := by omega
        have i1 : (j : Int) < (n : Int) := by omega
        have HSA : Hid (a[j] = b[j] → a.take (j + 1) = b.take (j + 1)) := Lib.hid fun h => by
          rw [List.take_add_one, List.take_add_one, List.getElem?_eq_getElem hja, List.getElem?_eq_getElem hjb, HE.out, h]
        have HNE : Hid (a[j] ≠ b[j] → decide (a = b) = false) := Lib.hid fun h => by
          rw [decide_eq_false_iff_not]; rintro rfl; exact h rfl
        obtain ⟨x, hx⟩ : ∃ x, a[j] = x := ⟨_, rfl⟩
        obtain ⟨y, hy⟩ : ∃ y, b[j] = y := ⟨_, rfl⟩
        rw [hx] at q1; rw [hy] at q2; rw [hx, hy] at HSA HNE
        clear hx hy
        by_cases hxy : x = y
        · subst hxy
          have HE2 := Lib.hid (HSA.out rfl)
          clear HSA HNE HE
          go_wp2_with fail
          go_quiet (fail)
          go_wp2_with fail
          go_roundw
          case rel => exact ⟨j + 1, by omega, by go_num, HE2, Lib.hid (HX.out.drewN nq)⟩
          case measure => simp [intOf]; omega
        · have HE2 := Lib.hid (HNE.out hxy)
          have t1 : (x != y) = true := by rw [bne_iff_ne]; exact hxy
          have t2 : (x == y) = false := by rw [beq_eq_false_iff_ne]; exact hxy
          clear HSA HNE HE hxy
          go_wp2_with fail
          go_quiet (fail)
          go_wp2_with fail
          go_ret
          rw [HE2.out]
          exact ⟨rfl, HX.out.drewN nq⟩
      · obtain rfl : j = n := by omega
        have dn : decide (j < j) = false := by rw [decide_eq_false_iff_not]; omega
        have HE2 : Hid (decide (a = b) = true) := Lib.hid (by
          rw [decide_eq_true_eq]
          have h := HE.out
          rw [show a.take j = a by rw [← HA.out]; exact List.take_length, show b.take j = b by rw [← HB.out]; exact List.take_length] at h
          exact h)
        clear HE
        go_wp2_with fail
        go_ret
        rw [HE2.out]
        exact ⟨rfl, HX.out⟩
  · have HE2 : Hid (decide (a = b) = false) := Lib.hid (by rw [decide_eq_false_iff_not]; rintro rfl; exact hl (by omega))
    have t1 : ((n : Int) != (m : Int)) = true := by rw [bne_iff_ne]; omega
    have t2 : ((n : Int) == (m : Int)) = false := by rw [beq_eq_false_iff_ne]; omega
    have t3 : (n != m) = true := by rw [bne_iff_ne]; exact hl
    clear h h' ha hb hl
    go_enter Tryz.func43, Tryz.ntmps43
    go_wp2_with fail
    go_ret
    rw [HE2.out]
    exact ⟨rfl, Ext.refl _⟩
theorem sameTrue15 {X Y : List Int} (he : X = Y) (hl : X.length ≤ 1000) {w' : World} {A B : Option Addr} {n c k d : Nat} (hX : Rd w' 1 (.slice A n c) n (nV X)) (hY : Rd w' 1 (.slice B k d) k (nV Y)) :
    Calls Tryz.prog 43 #[.slice A n c, .slice B k d] w' fun e w'' => e = .returned (.bool true) ∧ Ext w' w'' := by
  have h1 := nV_len hX
  have h2 := nV_len hY
  subst he
  have h := sameRow_c A n c X B k d X w' hX hY (by omega) (by omega)
  rw [decide_eq_true rfl] at h
  exact h
end Go.Proofs.YtgcaphjjigpjlaaGreatDoor
namespace Go.Proofs.YtgcaphjjigpjlaaGreatDoor
set_option maxRecDepth 100000
set_option linter.unusedSimpArgs false
theorem isN_ne : ∀ (l : List Sp), isN l → ∀ s ∈ l, ¬ emp s
  | [], _, s, h => (by cases h)
  | [a], h, s, hs => (by rw [List.mem_singleton] at hs; subst hs; exact h)
  | a :: b :: r, h, s, hs => (by
    rcases List.mem_cons.1 hs with rfl | hs
    · exact h.1
    · exact isN_ne (b :: r) h.2.2 s hs)
def cutA (s : Sp) (n : Nat) : Sp := if s.1 = 2 then (2, s.2.1, mkS (encs (((dec (bs s.2.2)).getD []).take n))) else (s.1, (n : Int), s.2.2)
def cutB (s : Sp) (n : Nat) : Sp := if s.1 = 2 then (2, s.2.1, mkS (encs (((dec (bs s.2.2)).getD []).drop n))) else (s.1, s.2.1 - n, s.2.2)
theorem cutA_kind (s : Sp) (n : Nat) : (cutA s n).1 = s.1 := by unfold cutA; split <;> simp [*]
theorem cutB_kind (s : Sp) (n : Nat) : (cutB s n).1 = s.1 := by unfold cutB; split <;> simp [*]
theorem cutA_ok (s : Sp) (n : Nat) (h : OkW s) (hn : n ≤ (tokS s).length) : OkW (cutA s n) ∧ tokS (cutA s n) = (tokS s).take n := by
  rcases h with ⟨k1, n1, us, hu⟩ | ⟨k1, n1, t1⟩
  · obtain ⟨a1, a2, a3⟩ := s
    simp only at k1 n1 hu
    subst k1; subst n1
    have hd : dec (bs (mkS (encs (us.take n)))) = some (us.take n) := by rw [bs_mkS]; exact dec_encs fun c hc => (dec_some hu).1 c (List.mem_of_mem_take hc)
    have e : cutA (2, 0, a3) n = (2, 0, mkS (encs (us.take n))) := by unfold cutA; rw [if_pos rfl]; simp [hu]
    rw [e, tokS_text _ _ hd, tokS_text _ _ hu, List.map_take]
    exact ⟨.inl ⟨rfl, rfl, _, hd⟩, rfl⟩
  · obtain ⟨a1, a2, a3⟩ := s
    simp only at k1 n1 t1
    obtain ⟨N, rfl⟩ := Int.eq_ofNat_of_zero_le n1
    subst t1
    have hk : a1 ≠ 2 := by omega
    have e : cutA (a1, (N : Int), ⟨#[]⟩) n = (a1, (n : Int), ⟨#[]⟩) := by unfold cutA; rw [if_neg hk]
    rw [tokS_num _ _ _ hk, Int.toNat_natCast, List.length_replicate] at hn
    rw [e, tokS_num _ _ _ hk, tokS_num _ _ _ hk, Int.toNat_natCast, Int.toNat_natCast, List.take_replicate, Nat.min_eq_left hn]
    exact ⟨.inr ⟨k1, by simp only; omega, rfl⟩, rfl⟩
theorem cutB_ok (s : Sp) (n : Nat) (h : OkW s) (hn : n ≤ (tokS s).length) : OkW (cutB s n) ∧ tokS (cutB s n) = (tokS s).drop n := by
  rcases h with ⟨k1, n1, us, hu⟩ | ⟨k1, n1, t1⟩
  · obtain ⟨a1, a2, a3⟩ := s
    simp only at k1 n1 hu
    subst k1; subst n1
    have hd : dec (bs (mkS (encs (us.drop n)))) = some (us.drop n) := by rw [bs_mkS]; exact dec_encs fun c hc => (dec_some hu).1 c (List.mem_of_mem_drop hc)
    have e : cutB (2, 0, a3) n = (2, 0, mkS (encs (us.drop n))) := by unfold cutB; rw [if_pos rfl]; simp [hu]
    rw [e, tokS_text _ _ hd, tokS_text _ _ hu, List.map_drop]
    exact ⟨.inl ⟨rfl, rfl, _, hd⟩, rfl⟩
  · obtain ⟨a1, a2, a3⟩ := s
    simp only at k1 n1 t1
    obtain ⟨N, rfl⟩ := Int.eq_ofNat_of_zero_le n1
    subst t1
    have hk : a1 ≠ 2 := by omega
    have e : cutB (a1, (N : Int), ⟨#[]⟩) n = (a1, (N : Int) - n, ⟨#[]⟩) := by unfold cutB; rw [if_neg hk]
    rw [tokS_num _ _ _ hk, Int.toNat_natCast, List.length_replicate] at hn
    have e2 : ((N : Int) - (n : Int)).toNat = N - n := by omega
    rw [e, tokS_num _ _ _ hk, tokS_num _ _ _ hk, Int.toNat_natCast, e2, List.drop_replicate]
    exact ⟨.inr ⟨k1, by simp only; omega, rfl⟩, rfl⟩
theorem cut_sum (s : Sp) (n : Nat) (h : OkW s) (hn : n ≤ (tokS s).length) : (cutA s n).2.1 + (cutB s n).2.1 = s.2.1 ∧ (cutA s n).2.2.size + (cutB s n).2.2.size = s.2.2.size := by
  rcases h with ⟨k1, n1, us, hu⟩ | ⟨k1, n1, t1⟩
  · obtain ⟨a1, a2, a3⟩ := s
    simp only at k1 n1 hu
    subst k1; subst n1
    unfold cutA cutB
    rw [if_pos rfl, if_pos rfl]
    refine ⟨rfl, ?_⟩
    simp only [hu, Option.getD_some, size_mkS]
    rw [← List.length_append, ← encs_append, List.take_append_drop, ← (dec_some hu).2, bs_length]
  · obtain ⟨a1, a2, a3⟩ := s
    simp only at k1 n1 t1
    subst t1
    have hk : a1 ≠ 2 := by omega
    unfold cutA cutB
    rw [if_neg hk, if_neg hk]
    exact ⟨by simp only; omega, rfl⟩
theorem tokS_pos (s : Sp) (h : OkW s) (hn : ¬ emp s) : 0 < (tokS s).length := by
  rcases h with ⟨k1, n1, us, hu⟩ | ⟨k1, n1, t1⟩
  · obtain ⟨a1, a2, a3⟩ := s
    simp only at k1 n1 hu
    subst k1; subst n1
    rw [tokS_text _ _ hu, List.length_map]
    rcases us with _ | ⟨u, us⟩
    · exfalso; apply hn
      refine ⟨rfl, ?_⟩
      have := (dec_some hu).2
      rw [← bs_length]; simp only; rw [this]; rfl
    · simp
  · obtain ⟨a1, a2, a3⟩ := s
    simp only at k1 n1 t1
    obtain ⟨N, rfl⟩ := Int.eq_ofNat_of_zero_le n1
    subst t1
    have hk : a1 ≠ 2 := by omega
    rw [tokS_num _ _ _ hk, Int.toNat_natCast, List.length_replicate]
    rcases Nat.eq_zero_or_pos N with h0 | h0
    · exfalso; apply hn; subst h0; exact ⟨rfl, rfl⟩
    · exact h0
theorem tokS_ne (s : Sp) (h : 0 < (tokS s).length) : ¬ emp s := fun he => by rw [tokS_emp s he] at h; exact Nat.lt_irrefl 0 h
theorem tokS_kind (s : Sp) (h : OkW s) : (s.1 = 2 ∧ ∃ us, dec (bs s.2.2) = some us ∧ tokS s = us.map Tok.ins) ∨ (s.1 = 1 ∧ tokS s = List.replicate (tokS s).length Tok.keep) ∨ (s.1 = 3 ∧ tokS s = List.replicate (tokS s).length Tok.del) := by
  rcases h with ⟨k1, n1, us, hu⟩ | ⟨k1, n1, t1⟩
  · obtain ⟨a1, a2, a3⟩ := s
    simp only at k1 n1 hu
    subst k1
    exact .inl ⟨rfl, us, hu, tokS_text _ _ hu⟩
  · obtain ⟨a1, a2, a3⟩ := s
    simp only at k1 n1 t1
    have hk : a1 ≠ 2 := by omega
    right
    rcases k1 with rfl | rfl
    · left; refine ⟨rfl, ?_⟩; rw [tokS_num _ _ _ hk, if_neg (by decide), List.length_replicate]
    · right; refine ⟨rfl, ?_⟩; rw [tokS_num _ _ _ hk, if_pos rfl, List.length_replicate]
theorem comp_inss (us : List Nat) (a b : List Tok) : compT a (us.map Tok.ins ++ b) = us.map Tok.ins ++ compT a b := by
  induction us with
  | nil => rfl
  | cons u us ih => rw [List.map_cons, List.cons_append, compT_ins, ih]; rfl
def noIns : List Tok → Prop
  | .ins _ :: _ => False
  | _ => True
theorem comp_dels (n : Nat) (a b : List Tok) (h : noIns b) : compT (List.replicate n Tok.del ++ a) b = List.replicate n Tok.del ++ compT a b := by
  induction n with
  | zero => rfl
  | succ n ih =>
    rw [List.replicate_succ, List.cons_append, List.cons_append, ← ih]
    rcases b with _ | ⟨_ | _ | _, b⟩
    · rw [compT]
    · exact absurd h (by simp [noIns])
    · rw [compT]
    · rw [compT]
theorem comp_kk (n : Nat) (a b : List Tok) : compT (List.replicate n Tok.keep ++ a) (List.replicate n Tok.keep ++ b) = List.replicate n Tok.keep ++ compT a b := by
  induction n with
  | zero => rfl
  | succ n ih => rw [List.replicate_succ, List.cons_append, List.cons_append, List.cons_append, ← ih, compT]
theorem comp_kd (n : Nat) (a b : List Tok) : compT (List.replicate n Tok.keep ++ a) (List.replicate n Tok.del ++ b) = List.replicate n Tok.del ++ compT a b := by
  induction n with
  | zero => rfl
  | succ n ih => rw [List.replicate_succ, List.replicate_succ, List.cons_append, List.cons_append, List.cons_append, ← ih, compT]
theorem comp_ik (us : List Nat) (a b : List Tok) : compT (us.map Tok.ins ++ a) (List.replicate us.length Tok.keep ++ b) = us.map Tok.ins ++ compT a b := by
  induction us with
  | nil => rfl
  | cons u us ih => rw [List.length_cons, List.replicate_succ, List.map_cons, List.cons_append, List.cons_append, List.cons_append, ← ih, compT]
theorem comp_id (us : List Nat) (a b : List Tok) : compT (us.map Tok.ins ++ a) (List.replicate us.length Tok.del ++ b) = compT a b := by
  induction us with
  | nil => rfl
  | cons u us ih => rw [List.length_cons, List.replicate_succ, List.map_cons, List.cons_append, List.cons_append, compT, ih]
structure Row3 (K1 : Int) (K2 K3 : Nat) (xs ys os : List Sp) : Prop where
  x : ∀ s ∈ xs, OkW s ∧ ¬ emp s
  y : ∀ s ∈ ys, OkW s ∧ ¬ emp s
  o : ∀ s ∈ os, OkW s
  n : sumN os + sumN xs + sumN ys ≤ K1
  t : sumT os + sumT xs + sumT ys ≤ K2
  l : os.length + xs.length + ys.length ≤ K3
theorem sumN_cons (s : Sp) (l : List Sp) : sumN (s :: l) = s.2.1 + sumN l := rfl
theorem sumT_cons (s : Sp) (l : List Sp) : sumT (s :: l) = s.2.2.size + sumT l := rfl
theorem sumN_one (s : Sp) : sumN [s] = s.2.1 := by simp [sumN]
theorem sumT_sing (s : Sp) : sumT [s] = s.2.2.size := by simp [sumT]
theorem Row3.pops {K1 : Int} {K2 K3 : Nat} {xs ys os : List Sp} (h : Row3 K1 K2 K3 xs ys os) : 0 ≤ sumN xs ∧ 0 ≤ sumN ys ∧ 0 ≤ sumN os :=
  ⟨sumN_pos _ fun s hs => (h.x s hs).1.nonneg, sumN_pos _ fun s hs => (h.y s hs).1.nonneg, sumN_pos _ fun s hs => (h.o s hs).nonneg⟩
theorem Row3.putY {K1 : Int} {K2 K3 : Nat} {s : Sp} {xs ys os : List Sp} (h : Row3 K1 K2 K3 xs (s :: ys) os) : Row3 K1 K2 K3 xs ys (os ++ [s]) := by
  refine ⟨h.x, fun u hu => h.y u (List.mem_cons_of_mem _ hu), fun u hu => ?_, ?_, ?_, ?_⟩
  · rcases List.mem_append.1 hu with hu | hu
    · exact h.o u hu
    · rw [List.mem_singleton] at hu; subst hu; exact (h.y _ (List.mem_cons_self ..)).1
  · have := h.n; rw [sumN_append, sumN_one]; rw [sumN_cons] at this; omega
  · have := h.t; rw [sumT_append, sumT_sing]; rw [sumT_cons] at this; omega
  · have := h.l; simp only [List.length_append, List.length_cons, List.length_nil] at *; omega
theorem Row3.putX {K1 : Int} {K2 K3 : Nat} {s : Sp} {xs ys os : List Sp} (h : Row3 K1 K2 K3 (s :: xs) ys os) : Row3 K1 K2 K3 xs ys (os ++ [s]) := by
  refine ⟨fun u hu => h.x u (List.mem_cons_of_mem _ hu), h.y, fun u hu => ?_, ?_, ?_, ?_⟩
  · rcases List.mem_append.1 hu with hu | hu
    · exact h.o u hu
    · rw [List.mem_singleton] at hu; subst hu; exact (h.x _ (List.mem_cons_self ..)).1
  · have := h.n; rw [sumN_append, sumN_one]; rw [sumN_cons] at this; omega
  · have := h.t; rw [sumT_append, sumT_sing]; rw [sumT_cons] at this; omega
  · have := h.l; simp only [List.length_append, List.length_cons, List.length_nil] at *; omega
def left (s : Sp) (n : Nat) (l : List Sp) : List Sp := if (tokS s).length = n then l else cutB s n :: l
theorem left_tok (s : Sp) (n : Nat) (l : List Sp) (h : OkW s) (hn : n ≤ (tokS s).length) : tok (left s n l) = (tokS s).drop n ++ tok l := by
  unfold left
  split
  · rename_i e
    rw [List.drop_of_length_le (by omega), List.nil_append]
  · rw [tok_cons, (cutB_ok s n h hn).2]
theorem left_ok (s : Sp) (n : Nat) (l : List Sp) (h : OkW s) (hn : n ≤ (tokS s).length) (hl : ∀ u ∈ l, OkW u ∧ ¬ emp u) : ∀ u ∈ left s n l, OkW u ∧ ¬ emp u := by
  unfold left
  split
  · exact hl
  · rename_i e
    intro u hu
    rcases List.mem_cons.1 hu with rfl | hu
    · obtain ⟨g1, g2⟩ := cutB_ok s n h hn
      refine ⟨g1, tokS_ne _ ?_⟩
      rw [g2, List.length_drop]; omega
    · exact hl u hu
theorem left_sum (s : Sp) (n : Nat) (l : List Sp) (h : OkW s) (hn : n ≤ (tokS s).length) : (cutA s n).2.1 + sumN (left s n l) ≤ sumN (s :: l) ∧ (cutA s n).2.2.size + sumT (left s n l) ≤ sumT (s :: l) ∧ (left s n l).length ≤ l.length + 1 ∧ ((tokS s).length = n → (left s n l).length = l.length) := by
  obtain ⟨g1, g2⟩ := cut_sum s n h hn
  have g3 := (cutB_ok s n h hn).1.nonneg
  unfold left
  rw [sumN_cons, sumT_cons]
  split
  · exact ⟨by omega, by omega, by omega, fun _ => rfl⟩
  · rename_i e
    rw [sumN_cons, sumT_cons]
    exact ⟨by omega, by omega, by simp, fun e2 => absurd e2 e⟩
theorem Row3.both {K1 : Int} {K2 K3 : Nat} {s u : Sp} {xs ys os : List Sp} {n : Nat} (h : Row3 K1 K2 K3 (s :: xs) (u :: ys) os) (hn : n = min (tokS s).length (tokS u).length) (ps : List Sp) (hp : ps = [] ∨ ps = [cutA s n] ∨ ps = [cutA u n]) : Row3 K1 K2 K3 (left s n xs) (left u n ys) (os ++ ps) ∧ (left s n xs).length + (left u n ys).length < (s :: xs).length + (u :: ys).length := by
  have hs := (h.x s (List.mem_cons_self ..)).1
  have hu := (h.y u (List.mem_cons_self ..)).1
  obtain ⟨a1, a2, a3, a4⟩ := left_sum s n xs hs (by omega)
  obtain ⟨b1, b2, b3, b4⟩ := left_sum u n ys hu (by omega)
  have ca := (cutA_ok s n hs (by omega)).1
  have cb := (cutA_ok u n hu (by omega)).1
  have ca0 := ca.nonneg
  have cb0 := cb.nonneg
  have hn' := h.n; have ht' := h.t; have hl' := h.l
  have hlt : (left s n xs).length + (left u n ys).length < (s :: xs).length + (u :: ys).length := by
    simp only [List.length_cons]
    rcases (by omega : (tokS s).length = n ∨ (tokS u).length = n) with e | e
    · have := a4 e; omega
    · have := b4 e; omega
  refine ⟨⟨left_ok s n xs hs (by omega) fun v hv => h.x v (List.mem_cons_of_mem _ hv), left_ok u n ys hu (by omega) fun v hv => h.y v (List.mem_cons_of_mem _ hv), fun v hv => ?_, ?_, ?_, ?_⟩, hlt⟩
  · rcases List.mem_append.1 hv with hv | hv
    · exact h.o v hv
    · rcases hp with rfl | rfl | rfl
      · cases hv
      · rw [List.mem_singleton] at hv; subst hv; exact ca
      · rw [List.mem_singleton] at hv; subst hv; exact cb
  · rw [sumN_append]
    rcases hp with rfl | rfl | rfl
    · have e : sumN ([] : List Sp) = 0 := rfl
      omega
    · rw [sumN_one]; omega
    · rw [sumN_one]; omega
  · rw [sumT_append]
    rcases hp with rfl | rfl | rfl
    · have e : sumT ([] : List Sp) = 0 := rfl
      omega
    · rw [sumT_sing]; omega
    · rw [sumT_sing]; omega
  · rw [List.length_append]
    have : ps.length ≤ 1 := by rcases hp with rfl | rfl | rfl <;> simp
    omega
theorem tokS_split (s : Sp) (n : Nat) : tokS s = (tokS s).take n ++ (tokS s).drop n := (List.take_append_drop _ _).symm
theorem comp_putY (xs ys os : List Sp) (s : Sp) (h : OkW s) (hk : s.1 = 2) : tok (os ++ [s]) ++ compT (tok xs) (tok ys) = tok os ++ compT (tok xs) (tok (s :: ys)) := by
  rcases tokS_kind s h with ⟨_, us, _, e⟩ | ⟨k, _⟩ | ⟨k, _⟩
  · rw [tok_append, tok_cons, tok_nil, tok_cons, List.append_nil, e, comp_inss, List.append_assoc]
  · omega
  · omega
theorem noIns_tok (ys : List Sp) (h : ∀ s ∈ ys, OkW s ∧ ¬ emp s) (hk : ∀ s r, ys = s :: r → s.1 ≠ 2) : noIns (tok ys) := by
  cases ys with
  | nil => exact trivial
  | cons s r =>
    obtain ⟨h1, h2⟩ := h s (List.mem_cons_self ..)
    have h3 := tokS_pos s h1 h2
    have hk := hk s r rfl
    rw [tok_cons]
    rcases tokS_kind s h1 with ⟨k, _⟩ | ⟨_, e⟩ | ⟨_, e⟩
    · exact absurd k hk
    all_goals
      rw [e]
      obtain ⟨m, hm⟩ : ∃ m, (tokS s).length = m + 1 := ⟨(tokS s).length - 1, by omega⟩
      rw [hm, List.replicate_succ]
      exact trivial
theorem comp_dropX (xs ys os : List Sp) (s : Sp) (h : OkW s) (hk : s.1 = 3) (hy : noIns (tok ys)) : tok (os ++ [s]) ++ compT (tok xs) (tok ys) = tok os ++ compT (tok (s :: xs)) (tok ys) := by
  rcases tokS_kind s h with ⟨k, _⟩ | ⟨k, _⟩ | ⟨_, e⟩
  · omega
  · omega
  · rw [tok_append, tok_cons, tok_nil, tok_cons, List.append_nil, e, comp_dels _ _ _ hy, List.append_assoc]
theorem comp_both (xs ys os : List Sp) (s u : Sp) (n : Nat) (hs : OkW s) (hu : OkW u) (ks : s.1 ≠ 3) (ku : u.1 ≠ 2) (h1 : n ≤ (tokS s).length) (h2 : n ≤ (tokS u).length) :
    tok (os ++ (if u.1 = 1 then [cutA s n] else if s.1 = 1 then [cutA u n] else [])) ++ compT (tok (left s n xs)) (tok (left u n ys)) = tok os ++ compT (tok (s :: xs)) (tok (u :: ys)) := by
  rw [tok_append, left_tok s n xs hs h1, left_tok u n ys hu h2, tok_cons, tok_cons, List.append_assoc]
  congr 1
  have ca := (cutA_ok s n hs h1).2
  have cb := (cutA_ok u n hu h2).2
  have es := tokS_split s n
  have eu := tokS_split u n
  generalize hS : (tokS s).drop n = S1 at *
  generalize hU : (tokS u).drop n = U1 at *
  have lu : ((tokS u).take n).length = n := by rw [List.length_take]; omega
  have ls : ((tokS s).take n).length = n := by rw [List.length_take]; omega
  rcases tokS_kind u hu with ⟨k, _⟩ | ⟨k, e⟩ | ⟨k, e⟩
  · exact absurd k ku
  · have e' : (tokS u).take n = List.replicate n Tok.keep := by rw [e, List.take_replicate, Nat.min_eq_left h2]
    rw [if_pos k, tok_cons, tok_nil, List.append_nil, ca]
    rw [es, eu, e', List.append_assoc, List.append_assoc]
    rcases tokS_kind s hs with ⟨k2, us, _, f⟩ | ⟨k2, f⟩ | ⟨k2, f⟩
    · have f' : (tokS s).take n = (us.take n).map Tok.ins := by rw [f, List.map_take]
      have fl : (us.take n).length = n := by have := ls; rw [f', List.length_map] at this; exact this
      rw [f']
      have g := comp_ik (us.take n) (S1 ++ tok xs) (U1 ++ tok ys)
      rw [fl] at g
      rw [List.take_left' (by rw [List.length_map]; exact fl)]
      exact g.symm
    · have f' : (tokS s).take n = List.replicate n Tok.keep := by rw [f, List.take_replicate, Nat.min_eq_left h1]
      rw [f', List.take_left' (by rw [List.length_replicate]), comp_kk]
    · exact absurd k2 ks
  · have e' : (tokS u).take n = List.replicate n Tok.del := by rw [e, List.take_replicate, Nat.min_eq_left h2]
    rw [if_neg (by omega)]
    rcases tokS_kind s hs with ⟨k2, us, _, f⟩ | ⟨k2, f⟩ | ⟨k2, f⟩
    · have f' : (tokS s).take n = (us.take n).map Tok.ins := by rw [f, List.map_take]
      have fl : (us.take n).length = n := by have := ls; rw [f', List.length_map] at this; exact this
      rw [if_neg (by omega), tok_nil, List.nil_append]
      rw [es, eu, e', f', List.append_assoc, List.append_assoc]
      have g := comp_id (us.take n) (S1 ++ tok xs) (U1 ++ tok ys)
      rw [fl] at g
      exact g.symm
    · have f' : (tokS s).take n = List.replicate n Tok.keep := by rw [f, List.take_replicate, Nat.min_eq_left h1]
      rw [if_pos k2, tok_cons, tok_nil, List.append_nil, cb]
      rw [es, eu, e', f', List.append_assoc, List.append_assoc, List.take_left' (by rw [List.length_replicate]), comp_kd]
    · exact absurd k2 ks
theorem tout_rep (n : Nat) (t : Tok) : tout (List.replicate n t) = if t = .del then 0 else n := by
  induction n with
  | zero => simp [tout]
  | succ n ih =>
    rw [List.replicate_succ]
    cases t with
    | ins c => rw [tout_cins, ih]; simp
    | keep => rw [tout_keep, ih]; simp
    | del => rw [tout_del, ih]; simp
theorem tout_inss (us : List Nat) : tout (us.map Tok.ins) = us.length := by
  induction us with
  | nil => rfl
  | cons u us ih => rw [List.map_cons, tout_cins, ih, List.length_cons]
theorem sides (s : Sp) (h : OkW s) : (tin (tokS s) = if s.1 = 2 then 0 else (tokS s).length) ∧ (tout (tokS s) = if s.1 = 3 then 0 else (tokS s).length) := by
  rcases tokS_kind s h with ⟨k, us, _, e⟩ | ⟨k, e⟩ | ⟨k, e⟩
  · rw [e, tin_map_ins, tout_inss, if_pos k, if_neg (by omega), List.length_map]; exact ⟨rfl, rfl⟩
  · rw [e, tin_rep _ (.inl rfl), tout_rep, List.length_replicate]; exact ⟨by rw [if_neg (show ¬ s.1 = 2 by omega)], by rw [if_neg (by decide), if_neg (show ¬ s.1 = 3 by omega)]⟩
  · rw [e, tin_rep _ (.inr rfl), tout_rep, List.length_replicate]; exact ⟨by rw [if_neg (show ¬ s.1 = 2 by omega)], by rw [if_pos rfl, if_pos k]⟩
theorem drop_tok (s : Sp) (h : OkW s) (n : Nat) (hn : n ≤ (tokS s).length) : tin ((tokS s).drop n) = tin (tokS s) - (if s.1 = 2 then 0 else n) ∧ tout ((tokS s).drop n) = tout (tokS s) - (if s.1 = 3 then 0 else n) := by
  have h1 := sides s h
  have h2 := sides (cutB s n) (cutB_ok s n h hn).1
  rw [(cutB_ok s n h hn).2, cutB_kind, List.length_drop] at h2
  rw [h1.1, h1.2, h2.1, h2.2]
  constructor <;> split <;> omega
end Go.Proofs.YtgcaphjjigpjlaaGreatDoor
