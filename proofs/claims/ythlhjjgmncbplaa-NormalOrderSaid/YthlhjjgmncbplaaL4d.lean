/- Layer 4, OpBounds. -/
import Derived.Test.YthlhjjgmncbplaaL4a
import Derived.Deep.QuietTactic
import Derived.BigQuiet
namespace Go.Proofs.Ythlhjjgmncbplaa
open Go.RowKit
set_option maxRecDepth 100000
set_option maxHeartbeats 1000000
/-- What is left, and the parts so far. -/
def bp (all : Int) (k : Nat) : Nat → Int × List Sp
  | 0 => (all, [])
  | i + 1 => ((bp all k i).1 - (bp all k i).1 / ((k : Int) - i), (bp all k i).2 ++ [(if i % 2 = 1 then 3 else 1, (bp all k i).1 / ((k : Int) - i), ⟨#[]⟩)])
theorem div_le_self (a b : Int) (ha : 0 ≤ a) (hb : 0 < b) : 0 ≤ a / b ∧ a / b ≤ a :=
  ⟨Int.ediv_nonneg ha (by omega), Int.ediv_le_self _ ha⟩
theorem bp_left (all : Int) (k : Nat) (h : 0 ≤ all) (i : Nat) (hi : i ≤ k) : 0 ≤ (bp all k i).1 ∧ (bp all k i).1 ≤ all := by
  induction i with
  | zero => exact ⟨h, Int.le_refl _⟩
  | succ i ih =>
    have h1 := ih (by omega)
    have h2 := div_le_self (bp all k i).1 ((k : Int) - i) h1.1 (by omega)
    simp only [bp]; omega
theorem bp_in (all : Int) (k : Nat) (i : Nat) : inL (bp all k i).2 = all - (bp all k i).1 := by
  induction i with
  | zero => simp [bp, inL]
  | succ i ih =>
    have e : inS (if i % 2 = 1 then 3 else 1) ((bp all k i).1 / ((k : Int) - i)) = (bp all k i).1 / ((k : Int) - i) := by unfold inS; rw [if_pos]; split <;> simp
    simp only [bp]
    unfold inL at ih ⊢
    rw [List.map_append, List.sum_append, ih]
    simp only [List.map_cons, List.map_nil, List.sum_cons, List.sum_nil, e]
    omega
theorem bp_len (all : Int) (k i : Nat) : (bp all k i).2.length = i := by
  induction i with
  | zero => rfl
  | succ i ih => simp [bp, ih]
theorem bp_end (all : Int) (k : Nat) (hk : 1 ≤ k) : (bp all k k).1 = 0 := by
  obtain ⟨j, rfl⟩ : ∃ j, k = j + 1 := ⟨k - 1, by omega⟩
  have e : ((j + 1 : Nat) : Int) - (j : Int) = 1 := by omega
  simp only [bp, e, Int.ediv_one]; omega
theorem bp_mem (all : Int) (k : Nat) (h0 : 0 ≤ all) (h1 : all ≤ 1048591) (hk2 : 2 ≤ k) (hk8 : k ≤ 8) (i : Nat) (hi : i ≤ k) (hlow : 1000000 ≤ all) :
    (∀ s ∈ (bp all k i).2, (s.1 = 1 ∨ s.1 = 3) ∧ 0 ≤ s.2.1 ∧ s.2.1 ≤ 1048576 ∧ s.2.2 = ⟨#[]⟩) ∧ (1 ≤ i → (bp all k i).1 ≤ 1048576) := by
  induction i with
  | zero => exact ⟨by simp [bp], by omega⟩
  | succ i ih =>
    obtain ⟨h2, h3⟩ := ih (by omega)
    have h4 := bp_left all k h0 i (by omega)
    have h5 := div_le_self (bp all k i).1 ((k : Int) - i) h4.1 (by omega)
    have h6 : (bp all k i).1 / ((k : Int) - i) ≤ 1048576 ∧ (bp all k i).1 - (bp all k i).1 / ((k : Int) - i) ≤ 1048576 := by
      by_cases hi0 : i = 0
      · subst hi0
        have e : (bp all k 0).1 = all := rfl
        rw [e]
        rcases (by omega : k = 2 ∨ k = 3 ∨ k = 4 ∨ k = 5 ∨ k = 6 ∨ k = 7 ∨ k = 8) with rfl | rfl | rfl | rfl | rfl | rfl | rfl
        all_goals omega
      · have := h3 (by omega); omega
    refine ⟨?_, fun _ => by simp only [bp]; exact h6.2⟩
    intro s hs
    simp only [bp] at hs
    rcases List.mem_append.1 hs with hs | hs
    · exact h2 s hs
    · rw [List.mem_singleton] at hs
      subst hs
      exact ⟨by simp only; split <;> simp, h5.1, h6.1, rfl⟩
theorem dec_one (o : UInt8) (h : o.toNat < 128) : dec [o] = some [o.toNat] := by
  have e : [o] = encs [o.toNat] := by rw [encs_single]; unfold enc1; rw [if_pos h, u8_of]
  rw [e]
  exact dec_encs (fun c hc => by rw [List.mem_singleton] at hc; subst hc; unfold IsCp; omega)
theorem bp_text (all : Int) (k i : Nat) : ∀ s ∈ (bp all k i).2, s.2.2 = ⟨#[]⟩ := by
  induction i with
  | zero => simp [bp]
  | succ i ih =>
    intro s hs
    simp only [bp] at hs
    rcases List.mem_append.1 hs with hs | hs
    · exact ih s hs
    · rw [List.mem_singleton] at hs; subst hs; rfl
/-- The operation that OpBounds makes. -/
def fullL (o : UInt8) (all : Int) (k : Nat) : List Sp := (2, 0, mkS [o]) :: (bp all k k).2
theorem fullL_in (o : UInt8) (all : Int) (k : Nat) (hk : 1 ≤ k) : inL (fullL o all k) = all := by
  have h := bp_in all k k
  rw [bp_end all k hk] at h
  have e : inL (fullL o all k) = 0 + inL (bp all k k).2 := rfl
  rw [e, h]; omega
theorem fullL_ts (o : UInt8) (all : Int) (k : Nat) : ∀ s ∈ fullL o all k, s.2.2.size ≤ 1000000000 := by
  intro s hs
  rcases List.mem_cons.1 hs with rfl | hs
  · show (mkS [o]).size ≤ _
    rw [size_mkS]; simp
  · rw [bp_text all k k s hs]; exact Nat.zero_le _
theorem fullL_may (o : UInt8) (ho : o.toNat < 128) (all : Int) (k : Nat) (hk : 1 ≤ k) (hk8 : k ≤ 8) (h0 : 1048561 ≤ all) (h1 : all ≤ 1048591) : mayL (fullL o all k) = if all ≤ 1048576 then 0 else if k = 1 then 2 else 4 := by
  have hw : wrap64 all = all := by unfold wrap64; omega
  have hput : mayS 2 0 (mkS [o]) = 0 := by unfold mayS; rw [if_neg (by omega), if_pos rfl, if_pos rfl, bs_mkS, dec_one o ho]; rfl
  have he : errL (fullL o all k) = errL (bp all k k).2 := by
    show errL ((2, 0, mkS [o]) :: (bp all k k).2) = _
    rw [errL, if_pos hput]
  unfold mayL
  rw [he, fullL_in o all k hk, hw]
  by_cases h2 : 2 ≤ k
  · have hm := (bp_mem all k (by omega) h1 h2 hk8 k (Nat.le_refl _) (by omega)).1
    rw [errL_all _ (fun s hs => by
      obtain ⟨a, b, c, d⟩ := hm s hs
      unfold mayS
      rw [if_pos a, if_neg (by omega), d]; rfl), if_pos rfl]
    by_cases h3 : all ≤ 1048576
    · rw [if_pos h3, if_neg (by omega)]
    · rw [if_neg h3, if_pos (show 1048576 < all by omega), if_neg (show ¬ k = 1 by omega)]
  · obtain rfl : k = 1 := by omega
    have e : (bp all 1 1).2 = [(1, all, ⟨#[]⟩)] := by
      have e1 : ((1 : Nat) : Int) - ((0 : Nat) : Int) = 1 := by omega
      simp only [bp, e1, Int.ediv_one]; rfl
    rw [e]
    by_cases h3 : all ≤ 1048576
    · have e2 : errL [((1 : Int), all, (⟨#[]⟩ : ByteArray))] = 0 := errL_all _ (by
        intro s hs
        rw [List.mem_singleton] at hs; subst hs
        unfold mayS; rw [if_pos (by simp), if_neg (by simp; omega)]; rfl)
      rw [e2, if_pos rfl, if_neg (by omega), if_pos h3]
    · have e3 : mayS 1 all ⟨#[]⟩ = 2 := by unfold mayS; rw [if_pos (by simp), if_pos (by omega)]
      have e2 : errL [((1 : Int), all, (⟨#[]⟩ : ByteArray))] = 2 := by rw [errL, if_neg (by rw [e3]; omega), e3]
      rw [e2, if_neg (by omega), if_neg h3, if_pos rfl]
end Go.Proofs.Ythlhjjgmncbplaa
