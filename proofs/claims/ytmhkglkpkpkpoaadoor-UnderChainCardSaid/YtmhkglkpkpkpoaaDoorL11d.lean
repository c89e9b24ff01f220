/- Layer 11, OverMany. -/
import Derived.Test.YtmhkglkpkpkpoaaDoorL11a
import Derived.Test.YtmhkglkpkpkpoaaDoorL10a
namespace Go.Proofs.YtmhkglkpkpkpoaaDoor
open Go.RowKit
set_option maxRecDepth 100000
set_option maxHeartbeats 4000000
/-- What comes behind the first j. -/
def manyL (X : List Sp) (M : Int) (CW : List (List Sp)) (j : Nat) : List Sp := spT (overT (tok X) (fR M (CW.take j)))
theorem many_ok {X : List Sp} (gX : Good X) {M k : Int} (hi : inL X = M) {CW : List (List Sp)} (hT : Thru M CW k) (j : Nat) :
    ∃ m, Thru M (CW.take j) m ∧ (∀ s ∈ manyL X M CW j, OkW s) ∧ tok (manyL X M CW j) = overT (tok X) (fR M (CW.take j)) ∧ inL (manyL X M CW j) = m ∧ sumT (manyL X M CW j) ≤ sumT X := by
  obtain ⟨m, h1, _⟩ := thru_take hT j
  obtain ⟨f1, f2⟩ := fR_len h1
  have ht := gX.tin
  have hok := overT_okT (tok X) (fR M (CW.take j)) (tok_okT X gX.ok)
  have hz : ∀ s ∈ manyL X M CW j, OkW s := spT_okW _ hok
  have e : tok (manyL X M CW j) = overT (tok X) (fR M (CW.take j)) := tok_spT _ hok
  have z1 := (tin_ok _ hz).1
  rw [e, overT_len _ _ (by omega)] at z1
  refine ⟨m, h1, hz, e, by omega, ?_⟩
  unfold manyL
  rw [sumT_spT, over_insT _ _ (by omega)]
  exact insT_sum X gX.ok
theorem many_step {X : List Sp} (gX : Good X) {M k : Int} (hi : inL X = M) {CW : List (List Sp)} (hT : Thru M CW k) (hM : M ≤ 63) (htx : sumTT CW ≤ 6240) (hlx : lenS CW ≤ 260) {j : Nat} (hj : j < CW.length) :
    Good CW[j] ∧ inL (manyL X M CW j) = inL CW[j] ∧ overL (manyL X M CW j) CW[j] = manyL X M CW (j + 1) ∧ 0 ≤ inL CW[j] ∧ inL CW[j] ≤ 10000 := by
  obtain ⟨k1, g1, _⟩ := thru_take hT (j + 1)
  rw [take_snoc hj] at g1
  obtain ⟨g2, o1, o2, o3, o4, o5⟩ := thru_snoc.1 g1
  obtain ⟨m, h1, h2, h3, h4, h5⟩ := many_ok gX hi hT j
  have e1 := (thru_chE h1).2
  have e2 := (thru_chE g2).2
  have hmem := List.getElem_mem hj
  have e3 := le_lenS _ hmem
  have hsm := fR_small g2 (by omega)
  have hol := (outL_le _ hsm.1).2
  have hts := lenS_take CW j
  have hb : inL CW[j] ≤ 10000 := by omega
  refine ⟨⟨o1, by omega, by omega, by omega⟩, by omega, ?_, o2, hb⟩
  have ht := gX.tin
  have hone : Thru (inL CW[j]) [CW[j]] k1 := ⟨o1, rfl, o2, o3, o4, o5⟩
  have hm := over_many (tok X) (by omega) g2 hone
  unfold overL
  rw [h3, ← hm, ← take_snoc hj]
  rfl
theorem many_len {X : List Sp} (gX : Good X) {M k : Int} (hN : isN X) (hi : inL X = M) {CW : List (List Sp)} (hT : Thru M CW k) (hM : M ≤ 63) (htx : sumTT CW ≤ 6240) (hlx : lenS CW ≤ 260) (j : Nat) (hj : j ≤ CW.length) :
    (manyL X M CW j).length ≤ X.length + lenS (CW.take j) := by
  induction j with
  | zero =>
    have h0 := gX.in0
    have ht := gX.tin
    have e : manyL X M CW 0 = X := by
      have hk : fR M (CW.take 0) = List.replicate (tin (tok X)) Tok.keep := by
        rw [List.take_zero]
        show List.replicate M.toNat Tok.keep = _
        rw [show M.toNat = tin (tok X) by omega]
      unfold manyL
      rw [hk, over_keepR]
      exact (spT_isN hN gX.ok).symm
    rw [e]; omega
  | succ j ih =>
    have hj2 : j < CW.length := by omega
    obtain ⟨a1, a2, a3, a4, a5⟩ := many_step gX hi hT hM htx hlx hj2
    obtain ⟨m, h1, h2, h3, h4, h5⟩ := many_ok gX hi hT j
    have h6 := overL_len _ _ h2 a1.ok a2
    have h7 := norm_len (manyL X M CW j)
    have h8 := norm_len CW[j]
    have h9 := ih (by omega)
    rw [a3] at h6
    have e := take_snoc hj2
    rw [e, lenS_append]
    have e2 : lenS [CW[j]] = CW[j].length := by simp [lenS]
    omega
theorem many_all {X : List Sp} (gX : Good X) {M k : Int} (hN : isN X) (hi : inL X = M) {CW : List (List Sp)} (hT : Thru M CW k) (hM : M ≤ 63) (htx : sumTT CW ≤ 6240) (hlx : lenS CW ≤ 260) (hl : X.length ≤ 40) :
    manyL X M CW 0 = X ∧ (∀ j (h : j < CW.length), Good (manyL X M CW j) ∧ Good CW[j] ∧ inL (manyL X M CW j) = inL CW[j] ∧ overL (manyL X M CW j) CW[j] = manyL X M CW (j + 1)) ∧
      overL X (spT (fR M CW)) = manyL X M CW CW.length ∧ (manyL X M CW CW.length).length ≤ 300 ∧ Good (spT (fR M CW)) ∧ inL X = inL (spT (fR M CW)) := by
  have h0 := gX.in0
  have ht := gX.tin
  obtain ⟨s1, s2, s3, s4, s5, s6, s7⟩ := fR_small hT (by omega)
  refine ⟨?_, fun j hj => ?_, ?_, ?_, ⟨s1, by omega, by omega, by omega⟩, by omega⟩
  · have hk : fR M (CW.take 0) = List.replicate (tin (tok X)) Tok.keep := by
      rw [List.take_zero]
      show List.replicate M.toNat Tok.keep = _
      rw [show M.toNat = tin (tok X) by omega]
    unfold manyL
    rw [hk, over_keepR]
    exact (spT_isN hN gX.ok).symm
  · obtain ⟨a1, a2, a3, a4, a5⟩ := many_step gX hi hT hM htx hlx hj
    obtain ⟨m, h1, h2, h3, h4, h5⟩ := many_ok gX hi hT j
    have h6 := many_len gX hN hi hT hM htx hlx j (by omega)
    have h7 := lenS_take CW j
    have h8 := gX.txt
    exact ⟨⟨h2, by omega, by omega, by omega⟩, a1, a2, a3⟩
  · unfold overL manyL
    rw [s2, List.take_length]
  · have h6 := many_len gX hN hi hT hM htx hlx CW.length (Nat.le_refl _)
    rw [List.take_length] at h6
    omega
end Go.Proofs.YtmhkglkpkpkpoaaDoor
