/- Layer 16: logs that are made. -/
import Derived.Test.YtejgkhmpmnjgaaaDoorL16b
namespace Go.Proofs.YtejgkhmpmnjgaaaDoor
open Go.RowKit
set_option maxRecDepth 100000
set_option maxHeartbeats 4000000
set_option linter.unusedSimpArgs false
theorem rises_weak {was w2 : Int} {l : List Int} (h : rises was l) (hw : w2 ≤ was) : rises w2 l := by
  cases l with
  | nil => exact trivial
  | cons x r => obtain ⟨a, b, c⟩ := h; exact ⟨by omega, b, c⟩
theorem rises_take16 {l : List Int} : ∀ {was : Int} (k : Nat), rises was l → rises was (l.take k) := by
  induction l with
  | nil => intro was k h; simpa using h
  | cons x r ih =>
    intro was k h
    cases k with
    | zero => exact trivial
    | succ k => obtain ⟨a, b, c⟩ := h; exact ⟨a, b, ih k c⟩
theorem rises_drop16 {l : List Int} : ∀ {was : Int} (k : Nat), rises was l → rises was (l.drop k) := by
  induction l with
  | nil => intro was k h; simpa using h
  | cons x r ih =>
    intro was k h
    cases k with
    | zero => exact h
    | succ k => obtain ⟨a, b, c⟩ := h; exact ih k (rises_weak c (by omega))
theorem rises_range16 (k b : Nat) (was : Int) (h : was < (b : Int)) (hb : b + k ≤ 268435456) : rises was ((List.range' b k).map fun (i : Nat) => (i : Int)) := by
  induction k generalizing b was with
  | zero => exact trivial
  | succ k ih =>
    rw [List.range'_succ, List.map_cons]
    exact ⟨h, by omega, ih (b + 1) _ (by omega) (by omega)⟩
theorem revL_ok (k : Nat) (hk : k ≤ 1000) : rowOk (revL k) := by
  refine ⟨fun h => by have := revL_len k; rw [h] at this; simp at this, by rw [revL_len]; omega, ?_⟩
  unfold revL
  rw [List.range_eq_range']
  exact rises_range16 (k + 1) 0 (-1) (by omega) (by omega)
/-- The beginning of a log that may be, and its rest behind the text there. -/
theorem log_first {s : ByteArray} {rv : List Int} {ls : List (List Sp)} (h : logE s rv ls = 0) {k : Nat} (hk : k ≤ ls.length) : logE s (rv.take (k + 1)) (ls.take k) = 0 := by
  obtain ⟨cs, h1, h2, ⟨h3, h4, h5⟩, h6, h7⟩ := logE_ok h
  refine logE_of h1 h2 ⟨fun e => ?_, by rw [List.length_take]; omega, rises_take16 _ h5⟩ (by rw [List.length_take, List.length_take]; omega) (segE_take k h7)
  have := congrArg List.length e
  rw [List.length_take, List.length_nil] at this
  omega
theorem log_rest {s : ByteArray} {rv : List Int} {ls : List (List Sp)} (h : logE s rv ls = 0) (hl : ∀ l ∈ ls, l.length ≤ 1000) {k : Nat} (hk : k ≤ ls.length) : logE (allL s (ls.take k)).1 (rv.drop k) (ls.drop k) = 0 := by
  obtain ⟨cs, h1, h2, ⟨h3, h4, h5⟩, h6, h7⟩ := logE_ok h
  have h8 : segE (cs.length : Int) (ls.take k ++ ls.drop k) = 0 := by rw [List.take_append_drop]; exact h7
  obtain ⟨s1, s2⟩ := segE_append.1 h8
  obtain ⟨g1, ds, g2, g3⟩ := allL_ok h1 s1 fun l hx => hl l (List.mem_of_mem_take hx)
  rw [← g3] at s2
  have hb : ds.length ≤ 1048576 := by
    have hm : ∀ (N : Int) (r : List (List Sp)), segE N r = 0 → N ≤ 1048576 → (((N :: r.map outL).getLast (List.cons_ne_nil _ _)) : Int) ≤ 1048576 := by
      intro N r
      induction r generalizing N with
      | nil => intro _ hN; simpa using hN
      | cons a t ih =>
        intro hs hN
        obtain ⟨⟨_, _, q3, _⟩, q5⟩ := segE_cons.1 hs
        have := ih _ q5 q3
        simpa [List.getLast_cons] using this
    have := hm _ _ s1 (by omega)
    omega
  refine logE_of g2 hb ⟨fun e => ?_, by rw [List.length_drop]; omega, rises_drop16 _ h5⟩ (by rw [List.length_drop, List.length_drop]; omega) s2
  have := congrArg List.length e
  rw [List.length_drop, List.length_nil] at this
  omega
theorem log_end {s : ByteArray} {rv : List Int} {ls : List (List Sp)} (h : logE s rv ls = 0) (hl : ∀ l ∈ ls, l.length ≤ 1000) {k : Nat} (_hk : k ≤ ls.length) : (allL (allL s (ls.take k)).1 (ls.drop k)).1 = (allL s ls).1 := by
  obtain ⟨cs, h1, h2, _, h6, h7⟩ := logE_ok h
  obtain ⟨g1, _⟩ := allL_ok h1 (segE_take k h7) fun l hx => hl l (List.mem_of_mem_take hx)
  have := allL_append (b := ls.drop k) g1
  rw [List.take_append_drop] at this
  rw [this]
/-- How long a log's texts are in bytes. -/
theorem allL_size {s : ByteArray} {ls : List (List Sp)} : (allL s ls).1.size ≤ s.size + sumTT ls := by
  induction ls generalizing s with
  | nil => exact Nat.le_add_right _ _
  | cons l r ih =>
    have e : sumTT (l :: r) = sumT l + sumTT r := by simp [sumTT]
    rw [allL]
    split
    · have h1 := ih (s := toS l s)
      have h2 := toS_size l s
      omega
    · show (0 : Nat) ≤ _; omega
/-- A log that is made of a text and any operations. -/
structure FitLog (S : ByteArray) (FR : List Int) (FL : List (List Sp)) : Prop where
  ok : logE S FR FL = 0
  n20 : FL.length ≤ 20
  rev : FR = revL FL.length
  len : ∀ l ∈ FL, l.length ≤ 13
  txt : S.size ≤ 80
  sum : sumTT FL ≤ 6240
theorem FitLog.sm {S : ByteArray} {FR : List Int} {FL : List (List Sp)} (h : FitLog S FR FL) : SmL S FR FL :=
  ⟨by have := h.txt; omega, by rw [h.rev, revL_len]; have := h.n20; omega, by have := h.n20; omega, fun l hl => by have := h.len l hl; omega, by have := h.sum; omega⟩
theorem FitLog.lens {S : ByteArray} {FR : List Int} {FL : List (List Sp)} (h : FitLog S FR FL) : ∀ l ∈ FL, l.length ≤ 1000 := fun l hl => by have := h.len l hl; omega
theorem fit_log {S : ByteArray} {cs : List Nat} {ls : List (List Sp)} (hd : dec (bs S) = some cs) (hc : cs.length ≤ 20) (hS : S.size ≤ 80) : FitLog S (revL (segF cs.length ls).length) (segF cs.length ls) := by
  have h20 : (ls.take 20).length ≤ 20 := by rw [List.length_take]; omega
  obtain ⟨g1, g2⟩ := chain_seg (ls.take 20) (cs.length : Int) (by omega) (by omega)
  have hlen : (segF (cs.length : Int) ls).length ≤ 20 := by unfold segF; rw [List.length_map, chainL_len]; exact h20
  have hmem : ∀ l ∈ segF (cs.length : Int) ls, l.length ≤ 13 ∧ sumT l ≤ 312 := by
    intro l hl
    obtain ⟨x, hx, rfl⟩ := List.mem_map.1 hl
    obtain ⟨_, q2, q3⟩ := g2 x hx
    have := norm_len x
    rw [sumT_norm]; omega
  refine ⟨logE_of hd (by omega) (revL_ok _ (by omega)) (revL_len _) g1, hlen, rfl, fun l hl => (hmem l hl).1, hS, ?_⟩
  have := sumTT_le (segF (cs.length : Int) ls) 312 fun l hl => (hmem l hl).2
  omega
/-- What Fit tells, to be used in a walk. -/
theorem fitG16 (s : ByteArray) (A : Option Addr) (n c : Nat) (ls : List (List Sp)) (w : World) (hs : s.size ≤ maxLen) (h : RdSS w A n c ls) (hls : ∀ l ∈ ls, ∀ x ∈ l, x.2.2.size ≤ maxLen) :
    ∃ S FR FL, FitLog S FR FL ∧ ∀ w', Ext w w' → Calls Tryd.prog 18 #[.string s, .slice A n c] w' fun e w'' => Ext w' w'' ∧ ∃ A' k' c' B d, e = .returned (.agg #[.string S, .slice A' k' c', .slice B FL.length d]) ∧ Rd w'' 1 (.slice A' k' c') k' (nV FR) ∧ RdSS w'' B FL.length d FL := by
  obtain ⟨T, cs, hm1, hm2, hTl, hT0, hsz, HFIT, HCP, hcl, hUs, HD⟩ := cut_fit s 20 20 rfl (by omega) hs
  refine ⟨_, _, segF cs.length ls, fit_log HD.out hcl hUs, fun w' hx => (fitR16_c s A n c ls w' hs (h.ext hx) hls _ cs T hm1 hm2 hTl hsz HFIT hcl hUs HD).mono ?_⟩
  rintro e w'' ⟨q1, A', k', c', B, d, q2, q3, q4⟩
  obtain ⟨_, _, he, _, hss⟩ := q4.slice rfl
  injection he with e1 e2 e3
  subst e1; subst e3
  exact ⟨q1, A', k', c', _, _, q2, q3.rd, hss⟩
theorem fitO16 (s : ByteArray) (A : Option Addr) (n c : Nat) (ls : List (List Sp)) (w : World) (hs : s.size ≤ maxLen) (h : RdSS w A n c ls) (hls : ∀ l ∈ ls, ∀ x ∈ l, x.2.2.size ≤ maxLen) :
    ∃ S FR FL, FitLog S FR FL ∧ ∀ w', Ext w w' → Calls Tryd.prog 18 #[.string s, .slice A n c] w' fun e w'' => Ext w' w'' ∧ ∃ A' k' c' B d, e = .returned (.agg #[.string S, .slice A' k' c', .slice B FL.length d]) ∧ Own w'' w'.heap.size 3 1 (.slice A' k' c') k' (nV FR) ∧ OwnSS w'' w'.heap.size 39 43 (.slice B FL.length d) FL := by
  obtain ⟨T, cs, hm1, hm2, hTl, hT0, hsz, HFIT, HCP, hcl, hUs, HD⟩ := cut_fit s 20 20 rfl (by omega) hs
  exact ⟨_, _, segF cs.length ls, fit_log HD.out hcl hUs, fun w' hx => fitR16_c s A n c ls w' hs (h.ext hx) hls _ cs T hm1 hm2 hTl hsz HFIT hcl hUs HD⟩
end Go.Proofs.YtejgkhmpmnjgaaaDoor
