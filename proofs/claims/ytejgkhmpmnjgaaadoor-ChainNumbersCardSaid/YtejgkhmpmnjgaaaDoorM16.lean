/- Layer 16, logs: what is wrong with one, its texts, how long they are. -/
import Derived.Test.YtejgkhmpmnjgaaaDoorC7
import Derived.Test.YtejgkhmpmnjgaaaDoorM15
import Derived.Test.YtejgkhmpmnjgaaaDoorBn
namespace Go.Proofs.YtejgkhmpmnjgaaaDoor
open Go.RowKit
set_option maxRecDepth 100000
set_option maxHeartbeats 4000000
set_option linter.unusedSimpArgs false
/-- Of segments that begin at a text of n code points: what is wrong. -/
def segE : Int → List (List Sp) → Int
  | _, [] => 0
  | n, l :: r => if mayL l ≠ 0 then mayL l else if inL l ≠ n then 5 else if 1048576 < outL l then 4 else if normL l = l then segE (outL l) r else 8
/-- What is wrong with a log. -/
def logE (s : ByteArray) (rv : List Int) (ls : List (List Sp)) : Int :=
  if dec (bs s) = none then 3 else if 1048576 < cntF (bs s) then 4 else if rowOk rv ∧ rv.length = ls.length + 1 then segE (cntF (bs s)) ls else 6
/-- A log's text at a place. -/
def atL (s : ByteArray) (rv : List Int) (ls : List (List Sp)) (i : Int) : ByteArray × Int :=
  if logE s rv ls ≠ 0 then (⟨#[]⟩, logE s rv ls) else if i < 0 ∨ (ls.length : Int) < i then (⟨#[]⟩, 6) else allL s (ls.take i.toNat)
def sizesL (s : ByteArray) (ls : List (List Sp)) : List Int := cntF (bs s) :: ls.map outL
structure SmL (s : ByteArray) (rv : List Int) (ls : List (List Sp)) : Prop where
  base : s.size ≤ 1000000
  revs : rv.length ≤ 1000000
  segs : ls.length ≤ 1000000
  len : ∀ l ∈ ls, l.length ≤ 1000
  sum : sumTT ls ≤ 900000000
theorem sumT_le16 {ls : List (List Sp)} : ∀ l ∈ ls, sumT l ≤ sumTT ls := by
  induction ls with
  | nil => intro l h; cases h
  | cons a r ih =>
    intro l h
    have e : sumTT (a :: r) = sumT a + sumTT r := by simp [sumTT]
    rcases List.mem_cons.1 h with rfl | h
    · omega
    · have := ih l h; omega
theorem mem_sumT16 {l : List Sp} : ∀ s ∈ l, s.2.2.size ≤ sumT l := by
  induction l with
  | nil => intro s h; cases h
  | cons a r ih =>
    intro s h
    have e : sumT (a :: r) = a.2.2.size + sumT r := rfl
    rcases List.mem_cons.1 h with rfl | h
    · omega
    · have := ih s h; omega
theorem SmL.text {s : ByteArray} {rv : List Int} {ls : List (List Sp)} (h : SmL s rv ls) : ∀ l ∈ ls, ∀ x ∈ l, x.2.2.size ≤ 1000000000 := fun l hl x hx => by
  have h1 := sumT_le16 l hl; have h2 := mem_sumT16 x hx; have := h.sum; omega
theorem SmL.sum1 {s : ByteArray} {rv : List Int} {ls : List (List Sp)} (h : SmL s rv ls) : ∀ l ∈ ls, sumT l ≤ 900000000 := fun l hl => Nat.le_trans (sumT_le16 l hl) h.sum
theorem isN_iff16 {l : List Sp} (h : pos l) : isN l ↔ normL l = l := ⟨is_norm l, fun e => by rw [← e]; exact norm_is l h⟩
theorem segE_at {n : Int} {ls : List (List Sp)} {j : Nat} (hj : j < ls.length) : segE n (ls.drop j) = if mayL ls[j] ≠ 0 then mayL ls[j] else if inL ls[j] ≠ n then 5 else if 1048576 < outL ls[j] then 4 else if normL ls[j] = ls[j] then segE (outL ls[j]) (ls.drop (j + 1)) else 8 := by
  rw [List.drop_eq_getElem_cons hj, segE]
theorem logE_3 {s : ByteArray} {rv : List Int} {ls : List (List Sp)} (h : dec (bs s) = none) : logE s rv ls = 3 := by unfold logE; rw [if_pos h]
theorem logE_4 {s : ByteArray} {rv : List Int} {ls : List (List Sp)} (h : dec (bs s) ≠ none) (h4 : 1048576 < cntF (bs s)) : logE s rv ls = 4 := by unfold logE; rw [if_neg h, if_pos h4]
theorem logE_6 {s : ByteArray} {rv : List Int} {ls : List (List Sp)} (h : dec (bs s) ≠ none) (h4 : ¬ 1048576 < cntF (bs s)) (h6 : ¬ (rowOk rv ∧ rv.length = ls.length + 1)) : logE s rv ls = 6 := by unfold logE; rw [if_neg h, if_neg h4, if_neg h6]
theorem logE_s {s : ByteArray} {rv : List Int} {ls : List (List Sp)} (h : dec (bs s) ≠ none) (h4 : ¬ 1048576 < cntF (bs s)) (h6 : rowOk rv ∧ rv.length = ls.length + 1) : logE s rv ls = segE (cntF (bs s)) ls := by unfold logE; rw [if_neg h, if_neg h4, if_pos h6]
theorem logE_ok {s : ByteArray} {rv : List Int} {ls : List (List Sp)} (h : logE s rv ls = 0) : ∃ cs, dec (bs s) = some cs ∧ cs.length ≤ 1048576 ∧ rowOk rv ∧ rv.length = ls.length + 1 ∧ segE (cs.length : Int) ls = 0 := by
  unfold logE at h
  split at h
  · omega
  · rename_i h3
    obtain ⟨cs, hcs⟩ := Option.ne_none_iff_exists'.1 h3
    split at h
    · omega
    · rename_i h4
      rw [cntF_some hcs] at h4 h
      split at h
      · rename_i h6; exact ⟨cs, hcs, by omega, h6.1, h6.2, h⟩
      · omega
theorem logE_of {s : ByteArray} {rv : List Int} {ls : List (List Sp)} {cs : List Nat} (h1 : dec (bs s) = some cs) (h2 : cs.length ≤ 1048576) (h3 : rowOk rv) (h4 : rv.length = ls.length + 1) (h5 : segE (cs.length : Int) ls = 0) : logE s rv ls = 0 := by
  rw [logE_s (by rw [h1]; simp) (by rw [cntF_some h1]; omega) ⟨h3, h4⟩, cntF_some h1]; exact h5
theorem segE_cons {n : Int} {l : List Sp} {r : List (List Sp)} : segE n (l :: r) = 0 ↔ (mayL l = 0 ∧ inL l = n ∧ outL l ≤ 1048576 ∧ normL l = l) ∧ segE (outL l) r = 0 := by
  rw [segE]
  constructor
  · intro h
    split at h
    · rename_i h1; exact absurd h h1
    · rename_i h1
      split at h
      · omega
      · rename_i h2
        split at h
        · omega
        · rename_i h3
          split at h
          · rename_i h4; exact ⟨⟨by omega, by omega, by omega, h4⟩, h⟩
          · omega
  · rintro ⟨⟨h1, h2, h3, h4⟩, h⟩
    rw [if_neg (by omega), if_neg (by omega), if_neg (by omega), if_pos h4]; exact h
theorem segE_append {n : Int} {a b : List (List Sp)} : segE n (a ++ b) = 0 ↔ segE n a = 0 ∧ segE ((n :: a.map outL).getLast (List.cons_ne_nil _ _)) b = 0 := by
  induction a generalizing n with
  | nil => simp [segE]
  | cons l r ih =>
    rw [List.cons_append, segE_cons, ih, segE_cons]
    have e : ((n :: (l :: r).map outL).getLast (List.cons_ne_nil _ _)) = ((outL l :: r.map outL).getLast (List.cons_ne_nil _ _)) := by simp [List.getLast_cons]
    rw [e]
    constructor
    · rintro ⟨h1, h2, h3⟩; exact ⟨⟨h1, h2⟩, h3⟩
    · rintro ⟨⟨h1, h2⟩, h3⟩; exact ⟨h1, h2, h3⟩
theorem segE_take {n : Int} {ls : List (List Sp)} (k : Nat) (h : segE n ls = 0) : segE n (ls.take k) = 0 := by
  have h1 : segE n (ls.take k ++ ls.drop k) = 0 := by rw [List.take_append_drop]; exact h
  exact (segE_append.1 h1).1
/-- One segment that may be, done to a text as long as it takes. -/
theorem seg_to {l : List Sp} {s : ByteArray} {cs : List Nat} (hd : dec (bs s) = some cs) (hm : mayL l = 0) (hi : inL l = (cs.length : Int)) (hl : l.length ≤ 1000) :
    toE l s = 0 ∧ dec (bs (toS l s)) = some (apT (tok l) cs) ∧ ((apT (tok l) cs).length : Int) = outL l := by
  obtain ⟨g1, g2⟩ := to_ok (l := l) hm hd hi.symm
  have hok : ∀ x ∈ l, OkW x := fun x hx => okW_of_may ((mayL_all hm hl).1 x hx)
  obtain ⟨t1, t2⟩ := tin_ok l hok
  refine ⟨g1, ?_, ?_⟩
  · rw [g2, bs_mkS]
    exact dec_encs (apT_cp _ _ (tok_okT _ hok) (dec_some hd).1)
  · rw [apT_length _ _ (by omega)]; exact t2
theorem allL_ok {s : ByteArray} {ls : List (List Sp)} {cs : List Nat} (hd : dec (bs s) = some cs) (h : segE (cs.length : Int) ls = 0) (hl : ∀ l ∈ ls, l.length ≤ 1000) :
    (allL s ls).2 = 0 ∧ ∃ ds, dec (bs (allL s ls).1) = some ds ∧ (ds.length : Int) = (((cs.length : Int) :: ls.map outL).getLast (List.cons_ne_nil _ _)) := by
  induction ls generalizing s cs with
  | nil => exact ⟨rfl, cs, hd, by simp⟩
  | cons l r ih =>
    obtain ⟨⟨h1, h2, h3, h4⟩, h5⟩ := segE_cons.1 h
    obtain ⟨g1, g2, g3⟩ := seg_to hd h1 h2 (hl l (List.mem_cons_self ..))
    rw [allL, if_pos g1]
    obtain ⟨i1, ds, i2, i3⟩ := ih g2 (by rw [g3]; exact h5) fun x hx => hl x (List.mem_cons_of_mem _ hx)
    refine ⟨i1, ds, i2, ?_⟩
    rw [i3, g3]; simp [List.getLast_cons]
theorem allL_append {s : ByteArray} {a b : List (List Sp)} (h : (allL s a).2 = 0) : allL s (a ++ b) = allL (allL s a).1 b := by
  induction a generalizing s with
  | nil => rfl
  | cons l r ih =>
    rw [List.cons_append]
    rw [allL] at h ⊢
    by_cases he : toE l s = 0
    · rw [if_pos he] at h ⊢
      rw [allL, if_pos he]
      exact ih h
    · rw [if_neg he] at h; exact absurd h he
theorem allR_of {s : ByteArray} {ls : List (List Sp)} (h : dec (bs s) ≠ none) : allR s ls = allL s ls := by
  unfold allR; rw [if_neg]; rintro ⟨_, h2⟩; exact h h2
/-- A log that may be: its text at each place. -/
theorem log_at {s : ByteArray} {rv : List Int} {ls : List (List Sp)} (h : logE s rv ls = 0) (hl : ∀ l ∈ ls, l.length ≤ 1000) {j : Nat} (hj : j ≤ ls.length) :
    atL s rv ls (j : Int) = ((allL s (ls.take j)).1, 0) ∧ ∃ ds, dec (bs (allL s (ls.take j)).1) = some ds ∧ (ds.length : Int) = (sizesL s ls).getD j 0 := by
  obtain ⟨cs, h1, h2, h3, h4, h5⟩ := logE_ok h
  obtain ⟨g1, ds, g2, g3⟩ := allL_ok h1 (segE_take j h5) fun l hx => hl l (List.mem_of_mem_take hx)
  refine ⟨?_, ds, g2, ?_⟩
  · unfold atL
    rw [if_neg (by omega), if_neg (by omega), Int.toNat_natCast]
    exact Prod.ext rfl g1
  · rw [g3]
    unfold sizesL
    rw [cntF_some h1]
    rw [List.getLast_eq_getElem, List.getD_eq_getElem?_getD, List.getElem?_eq_getElem (by simp; omega), Option.getD_some]
    simp only [List.length_cons, List.length_map, List.length_take, Nat.add_sub_cancel, Nat.min_eq_left hj]
    rcases j with _ | j
    · simp
    · simp only [List.getElem_cons_succ, List.getElem_map, List.getElem_take]
theorem log_step {s : ByteArray} {rv : List Int} {ls : List (List Sp)} (h : logE s rv ls = 0) (hl : ∀ l ∈ ls, l.length ≤ 1000) {j : Nat} (hj : j < ls.length) :
    toE ls[j] (allL s (ls.take j)).1 = 0 ∧ (allL s (ls.take (j + 1))).1 = toS ls[j] (allL s (ls.take j)).1 := by
  obtain ⟨cs, h1, h2, h3, h4, h5⟩ := logE_ok h
  have e : ls = ls.take j ++ ls[j] :: ls.drop (j + 1) := by rw [← List.drop_eq_getElem_cons hj, List.take_append_drop]
  have h6 : segE (cs.length : Int) (ls.take j ++ ls[j] :: ls.drop (j + 1)) = 0 := by rw [← e]; exact h5
  obtain ⟨s1, s2⟩ := segE_append.1 h6
  obtain ⟨⟨m1, m2, _, _⟩, _⟩ := segE_cons.1 s2
  obtain ⟨g1, ds, g2, g3⟩ := allL_ok h1 s1 fun l hx => hl l (List.mem_of_mem_take hx)
  obtain ⟨t1, _, _⟩ := seg_to g2 m1 (by rw [m2, g3]) (hl _ (List.getElem_mem hj))
  refine ⟨t1, ?_⟩
  have e2 : ls.take (j + 1) = ls.take j ++ [ls[j]] := by rw [List.take_add_one, List.getElem?_eq_getElem hj]; rfl
  rw [e2, allL_append g1, allL, if_pos t1]
  rfl
end Go.Proofs.YtejgkhmpmnjgaaaDoor
