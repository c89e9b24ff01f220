/- Layer 8, the program's parts: mathematics: what a gap comes to, part by part. -/
import Derived.Test.YtggoimakbadbkaaDoorM7
import Derived.Test.YtggoimakbadbkaaDoorC6
import Derived.Test.YtggoimakbadbkaaDoorC4d
import Derived.Test.YtggoimakbadbkaaDoorFr
namespace Go.Proofs.YtggoimakbadbkaaDoor
open Go.RowKit
set_option maxRecDepth 100000
set_option maxHeartbeats 4000000
attribute [local go_sem ↓] Go.wp_at_zero Go.wp_at_succ

theorem where_keep {l : List Sp} {j g a m N : Nat} {t : ByteArray} (hjl : j < l.length) (hs : l[j] = (1, (N : Int), t)) (h : whereT (tok l) g = m + if a ≤ g then whereT (tok (l.drop j)) (g - a) else 0) (hag : a ≤ g) :
    whereT (tok l) g = (m + min N (g - a)) + if a + N ≤ g then whereT (tok (l.drop (j + 1))) (g - (a + N)) else 0 := by
  rw [h, if_pos hag, List.drop_eq_getElem_cons hjl, tok_cons, hs, tokS_num 1 _ _ (by decide), Int.toNat_natCast, if_neg (by decide), whereT_keeps]
  by_cases h1 : g - a < N
  · rw [if_pos h1, if_neg (by omega)]; omega
  · rw [if_neg h1, if_pos (by omega), show g - (a + N) = g - a - N by omega]; omega
theorem where_drop {l : List Sp} {j g a m N : Nat} {t : ByteArray} (hjl : j < l.length) (hs : l[j] = (3, (N : Int), t)) (h : whereT (tok l) g = m + if a ≤ g then whereT (tok (l.drop j)) (g - a) else 0) (hag : a ≤ g) :
    whereT (tok l) g = m + if a + N ≤ g then whereT (tok (l.drop (j + 1))) (g - (a + N)) else 0 := by
  rw [h, if_pos hag, List.drop_eq_getElem_cons hjl, tok_cons, hs, tokS_num 3 _ _ (by decide), Int.toNat_natCast, if_pos rfl, whereT_dels]
  by_cases h1 : g - a < N
  · rw [if_pos h1, if_neg (by omega)]
  · rw [if_neg h1, if_pos (by omega), show g - (a + N) = g - a - N by omega]
theorem where_put {l : List Sp} {j g a m : Nat} {n : Int} {t : ByteArray} {cs : List Nat} (hjl : j < l.length) (hs : l[j] = (2, n, t)) (hd : dec (bs t) = some cs) (h : whereT (tok l) g = m + if a ≤ g then whereT (tok (l.drop j)) (g - a) else 0) (hag : a ≤ g) :
    whereT (tok l) g = (m + cs.length) + if a ≤ g then whereT (tok (l.drop (j + 1))) (g - a) else 0 := by
  rw [h, if_pos hag, if_pos hag, List.drop_eq_getElem_cons hjl, tok_cons, hs, tokS_text t n hd, whereT_inss]
  omega
def whereE (l : List Sp) (g : Int) : Int := if mayL l = 0 then (if 0 ≤ g ∧ g ≤ inL l then 0 else 6) else mayL l
def whereV (l : List Sp) (g : Int) : Value := .tuple #[.int .i64 (if whereE l g = 0 then ((whereT (tok l) g.toNat : Nat) : Int) else 0), .int .i64 (whereE l g)]
def leastE (l : List Sp) (k : Int) : Int := if mayL l = 0 then (if 0 ≤ k ∧ k ≤ outL l then 0 else 6) else mayL l
def leastV (l : List Sp) (k : Int) : Value := .tuple #[.int .i64 (if leastE l k = 0 then ((leastT (tok l) k.toNat : Nat) : Int) else 0), .int .i64 (leastE l k)]
theorem where_ok {l : List Sp} {g : Int} (hm : mayL l = 0) (h0 : 0 ≤ g) (h1 : g ≤ inL l) : whereV l g = .tuple #[.int .i64 ((whereT (tok l) g.toNat : Nat) : Int), .int .i64 0] := by
  have e : whereE l g = 0 := by unfold whereE; rw [if_pos hm, if_pos ⟨h0, h1⟩]
  unfold whereV; rw [e, if_pos rfl]
theorem where_no {l : List Sp} {g : Int} (hm : mayL l = 0) (h : ¬ (0 ≤ g ∧ g ≤ inL l)) : whereV l g = .tuple #[.int .i64 0, .int .i64 6] := by
  have e : whereE l g = 6 := by unfold whereE; rw [if_pos hm, if_neg h]
  unfold whereV; rw [e, if_neg (by decide)]
theorem where_may {l : List Sp} {g : Int} (hm : mayL l ≠ 0) : whereV l g = .tuple #[.int .i64 0, .int .i64 (mayL l)] := by
  have e : whereE l g = mayL l := by unfold whereE; rw [if_neg hm]
  unfold whereV; rw [e, if_neg hm]
theorem least_ok {l : List Sp} {g : Int} (hm : mayL l = 0) (h0 : 0 ≤ g) (h1 : g ≤ outL l) : leastV l g = .tuple #[.int .i64 ((leastT (tok l) g.toNat : Nat) : Int), .int .i64 0] := by
  have e : leastE l g = 0 := by unfold leastE; rw [if_pos hm, if_pos ⟨h0, h1⟩]
  unfold leastV; rw [e, if_pos rfl]
theorem least_no {l : List Sp} {g : Int} (hm : mayL l = 0) (h : ¬ (0 ≤ g ∧ g ≤ outL l)) : leastV l g = .tuple #[.int .i64 0, .int .i64 6] := by
  have e : leastE l g = 6 := by unfold leastE; rw [if_pos hm, if_neg h]
  unfold leastV; rw [e, if_neg (by decide)]
theorem least_may {l : List Sp} {g : Int} (hm : mayL l ≠ 0) : leastV l g = .tuple #[.int .i64 0, .int .i64 (mayL l)] := by
  have e : leastE l g = mayL l := by unfold leastE; rw [if_neg hm]
  unfold leastV; rw [e, if_neg hm]
end Go.Proofs.YtggoimakbadbkaaDoor
namespace Go.Proofs.YtggoimakbadbkaaDoor
set_option maxRecDepth 100000
set_option maxHeartbeats 1000000

/-- What the j-th span gives; what is taken, and given, ahead of it; whether it keeps. -/
def ptG (l : List Sp) (j : Nat) : Nat := tout (tok ((l.drop j).take 1))
def ptT (l : List Sp) (j : Nat) : Nat := tin (tok (l.take j))
def ptV (l : List Sp) (j : Nat) : Nat := tout (tok (l.take j))
def ptK (l : List Sp) (j : Nat) : Bool := match l[j]? with
  | some s => s.1 == 1
  | none => false
theorem one_at (l : List Sp) (j : Nat) (h : j < l.length) : (l.drop j).take 1 = [l[j]] := by
  rw [List.drop_eq_getElem_cons h]; rfl
theorem tok_one (s : Sp) : tok [s] = tokS s := by rw [tok_cons, tok_nil, List.append_nil]
theorem ptG_at (l : List Sp) (j : Nat) (h : j < l.length) : ptG l j = tout (tokS l[j]) := by
  unfold ptG; rw [one_at l j h, tok_one]
theorem ptK_at (l : List Sp) (j : Nat) (h : j < l.length) : ptK l j = (l[j].1 == 1) := by
  unfold ptK; rw [List.getElem?_eq_getElem h]
theorem ptV_step (l : List Sp) (j : Nat) (h : j < l.length) : ptV l (j + 1) = ptV l j + ptG l j := by
  unfold ptV; rw [tok_take l j h, tout_append, ptG_at l j h]
theorem ptT_step (l : List Sp) (j : Nat) (h : j < l.length) : ptT l (j + 1) = ptT l j + tin (tokS l[j]) := by
  unfold ptT; rw [tok_take l j h, tin_append]
theorem tout_le_of_take (l : List Sp) (j : Nat) : tout (tok (l.take j)) ≤ tout (tok l) := by
  have e := congrArg tok (List.take_append_drop j l)
  rw [tok_append] at e
  have := congrArg tout e
  rw [tout_append] at this; omega
theorem ptG_le (l : List Sp) (j : Nat) : ptG l j ≤ tout (tok l) := by
  have e := congrArg tok (List.take_append_drop j l)
  have e2 := congrArg tok (List.take_append_drop 1 (l.drop j))
  rw [tok_append] at e e2
  have h1 := congrArg tout e
  have h2 := congrArg tout e2
  rw [tout_append] at h1 h2
  unfold ptG; omega
theorem pt_zero (l : List Sp) : ptT l 0 = 0 ∧ ptV l 0 = 0 := ⟨rfl, rfl⟩
theorem tout_map_ins (us : List Nat) : tout (us.map Tok.ins) = us.length := by
  induction us with
  | nil => rfl
  | cons u us ih => rw [List.map_cons, tout_cins, ih, List.length_cons]
theorem tout_rep_keep (n : Nat) : tout (List.replicate n Tok.keep) = n := by
  induction n with
  | zero => rfl
  | succ n ih => rw [List.replicate_succ, tout_keep, ih]
theorem tout_rep_del (n : Nat) : tout (List.replicate n Tok.del) = 0 := by
  induction n with
  | zero => rfl
  | succ n ih => rw [List.replicate_succ, tout_del, ih]
/-- How many are given up to a gap, of a part; the least gap, of a part. -/
def ptU (l : List Sp) (g j : Nat) : Nat := ptV l j + (if ptK l j then min (ptG l j) (g - ptT l j) else ptG l j)
def ptR (l : List Sp) (g j : Nat) : Int := if ptK l j then (ptT l j : Int) + g - ptV l j else ptT l j
/-- What stands behind the parts that have come. -/
def lastU (f : Nat → Nat) (pre : List Nat) : Nat := match pre.getLast? with
  | some j => f j
  | none => 0
theorem lastU_nil (f : Nat → Nat) : lastU f [] = 0 := rfl
theorem lastU_snoc (f : Nat → Nat) (pre : List Nat) (j : Nat) : lastU f (pre ++ [j]) = f j := by simp [lastU]
theorem where_parts (l : List Sp) (g : Nat) (hok : ∀ s ∈ l, OkW s) (k : Nat) (hk : k ≤ l.length) (h : ∀ j, j < k → ptT l j ≤ g) :
    (whereT (tok l) g = lastU (ptU l g) (List.range k) + if ptT l k ≤ g then whereT (tok (l.drop k)) (g - ptT l k) else 0) ∧ (ptT l k ≤ g → lastU (ptU l g) (List.range k) = ptV l k) := by
  induction k with
  | zero => exact ⟨by rw [List.range_zero, lastU_nil, (pt_zero l).1, if_pos (Nat.zero_le _), List.drop_zero, Nat.zero_add, Nat.sub_zero], fun _ => rfl⟩
  | succ k ih =>
    have hjl : k < l.length := by omega
    obtain ⟨h1, h2⟩ := ih (by omega) (fun j hj => h j (by omega))
    have hk := h k (by omega)
    have e2 := h2 hk
    rw [e2] at h1
    rw [List.range_succ, lastU_snoc]
    have hs := ptT_step l k hjl
    have hv := ptV_step l k hjl
    have hg := ptG_at l k hjl
    have hkk := ptK_at l k hjl
    have hkeep := fun N tt => @where_keep l k g (ptT l k) (ptV l k) N tt hjl
    have hdrop := fun N tt => @where_drop l k g (ptT l k) (ptV l k) N tt hjl
    have hput := fun n tt cs => @where_put l k g (ptT l k) (ptV l k) n tt cs hjl
    have ok := hok _ (List.getElem_mem hjl)
    unfold OkW at ok
    unfold ptU
    obtain ⟨sp, hsp⟩ : ∃ sp, l[k] = sp := ⟨_, rfl⟩
    rw [hsp] at hs hg hkk hkeep hdrop hput ok
    obtain ⟨a1, a2, a3⟩ := sp
    simp only at ok hkk
    rcases ok with ⟨k1, n1, us, hu⟩ | ⟨k1, n1, t1e⟩
    · subst k1; subst n1
      have hp := hput 0 a3 us rfl hu h1 hk
      rw [tokS_text _ _ hu, tin_map_ins, Nat.add_zero] at hs
      rw [tokS_text _ _ hu, tout_map_ins] at hg
      have e : ptK l k = false := by rw [hkk]; rfl
      rw [e, if_neg (by decide), hg, hs]
      exact ⟨hp, fun _ => by omega⟩
    · obtain ⟨N, rfl⟩ := Int.eq_ofNat_of_zero_le n1
      subst t1e
      rcases k1 with k1 | k1
      · subst k1
        have hp := hkeep N ⟨#[]⟩ rfl h1 hk
        rw [tokS_num _ _ _ (by decide), if_neg (by decide), Int.toNat_natCast, tin_rep _ (.inl rfl)] at hs
        rw [tokS_num _ _ _ (by decide), if_neg (by decide), Int.toNat_natCast, tout_rep_keep] at hg
        have e : ptK l k = true := by rw [hkk]; rfl
        rw [e, if_pos rfl, hg, hs]
        exact ⟨hp, fun h => by rw [hv, hg]; omega⟩
      · subst k1
        have hp := hdrop N ⟨#[]⟩ rfl h1 hk
        rw [tokS_num _ _ _ (by decide), if_pos rfl, Int.toNat_natCast, tin_rep _ (.inr rfl)] at hs
        rw [tokS_num _ _ _ (by decide), if_pos rfl, Int.toNat_natCast, tout_rep_del] at hg
        have e : ptK l k = false := by rw [hkk]; rfl
        rw [e, if_neg (by decide), hg, hs]
        exact ⟨hp, fun h => by omega⟩
/-- All parts have come. -/
theorem where_all (l : List Sp) (g : Nat) (hok : ∀ s ∈ l, OkW s) (h : ∀ j ∈ List.range l.length, ptT l j ≤ g) : lastU (ptU l g) (List.range l.length) = whereT (tok l) g := by
  have := (where_parts l g hok l.length (Nat.le_refl _) (fun j hj => h j (List.mem_range.2 hj))).1
  rw [this, List.drop_length]
  split
  · rfl
  · rfl
/-- A part behind the gap has come. -/
theorem where_stop (l : List Sp) (g k : Nat) (hok : ∀ s ∈ l, OkW s) (hk : k ≤ l.length) (h : ∀ j ∈ List.range k, ptT l j ≤ g) (hs : g < ptT l k) : lastU (ptU l g) (List.range k) = whereT (tok l) g := by
  have := (where_parts l g hok k hk (fun j hj => h j (List.mem_range.2 hj))).1
  rw [this, if_neg (by omega), Nat.add_zero]
theorem leastT_append (xs ys : List Tok) (k : Nat) (h : tout xs < k) : leastT (xs ++ ys) k = tin xs + leastT ys (k - tout xs) := by
  induction xs generalizing k with
  | nil => simp [tin_nil, tout_nil]
  | cons t ts ih =>
    rcases k with _ | k
    · omega
    rcases t with _ | _ | _ <;> simp only [tout_cins, tout_keep, tout_del] at h <;> rw [List.cons_append, leastT, ih _ (by omega)] <;> simp only [tin_ins, tin_keep, tin_del, tout_cins, tout_keep, tout_del]
    · rw [show k + 1 - (tout ts + 1) = k - tout ts by omega]
    · rw [show k + 1 - (tout ts + 1) = k - tout ts by omega]; omega
    · omega
/-- The first part that gives as many has come. -/
theorem least_stop (l : List Sp) (g j : Nat) (hok : ∀ s ∈ l, OkW s) (hj : j < l.length) (h : ∀ i, i < j → ptV l i + ptG l i < g) (hs : g ≤ ptV l j + ptG l j) : ptR l g j = (leastT (tok l) g : Nat) := by
  have hv : j = 0 ∨ ptV l j < g := by
    rcases j with _ | j
    · exact .inl rfl
    · have := h j (by omega)
      rw [← ptV_step l j (by omega)] at this
      exact .inr this
  have hkk := ptK_at l j hj
  have hg := ptG_at l j hj
  by_cases hz : g = 0
  · subst hz
    rcases hv with rfl | hv
    · rw [leastT_zero]
      unfold ptR
      rw [(pt_zero l).1, (pt_zero l).2]
      split <;> rfl
    · omega
  have hv' : ptV l j < g := by
    rcases hv with rfl | hv
    · rw [(pt_zero l).2]; omega
    · exact hv
  have e : tok l = tok (l.take j) ++ tok (l.drop j) := by rw [← tok_append, List.take_append_drop]
  rw [e, leastT_append _ _ _ hv', List.drop_eq_getElem_cons hj, tok_cons]
  show ptR l g j = ((ptT l j + leastT _ (g - ptV l j) : Nat) : Int)
  have ok := hok _ (List.getElem_mem hj)
  unfold OkW at ok
  unfold ptR
  obtain ⟨sp, hsp⟩ : ∃ sp, l[j] = sp := ⟨_, rfl⟩
  rw [hsp] at hkk hg ok
  rw [hsp]
  obtain ⟨a1, a2, a3⟩ := sp
  simp only at ok hkk
  rcases ok with ⟨k1, n1, us, hu⟩ | ⟨k1, n1, t1e⟩
  · subst k1; subst n1
    rw [tokS_text _ _ hu, tout_map_ins] at hg
    have e : ptK l j = false := by rw [hkk]; rfl
    rw [e, if_neg (by decide), tokS_text _ _ hu, leastT_inss]
    split
    · rfl
    · rw [show g - ptV l j - us.length = 0 by omega, leastT_zero]; rfl
  · obtain ⟨N, rfl⟩ := Int.eq_ofNat_of_zero_le n1
    subst t1e
    rcases k1 with k1 | k1
    · subst k1
      rw [tokS_num _ _ _ (by decide), if_neg (by decide), Int.toNat_natCast, tout_rep_keep] at hg
      have e : ptK l j = true := by rw [hkk]; rfl
      rw [e, if_pos rfl, tokS_num _ _ _ (by decide), if_neg (by decide), Int.toNat_natCast, leastT_keeps]
      split
      · omega
      · rw [if_pos (by omega), leastT_zero]; omega
    · subst k1
      rw [tokS_num _ _ _ (by decide), if_pos rfl, Int.toNat_natCast, tout_rep_del] at hg
      omega
/-- Some part gives as many, if there are parts. -/
theorem least_none (l : List Sp) (g : Nat) (hg : g ≤ tout (tok l)) (h : ∀ j ∈ List.range l.length, ptV l j + ptG l j < g) : leastT (tok l) g = 0 := by
  by_cases hl : l.length = 0
  · have : l = [] := List.length_eq_zero_iff.1 hl
    subst this; cases g <;> rfl
  · have h1 := h (l.length - 1) (List.mem_range.2 (by omega))
    rw [← ptV_step l _ (by omega), show l.length - 1 + 1 = l.length by omega] at h1
    unfold ptV at h1
    rw [List.take_length] at h1
    omega
theorem range_snoc {k : Nat} {pre : List Nat} {j : Nat} (h : pre ++ [j] = List.range k) : k = j + 1 ∧ pre = List.range j := by
  have hl := congrArg List.length h
  rw [List.length_append, List.length_range] at hl
  have e : k = pre.length + 1 := by simpa using hl.symm
  subst e
  rw [List.range_succ] at h
  obtain ⟨h1, h2⟩ := List.append_inj' h rfl
  injection h2 with h3 _
  subst h3
  exact ⟨rfl, h1⟩
end Go.Proofs.YtggoimakbadbkaaDoor
