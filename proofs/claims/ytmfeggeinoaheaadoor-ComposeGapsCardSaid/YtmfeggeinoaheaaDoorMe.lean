/- A composition gap by gap, place by place: mathematics. -/
import Derived.Test.YtmfeggeinoaheaaDoorMh
namespace Go.Proofs.YtmfeggeinoaheaaDoor
set_option maxRecDepth 100000
set_option linter.unusedSimpArgs false

/-- What is put at a place in a gap. -/
def insAt : List Tok → Nat → Nat → List Nat
  | [], _, _ => []
  | .ins c :: _, 0, 0 => [c]
  | .ins _ :: _, _ + 1, 0 => []
  | .ins _ :: a, j, t + 1 => insAt a j t
  | .keep :: _, _, 0 => []
  | .keep :: _, 0, _ + 1 => []
  | .keep :: a, j + 1, t + 1 => insAt a j t
  | .del :: _, 0, _ => []
  | .del :: a, j + 1, t => insAt a j t
/-- What comes into a gap at a place: what the second one puts there, if that gap is the least one; what the first one puts and the second one does not drop. -/
def conA (a : List Tok) (Q : List (List Nat)) (j t : Nat) : List Nat := if leastT a t = j then Q.getD t [] else []
def conB (a : List Tok) (E : List Bool) (j t : Nat) : List Nat := if E.getD t true then [] else insAt a j t
def conG (a : List Tok) (Q : List (List Nat)) (E : List Bool) (j t : Nat) : List Nat := conA a Q j t ++ conB a E j t
def conS (a : List Tok) (Q : List (List Nat)) (E : List Bool) (j n : Nat) : List Nat := (List.range n).flatMap (conG a Q E j)
theorem conS_succ (a : List Tok) (Q : List (List Nat)) (E : List Bool) (j n : Nat) : conS a Q E j (n + 1) = conS a Q E j n ++ conG a Q E j n := by
  unfold conS; rw [List.range_succ, List.flatMap_append]; simp
theorem conS_head (a : List Tok) (Q : List (List Nat)) (E : List Bool) (j n : Nat) : conS a Q E j (n + 1) = conG a Q E j 0 ++ (List.range n).flatMap fun t => conG a Q E j (t + 1) := by
  unfold conS; rw [List.range_succ_eq_map, List.flatMap_cons, List.flatMap_map]
theorem flatMap_nil {n : Nat} {f : Nat → List Nat} (h : ∀ t, f t = []) : (List.range n).flatMap f = [] := by
  rw [List.flatMap_eq_nil_iff]; exact fun t _ => h t
theorem consHead_getD (c : Nat) (l : List (List Nat)) (h : l ≠ []) (j : Nat) : (consHead c l).getD j [] = (if j = 0 then [c] else []) ++ l.getD j [] := by
  cases l with
  | nil => exact absurd rfl h
  | cons x r => cases j <;> simp [consHead]
theorem conG_insB (a : List Tok) (c : Nat) (Q : List (List Nat)) (hQ : Q ≠ []) (E : List Bool) (j t : Nat) : conG a (consHead c Q) E j t = (if t = 0 ∧ j = 0 then [c] else []) ++ conG a Q E j t := by
  unfold conG conA
  rw [consHead_getD c Q hQ, ← List.append_assoc]
  congr 1
  cases t with
  | zero =>
    rw [leastT_zero]
    cases j <;> simp
  | succ t => split <;> simp
theorem conG_del0 (a : List Tok) (Q : List (List Nat)) (hq : Q.getD 0 [] = []) (E : List Bool) (t : Nat) : conG (.del :: a) Q E 0 t = [] := by
  unfold conG conA conB
  cases t with
  | zero => rw [hq]; simp [insAt]
  | succ t => simp [leastT, insAt]
theorem conG_del (a : List Tok) (Q : List (List Nat)) (hq : Q.getD 0 [] = []) (E : List Bool) (j t : Nat) : conG (.del :: a) Q E (j + 1) t = conG a Q E j t := by
  unfold conG conA conB
  cases t with
  | zero => rw [leastT_zero, leastT_zero, hq]; simp [insAt]
  | succ t => simp [leastT, insAt]
theorem conG_keep0 (a : List Tok) (Q : List (List Nat)) (E : List Bool) (j : Nat) : conG (.keep :: a) ([] :: Q) E j 0 = [] := by
  unfold conG conA conB
  simp [insAt]
theorem conG_keepZ (a : List Tok) (Q : List (List Nat)) (E : List Bool) (t : Nat) : conG (.keep :: a) Q E 0 (t + 1) = [] := by
  unfold conG conA conB
  simp [leastT, insAt]
theorem conG_keep (a : List Tok) (Q : List (List Nat)) (q : List Nat) (e : Bool) (E : List Bool) (j t : Nat) : conG (.keep :: a) (q :: Q) (e :: E) (j + 1) (t + 1) = conG a Q E j t := by
  unfold conG conA conB
  simp [leastT, insAt]
theorem conG_ins0 (c : Nat) (a : List Tok) (Q : List (List Nat)) (e : Bool) (E : List Bool) (j : Nat) : conG (.ins c :: a) ([] :: Q) (e :: E) j 0 = if e then [] else if j = 0 then [c] else [] := by
  unfold conG conA conB
  cases j <;> simp [insAt]
theorem conG_ins (c : Nat) (a : List Tok) (Q : List (List Nat)) (q : List Nat) (e : Bool) (E : List Bool) (j t : Nat) : conG (.ins c :: a) (q :: Q) (e :: E) j (t + 1) = conG a Q E j t := by
  unfold conG conA conB
  simp [leastT, insAt]
theorem conS_same {a a' : List Tok} {Q Q' : List (List Nat)} {E E' : List Bool} {j j' : Nat} (n : Nat) (h : ∀ t, conG a Q E j t = conG a' Q' E' j' t) : conS a Q E j n = conS a' Q' E' j' n := by
  unfold conS
  rw [show conG a Q E j = conG a' Q' E' j' from funext h]
theorem conS_none {a : List Tok} {Q : List (List Nat)} {E : List Bool} {j : Nat} (n : Nat) (h : ∀ t, conG a Q E j t = []) : conS a Q E j n = [] := flatMap_nil h
theorem tout_ins (c : Nat) (a : List Tok) : tout (.ins c :: a) = tout a + 1 := by simp [tout]
theorem touK (a : List Tok) : tout (.keep :: a) = tout a + 1 := by simp [tout]
theorem touD (a : List Tok) : tout (.del :: a) = tout a := by simp [tout]
theorem pDel (r : List Tok) : gpP (.del :: r) = [] :: gpP r := rfl
theorem pKeep (r : List Tok) : gpP (.keep :: r) = [] :: gpP r := rfl
theorem dDel (r : List Tok) : gpD (.del :: r) = true :: gpD r := rfl
theorem dKeep (r : List Tok) : gpD (.keep :: r) = false :: gpD r := rfl
theorem dIns (c : Nat) (r : List Tok) : gpD (.ins c :: r) = gpD r := rfl
theorem wDel (r : List Tok) (j : Nat) : whereT (.del :: r) (j + 1) = whereT r j := rfl
theorem wKeep (r : List Tok) (j : Nat) : whereT (.keep :: r) (j + 1) = whereT r j + 1 := rfl
theorem wIns (c : Nat) (r : List Tok) (j : Nat) : whereT (.ins c :: r) j = whereT r j + 1 := rfl
theorem tin_ins1 (c : Nat) (a : List Tok) : tin (.ins c :: a) = tin a := by simp [tin]
theorem tin_keep1 (a : List Tok) : tin (.keep :: a) = tin a + 1 := by simp [tin]
theorem tin_del1 (a : List Tok) : tin (.del :: a) = tin a + 1 := by simp [tin]
theorem tnil : tout [] = 0 ∧ tin [] = 0 := ⟨rfl, rfl⟩
theorem gap_comp (a b : List Tok) (h : tout a = tin b) (j : Nat) : (gpP (compT a b)).getD j [] = conS a (gpP b) (gpD b) j (tout a + 1) := by
  induction hn : a.length + b.length using Nat.strongRecOn generalizing a b j with
  | ind n ih =>
    rcases b with _ | ⟨d | _ | _, b⟩
    · rcases a with _ | ⟨c | _ | _, a⟩
      · rw [compT, conS_head]
        cases j <;> simp [gpP, gpD, conG, conA, conB, leastT, tout]
      · rw [tout_ins, tnil.2] at h; omega
      · rw [touK, tnil.2] at h; omega
      · rw [touD] at h ⊢
        have hq : (gpP []).getD 0 [] = [] := rfl
        rw [compT, pDel]
        cases j with
        | zero => rw [conS_none _ fun t => conG_del0 a _ hq _ t]; rfl
        | succ j =>
          rw [conS_same _ fun t => conG_del a _ hq _ j t, List.getD_cons_succ]
          exact ih _ (by simp at hn ⊢; omega) a [] h j rfl
    · rw [tin_ins1] at h
      rw [compT_ins, gpP, gpD, gpP, consHead_getD _ _ (gpP_ne _), ih _ (by simp at hn ⊢; omega) a b h j rfl, conS_head, conS_head, conG_insB _ _ _ (gpP_ne _)]
      rw [show (fun t => conG a (consHead d (gpP b)) (gpD b) j (t + 1)) = fun t => conG a (gpP b) (gpD b) j (t + 1) from funext fun t => by rw [conG_insB _ _ _ (gpP_ne _)]; simp]
      simp
    · rw [tin_keep1] at h
      have hq : (gpP (.keep :: b)).getD 0 [] = [] := rfl
      rcases a with _ | ⟨c | _ | _, a⟩
      · rw [tnil.1] at h; omega
      · rw [tout_ins] at h ⊢
        rw [compT, gpP, pKeep, dKeep, consHead_getD _ _ (gpP_ne _), conS_head, conG_ins0, ih _ (by simp at hn ⊢; omega) a b (by omega) j rfl]
        simp only [conG_ins]
        rfl
      · rw [touK] at h ⊢
        rw [compT, pKeep, pKeep, dKeep, conS_head, conG_keep0]
        cases j with
        | zero => rw [flatMap_nil fun t => conG_keepZ a _ _ t]; rfl
        | succ j =>
          simp only [conG_keep]
          rw [List.getD_cons_succ, List.nil_append]
          exact ih _ (by simp at hn ⊢; omega) a b (by omega) j rfl
      · rw [touD] at h ⊢
        rw [compT, pDel]
        cases j with
        | zero => rw [conS_none _ fun t => conG_del0 a _ hq _ t]; rfl
        | succ j =>
          rw [conS_same _ fun t => conG_del a _ hq _ j t, List.getD_cons_succ]
          exact ih _ (by simp at hn ⊢; omega) a (.keep :: b) (by rw [tin_keep1]; exact h) j rfl
    · rw [tin_del1] at h
      have hq : (gpP (.del :: b)).getD 0 [] = [] := rfl
      rcases a with _ | ⟨c | _ | _, a⟩
      · rw [tnil.1] at h; omega
      · rw [tout_ins] at h ⊢
        rw [compT, pDel, dDel, conS_head, conG_ins0, ih _ (by simp at hn ⊢; omega) a b (by omega) j rfl]
        simp only [conG_ins]
        rfl
      · rw [touK] at h ⊢
        rw [compT, pDel, pDel, dDel, conS_head, conG_keep0]
        cases j with
        | zero => rw [flatMap_nil fun t => conG_keepZ a _ _ t]; rfl
        | succ j =>
          simp only [conG_keep]
          rw [List.getD_cons_succ, List.nil_append]
          exact ih _ (by simp at hn ⊢; omega) a b (by omega) j rfl
      · rw [touD] at h ⊢
        rw [compT, pDel]
        cases j with
        | zero => rw [conS_none _ fun t => conG_del0 a _ hq _ t]; rfl
        | succ j =>
          rw [conS_same _ fun t => conG_del a _ hq _ j t, List.getD_cons_succ]
          exact ih _ (by simp at hn ⊢; omega) a (.del :: b) (by rw [tin_del1]; exact h) j rfl
/-- A code point is dropped if either drops it. -/
theorem gone_comp (a b : List Tok) (h : tout a = tin b) (j : Nat) : (gpD (compT a b)).getD j true = ((gpD a).getD j true || (gpD b).getD (whereT a j) true) := by
  induction hn : a.length + b.length using Nat.strongRecOn generalizing a b j with
  | ind n ih =>
    rcases b with _ | ⟨d | _ | _, b⟩
    · rcases a with _ | ⟨c | _ | _, a⟩
      · rw [compT]; simp [gpD]
      · rw [tout_ins, tnil.2] at h; omega
      · rw [touK, tnil.2] at h; omega
      · rw [touD] at h
        rw [compT, dDel, dDel]
        cases j with
        | zero => simp
        | succ j =>
          rw [List.getD_cons_succ, List.getD_cons_succ, wDel]
          exact ih _ (by simp at hn ⊢; omega) a [] h j rfl
    · rw [tin_ins1] at h
      rw [compT_ins, dIns, dIns]
      exact ih _ (by simp at hn ⊢; omega) a b h j rfl
    · rw [tin_keep1] at h
      rcases a with _ | ⟨c | _ | _, a⟩
      · rw [tnil.1] at h; omega
      · rw [tout_ins] at h
        rw [compT, dIns, dIns, dKeep, wIns, List.getD_cons_succ]
        exact ih _ (by simp at hn ⊢; omega) a b (by omega) j rfl
      · rw [touK] at h
        rw [compT, dKeep, dKeep, dKeep]
        cases j with
        | zero => simp [whereT]
        | succ j =>
          rw [wKeep, List.getD_cons_succ, List.getD_cons_succ, List.getD_cons_succ]
          exact ih _ (by simp at hn ⊢; omega) a b (by omega) j rfl
      · rw [touD] at h
        rw [compT, dDel, dDel a]
        cases j with
        | zero => simp
        | succ j =>
          rw [List.getD_cons_succ, List.getD_cons_succ, wDel]
          exact ih _ (by simp at hn ⊢; omega) a (.keep :: b) (by rw [tin_keep1]; exact h) j rfl
    · rw [tin_del1] at h
      rcases a with _ | ⟨c | _ | _, a⟩
      · rw [tnil.1] at h; omega
      · rw [tout_ins] at h
        rw [compT, dIns, dDel, wIns, List.getD_cons_succ]
        exact ih _ (by simp at hn ⊢; omega) a b (by omega) j rfl
      · rw [touK] at h
        rw [compT, dDel, dKeep, dDel]
        cases j with
        | zero => simp [whereT]
        | succ j =>
          rw [wKeep, List.getD_cons_succ, List.getD_cons_succ, List.getD_cons_succ]
          exact ih _ (by simp at hn ⊢; omega) a b (by omega) j rfl
      · rw [touD] at h
        rw [compT, dDel, dDel a]
        cases j with
        | zero => simp
        | succ j =>
          rw [List.getD_cons_succ, List.getD_cons_succ, wDel]
          exact ih _ (by simp at hn ⊢; omega) a (.del :: b) (by rw [tin_del1]; exact h) j rfl
/-- How many places lie ahead of a gap. -/
def plS (ps : List (List Nat)) (ds : List Bool) (i : Nat) : Nat := (ps.getD i []).length + if ds.getD i true then 0 else 1
def plN (ps : List (List Nat)) (ds : List Bool) (j : Nat) : Nat := ((List.range j).map (plS ps ds)).sum
theorem plN_succ (ps : List (List Nat)) (ds : List Bool) (j : Nat) : plN ps ds (j + 1) = plN ps ds j + plS ps ds j := by
  simp [plN, List.range_succ]
theorem plN_cons (p : List Nat) (ps : List (List Nat)) (d : Bool) (ds : List Bool) (j : Nat) : plN (p :: ps) (d :: ds) (j + 1) = p.length + (if d then 0 else 1) + plN ps ds j := by
  have e : List.range (j + 1) = 0 :: (List.range j).map Nat.succ := List.range_succ_eq_map
  unfold plN
  have h1 : (plS (p :: ps) (d :: ds)) ∘ Nat.succ = plS ps ds := by funext i; simp [plS]
  have h0 : plS (p :: ps) (d :: ds) 0 = p.length + (if d then 0 else 1) := by simp [plS]
  rw [e, List.map_cons, List.map_map, h1, List.sum_cons, h0]
theorem insAt_inss (p : List Nat) (r : List Tok) (j t : Nat) : insAt (p.map Tok.ins ++ r) j t = if t < p.length then (if j = 0 then [p.getD t 0] else []) else insAt r j (t - p.length) := by
  induction p generalizing t with
  | nil => simp
  | cons c p ih =>
    rw [List.map_cons, List.cons_append]
    cases t with
    | zero => cases j <;> simp [insAt]
    | succ t =>
      rw [show insAt (Tok.ins c :: (p.map Tok.ins ++ r)) j (t + 1) = insAt (p.map Tok.ins ++ r) j t by cases j <;> rfl, ih t]
      simp
theorem insAt_ug (ps : List (List Nat)) (ds : List Bool) (h : ps.length = ds.length + 1) (i : Nat) (hi : i ≤ ds.length) (k : Nat) (hk : k < (ps.getD i []).length) (j : Nat) :
    insAt (ug ps ds) j (plN ps ds i + k) = if j = i then [(ps.getD i []).getD k 0] else [] := by
  induction ds generalizing ps i j with
  | nil =>
    obtain rfl : i = 0 := by simpa using hi
    match ps, h with
    | [p], _ =>
      have e := insAt_inss p [] j (plN [p] [] 0 + k)
      rw [List.append_nil] at e
      show insAt (p.map Tok.ins) j _ = _
      rw [e]
      simp [plN] at hk ⊢
      simp [hk]
      exact fun hh => absurd hh (by omega)
  | cons d ds ih =>
    cases ps with
    | nil => simp at h
    | cons p ps =>
      show insAt (p.map Tok.ins ++ (if d then Tok.del else Tok.keep) :: ug ps ds) j _ = _
      rw [insAt_inss]
      cases i with
      | zero =>
        simp [plN] at hk ⊢
        simp [hk]
        exact fun hh => absurd hh (by omega)
      | succ i =>
        have g := fun j => ih ps (by simpa using h) i (by simpa using hi) (by simpa using hk) j
        rw [plN_cons, if_neg (by omega)]
        cases d
        · rw [show p.length + (if false = true then 0 else 1) + plN ps ds i + k - p.length = plN ps ds i + k + 1 by simp; omega]
          cases j with
          | zero => simp [insAt]
          | succ j => simp only [Bool.false_eq_true, if_false, insAt]; rw [g j]; simp
        · rw [show p.length + (if true = true then 0 else 1) + plN ps ds i + k - p.length = plN ps ds i + k by simp; omega]
          cases j with
          | zero => simp [insAt]
          | succ j => simp only [if_true, insAt]; rw [g j]; simp
theorem insAt_end (ps : List (List Nat)) (ds : List Bool) (h : ps.length = ds.length + 1) (i : Nat) (hd : ds.getD i true = false) (j : Nat) :
    insAt (ug ps ds) j (plN ps ds i + (ps.getD i []).length) = [] := by
  induction ds generalizing ps i j with
  | nil => simp at hd
  | cons d ds ih =>
    cases ps with
    | nil => simp at h
    | cons p ps =>
      show insAt (p.map Tok.ins ++ (if d then Tok.del else Tok.keep) :: ug ps ds) j _ = _
      rw [insAt_inss]
      cases i with
      | zero =>
        rw [List.getD_cons_zero] at hd
        subst hd
        simp [plN, insAt]
      | succ i =>
        have g := fun j => ih ps (by simpa using h) i (by simpa using hd) j
        rw [plN_cons, if_neg (by simp; omega), List.getD_cons_succ]
        cases d
        · rw [show p.length + (if false = true then 0 else 1) + plN ps ds i + (ps.getD i []).length - p.length = plN ps ds i + (ps.getD i []).length + 1 by simp; omega]
          cases j with
          | zero => simp [insAt]
          | succ j => simp only [Bool.false_eq_true, if_false, insAt]; exact g j
        · rw [show p.length + (if true = true then 0 else 1) + plN ps ds i + (ps.getD i []).length - p.length = plN ps ds i + (ps.getD i []).length by simp; omega]
          cases j with
          | zero => simp [insAt]
          | succ j => simp only [if_true, insAt]; exact g j
theorem where_pl (ps : List (List Nat)) (ds : List Bool) (i : Nat) (h : ps.length = ds.length + 1) (hi : i ≤ ds.length) : whereT (ug ps ds) i = plN ps ds i + (ps.getD i []).length := by
  induction ds generalizing ps i with
  | nil =>
    obtain rfl : i = 0 := by simpa using hi
    match ps, h with
    | [p], _ =>
      show whereT (p.map Tok.ins) 0 = _
      have e := whereT_inss p [] 0
      rw [List.append_nil] at e
      rw [e]
      simp [plN, whereT]
  | cons d ds ih =>
    cases ps with
    | nil => simp at h
    | cons p ps =>
      show whereT (p.map Tok.ins ++ (if d then Tok.del else Tok.keep) :: ug ps ds) i = _
      rw [whereT_inss]
      cases i with
      | zero => cases d <;> simp [whereT, plN]
      | succ i =>
        have g := ih ps i (by simpa using h) (by simpa using hi)
        rw [plN_cons]
        cases d
        · show p.length + whereT (Tok.keep :: ug ps ds) (i + 1) = _
          rw [whereT, g]; simp; omega
        · show p.length + whereT (Tok.del :: ug ps ds) (i + 1) = _
          rw [whereT, g]; simp; omega
/-- What the gaps hold so far. -/
def wP (n : Nat) (a : List Tok) (Q : List (List Nat)) (E : List Bool) (t : Nat) : List (List Nat) := (List.range n).map fun j => conS a Q E j t
def wM (n : Nat) (a : List Tok) (Q : List (List Nat)) (E : List Bool) (t : Nat) : List (List Nat) := (List.range n).map fun j => conS a Q E j t ++ conA a Q j t
theorem set_add (n : Nat) (f : Nat → List Nat) (l : Nat) (x : List Nat) : ((List.range n).map f).set l (f l ++ x) = (List.range n).map fun j => f j ++ if l = j then x else [] := by
  refine List.ext_getElem (by simp) fun j h1 h2 => ?_
  simp at h1 h2
  rw [List.getElem_set]
  by_cases h : l = j
  · subst h; simp
  · simp [h]
theorem wP_len (n : Nat) (a : List Tok) (Q : List (List Nat)) (E : List Bool) (t : Nat) : (wP n a Q E t).length = n := by simp [wP]
theorem wM_len (n : Nat) (a : List Tok) (Q : List (List Nat)) (E : List Bool) (t : Nat) : (wM n a Q E t).length = n := by simp [wM]
theorem wP_zero (n : Nat) (a : List Tok) (Q : List (List Nat)) (E : List Bool) : wP n a Q E 0 = List.replicate n [] := by
  refine List.ext_getElem (by simp [wP]) fun j h1 h2 => ?_
  simp [wP, conS]
theorem wM_of (n : Nat) (a : List Tok) (Q : List (List Nat)) (E : List Bool) (t : Nat) (h : leastT a t < n) : (wP n a Q E t).set (leastT a t) ((wP n a Q E t).getD (leastT a t) [] ++ Q.getD t []) = wM n a Q E t := by
  have e : (wP n a Q E t).getD (leastT a t) [] = conS a Q E (leastT a t) t := by
    rw [List.getD_eq_getElem?_getD, List.getElem?_eq_getElem (by rw [wP_len]; exact h)]; simp [wP]
  rw [e]
  exact set_add n (fun j => conS a Q E j t) _ _
theorem wP_skip (n : Nat) (a : List Tok) (Q : List (List Nat)) (E : List Bool) (t : Nat) (h : ∀ j, conB a E j t = []) : wM n a Q E t = wP n a Q E (t + 1) := by
  unfold wM wP
  congr 1
  funext j
  rw [conS_succ]
  unfold conG
  rw [h j, List.append_nil]
theorem wP_ins (n : Nat) (a : List Tok) (Q : List (List Nat)) (E : List Bool) (t i c : Nat) (hi : i < n) (h : ∀ j, conB a E j t = if j = i then [c] else []) : (wM n a Q E t).set i ((wM n a Q E t).getD i [] ++ [c]) = wP n a Q E (t + 1) := by
  have e : (wM n a Q E t).getD i [] = conS a Q E i t ++ conA a Q i t := by
    rw [List.getD_eq_getElem?_getD, List.getElem?_eq_getElem (by rw [wM_len]; exact hi)]; simp [wM]
  rw [e]
  have g := set_add n (fun j => conS a Q E j t ++ conA a Q j t) i [c]
  unfold wM wP
  rw [g]
  congr 1
  funext j
  rw [conS_succ]
  unfold conG
  rw [h j, List.append_assoc]
  by_cases hj : i = j
  · subst hj; simp
  · simp [hj, Ne.symm hj]
/-- Which code points are dropped, of the first ones as they come to be. -/
def gW (a : List Tok) (D E : List Bool) (i : Nat) : List Bool := (List.range D.length).map fun j => if j < i then (D.getD j true || E.getD (whereT a j) true) else D.getD j true
theorem gW_len (a : List Tok) (D E : List Bool) (i : Nat) : (gW a D E i).length = D.length := by simp [gW]
theorem gW_zero (a : List Tok) (D E : List Bool) : gW a D E 0 = D := by
  refine List.ext_getElem (by simp [gW]) fun j h1 h2 => ?_
  simp [gW, h2]
theorem gW_kept (a : List Tok) (D E : List Bool) (i : Nat) (hd : D.getD i true = false) : (gW a D E i).set i (E.getD (whereT a i) true) = gW a D E (i + 1) := by
  refine List.ext_getElem (by simp [gW]) fun j h1 h2 => ?_
  simp [gW] at h1 h2
  rw [List.getElem_set]
  by_cases h : i = j
  · subst h
    rw [if_pos rfl]
    simp only [gW, List.getElem_map, List.getElem_range]
    rw [if_pos (by omega), hd, Bool.false_or]
  · rw [if_neg h]
    simp only [gW, List.getElem_map, List.getElem_range]
    by_cases h3 : j < i
    · rw [if_pos h3, if_pos (by omega)]
    · rw [if_neg h3, if_neg (by omega)]
theorem gW_gone (a : List Tok) (D E : List Bool) (i : Nat) (hd : D.getD i true = true) : gW a D E i = gW a D E (i + 1) := by
  refine List.ext_getElem (by simp [gW]) fun j h1 h2 => ?_
  simp only [gW, List.getElem_map, List.getElem_range]
  by_cases h3 : j < i
  · rw [if_pos h3, if_pos (by omega)]
  · rw [if_neg h3]
    by_cases h4 : j = i
    · subst h4; rw [if_pos (by omega), hd, Bool.true_or]
    · rw [if_neg (by omega)]
theorem gW_end (a b : List Tok) (h : tout a = tin b) (n : Nat) (hn : tin a ≤ n) : gW a (gpD a) (gpD b) n = gpD (compT a b) := by
  refine List.ext_getElem (by rw [gW_len, gpD_length, gpD_length, (compT_len a b h).1]) fun j h1 h2 => ?_
  have g := gone_comp a b h j
  rw [gW_len, gpD_length] at h1
  rw [List.getD_eq_getElem?_getD, List.getElem?_eq_getElem h2, Option.getD_some] at g
  rw [g]
  simp only [gW, List.getElem_map, List.getElem_range]
  rw [if_pos (by omega)]
theorem wM_end (a b : List Tok) (h : tout a = tin b) : wM (tin a + 1) a (gpP b) (gpD b) (tout a) = gpP (compT a b) := by
  rw [wP_skip _ _ _ _ _ fun j => by unfold conB; rw [List.getD_eq_getElem?_getD, List.getElem?_eq_none (by rw [gpD_length, h]; exact Nat.le_refl _)]; rfl]
  refine List.ext_getElem (by rw [wP_len, gpP_length, gpD_length, (compT_len a b h).1]) fun j h1 h2 => ?_
  have g := gap_comp a b h j
  rw [List.getD_eq_getElem?_getD, List.getElem?_eq_getElem h2, Option.getD_some] at g
  rw [g]
  simp [wP]
theorem insAt_len (a : List Tok) (j t : Nat) : (insAt a j t).length ≤ 1 := by
  fun_induction insAt a j t <;> simp_all
theorem conS_size (a : List Tok) (Q : List (List Nat)) (E : List Bool) (B : Nat) (hQ : ∀ t, (encs (Q.getD t [])).length ≤ B) (j n : Nat) : (encs (conS a Q E j n)).length ≤ n * (B + 4) := by
  induction n with
  | zero => simp [conS, encs]
  | succ n ih =>
    have h1 : (encs (conA a Q j n)).length ≤ B := by
      unfold conA
      split
      · exact hQ n
      · simp [encs]
    have h2 : (encs (conB a E j n)).length ≤ 4 := by
      unfold conB
      split
      · simp [encs]
      · have := encs_le (insAt a j n); have := insAt_len a j n; omega
    rw [conS_succ]
    unfold conG
    rw [encs_append, encs_append, List.length_append, List.length_append, Nat.add_mul]
    omega
theorem wP_size (a : List Tok) (Q : List (List Nat)) (E : List Bool) (B : Nat) (hQ : ∀ t, (encs (Q.getD t [])).length ≤ B) (m n l : Nat) (hl : l < m) : (encs ((wP m a Q E n).getD l [])).length ≤ n * (B + 4) := by
  rw [List.getD_eq_getElem?_getD, List.getElem?_eq_getElem (by rw [wP_len]; exact hl)]
  simp only [wP, List.getElem_map, List.getElem_range, Option.getD_some]
  exact conS_size a Q E B hQ l n
theorem wM_size (a : List Tok) (Q : List (List Nat)) (E : List Bool) (B : Nat) (hQ : ∀ t, (encs (Q.getD t [])).length ≤ B) (m n l : Nat) (hl : l < m) : (encs ((wM m a Q E n).getD l [])).length ≤ (n + 1) * (B + 4) := by
  rw [List.getD_eq_getElem?_getD, List.getElem?_eq_getElem (by rw [wM_len]; exact hl)]
  simp only [wM, List.getElem_map, List.getElem_range, Option.getD_some]
  have h1 := conS_size a Q E B hQ l n
  have h2 : (encs (conA a Q l n)).length ≤ B := by
    unfold conA
    split
    · exact hQ n
    · simp [encs]
  rw [encs_append, List.length_append, Nat.add_mul]
  omega
/-- What the walk wants of gap i at its place k. -/
theorem conB_ins (ps : List (List Nat)) (ds E : List Bool) (h : ps.length = ds.length + 1) (i : Nat) (hi : i ≤ ds.length) (k : Nat) (hk : k < (ps.getD i []).length) (he : E.getD (plN ps ds i + k) true = false) (j : Nat) :
    conB (ug ps ds) E j (plN ps ds i + k) = if j = i then [(ps.getD i []).getD k 0] else [] := by
  unfold conB
  rw [he, insAt_ug ps ds h i hi k hk j]; rfl
theorem conB_gone (a : List Tok) (E : List Bool) (t : Nat) (he : E.getD t true = true) (j : Nat) : conB a E j t = [] := by
  unfold conB; rw [he]; rfl
theorem conB_end (ps : List (List Nat)) (ds E : List Bool) (h : ps.length = ds.length + 1) (i : Nat) (hd : ds.getD i true = false) (j : Nat) : conB (ug ps ds) E j (plN ps ds i + (ps.getD i []).length) = [] := by
  unfold conB
  rw [insAt_end ps ds h i hd j]; simp
theorem plN_kept (ps : List (List Nat)) (ds : List Bool) (i : Nat) (hd : ds.getD i true = false) : plN ps ds (i + 1) = plN ps ds i + (ps.getD i []).length + 1 := by
  rw [plN_succ]; unfold plS; rw [hd, if_neg (by decide)]; omega
theorem plN_gone (ps : List (List Nat)) (ds : List Bool) (i : Nat) (hd : ds.getD i true = true) : plN ps ds (i + 1) = plN ps ds i + (ps.getD i []).length := by
  rw [plN_succ]; unfold plS; rw [hd, if_pos rfl]; omega
theorem take_drop_one (p : List Nat) (k : Nat) (hk : k < p.length) : (p.take (k + 1)).drop k = [p.getD k 0] := by
  rw [List.take_add_one, List.drop_append_of_le_length (by rw [List.length_take]; omega), List.drop_of_length_le (by rw [List.length_take]; omega)]
  simp [List.getElem?_eq_getElem hk]
end Go.Proofs.YtmfeggeinoaheaaDoor
