/- What one operation is behind another one, as a whole: mathematics for layer 11's statements. -/
import Derived.Test.YtplbpddkmhmjiaaDoorMv
import Derived.Test.YtplbpddkmhmjiaaDoorMk
namespace Go.Proofs.YtplbpddkmhmjiaaDoor
set_option maxRecDepth 100000
set_option linter.unusedSimpArgs false
theorem over_mem (a s : List Tok) (c : Nat) : Tok.ins c ∈ overT a s → Tok.ins c ∈ a := by
  fun_induction overT a s <;> grind
theorem overT_okT (a s : List Tok) (h : OkT a) : OkT (overT a s) := fun c hc => h c (over_mem a s c hc)
theorem over_insT (a s : List Tok) : tin a = tin s → insT (overT a s) = insT a := by
  fun_induction overT a s <;> intro h <;> simp only [tin_ins, tin_keep, tin_del, tin_nil, List.length_cons, List.length_nil] at * <;> first | rfl | omega | (rename_i ih; have := ih (by omega); simpa [insT] using this)
/-- The loop's work, of rows alone: no more spans than both have. -/
theorem over_row {K1 : Int} {K2 K3 : Nat} {TT : List Tok} (n : Nat) : ∀ xs ys os : List Sp, xs.length + ys.length ≤ n → RowO K1 K2 K3 xs ys os → tok os ++ overT (tok xs) (tok ys) = TT → tin (tok xs) = tin (tok ys) → ∃ os', tok os' = TT ∧ (∀ s ∈ os', OkW s) ∧ os'.length ≤ K3 := by
  induction n with
  | zero =>
    intro xs ys os hn h ht _
    have hx : xs = [] := List.length_eq_zero_iff.1 (by omega)
    have hy : ys = [] := List.length_eq_zero_iff.1 (by omega)
    subst hx; subst hy
    refine ⟨os, ?_, h.o, ?_⟩
    · rw [← ht, tok_nil, overT, List.append_nil]
    · have := h.l; simp only [List.length_nil] at this; omega
  | succ n ih =>
    intro xs ys os hn h ht hs
    rcases overC xs ys h.x h.y hs with ⟨rfl, rfl⟩ | ⟨b1, b2, b3, ys, rfl, hk⟩ | ⟨a1, a2, a3, xs, rfl, hk, hnp⟩ | ⟨a1, a2, a3, xs, b1, b2, b3, ys, rfl, rfl, hka, hkb⟩
    · refine ⟨os, ?_, h.o, ?_⟩
      · rw [← ht, tok_nil, overT, List.append_nil]
      · have := h.l; simp only [List.length_nil] at this; omega
    · have huo := (h.y _ (List.mem_cons_self ..)).1
      have hpl := put_len _ huo hk
      have hs2 : tin (tok xs) = tin (tok ys) := by rw [tok_cons, tin_append, (sides _ huo).1, if_pos hk] at hs; omega
      rw [← over_putY xs ys os _ huo hk] at ht
      simp only [List.length_cons] at hn
      exact ih xs ys _ (by omega) (h.putY _ hpl.1) ht hs2
    · have huo := (h.x _ (List.mem_cons_self ..)).1
      have hs2 : tin (tok xs) = tin (tok ys) := by rw [tok_cons, tin_append, (sides _ huo).1, if_pos hk] at hs; omega
      rw [← over_putX xs ys os _ huo hk (noIns_tok ys h.y hnp)] at ht
      simp only [List.length_cons] at hn
      exact ih xs ys _ (by omega) h.putX ht hs2
    · obtain ⟨m, hm⟩ : ∃ m, m = if b1 = 3 then ((1, 0, ⟨#[]⟩) : Sp) else cutA (a1, a2, a3) (min (tokS (a1, a2, a3)).length (tokS (b1, b2, b3)).length) := ⟨_, rfl⟩
      obtain ⟨h1, h2, h3, h4⟩ := over_stepE h ht hs hka hkb rfl m hm
      exact ih _ _ _ (by omega) h1 h2 h3
theorem overL_len (X Y : List Sp) (hX : ∀ s ∈ X, OkW s) (hY : ∀ s ∈ Y, OkW s) (hf : inL X = inL Y) : (overL X Y).length ≤ (normL X).length + (normL Y).length := by
  have px := okW_pos X hX
  have py := okW_pos Y hY
  have hnx := norm_okW X hX
  have hny := norm_okW Y hY
  have hix := isN_ne _ (norm_is X px)
  have hiy := isN_ne _ (norm_is Y py)
  have h1 := (tin_ok X hX).1
  have h2 := (tin_ok Y hY).1
  have hrow : RowO (sumN (normL X) + sumN (normL Y) + (sumT (normL Y) : Int)) (sumT (normL X)) ((normL X).length + (normL Y).length) (normL X) (normL Y) [] := by
    have Z : sumN ([] : List Sp) = 0 ∧ sumT ([] : List Sp) = 0 := ⟨rfl, rfl⟩
    refine ⟨fun s hs => ⟨hnx.1 s hs, hix s hs⟩, fun s hs => ⟨hny.1 s hs, hiy s hs⟩, fun s hs => (by cases hs), by omega, by omega, ?_⟩
    simp only [List.length_nil]; omega
  have hs : tin (tok (normL X)) = tin (tok (normL Y)) := by rw [hnx.2, hny.2]; omega
  obtain ⟨os, o1, o2, o3⟩ := over_row (TT := overT (tok X) (tok Y)) _ (normL X) (normL Y) [] (Nat.le_refl _) hrow (by rw [hnx.2, hny.2, tok_nil, List.nil_append]) hs
  have e : overL X Y = normL os := by unfold overL; rw [norm_tok os o2, o1]
  rw [e]
  have := norm_len os
  omega
theorem overL_all (X Y : List Sp) (hX : ∀ s ∈ X, OkW s) (hY : ∀ s ∈ Y, OkW s) (hf : inL X = inL Y) :
    (∀ s ∈ overL X Y, OkW s) ∧ tok (overL X Y) = overT (tok X) (tok Y) ∧ isN (overL X Y) ∧ inL (overL X Y) = outL Y ∧
    (overL X Y).length ≤ (normL X).length + (normL Y).length ∧ sumT (overL X Y) ≤ sumT X := by
  have tz := overT_okT (tok X) (tok Y) (tok_okT X hX)
  obtain ⟨x1, x2⟩ := tin_ok X hX
  obtain ⟨y1, y2⟩ := tin_ok Y hY
  have hft : tin (tok X) = tin (tok Y) := by omega
  have hz : ∀ s ∈ overL X Y, OkW s := spT_okW _ tz
  have htz : tok (overL X Y) = overT (tok X) (tok Y) := tok_spT _ tz
  obtain ⟨z1, z2⟩ := tin_ok _ hz
  have l1 := overT_len _ _ hft
  rw [htz, l1] at z1
  refine ⟨hz, htz, spT_is _ tz, by omega, overL_len X Y hX hY hf, ?_⟩
  unfold overL
  rw [sumT_spT, over_insT _ _ hft]
  exact insT_sum X hX
/-- Behind one that keeps all; one that keeps all. -/
theorem over_nil : overT [] [] = [] := by rw [overT]
theorem over_keepR (x : List Tok) : overT x (List.replicate (tin x) Tok.keep) = x := by
  induction x with
  | nil => exact over_nil
  | cons t x ih =>
    cases t with
    | ins c =>
      have e : tin (.ins c :: x) = tin x := by simp [tin]
      rw [e]
      have h := over_putT [c] x (List.replicate (tin x) Tok.keep) (by cases tin x <;> exact trivial)
      rw [ih] at h
      exact h
    | keep =>
      have e : tin (.keep :: x) = tin x + 1 := by simp [tin]
      rw [e, List.replicate_succ, overT, ih]
    | del =>
      have e : tin (.del :: x) = tin x + 1 := by simp [tin]
      rw [e, List.replicate_succ, overT, ih]
theorem over_keepL (y : List Tok) : overT (List.replicate (tin y) Tok.keep) y = List.replicate (tout y) Tok.keep := by
  induction y with
  | nil => exact over_nil
  | cons t y ih =>
    cases t with
    | ins c =>
      have e : tin (.ins c :: y) = tin y := by simp [tin]
      have e2 : tout (.ins c :: y) = tout y + 1 := by simp [tout]
      rw [e, e2, overT_ins, ih, List.replicate_succ]
    | keep =>
      have e : tin (.keep :: y) = tin y + 1 := by simp [tin]
      have e2 : tout (.keep :: y) = tout y + 1 := by simp [tout]
      rw [e, e2, List.replicate_succ, overT, ih, List.replicate_succ]
    | del =>
      have e : tin (.del :: y) = tin y + 1 := by simp [tin]
      have e2 : tout (.del :: y) = tout y := by simp [tout]
      rw [e, e2, List.replicate_succ, overT, ih]
theorem keepL_spT (n : Int) (h0 : 0 ≤ n) : spT (List.replicate n.toNat Tok.keep) = keepL n := by
  have h := spT_isN (keepL_isN n) (keepL_okW n h0)
  rw [keepL_tok n] at h
  exact h.symm
/-- One text that is put. -/
theorem over_onePut (us : List Nat) : ∀ (s : List Tok) (k : Nat), k ≤ tin s → overT (List.replicate k Tok.keep ++ (us.map Tok.ins ++ List.replicate (tin s - k) Tok.keep)) s = List.replicate (whereT s k) Tok.keep ++ (us.map Tok.ins ++ List.replicate (tout s - whereT s k) Tok.keep) := by
  intro s
  induction s with
  | nil =>
    intro k hk
    obtain rfl : k = 0 := by simp [tin] at hk; exact hk
    show overT (us.map Tok.ins ++ []) [] = us.map Tok.ins ++ []
    rw [over_putT us [] [] trivial, over_nil]
  | cons t s ih =>
    intro k hk
    cases t with
    | ins c =>
      have e : tin (.ins c :: s) = tin s := by simp [tin]
      have e2 : tout (.ins c :: s) = tout s + 1 := by simp [tout]
      rw [e] at hk ⊢
      rw [overT_ins, ih k hk, whereT, List.replicate_succ, e2, Nat.add_sub_add_right]; rfl
    | keep =>
      have e : tin (.keep :: s) = tin s + 1 := by simp [tin]
      have e2 : tout (.keep :: s) = tout s + 1 := by simp [tout]
      rw [e] at hk ⊢
      cases k with
      | zero =>
        have h := over_keepL (.keep :: s)
        rw [e] at h
        rw [whereT, List.replicate_zero, List.nil_append, List.nil_append, Nat.sub_zero, Nat.sub_zero, over_putT us _ (.keep :: s) trivial, h]
      | succ k =>
        rw [List.replicate_succ, List.cons_append, overT, Nat.add_sub_add_right, ih k (by omega), whereT, e2, Nat.add_sub_add_right, List.replicate_succ]; rfl
    | del =>
      have e : tin (.del :: s) = tin s + 1 := by simp [tin]
      have e2 : tout (.del :: s) = tout s := by simp [tout]
      rw [e] at hk ⊢
      cases k with
      | zero =>
        have h := over_keepL (.del :: s)
        rw [e] at h
        rw [whereT, List.replicate_zero, List.nil_append, List.nil_append, Nat.sub_zero, Nat.sub_zero, over_putT us _ (.del :: s) trivial, h]
      | succ k =>
        rw [List.replicate_succ, List.cons_append, overT, Nat.add_sub_add_right, ih k (by omega), whereT, e2]
/-- Two parts. -/
theorem over_left (a s : List Tok) (hs : noIns s) : ∀ x : List Tok, overT (x ++ a) (List.replicate (tin x) Tok.keep ++ s) = x ++ overT a s := by
  intro x
  induction x with
  | nil => rfl
  | cons t x ih =>
    cases t with
    | ins c =>
      have e : tin (.ins c :: x) = tin x := by simp [tin]
      rw [e]
      have h := over_putT [c] (x ++ a) (List.replicate (tin x) Tok.keep ++ s) (by cases tin x with | zero => exact hs | succ n => exact trivial)
      rw [ih] at h
      exact h
    | keep =>
      have e : tin (.keep :: x) = tin x + 1 := by simp [tin]
      rw [e, List.replicate_succ, List.cons_append, List.cons_append, overT, ih]; rfl
    | del =>
      have e : tin (.del :: x) = tin x + 1 := by simp [tin]
      rw [e, List.replicate_succ, List.cons_append, List.cons_append, overT, ih]; rfl
theorem over_right (b s : List Tok) : ∀ x : List Tok, overT (List.replicate (tin x) Tok.keep ++ b) (x ++ s) = List.replicate (tout x) Tok.keep ++ overT b s := by
  intro x
  induction x with
  | nil => rfl
  | cons t x ih =>
    cases t with
    | ins c =>
      have e : tin (.ins c :: x) = tin x := by simp [tin]
      have e2 : tout (.ins c :: x) = tout x + 1 := by simp [tout]
      rw [e, e2, List.cons_append, overT_ins, ih, List.replicate_succ]; rfl
    | keep =>
      have e : tin (.keep :: x) = tin x + 1 := by simp [tin]
      have e2 : tout (.keep :: x) = tout x + 1 := by simp [tout]
      rw [e, e2, List.replicate_succ, List.cons_append, List.cons_append, overT, ih, List.replicate_succ]; rfl
    | del =>
      have e : tin (.del :: x) = tin x + 1 := by simp [tin]
      have e2 : tout (.del :: x) = tout x := by simp [tout]
      rw [e, e2, List.replicate_succ, List.cons_append, List.cons_append, overT, ih]
theorem over_apart1 (x y : List Tok) : overT (x ++ List.replicate (tin y + 1) Tok.keep) (List.replicate (tin x + 1) Tok.keep ++ y) = x ++ List.replicate (tout y + 1) Tok.keep := by
  have e : List.replicate (tin x + 1) Tok.keep ++ y = List.replicate (tin x) Tok.keep ++ (.keep :: y) := by rw [List.replicate_succ', List.append_assoc]; rfl
  rw [e, over_left _ (.keep :: y) trivial, List.replicate_succ, overT, over_keepL, List.replicate_succ]
theorem over_apart2 (x y : List Tok) : overT (List.replicate (tin x + 1) Tok.keep ++ y) (x ++ List.replicate (tin y + 1) Tok.keep) = List.replicate (tout x + 1) Tok.keep ++ y := by
  have e : List.replicate (tin x + 1) Tok.keep ++ y = List.replicate (tin x) Tok.keep ++ (.keep :: y) := by rw [List.replicate_succ', List.append_assoc]; rfl
  have e2 : List.replicate (tout x + 1) Tok.keep ++ y = List.replicate (tout x) Tok.keep ++ (.keep :: y) := by rw [List.replicate_succ', List.append_assoc]; rfl
  rw [e, e2, over_right, List.replicate_succ, overT, over_keepR]
/-- What one drops is dropped already, if the first one drops it. -/
def leD : List Bool → List Bool → Prop
  | a :: x, b :: y => (a = true → b = true) ∧ leD x y
  | [], [] => True
  | _, _ => False
theorem leD_refl : ∀ l : List Bool, leD l l
  | [] => trivial
  | _ :: l => ⟨id, leD_refl l⟩
theorem over_noDel (a s : List Tok) : leD (gpD a) (gpD s) → Tok.del ∉ overT a s := by
  fun_induction overT a s <;> simp_all [gpD, leD]
/-- Behind many, one by one. -/
theorem over_many {ls : List (List Sp)} {n m k : Int} {l : List Sp} (t : List Tok) (ht : (tin t : Int) = n) (hn : Thru n ls k) (hl : Thru k [l] m) : overT t (fR n (ls ++ [l])) = overT (overT t (fR n ls)) (tok l) := by
  have h1 := fR_len hn
  have hl2 := hl
  obtain ⟨g1, g2, g3, g4, g5⟩ := hl
  have h2 : (tin (tok l) : Int) = inL l := (tin_ok l g1).1
  have h3 := fR_one g1
  rw [g2] at h3
  rw [fR_append hn hl2, h3]
  exact over_one _ t (fR n ls) (tok l) (Nat.le_refl _) (by omega) (by omega)
end Go.Proofs.YtplbpddkmhmjiaaDoor
