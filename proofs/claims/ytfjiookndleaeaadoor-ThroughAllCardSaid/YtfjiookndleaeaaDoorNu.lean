/- What an operation that came first is behind another one, as a whole, and that both meet: mathematics for layer 12's statements. -/
import Derived.Test.YtfjiookndleaeaaDoorMc
import Derived.Test.YtfjiookndleaeaaDoorMd
import Derived.Test.YtfjiookndleaeaaDoorC10
namespace Go.Proofs.YtfjiookndleaeaaDoor
set_option maxRecDepth 100000
set_option linter.unusedSimpArgs false
/-- What over tells of a and s: the error, and the operation. -/
def overE (a s : List Sp) : Int := if mayL a = 0 then (if mayL s = 0 then (if inL a = inL s then 0 else 5) else mayL s) else mayL a
def overL (a s : List Sp) : List Sp := spT (overT (tok a) (tok s))
theorem overE_ok {a s : List Sp} (hE : overE a s = 0) : mayL a = 0 ∧ mayL s = 0 ∧ inL a = inL s := by
  unfold overE at hE
  by_cases hma : mayL a = 0
  · rw [if_pos hma] at hE
    by_cases hmb : mayL s = 0
    · rw [if_pos hmb] at hE
      by_cases hf : inL a = inL s
      · exact ⟨hma, hmb, hf⟩
      · rw [if_neg hf] at hE; exact absurd hE (by decide)
    · rw [if_neg hmb] at hE; exact absurd hE hmb
  · rw [if_neg hma] at hE; exact absurd hE hma
theorem cutB_num (k n : Int) (t : ByteArray) (m : Nat) (hk : k ≠ 2) : (cutB (k, n, t) m).2.1 = n - m := by unfold cutB; rw [if_neg hk]
/-- Many tokens at once. -/
theorem over_inss (us : List Nat) (a b : List Tok) : overT a (us.map Tok.ins ++ b) = List.replicate us.length Tok.keep ++ overT a b := by
  induction us with
  | nil => rfl
  | cons u us ih => rw [List.map_cons, List.cons_append, overT_ins, ih]; rfl
theorem over_putT (us : List Nat) (a b : List Tok) (h : noIns b) : overT (us.map Tok.ins ++ a) b = us.map Tok.ins ++ overT a b := by
  induction us with
  | nil => rfl
  | cons u us ih =>
    rw [List.map_cons, List.cons_append, List.cons_append, ← ih]
    rcases b with _ | ⟨_ | _ | _, b⟩
    · rw [overT]
    · exact absurd h (by simp [noIns])
    · rw [overT]
    · rw [overT]
theorem over_kk (n : Nat) (a b : List Tok) : overT (List.replicate n Tok.keep ++ a) (List.replicate n Tok.keep ++ b) = List.replicate n Tok.keep ++ overT a b := by
  induction n with
  | zero => rfl
  | succ n ih => rw [List.replicate_succ, List.cons_append, List.cons_append, List.cons_append, ← ih, overT]
theorem over_dk (n : Nat) (a b : List Tok) : overT (List.replicate n Tok.del ++ a) (List.replicate n Tok.keep ++ b) = List.replicate n Tok.del ++ overT a b := by
  induction n with
  | zero => rfl
  | succ n ih => rw [List.replicate_succ, List.replicate_succ, List.cons_append, List.cons_append, List.cons_append, ← ih, overT]
theorem over_kd (n : Nat) (a b : List Tok) : overT (List.replicate n Tok.keep ++ a) (List.replicate n Tok.del ++ b) = overT a b := by
  induction n with
  | zero => rfl
  | succ n ih => rw [List.replicate_succ, List.replicate_succ, List.cons_append, List.cons_append, ← ih, overT]
theorem over_dd (n : Nat) (a b : List Tok) : overT (List.replicate n Tok.del ++ a) (List.replicate n Tok.del ++ b) = overT a b := by
  induction n with
  | zero => rfl
  | succ n ih => rw [List.replicate_succ, List.cons_append, List.cons_append, ← ih, overT]
/-- What the loop keeps: rows x, y that are left, and o that is made. -/
structure RowO (K1 : Int) (K2 K3 : Nat) (xs ys os : List Sp) : Prop where
  x : ∀ s ∈ xs, OkW s ∧ ¬ emp s
  y : ∀ s ∈ ys, OkW s ∧ ¬ emp s
  o : ∀ s ∈ os, OkW s
  n : sumN os + sumN xs + sumN ys + (sumT ys : Int) ≤ K1
  t : sumT os + sumT xs ≤ K2
  l : os.length + xs.length + ys.length ≤ K3
theorem RowO.pops {K1 : Int} {K2 K3 : Nat} {xs ys os : List Sp} (h : RowO K1 K2 K3 xs ys os) : 0 ≤ sumN xs ∧ 0 ≤ sumN ys ∧ 0 ≤ sumN os :=
  ⟨sumN_pos _ fun s hs => (h.x s hs).1.nonneg, sumN_pos _ fun s hs => (h.y s hs).1.nonneg, sumN_pos _ fun s hs => (h.o s hs).nonneg⟩
/-- The first span of y is put: it is kept. -/
theorem RowO.putY {K1 : Int} {K2 K3 : Nat} {s : Sp} {xs ys os : List Sp} (h : RowO K1 K2 K3 xs (s :: ys) os) (N : Nat) (hN : N ≤ s.2.2.size) : RowO K1 K2 K3 xs ys (os ++ [(1, (N : Int), ⟨#[]⟩)]) := by
  have h0 := (h.y s (List.mem_cons_self ..)).1.nonneg
  refine ⟨h.x, fun u hu => h.y u (List.mem_cons_of_mem _ hu), fun u hu => ?_, ?_, ?_, ?_⟩
  · rcases List.mem_append.1 hu with hu | hu
    · exact h.o u hu
    · rw [List.mem_singleton] at hu; subst hu; exact .inr ⟨.inl rfl, by simp only; omega, rfl⟩
  · have := h.n; rw [sumN_append, sumN_one]; rw [sumN_cons, sumT_cons] at this; simp only; omega
  · have := h.t; rw [sumT_append, sumT_sing]; have e : (⟨#[]⟩ : ByteArray).size = 0 := rfl; simp only; omega
  · have := h.l; simp only [List.length_append, List.length_cons, List.length_nil] at *; omega
theorem RowO.putX {K1 : Int} {K2 K3 : Nat} {s : Sp} {xs ys os : List Sp} (h : RowO K1 K2 K3 (s :: xs) ys os) : RowO K1 K2 K3 xs ys (os ++ [s]) := by
  refine ⟨fun u hu => h.x u (List.mem_cons_of_mem _ hu), h.y, fun u hu => ?_, ?_, ?_, ?_⟩
  · rcases List.mem_append.1 hu with hu | hu
    · exact h.o u hu
    · rw [List.mem_singleton] at hu; subst hu; exact (h.x _ (List.mem_cons_self ..)).1
  · have := h.n; rw [sumN_append, sumN_one]; rw [sumN_cons] at this; omega
  · have := h.t; rw [sumT_append, sumT_sing]; rw [sumT_cons] at this; omega
  · have := h.l; simp only [List.length_append, List.length_cons, List.length_nil] at *; omega
/-- Both begin with as many code points: out goes a part of the first, or nothing, or an empty span. -/
theorem RowO.both {K1 : Int} {K2 K3 : Nat} {s u : Sp} {xs ys os : List Sp} {n : Nat} (h : RowO K1 K2 K3 (s :: xs) (u :: ys) os) (hn : n = min (tokS s).length (tokS u).length) (ps : List Sp) (hp : ps = [] ∨ ps = [cutA s n] ∨ ps = [(1, 0, ⟨#[]⟩)]) : RowO K1 K2 K3 (left s n xs) (left u n ys) (os ++ ps) ∧ (left s n xs).length + (left u n ys).length < (s :: xs).length + (u :: ys).length := by
  have hs := (h.x s (List.mem_cons_self ..)).1
  have hu := (h.y u (List.mem_cons_self ..)).1
  obtain ⟨a1, a2, a3, a4⟩ := left_sum s n xs hs (by omega)
  obtain ⟨b1, b2, b3, b4⟩ := left_sum u n ys hu (by omega)
  have ca := (cutA_ok s n hs (by omega)).1
  have cb := (cutA_ok u n hu (by omega)).1
  have ca0 := ca.nonneg
  have cb0 := cb.nonneg
  have hn' := h.n; have ht' := h.t; have hl' := h.l
  have hlt : (left s n xs).length + (left u n ys).length < (s :: xs).length + (u :: ys).length := by
    simp only [List.length_cons]
    rcases (by omega : (tokS s).length = n ∨ (tokS u).length = n) with e | e
    · have := a4 e; omega
    · have := b4 e; omega
  refine ⟨⟨left_ok s n xs hs (by omega) fun v hv => h.x v (List.mem_cons_of_mem _ hv), left_ok u n ys hu (by omega) fun v hv => h.y v (List.mem_cons_of_mem _ hv), fun v hv => ?_, ?_, ?_, ?_⟩, hlt⟩
  · rcases List.mem_append.1 hv with hv | hv
    · exact h.o v hv
    · rcases hp with rfl | rfl | rfl
      · cases hv
      · rw [List.mem_singleton] at hv; subst hv; exact ca
      · rw [List.mem_singleton] at hv; subst hv; exact .inr ⟨.inl rfl, by decide, rfl⟩
  · rw [sumN_append]
    rcases hp with rfl | rfl | rfl
    · have e : sumN ([] : List Sp) = 0 := rfl
      omega
    · rw [sumN_one]; omega
    · rw [sumN_one]; simp only; omega
  · rw [sumT_append]
    rcases hp with rfl | rfl | rfl
    · have e : sumT ([] : List Sp) = 0 := rfl
      omega
    · rw [sumT_sing]; omega
    · rw [sumT_sing]; have e : (⟨#[]⟩ : ByteArray).size = 0 := rfl; simp only; omega
  · rw [List.length_append]
    have : ps.length ≤ 1 := by rcases hp with rfl | rfl | rfl <;> simp
    omega
/-- Step by step. -/
theorem put_len (s : Sp) (h : OkW s) (hk : s.1 = 2) : (tokS s).length ≤ s.2.2.size ∧ outS s.1 s.2.1 s.2.2 = ((tokS s).length : Int) := by
  rcases tokS_kind s h with ⟨_, us, hu, e⟩ | ⟨k, _⟩ | ⟨k, _⟩
  · refine ⟨?_, ?_⟩
    · have h1 := (dec_some hu).2
      have h2 := length_le_encs us
      rw [← h1, bs_length] at h2
      rw [e, List.length_map]; exact h2
    · rw [← (tin_span s h).2, (sides s h).2, if_neg (by omega)]
  · omega
  · omega
theorem over_putY (xs ys os : List Sp) (s : Sp) (h : OkW s) (hk : s.1 = 2) : tok (os ++ [(1, ((tokS s).length : Int), ⟨#[]⟩)]) ++ overT (tok xs) (tok ys) = tok os ++ overT (tok xs) (tok (s :: ys)) := by
  rcases tokS_kind s h with ⟨_, us, _, e⟩ | ⟨k, _⟩ | ⟨k, _⟩
  · rw [tok_append, tok_cons, tok_nil, tok_cons, List.append_nil, e, over_inss, List.append_assoc, tokS_num _ _ _ (by decide), if_neg (by decide), Int.toNat_natCast, List.length_map]
  · omega
  · omega
theorem over_putX (xs ys os : List Sp) (s : Sp) (h : OkW s) (hk : s.1 = 2) (hy : noIns (tok ys)) : tok (os ++ [s]) ++ overT (tok xs) (tok ys) = tok os ++ overT (tok (s :: xs)) (tok ys) := by
  rcases tokS_kind s h with ⟨_, us, _, e⟩ | ⟨k, _⟩ | ⟨k, _⟩
  · rw [tok_append, tok_cons, tok_nil, tok_cons, List.append_nil, e, over_putT _ _ _ hy, List.append_assoc]
  · omega
  · omega
theorem over_both (xs ys os : List Sp) (s u : Sp) (n : Nat) (hs : OkW s) (hu : OkW u) (ks : s.1 ≠ 2) (ku : u.1 ≠ 2) (h1 : n ≤ (tokS s).length) (h2 : n ≤ (tokS u).length) :
    tok (os ++ (if u.1 = 1 then [cutA s n] else [])) ++ overT (tok (left s n xs)) (tok (left u n ys)) = tok os ++ overT (tok (s :: xs)) (tok (u :: ys)) := by
  rw [tok_append, left_tok s n xs hs h1, left_tok u n ys hu h2, tok_cons, tok_cons, List.append_assoc]
  congr 1
  have ca := (cutA_ok s n hs h1).2
  have es := tokS_split s n
  have eu := tokS_split u n
  generalize hS : (tokS s).drop n = S1 at *
  generalize hU : (tokS u).drop n = U1 at *
  have lu : ((tokS u).take n).length = n := by rw [List.length_take]; omega
  have ls : ((tokS s).take n).length = n := by rw [List.length_take]; omega
  rcases tokS_kind u hu with ⟨k, _⟩ | ⟨k, e⟩ | ⟨k, e⟩
  · exact absurd k ku
  · have e' : (tokS u).take n = List.replicate n Tok.keep := by rw [e, List.take_replicate, Nat.min_eq_left h2]
    rw [if_pos k, tok_cons, tok_nil, List.append_nil, ca]
    rw [es, eu, e', List.append_assoc, List.append_assoc]
    rcases tokS_kind s hs with ⟨k2, _⟩ | ⟨k2, f⟩ | ⟨k2, f⟩
    · exact absurd k2 ks
    · have f' : (tokS s).take n = List.replicate n Tok.keep := by rw [f, List.take_replicate, Nat.min_eq_left h1]
      rw [f', List.take_left' (by rw [List.length_replicate]), over_kk]
    · have f' : (tokS s).take n = List.replicate n Tok.del := by rw [f, List.take_replicate, Nat.min_eq_left h1]
      rw [f', List.take_left' (by rw [List.length_replicate]), over_dk]
  · have e' : (tokS u).take n = List.replicate n Tok.del := by rw [e, List.take_replicate, Nat.min_eq_left h2]
    rw [if_neg (by omega), tok_nil, List.nil_append]
    rw [es, eu, e', List.append_assoc, List.append_assoc]
    rcases tokS_kind s hs with ⟨k2, _⟩ | ⟨k2, f⟩ | ⟨k2, f⟩
    · exact absurd k2 ks
    · have f' : (tokS s).take n = List.replicate n Tok.keep := by rw [f, List.take_replicate, Nat.min_eq_left h1]
      rw [f', over_kd]
    · have f' : (tokS s).take n = List.replicate n Tok.del := by rw [f, List.take_replicate, Nat.min_eq_left h1]
      rw [f', over_dd]
/-- Whose turn it is. -/
theorem overC (xs ys : List Sp) (hx : ∀ s ∈ xs, OkW s ∧ ¬ emp s) (hy : ∀ s ∈ ys, OkW s ∧ ¬ emp s) (h : tin (tok xs) = tin (tok ys)) :
    (xs = [] ∧ ys = []) ∨ (∃ b1 b2 b3 r, ys = (b1, b2, b3) :: r ∧ b1 = 2) ∨ (∃ a1 a2 a3 r, xs = (a1, a2, a3) :: r ∧ a1 = 2 ∧ ∀ s q, ys = s :: q → s.1 ≠ 2) ∨
      (∃ a1 a2 a3 r b1 b2 b3 q, xs = (a1, a2, a3) :: r ∧ ys = (b1, b2, b3) :: q ∧ a1 ≠ 2 ∧ b1 ≠ 2) := by
  have Z : tin ([] : List Tok) = 0 := rfl
  rcases ys with _ | ⟨⟨b1, b2, b3⟩, q⟩
  · rcases xs with _ | ⟨⟨a1, a2, a3⟩, r⟩
    · exact .inl ⟨rfl, rfl⟩
    · right; right; left
      refine ⟨a1, a2, a3, r, rfl, ?_, fun s q hs => by cases hs⟩
      obtain ⟨h1, h2⟩ := hx _ (List.mem_cons_self ..)
      have h3 := tokS_pos _ h1 h2
      rw [tok_cons, tin_append, (sides _ h1).1, tok_nil] at h
      by_cases hk : a1 = 2
      · exact hk
      · exfalso
        rw [if_neg hk] at h
        omega
  · by_cases hb : b1 = 2
    · right; left; exact ⟨b1, b2, b3, q, rfl, hb⟩
    · rcases xs with _ | ⟨⟨a1, a2, a3⟩, r⟩
      · exfalso
        obtain ⟨h1, h2⟩ := hy _ (List.mem_cons_self ..)
        have h3 := tokS_pos _ h1 h2
        rw [tok_cons, tin_append, (sides _ h1).1, if_neg hb, tok_nil] at h
        omega
      · by_cases ha : a1 = 2
        · right; right; left
          exact ⟨a1, a2, a3, r, rfl, ha, fun s q' hs => by injection hs with e1 e2; subst e1; exact hb⟩
        · right; right; right
          exact ⟨a1, a2, a3, r, b1, b2, b3, q, rfl, rfl, ha, hb⟩
theorem over_step {K1 : Int} {K2 K3 : Nat} {TT : List Tok} {s u : Sp} {xs ys os : List Sp} {n : Nat} (h : RowO K1 K2 K3 (s :: xs) (u :: ys) os) (htt : tok os ++ overT (tok (s :: xs)) (tok (u :: ys)) = TT) (hsid : tin (tok (s :: xs)) = tin (tok (u :: ys))) (ks : s.1 ≠ 2) (ku : u.1 ≠ 2) (hn : n = min (tokS s).length (tokS u).length) :
    RowO K1 K2 K3 (left s n xs) (left u n ys) (os ++ (if u.1 = 1 then [cutA s n] else [])) ∧ tok (os ++ (if u.1 = 1 then [cutA s n] else [])) ++ overT (tok (left s n xs)) (tok (left u n ys)) = TT ∧ tin (tok (left s n xs)) = tin (tok (left u n ys)) := by
  have hs := (h.x s (List.mem_cons_self ..)).1
  have hu := (h.y u (List.mem_cons_self ..)).1
  have hp : (if u.1 = 1 then [cutA s n] else []) = [] ∨ (if u.1 = 1 then [cutA s n] else []) = [cutA s n] ∨ (if u.1 = 1 then [cutA s n] else []) = [(1, 0, ⟨#[]⟩)] := by
    by_cases h1 : u.1 = 1
    · rw [if_pos h1]; exact .inr (.inl rfl)
    · rw [if_neg h1]; exact .inl rfl
  refine ⟨(h.both hn _ hp).1, ?_, ?_⟩
  · rw [over_both xs ys os s u n hs hu ks ku (by omega) (by omega)]; exact htt
  · have d1 := (drop_tok s hs n (by omega)).1
    have d2 := (drop_tok u hu n (by omega)).1
    have s1 := (sides s hs).1
    have s2 := (sides u hu).1
    rw [if_neg ks] at d1 s1
    rw [if_neg ku] at d2 s2
    rw [tok_cons, tok_cons, tin_append, tin_append] at hsid
    rw [left_tok s n xs hs (by omega), left_tok u n ys hu (by omega), tin_append, tin_append]
    omega
/-- Where the first one drops, the program puts an empty span. -/
theorem over_stepE {K1 : Int} {K2 K3 : Nat} {TT : List Tok} {s u : Sp} {xs ys os : List Sp} {n : Nat} (h : RowO K1 K2 K3 (s :: xs) (u :: ys) os) (htt : tok os ++ overT (tok (s :: xs)) (tok (u :: ys)) = TT) (hsid : tin (tok (s :: xs)) = tin (tok (u :: ys))) (ks : s.1 ≠ 2) (ku : u.1 ≠ 2) (hn : n = min (tokS s).length (tokS u).length) (m : Sp)
    (hm : m = if u.1 = 3 then (1, 0, ⟨#[]⟩) else cutA s n) :
    RowO K1 K2 K3 (left s n xs) (left u n ys) (os ++ [m]) ∧ tok (os ++ [m]) ++ overT (tok (left s n xs)) (tok (left u n ys)) = TT ∧ tin (tok (left s n xs)) = tin (tok (left u n ys)) ∧
      (left s n xs).length + (left u n ys).length < (s :: xs).length + (u :: ys).length := by
  have hu := (h.y u (List.mem_cons_self ..)).1
  have hlt := (h.both hn [] (.inl rfl)).2
  obtain ⟨h1, h2, h3⟩ := over_step h htt hsid ks ku hn
  have k13 : u.1 = 1 ∨ u.1 = 3 := by
    rcases hu with ⟨k1, _⟩ | ⟨k1, _⟩ <;> omega
  rcases k13 with k | k
  · rw [if_pos k] at h1 h2
    rw [if_neg (by omega)] at hm
    subst hm
    exact ⟨h1, h2, h3, hlt⟩
  · rw [if_neg (by omega), List.append_nil] at h2
    rw [if_pos k] at hm
    subst hm
    have hT : tokS (1, 0, (⟨#[]⟩ : ByteArray)) = [] := tokS_emp _ ⟨rfl, rfl⟩
    refine ⟨(h.both hn _ (.inr (.inr rfl))).1, ?_, h3, hlt⟩
    rw [tok_append, tok_cons, tok_nil, hT, List.append_nil, List.append_nil]; exact h2
end Go.Proofs.YtfjiookndleaeaaDoor
namespace Go.Proofs.YtfjiookndleaeaaDoor
set_option maxRecDepth 100000
set_option linter.unusedSimpArgs false
/-- What under tells of s and a: over's error, and the operation. -/
def underL (s a : List Sp) : List Sp := spT (underT (tok s) (tok a))
theorem underT_nil : underT [] [] = [] := by rw [underT]
/-- Many tokens at once. -/
theorem under_inss (us : List Nat) (a b : List Tok) : underT (us.map Tok.ins ++ a) b = us.map Tok.ins ++ underT a b := by
  induction us with
  | nil => rfl
  | cons u us ih => rw [List.map_cons, List.cons_append, underT_ins, ih]; rfl
theorem under_kept1 (c : Nat) (a b : List Tok) (h : noIns a) : underT a (.ins c :: b) = .keep :: underT a b := by
  rcases a with _ | ⟨_ | _ | _, a⟩
  · rw [underT]
  · exact absurd h (by simp [noIns])
  · rw [underT]
  · rw [underT]
theorem under_keptT (us : List Nat) (a b : List Tok) (h : noIns a) : underT a (us.map Tok.ins ++ b) = List.replicate us.length Tok.keep ++ underT a b := by
  induction us with
  | nil => rfl
  | cons u us ih => rw [List.map_cons, List.cons_append, under_kept1 _ _ _ h, ih]; rfl
theorem under_kk (n : Nat) (a b : List Tok) : underT (List.replicate n Tok.keep ++ a) (List.replicate n Tok.keep ++ b) = List.replicate n Tok.keep ++ underT a b := by
  induction n with
  | zero => rfl
  | succ n ih => rw [List.replicate_succ, List.cons_append, List.cons_append, List.cons_append, ← ih, underT]
theorem under_dk (n : Nat) (a b : List Tok) : underT (List.replicate n Tok.del ++ a) (List.replicate n Tok.keep ++ b) = List.replicate n Tok.del ++ underT a b := by
  induction n with
  | zero => rfl
  | succ n ih => rw [List.replicate_succ, List.replicate_succ, List.cons_append, List.cons_append, List.cons_append, ← ih, underT]
theorem under_kd (n : Nat) (a b : List Tok) : underT (List.replicate n Tok.keep ++ a) (List.replicate n Tok.del ++ b) = underT a b := by
  induction n with
  | zero => rfl
  | succ n ih => rw [List.replicate_succ, List.replicate_succ, List.cons_append, List.cons_append, ← ih, underT]
theorem under_dd (n : Nat) (a b : List Tok) : underT (List.replicate n Tok.del ++ a) (List.replicate n Tok.del ++ b) = underT a b := by
  induction n with
  | zero => rfl
  | succ n ih => rw [List.replicate_succ, List.cons_append, List.cons_append, ← ih, underT]
/-- Step by step: what the first one puts is put; what the other one puts is kept. -/
theorem under_putX (xs ys os : List Sp) (s : Sp) (h : OkW s) (hk : s.1 = 2) : tok (os ++ [s]) ++ underT (tok xs) (tok ys) = tok os ++ underT (tok (s :: xs)) (tok ys) := by
  rcases tokS_kind s h with ⟨_, us, _, e⟩ | ⟨k, _⟩ | ⟨k, _⟩
  · rw [tok_append, tok_cons, tok_nil, tok_cons, List.append_nil, e, under_inss, List.append_assoc]
  · omega
  · omega
theorem under_putY (xs ys os : List Sp) (s : Sp) (h : OkW s) (hk : s.1 = 2) (hx : noIns (tok xs)) : tok (os ++ [(1, ((tokS s).length : Int), ⟨#[]⟩)]) ++ underT (tok xs) (tok ys) = tok os ++ underT (tok xs) (tok (s :: ys)) := by
  rcases tokS_kind s h with ⟨_, us, _, e⟩ | ⟨k, _⟩ | ⟨k, _⟩
  · rw [tok_append, tok_cons, tok_nil, tok_cons, List.append_nil, e, under_keptT _ _ _ hx, List.append_assoc, tokS_num _ _ _ (by decide), if_neg (by decide), Int.toNat_natCast, List.length_map]
  · omega
  · omega
theorem under_both (xs ys os : List Sp) (s u : Sp) (n : Nat) (hs : OkW s) (hu : OkW u) (ks : s.1 ≠ 2) (ku : u.1 ≠ 2) (h1 : n ≤ (tokS s).length) (h2 : n ≤ (tokS u).length) :
    tok (os ++ (if u.1 = 1 then [cutA s n] else [])) ++ underT (tok (left s n xs)) (tok (left u n ys)) = tok os ++ underT (tok (s :: xs)) (tok (u :: ys)) := by
  rw [tok_append, left_tok s n xs hs h1, left_tok u n ys hu h2, tok_cons, tok_cons, List.append_assoc]
  congr 1
  have ca := (cutA_ok s n hs h1).2
  have es := tokS_split s n
  have eu := tokS_split u n
  generalize hS : (tokS s).drop n = S1 at *
  generalize hU : (tokS u).drop n = U1 at *
  have lu : ((tokS u).take n).length = n := by rw [List.length_take]; omega
  have ls : ((tokS s).take n).length = n := by rw [List.length_take]; omega
  rcases tokS_kind u hu with ⟨k, _⟩ | ⟨k, e⟩ | ⟨k, e⟩
  · exact absurd k ku
  · have e' : (tokS u).take n = List.replicate n Tok.keep := by rw [e, List.take_replicate, Nat.min_eq_left h2]
    rw [if_pos k, tok_cons, tok_nil, List.append_nil, ca]
    rw [es, eu, e', List.append_assoc, List.append_assoc]
    rcases tokS_kind s hs with ⟨k2, _⟩ | ⟨k2, f⟩ | ⟨k2, f⟩
    · exact absurd k2 ks
    · have f' : (tokS s).take n = List.replicate n Tok.keep := by rw [f, List.take_replicate, Nat.min_eq_left h1]
      rw [f', List.take_left' (by rw [List.length_replicate]), under_kk]
    · have f' : (tokS s).take n = List.replicate n Tok.del := by rw [f, List.take_replicate, Nat.min_eq_left h1]
      rw [f', List.take_left' (by rw [List.length_replicate]), under_dk]
  · have e' : (tokS u).take n = List.replicate n Tok.del := by rw [e, List.take_replicate, Nat.min_eq_left h2]
    rw [if_neg (by omega), tok_nil, List.nil_append]
    rw [es, eu, e', List.append_assoc, List.append_assoc]
    rcases tokS_kind s hs with ⟨k2, _⟩ | ⟨k2, f⟩ | ⟨k2, f⟩
    · exact absurd k2 ks
    · have f' : (tokS s).take n = List.replicate n Tok.keep := by rw [f, List.take_replicate, Nat.min_eq_left h1]
      rw [f', under_kd]
    · have f' : (tokS s).take n = List.replicate n Tok.del := by rw [f, List.take_replicate, Nat.min_eq_left h1]
      rw [f', under_dd]
/-- Whose turn it is. -/
theorem underC (xs ys : List Sp) (hx : ∀ s ∈ xs, OkW s ∧ ¬ emp s) (hy : ∀ s ∈ ys, OkW s ∧ ¬ emp s) (h : tin (tok xs) = tin (tok ys)) :
    (xs = [] ∧ ys = []) ∨ (∃ a1 a2 a3 r, xs = (a1, a2, a3) :: r ∧ a1 = 2) ∨ (∃ b1 b2 b3 r, ys = (b1, b2, b3) :: r ∧ b1 = 2 ∧ ∀ s q, xs = s :: q → s.1 ≠ 2) ∨
      (∃ a1 a2 a3 r b1 b2 b3 q, xs = (a1, a2, a3) :: r ∧ ys = (b1, b2, b3) :: q ∧ a1 ≠ 2 ∧ b1 ≠ 2) := by
  rcases overC ys xs hy hx h.symm with ⟨rfl, rfl⟩ | ⟨b1, b2, b3, r, rfl, hk⟩ | ⟨a1, a2, a3, r, rfl, hk, hn⟩ | ⟨a1, a2, a3, r, b1, b2, b3, q, rfl, rfl, ha, hb⟩
  · exact .inl ⟨rfl, rfl⟩
  · exact .inr (.inl ⟨b1, b2, b3, r, rfl, hk⟩)
  · exact .inr (.inr (.inl ⟨a1, a2, a3, r, rfl, hk, hn⟩))
  · exact .inr (.inr (.inr ⟨b1, b2, b3, q, a1, a2, a3, r, rfl, rfl, hb, ha⟩))
theorem under_step {K1 : Int} {K2 K3 : Nat} {TT : List Tok} {s u : Sp} {xs ys os : List Sp} {n : Nat} (h : RowO K1 K2 K3 (s :: xs) (u :: ys) os) (htt : tok os ++ underT (tok (s :: xs)) (tok (u :: ys)) = TT) (hsid : tin (tok (s :: xs)) = tin (tok (u :: ys))) (ks : s.1 ≠ 2) (ku : u.1 ≠ 2) (hn : n = min (tokS s).length (tokS u).length) :
    RowO K1 K2 K3 (left s n xs) (left u n ys) (os ++ (if u.1 = 1 then [cutA s n] else [])) ∧ tok (os ++ (if u.1 = 1 then [cutA s n] else [])) ++ underT (tok (left s n xs)) (tok (left u n ys)) = TT ∧ tin (tok (left s n xs)) = tin (tok (left u n ys)) := by
  have hs := (h.x s (List.mem_cons_self ..)).1
  have hu := (h.y u (List.mem_cons_self ..)).1
  have hp : (if u.1 = 1 then [cutA s n] else []) = [] ∨ (if u.1 = 1 then [cutA s n] else []) = [cutA s n] ∨ (if u.1 = 1 then [cutA s n] else []) = [(1, 0, ⟨#[]⟩)] := by
    by_cases h1 : u.1 = 1
    · rw [if_pos h1]; exact .inr (.inl rfl)
    · rw [if_neg h1]; exact .inl rfl
  refine ⟨(h.both hn _ hp).1, ?_, ?_⟩
  · rw [under_both xs ys os s u n hs hu ks ku (by omega) (by omega)]; exact htt
  · have d1 := (drop_tok s hs n (by omega)).1
    have d2 := (drop_tok u hu n (by omega)).1
    have s1 := (sides s hs).1
    have s2 := (sides u hu).1
    rw [if_neg ks] at d1 s1
    rw [if_neg ku] at d2 s2
    rw [tok_cons, tok_cons, tin_append, tin_append] at hsid
    rw [left_tok s n xs hs (by omega), left_tok u n ys hu (by omega), tin_append, tin_append]
    omega
/-- Where the first one drops, the program puts an empty span. -/
theorem under_stepE {K1 : Int} {K2 K3 : Nat} {TT : List Tok} {s u : Sp} {xs ys os : List Sp} {n : Nat} (h : RowO K1 K2 K3 (s :: xs) (u :: ys) os) (htt : tok os ++ underT (tok (s :: xs)) (tok (u :: ys)) = TT) (hsid : tin (tok (s :: xs)) = tin (tok (u :: ys))) (ks : s.1 ≠ 2) (ku : u.1 ≠ 2) (hn : n = min (tokS s).length (tokS u).length) (m : Sp)
    (hm : m = if u.1 = 3 then (1, 0, ⟨#[]⟩) else cutA s n) :
    RowO K1 K2 K3 (left s n xs) (left u n ys) (os ++ [m]) ∧ tok (os ++ [m]) ++ underT (tok (left s n xs)) (tok (left u n ys)) = TT ∧ tin (tok (left s n xs)) = tin (tok (left u n ys)) ∧
      (left s n xs).length + (left u n ys).length < (s :: xs).length + (u :: ys).length := by
  have hu := (h.y u (List.mem_cons_self ..)).1
  have hlt := (h.both hn [] (.inl rfl)).2
  obtain ⟨h1, h2, h3⟩ := under_step h htt hsid ks ku hn
  have k13 : u.1 = 1 ∨ u.1 = 3 := by
    rcases hu with ⟨k1, _⟩ | ⟨k1, _⟩ <;> omega
  rcases k13 with k | k
  · rw [if_pos k] at h1 h2
    rw [if_neg (by omega)] at hm
    subst hm
    exact ⟨h1, h2, h3, hlt⟩
  · rw [if_neg (by omega), List.append_nil] at h2
    rw [if_pos k] at hm
    subst hm
    have hT : tokS (1, 0, (⟨#[]⟩ : ByteArray)) = [] := tokS_emp _ ⟨rfl, rfl⟩
    refine ⟨(h.both hn _ (.inr (.inr rfl))).1, ?_, h3, hlt⟩
    rw [tok_append, tok_cons, tok_nil, hT, List.append_nil, List.append_nil]; exact h2
end Go.Proofs.YtfjiookndleaeaaDoor
namespace Go.Proofs.YtfjiookndleaeaaDoor
set_option maxRecDepth 100000
set_option linter.unusedSimpArgs false
theorem over_mem (a s : List Tok) (c : Nat) : Tok.ins c ∈ overT a s → Tok.ins c ∈ a := by
  fun_induction overT a s <;> grind
theorem overT_okT (a s : List Tok) (h : OkT a) : OkT (overT a s) := fun c hc => h c (over_mem a s c hc)
theorem over_insT (a s : List Tok) : tin a = tin s → insT (overT a s) = insT a := by
  fun_induction overT a s <;> intro h <;> simp only [tin_ins, tin_keep, tin_del, tin_nil, List.length_cons, List.length_nil] at * <;> first | rfl | omega | (rename_i ih; have := ih (by omega); simpa [insT] using this)
/-- The loop's work, of rows alone: no more spans than both have. -/
theorem over_row {K1 : Int} {K2 K3 : Nat} {TT : List Tok} (n : Nat) : ∀ xs ys os : List Sp, xs.length + ys.length ≤ n → RowO K1 K2 K3 xs ys os → tok os ++ overT (tok xs) (tok ys) = TT → tin (tok xs) = tin (tok ys) → ∃ os', tok os' = TT ∧ (∀ s ∈ os', OkW s) ∧ os'.length ≤ K3 := by
  induction n with
  | zero =>
    intro xs ys os hn h ht _
    have hx : xs = [] := List.length_eq_zero_iff.1 (by omega)
    have hy : ys = [] := List.length_eq_zero_iff.1 (by omega)
    subst hx; subst hy
    refine ⟨os, ?_, h.o, ?_⟩
    · rw [← ht, tok_nil, overT, List.append_nil]
    · have := h.l; simp only [List.length_nil] at this; omega
  | succ n ih =>
    intro xs ys os hn h ht hs
    rcases overC xs ys h.x h.y hs with ⟨rfl, rfl⟩ | ⟨b1, b2, b3, ys, rfl, hk⟩ | ⟨a1, a2, a3, xs, rfl, hk, hnp⟩ | ⟨a1, a2, a3, xs, b1, b2, b3, ys, rfl, rfl, hka, hkb⟩
    · refine ⟨os, ?_, h.o, ?_⟩
      · rw [← ht, tok_nil, overT, List.append_nil]
      · have := h.l; simp only [List.length_nil] at this; omega
    · have huo := (h.y _ (List.mem_cons_self ..)).1
      have hpl := put_len _ huo hk
      have hs2 : tin (tok xs) = tin (tok ys) := by rw [tok_cons, tin_append, (sides _ huo).1, if_pos hk] at hs; omega
      rw [← over_putY xs ys os _ huo hk] at ht
      simp only [List.length_cons] at hn
      exact ih xs ys _ (by omega) (h.putY _ hpl.1) ht hs2
    · have huo := (h.x _ (List.mem_cons_self ..)).1
      have hs2 : tin (tok xs) = tin (tok ys) := by rw [tok_cons, tin_append, (sides _ huo).1, if_pos hk] at hs; omega
      rw [← over_putX xs ys os _ huo hk (noIns_tok ys h.y hnp)] at ht
      simp only [List.length_cons] at hn
      exact ih xs ys _ (by omega) h.putX ht hs2
    · obtain ⟨m, hm⟩ : ∃ m, m = if b1 = 3 then ((1, 0, ⟨#[]⟩) : Sp) else cutA (a1, a2, a3) (min (tokS (a1, a2, a3)).length (tokS (b1, b2, b3)).length) := ⟨_, rfl⟩
      obtain ⟨h1, h2, h3, h4⟩ := over_stepE h ht hs hka hkb rfl m hm
      exact ih _ _ _ (by omega) h1 h2 h3
theorem overL_len (X Y : List Sp) (hX : ∀ s ∈ X, OkW s) (hY : ∀ s ∈ Y, OkW s) (hf : inL X = inL Y) : (overL X Y).length ≤ (normL X).length + (normL Y).length := by
  have px := okW_pos X hX
  have py := okW_pos Y hY
  have hnx := norm_okW X hX
  have hny := norm_okW Y hY
  have hix := isN_ne _ (norm_is X px)
  have hiy := isN_ne _ (norm_is Y py)
  have h1 := (tin_ok X hX).1
  have h2 := (tin_ok Y hY).1
  have hrow : RowO (sumN (normL X) + sumN (normL Y) + (sumT (normL Y) : Int)) (sumT (normL X)) ((normL X).length + (normL Y).length) (normL X) (normL Y) [] := by
    have Z : sumN ([] : List Sp) = 0 ∧ sumT ([] : List Sp) = 0 := ⟨rfl, rfl⟩
    refine ⟨fun s hs => ⟨hnx.1 s hs, hix s hs⟩, fun s hs => ⟨hny.1 s hs, hiy s hs⟩, fun s hs => (by cases hs), by omega, by omega, ?_⟩
    simp only [List.length_nil]; omega
  have hs : tin (tok (normL X)) = tin (tok (normL Y)) := by rw [hnx.2, hny.2]; omega
  obtain ⟨os, o1, o2, o3⟩ := over_row (TT := overT (tok X) (tok Y)) _ (normL X) (normL Y) [] (Nat.le_refl _) hrow (by rw [hnx.2, hny.2, tok_nil, List.nil_append]) hs
  have e : overL X Y = normL os := by unfold overL; rw [norm_tok os o2, o1]
  rw [e]
  have := norm_len os
  omega
theorem overL_all (X Y : List Sp) (hX : ∀ s ∈ X, OkW s) (hY : ∀ s ∈ Y, OkW s) (hf : inL X = inL Y) :
    (∀ s ∈ overL X Y, OkW s) ∧ tok (overL X Y) = overT (tok X) (tok Y) ∧ isN (overL X Y) ∧ inL (overL X Y) = outL Y ∧
    (overL X Y).length ≤ (normL X).length + (normL Y).length ∧ sumT (overL X Y) ≤ sumT X := by
  have tz := overT_okT (tok X) (tok Y) (tok_okT X hX)
  obtain ⟨x1, x2⟩ := tin_ok X hX
  obtain ⟨y1, y2⟩ := tin_ok Y hY
  have hft : tin (tok X) = tin (tok Y) := by omega
  have hz : ∀ s ∈ overL X Y, OkW s := spT_okW _ tz
  have htz : tok (overL X Y) = overT (tok X) (tok Y) := tok_spT _ tz
  obtain ⟨z1, z2⟩ := tin_ok _ hz
  have l1 := overT_len _ _ hft
  rw [htz, l1] at z1
  refine ⟨hz, htz, spT_is _ tz, by omega, overL_len X Y hX hY hf, ?_⟩
  unfold overL
  rw [sumT_spT, over_insT _ _ hft]
  exact insT_sum X hX
/-- Behind one that keeps all; one that keeps all. -/
theorem over_nil : overT [] [] = [] := by rw [overT]
theorem over_keepR (x : List Tok) : overT x (List.replicate (tin x) Tok.keep) = x := by
  induction x with
  | nil => exact over_nil
  | cons t x ih =>
    cases t with
    | ins c =>
      have e : tin (.ins c :: x) = tin x := by simp [tin]
      rw [e]
      have h := over_putT [c] x (List.replicate (tin x) Tok.keep) (by cases tin x <;> exact trivial)
      rw [ih] at h
      exact h
    | keep =>
      have e : tin (.keep :: x) = tin x + 1 := by simp [tin]
      rw [e, List.replicate_succ, overT, ih]
    | del =>
      have e : tin (.del :: x) = tin x + 1 := by simp [tin]
      rw [e, List.replicate_succ, overT, ih]
theorem over_keepL (y : List Tok) : overT (List.replicate (tin y) Tok.keep) y = List.replicate (tout y) Tok.keep := by
  induction y with
  | nil => exact over_nil
  | cons t y ih =>
    cases t with
    | ins c =>
      have e : tin (.ins c :: y) = tin y := by simp [tin]
      have e2 : tout (.ins c :: y) = tout y + 1 := by simp [tout]
      rw [e, e2, overT_ins, ih, List.replicate_succ]
    | keep =>
      have e : tin (.keep :: y) = tin y + 1 := by simp [tin]
      have e2 : tout (.keep :: y) = tout y + 1 := by simp [tout]
      rw [e, e2, List.replicate_succ, overT, ih, List.replicate_succ]
    | del =>
      have e : tin (.del :: y) = tin y + 1 := by simp [tin]
      have e2 : tout (.del :: y) = tout y := by simp [tout]
      rw [e, e2, List.replicate_succ, overT, ih]
theorem keepL_spT (n : Int) (h0 : 0 ≤ n) : spT (List.replicate n.toNat Tok.keep) = keepL n := by
  have h := spT_isN (keepL_isN n) (keepL_okW n h0)
  rw [keepL_tok n] at h
  exact h.symm
/-- One text that is put. -/
theorem over_onePut (us : List Nat) : ∀ (s : List Tok) (k : Nat), k ≤ tin s → overT (List.replicate k Tok.keep ++ (us.map Tok.ins ++ List.replicate (tin s - k) Tok.keep)) s = List.replicate (whereT s k) Tok.keep ++ (us.map Tok.ins ++ List.replicate (tout s - whereT s k) Tok.keep) := by
  intro s
  induction s with
  | nil =>
    intro k hk
    obtain rfl : k = 0 := by simp [tin] at hk; exact hk
    show overT (us.map Tok.ins ++ []) [] = us.map Tok.ins ++ []
    rw [over_putT us [] [] trivial, over_nil]
  | cons t s ih =>
    intro k hk
    cases t with
    | ins c =>
      have e : tin (.ins c :: s) = tin s := by simp [tin]
      have e2 : tout (.ins c :: s) = tout s + 1 := by simp [tout]
      rw [e] at hk ⊢
      rw [overT_ins, ih k hk, whereT, List.replicate_succ, e2, Nat.add_sub_add_right]; rfl
    | keep =>
      have e : tin (.keep :: s) = tin s + 1 := by simp [tin]
      have e2 : tout (.keep :: s) = tout s + 1 := by simp [tout]
      rw [e] at hk ⊢
      cases k with
      | zero =>
        have h := over_keepL (.keep :: s)
        rw [e] at h
        rw [whereT, List.replicate_zero, List.nil_append, List.nil_append, Nat.sub_zero, Nat.sub_zero, over_putT us _ (.keep :: s) trivial, h]
      | succ k =>
        rw [List.replicate_succ, List.cons_append, overT, Nat.add_sub_add_right, ih k (by omega), whereT, e2, Nat.add_sub_add_right, List.replicate_succ]; rfl
    | del =>
      have e : tin (.del :: s) = tin s + 1 := by simp [tin]
      have e2 : tout (.del :: s) = tout s := by simp [tout]
      rw [e] at hk ⊢
      cases k with
      | zero =>
        have h := over_keepL (.del :: s)
        rw [e] at h
        rw [whereT, List.replicate_zero, List.nil_append, List.nil_append, Nat.sub_zero, Nat.sub_zero, over_putT us _ (.del :: s) trivial, h]
      | succ k =>
        rw [List.replicate_succ, List.cons_append, overT, Nat.add_sub_add_right, ih k (by omega), whereT, e2]
/-- Two parts. -/
theorem over_left (a s : List Tok) (hs : noIns s) : ∀ x : List Tok, overT (x ++ a) (List.replicate (tin x) Tok.keep ++ s) = x ++ overT a s := by
  intro x
  induction x with
  | nil => rfl
  | cons t x ih =>
    cases t with
    | ins c =>
      have e : tin (.ins c :: x) = tin x := by simp [tin]
      rw [e]
      have h := over_putT [c] (x ++ a) (List.replicate (tin x) Tok.keep ++ s) (by cases tin x with | zero => exact hs | succ n => exact trivial)
      rw [ih] at h
      exact h
    | keep =>
      have e : tin (.keep :: x) = tin x + 1 := by simp [tin]
      rw [e, List.replicate_succ, List.cons_append, List.cons_append, overT, ih]; rfl
    | del =>
      have e : tin (.del :: x) = tin x + 1 := by simp [tin]
      rw [e, List.replicate_succ, List.cons_append, List.cons_append, overT, ih]; rfl
theorem over_right (b s : List Tok) : ∀ x : List Tok, overT (List.replicate (tin x) Tok.keep ++ b) (x ++ s) = List.replicate (tout x) Tok.keep ++ overT b s := by
  intro x
  induction x with
  | nil => rfl
  | cons t x ih =>
    cases t with
    | ins c =>
      have e : tin (.ins c :: x) = tin x := by simp [tin]
      have e2 : tout (.ins c :: x) = tout x + 1 := by simp [tout]
      rw [e, e2, List.cons_append, overT_ins, ih, List.replicate_succ]; rfl
    | keep =>
      have e : tin (.keep :: x) = tin x + 1 := by simp [tin]
      have e2 : tout (.keep :: x) = tout x + 1 := by simp [tout]
      rw [e, e2, List.replicate_succ, List.cons_append, List.cons_append, overT, ih, List.replicate_succ]; rfl
    | del =>
      have e : tin (.del :: x) = tin x + 1 := by simp [tin]
      have e2 : tout (.del :: x) = tout x := by simp [tout]
      rw [e, e2, List.replicate_succ, List.cons_append, List.cons_append, overT, ih]
theorem over_apart1 (x y : List Tok) : overT (x ++ List.replicate (tin y + 1) Tok.keep) (List.replicate (tin x + 1) Tok.keep ++ y) = x ++ List.replicate (tout y + 1) Tok.keep := by
  have e : List.replicate (tin x + 1) Tok.keep ++ y = List.replicate (tin x) Tok.keep ++ (.keep :: y) := by rw [List.replicate_succ', List.append_assoc]; rfl
  rw [e, over_left _ (.keep :: y) trivial, List.replicate_succ, overT, over_keepL, List.replicate_succ]
theorem over_apart2 (x y : List Tok) : overT (List.replicate (tin x + 1) Tok.keep ++ y) (x ++ List.replicate (tin y + 1) Tok.keep) = List.replicate (tout x + 1) Tok.keep ++ y := by
  have e : List.replicate (tin x + 1) Tok.keep ++ y = List.replicate (tin x) Tok.keep ++ (.keep :: y) := by rw [List.replicate_succ', List.append_assoc]; rfl
  have e2 : List.replicate (tout x + 1) Tok.keep ++ y = List.replicate (tout x) Tok.keep ++ (.keep :: y) := by rw [List.replicate_succ', List.append_assoc]; rfl
  rw [e, e2, over_right, List.replicate_succ, overT, over_keepR]
/-- What one drops is dropped already, if the first one drops it. -/
def leD : List Bool → List Bool → Prop
  | a :: x, b :: y => (a = true → b = true) ∧ leD x y
  | [], [] => True
  | _, _ => False
theorem leD_refl : ∀ l : List Bool, leD l l
  | [] => trivial
  | _ :: l => ⟨id, leD_refl l⟩
theorem over_noDel (a s : List Tok) : leD (gpD a) (gpD s) → Tok.del ∉ overT a s := by
  fun_induction overT a s <;> simp_all [gpD, leD]
/-- Behind many, one by one. -/
theorem over_many {ls : List (List Sp)} {n m k : Int} {l : List Sp} (t : List Tok) (ht : (tin t : Int) = n) (hn : Thru n ls k) (hl : Thru k [l] m) : overT t (fR n (ls ++ [l])) = overT (overT t (fR n ls)) (tok l) := by
  have h1 := fR_len hn
  have hl2 := hl
  obtain ⟨g1, g2, g3, g4, g5⟩ := hl
  have h2 : (tin (tok l) : Int) = inL l := (tin_ok l g1).1
  have h3 := fR_one g1
  rw [g2] at h3
  rw [fR_append hn hl2, h3]
  exact over_one _ t (fR n ls) (tok l) (Nat.le_refl _) (by omega) (by omega)
end Go.Proofs.YtfjiookndleaeaaDoor
namespace Go.Proofs.YtfjiookndleaeaaDoor
set_option maxRecDepth 100000
set_option linter.unusedSimpArgs false
theorem under_mem (s a : List Tok) (c : Nat) : Tok.ins c ∈ underT s a → Tok.ins c ∈ s := by
  fun_induction underT s a <;> grind
theorem underT_okT (s a : List Tok) (h : OkT s) : OkT (underT s a) := fun c hc => h c (under_mem s a c hc)
theorem under_insT (s a : List Tok) : tin s = tin a → insT (underT s a) = insT s := by
  fun_induction underT s a <;> intro h <;> simp only [tin_ins, tin_keep, tin_del, tin_nil, List.length_cons, List.length_nil] at * <;> first | rfl | omega | (rename_i ih; have := ih (by omega); simpa [insT] using this)
theorem under_row {K1 : Int} {K2 K3 : Nat} {TT : List Tok} (n : Nat) : ∀ xs ys os : List Sp, xs.length + ys.length ≤ n → RowO K1 K2 K3 xs ys os → tok os ++ underT (tok xs) (tok ys) = TT → tin (tok xs) = tin (tok ys) → ∃ os', tok os' = TT ∧ (∀ s ∈ os', OkW s) ∧ os'.length ≤ K3 := by
  induction n with
  | zero =>
    intro xs ys os hn h ht _
    have hx : xs = [] := List.length_eq_zero_iff.1 (by omega)
    have hy : ys = [] := List.length_eq_zero_iff.1 (by omega)
    subst hx; subst hy
    refine ⟨os, ?_, h.o, ?_⟩
    · rw [← ht, tok_nil, underT, List.append_nil]
    · have := h.l; simp only [List.length_nil] at this; omega
  | succ n ih =>
    intro xs ys os hn h ht hs
    rcases underC xs ys h.x h.y hs with ⟨rfl, rfl⟩ | ⟨a1, a2, a3, xs, rfl, hk⟩ | ⟨b1, b2, b3, ys, rfl, hk, hnp⟩ | ⟨a1, a2, a3, xs, b1, b2, b3, ys, rfl, rfl, hka, hkb⟩
    · refine ⟨os, ?_, h.o, ?_⟩
      · rw [← ht, tok_nil, underT, List.append_nil]
      · have := h.l; simp only [List.length_nil] at this; omega
    · have huo := (h.x _ (List.mem_cons_self ..)).1
      have hs2 : tin (tok xs) = tin (tok ys) := by rw [tok_cons, tin_append, (sides _ huo).1, if_pos hk] at hs; omega
      rw [← under_putX xs ys os _ huo hk] at ht
      simp only [List.length_cons] at hn
      exact ih xs ys _ (by omega) h.putX ht hs2
    · have huo := (h.y _ (List.mem_cons_self ..)).1
      have hpl := put_len _ huo hk
      have hs2 : tin (tok xs) = tin (tok ys) := by rw [tok_cons, tin_append, (sides _ huo).1, if_pos hk] at hs; omega
      rw [← under_putY xs ys os _ huo hk (noIns_tok xs h.x hnp)] at ht
      simp only [List.length_cons] at hn
      exact ih xs ys _ (by omega) (h.putY _ hpl.1) ht hs2
    · obtain ⟨m, hm⟩ : ∃ m, m = if b1 = 3 then ((1, 0, ⟨#[]⟩) : Sp) else cutA (a1, a2, a3) (min (tokS (a1, a2, a3)).length (tokS (b1, b2, b3)).length) := ⟨_, rfl⟩
      obtain ⟨h1, h2, h3, h4⟩ := under_stepE h ht hs hka hkb rfl m hm
      exact ih _ _ _ (by omega) h1 h2 h3
theorem underL_len (X Y : List Sp) (hX : ∀ s ∈ X, OkW s) (hY : ∀ s ∈ Y, OkW s) (hf : inL X = inL Y) : (underL X Y).length ≤ (normL X).length + (normL Y).length := by
  have px := okW_pos X hX
  have py := okW_pos Y hY
  have hnx := norm_okW X hX
  have hny := norm_okW Y hY
  have hix := isN_ne _ (norm_is X px)
  have hiy := isN_ne _ (norm_is Y py)
  have h1 := (tin_ok X hX).1
  have h2 := (tin_ok Y hY).1
  have hrow : RowO (sumN (normL X) + sumN (normL Y) + (sumT (normL Y) : Int)) (sumT (normL X)) ((normL X).length + (normL Y).length) (normL X) (normL Y) [] := by
    have Z : sumN ([] : List Sp) = 0 ∧ sumT ([] : List Sp) = 0 := ⟨rfl, rfl⟩
    refine ⟨fun s hs => ⟨hnx.1 s hs, hix s hs⟩, fun s hs => ⟨hny.1 s hs, hiy s hs⟩, fun s hs => (by cases hs), by omega, by omega, ?_⟩
    simp only [List.length_nil]; omega
  have hs : tin (tok (normL X)) = tin (tok (normL Y)) := by rw [hnx.2, hny.2]; omega
  obtain ⟨os, o1, o2, o3⟩ := under_row (TT := underT (tok X) (tok Y)) _ (normL X) (normL Y) [] (Nat.le_refl _) hrow (by rw [hnx.2, hny.2, tok_nil, List.nil_append]) hs
  have e : underL X Y = normL os := by unfold underL; rw [norm_tok os o2, o1]
  rw [e]
  have := norm_len os
  omega
theorem underL_all (X Y : List Sp) (hX : ∀ s ∈ X, OkW s) (hY : ∀ s ∈ Y, OkW s) (hf : inL X = inL Y) :
    (∀ s ∈ underL X Y, OkW s) ∧ tok (underL X Y) = underT (tok X) (tok Y) ∧ isN (underL X Y) ∧ inL (underL X Y) = outL Y ∧
    (underL X Y).length ≤ (normL X).length + (normL Y).length ∧ sumT (underL X Y) ≤ sumT X := by
  have tz := underT_okT (tok X) (tok Y) (tok_okT X hX)
  obtain ⟨x1, x2⟩ := tin_ok X hX
  obtain ⟨y1, y2⟩ := tin_ok Y hY
  have hft : tin (tok X) = tin (tok Y) := by omega
  have hz : ∀ s ∈ underL X Y, OkW s := spT_okW _ tz
  have htz : tok (underL X Y) = underT (tok X) (tok Y) := tok_spT _ tz
  obtain ⟨z1, z2⟩ := tin_ok _ hz
  have l1 := underT_len _ _ hft
  rw [htz, l1] at z1
  refine ⟨hz, htz, spT_is _ tz, by omega, underL_len X Y hX hY hf, ?_⟩
  unfold underL
  rw [sumT_spT, under_insT _ _ hft]
  exact insT_sum X hX
/-- Behind one that keeps all; one that keeps all. -/
theorem under_keepR (x : List Tok) : underT x (List.replicate (tin x) Tok.keep) = x := by
  induction x with
  | nil => exact underT_nil
  | cons t x ih =>
    cases t with
    | ins c =>
      have e : tin (.ins c :: x) = tin x := by simp [tin]
      rw [e, underT_ins, ih]
    | keep =>
      have e : tin (.keep :: x) = tin x + 1 := by simp [tin]
      rw [e, List.replicate_succ, underT, ih]
    | del =>
      have e : tin (.del :: x) = tin x + 1 := by simp [tin]
      rw [e, List.replicate_succ, underT, ih]
theorem under_keepL (y : List Tok) : underT (List.replicate (tin y) Tok.keep) y = List.replicate (tout y) Tok.keep := by
  induction y with
  | nil => exact underT_nil
  | cons t y ih =>
    cases t with
    | ins c =>
      have e : tin (.ins c :: y) = tin y := by simp [tin]
      have e2 : tout (.ins c :: y) = tout y + 1 := by simp [tout]
      rw [e, e2, under_kept1 _ _ _ (by cases tin y <;> exact trivial), ih, List.replicate_succ]
    | keep =>
      have e : tin (.keep :: y) = tin y + 1 := by simp [tin]
      have e2 : tout (.keep :: y) = tout y + 1 := by simp [tout]
      rw [e, e2, List.replicate_succ, underT, ih, List.replicate_succ]
    | del =>
      have e : tin (.del :: y) = tin y + 1 := by simp [tin]
      have e2 : tout (.del :: y) = tout y := by simp [tout]
      rw [e, e2, List.replicate_succ, underT, ih]
/-- Both come to as much, and drop as much in all. -/
def dlT (ts : List Tok) : Nat := (ts.filter fun t => match t with | .del => true | _ => false).length
theorem dlT_nil : dlT [] = 0 := rfl
theorem dlT_ins (c : Nat) (r : List Tok) : dlT (.ins c :: r) = dlT r := rfl
theorem dlT_keep (r : List Tok) : dlT (.keep :: r) = dlT r := rfl
theorem dlT_del (r : List Tok) : dlT (.del :: r) = dlT r + 1 := rfl
theorem meet_out (a s : List Tok) : tin a = tin s → tout (overT a s) = tout (underT s a) ∧ dlT s + dlT (overT a s) = dlT a + dlT (underT s a) := by
  fun_induction overT a s <;> intro h <;> simp only [underT, tin_ins, tin_keep, tin_del, tin_nil, tout_cins, tout_keep, tout_del, tout_nil, dlT_nil, dlT_ins, dlT_keep, dlT_del, List.length_cons, List.length_nil] at * <;> first | omega | (rename_i ih; have := ih (by omega); omega) | simp
/-- Where both put something in one gap. -/
theorem tie_over (us vs : List Nat) (k r : Nat) : overT (List.replicate k Tok.keep ++ (vs.map Tok.ins ++ List.replicate r Tok.keep)) (List.replicate k Tok.keep ++ (us.map Tok.ins ++ List.replicate r Tok.keep)) = List.replicate (k + us.length) Tok.keep ++ (vs.map Tok.ins ++ List.replicate r Tok.keep) := by
  rw [over_kk, over_inss, over_putT _ _ _ (by cases r <;> exact trivial), show List.replicate r Tok.keep = List.replicate r Tok.keep ++ [] from (List.append_nil _).symm, over_kk, over_nil, ← List.append_assoc, List.replicate_append_replicate]
theorem tie_under (us vs : List Nat) (k r : Nat) : underT (List.replicate k Tok.keep ++ (us.map Tok.ins ++ List.replicate r Tok.keep)) (List.replicate k Tok.keep ++ (vs.map Tok.ins ++ List.replicate r Tok.keep)) = List.replicate k Tok.keep ++ (us.map Tok.ins ++ List.replicate (vs.length + r) Tok.keep) := by
  rw [under_kk, under_inss, under_keptT _ _ _ (by cases r <;> exact trivial), show List.replicate r Tok.keep = List.replicate r Tok.keep ++ [] from (List.append_nil _).symm, under_kk, underT_nil, List.append_nil, List.replicate_append_replicate]
end Go.Proofs.YtfjiookndleaeaaDoor
