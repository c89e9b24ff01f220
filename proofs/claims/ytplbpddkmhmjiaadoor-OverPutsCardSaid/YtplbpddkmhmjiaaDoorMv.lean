/- An operation behind another one that comes first, span by span: mathematics. -/
import Derived.Test.YtplbpddkmhmjiaaDoorMc
import Derived.Test.YtplbpddkmhmjiaaDoorMd
namespace Go.Proofs.YtplbpddkmhmjiaaDoor
set_option maxRecDepth 100000
set_option linter.unusedSimpArgs false
/-- What over tells of a and s: the error, and the operation. -/
def overE (a s : List Sp) : Int := if mayL a = 0 then (if mayL s = 0 then (if inL a = inL s then 0 else 5) else mayL s) else mayL a
def overL (a s : List Sp) : List Sp := spT (overT (tok a) (tok s))
theorem overE_ok {a s : List Sp} (hE : overE a s = 0) : mayL a = 0 ∧ mayL s = 0 ∧ inL a = inL s := by
  unfold overE at hE
  by_cases hma : mayL a = 0
  · rw [if_pos hma] at hE
    by_cases hmb : mayL s = 0
    · rw [if_pos hmb] at hE
      by_cases hf : inL a = inL s
      · exact ⟨hma, hmb, hf⟩
      · rw [if_neg hf] at hE; exact absurd hE (by decide)
    · rw [if_neg hmb] at hE; exact absurd hE hmb
  · rw [if_neg hma] at hE; exact absurd hE hma
theorem cutB_num (k n : Int) (t : ByteArray) (m : Nat) (hk : k ≠ 2) : (cutB (k, n, t) m).2.1 = n - m := by unfold cutB; rw [if_neg hk]
/-- Many tokens at once. -/
theorem over_inss (us : List Nat) (a b : List Tok) : overT a (us.map Tok.ins ++ b) = List.replicate us.length Tok.keep ++ overT a b := by
  induction us with
  | nil => rfl
  | cons u us ih => rw [List.map_cons, List.cons_append, overT_ins, ih]; rfl
theorem over_putT (us : List Nat) (a b : List Tok) (h : noIns b) : overT (us.map Tok.ins ++ a) b = us.map Tok.ins ++ overT a b := by
  induction us with
  | nil => rfl
  | cons u us ih =>
    rw [List.map_cons, List.cons_append, List.cons_append, ← ih]
    rcases b with _ | ⟨_ | _ | _, b⟩
    · rw [overT]
    · exact absurd h (by simp [noIns])
    · rw [overT]
    · rw [overT]
theorem over_kk (n : Nat) (a b : List Tok) : overT (List.replicate n Tok.keep ++ a) (List.replicate n Tok.keep ++ b) = List.replicate n Tok.keep ++ overT a b := by
  induction n with
  | zero => rfl
  | succ n ih => rw [List.replicate_succ, List.cons_append, List.cons_append, List.cons_append, ← ih, overT]
theorem over_dk (n : Nat) (a b : List Tok) : overT (List.replicate n Tok.del ++ a) (List.replicate n Tok.keep ++ b) = List.replicate n Tok.del ++ overT a b := by
  induction n with
  | zero => rfl
  | succ n ih => rw [List.replicate_succ, List.replicate_succ, List.cons_append, List.cons_append, List.cons_append, ← ih, overT]
theorem over_kd (n : Nat) (a b : List Tok) : overT (List.replicate n Tok.keep ++ a) (List.replicate n Tok.del ++ b) = overT a b := by
  induction n with
  | zero => rfl
  | succ n ih => rw [List.replicate_succ, List.replicate_succ, List.cons_append, List.cons_append, ← ih, overT]
theorem over_dd (n : Nat) (a b : List Tok) : overT (List.replicate n Tok.del ++ a) (List.replicate n Tok.del ++ b) = overT a b := by
  induction n with
  | zero => rfl
  | succ n ih => rw [List.replicate_succ, List.cons_append, List.cons_append, ← ih, overT]
/-- What the loop keeps: rows x, y that are left, and o that is made. -/
structure RowO (K1 : Int) (K2 K3 : Nat) (xs ys os : List Sp) : Prop where
  x : ∀ s ∈ xs, OkW s ∧ ¬ emp s
  y : ∀ s ∈ ys, OkW s ∧ ¬ emp s
  o : ∀ s ∈ os, OkW s
  n : sumN os + sumN xs + sumN ys + (sumT ys : Int) ≤ K1
  t : sumT os + sumT xs ≤ K2
  l : os.length + xs.length + ys.length ≤ K3
theorem RowO.pops {K1 : Int} {K2 K3 : Nat} {xs ys os : List Sp} (h : RowO K1 K2 K3 xs ys os) : 0 ≤ sumN xs ∧ 0 ≤ sumN ys ∧ 0 ≤ sumN os :=
  ⟨sumN_pos _ fun s hs => (h.x s hs).1.nonneg, sumN_pos _ fun s hs => (h.y s hs).1.nonneg, sumN_pos _ fun s hs => (h.o s hs).nonneg⟩
/-- The first span of y is put: it is kept. -/
theorem RowO.putY {K1 : Int} {K2 K3 : Nat} {s : Sp} {xs ys os : List Sp} (h : RowO K1 K2 K3 xs (s :: ys) os) (N : Nat) (hN : N ≤ s.2.2.size) : RowO K1 K2 K3 xs ys (os ++ [(1, (N : Int), ⟨#[]⟩)]) := by
  have h0 := (h.y s (List.mem_cons_self ..)).1.nonneg
  refine ⟨h.x, fun u hu => h.y u (List.mem_cons_of_mem _ hu), fun u hu => ?_, ?_, ?_, ?_⟩
  · rcases List.mem_append.1 hu with hu | hu
    · exact h.o u hu
    · rw [List.mem_singleton] at hu; subst hu; exact .inr ⟨.inl rfl, by simp only; omega, rfl⟩
  · have := h.n; rw [sumN_append, sumN_one]; rw [sumN_cons, sumT_cons] at this; simp only; omega
  · have := h.t; rw [sumT_append, sumT_sing]; have e : (⟨#[]⟩ : ByteArray).size = 0 := rfl; simp only; omega
  · have := h.l; simp only [List.length_append, List.length_cons, List.length_nil] at *; omega
theorem RowO.putX {K1 : Int} {K2 K3 : Nat} {s : Sp} {xs ys os : List Sp} (h : RowO K1 K2 K3 (s :: xs) ys os) : RowO K1 K2 K3 xs ys (os ++ [s]) := by
  refine ⟨fun u hu => h.x u (List.mem_cons_of_mem _ hu), h.y, fun u hu => ?_, ?_, ?_, ?_⟩
  · rcases List.mem_append.1 hu with hu | hu
    · exact h.o u hu
    · rw [List.mem_singleton] at hu; subst hu; exact (h.x _ (List.mem_cons_self ..)).1
  · have := h.n; rw [sumN_append, sumN_one]; rw [sumN_cons] at this; omega
  · have := h.t; rw [sumT_append, sumT_sing]; rw [sumT_cons] at this; omega
  · have := h.l; simp only [List.length_append, List.length_cons, List.length_nil] at *; omega
/-- Both begin with as many code points: out goes a part of the first, or nothing, or an empty span. -/
theorem RowO.both {K1 : Int} {K2 K3 : Nat} {s u : Sp} {xs ys os : List Sp} {n : Nat} (h : RowO K1 K2 K3 (s :: xs) (u :: ys) os) (hn : n = min (tokS s).length (tokS u).length) (ps : List Sp) (hp : ps = [] ∨ ps = [cutA s n] ∨ ps = [(1, 0, ⟨#[]⟩)]) : RowO K1 K2 K3 (left s n xs) (left u n ys) (os ++ ps) ∧ (left s n xs).length + (left u n ys).length < (s :: xs).length + (u :: ys).length := by
  have hs := (h.x s (List.mem_cons_self ..)).1
  have hu := (h.y u (List.mem_cons_self ..)).1
  obtain ⟨a1, a2, a3, a4⟩ := left_sum s n xs hs (by omega)
  obtain ⟨b1, b2, b3, b4⟩ := left_sum u n ys hu (by omega)
  have ca := (cutA_ok s n hs (by omega)).1
  have cb := (cutA_ok u n hu (by omega)).1
  have ca0 := ca.nonneg
  have cb0 := cb.nonneg
  have hn' := h.n; have ht' := h.t; have hl' := h.l
  have hlt : (left s n xs).length + (left u n ys).length < (s :: xs).length + (u :: ys).length := by
    simp only [List.length_cons]
    rcases (by omega : (tokS s).length = n ∨ (tokS u).length = n) with e | e
    · have := a4 e; omega
    · have := b4 e; omega
  refine ⟨⟨left_ok s n xs hs (by omega) fun v hv => h.x v (List.mem_cons_of_mem _ hv), left_ok u n ys hu (by omega) fun v hv => h.y v (List.mem_cons_of_mem _ hv), fun v hv => ?_, ?_, ?_, ?_⟩, hlt⟩
  · rcases List.mem_append.1 hv with hv | hv
    · exact h.o v hv
    · rcases hp with rfl | rfl | rfl
      · cases hv
      · rw [List.mem_singleton] at hv; subst hv; exact ca
      · rw [List.mem_singleton] at hv; subst hv; exact .inr ⟨.inl rfl, by decide, rfl⟩
  · rw [sumN_append]
    rcases hp with rfl | rfl | rfl
    · have e : sumN ([] : List Sp) = 0 := rfl
      omega
    · rw [sumN_one]; omega
    · rw [sumN_one]; simp only; omega
  · rw [sumT_append]
    rcases hp with rfl | rfl | rfl
    · have e : sumT ([] : List Sp) = 0 := rfl
      omega
    · rw [sumT_sing]; omega
    · rw [sumT_sing]; have e : (⟨#[]⟩ : ByteArray).size = 0 := rfl; simp only; omega
  · rw [List.length_append]
    have : ps.length ≤ 1 := by rcases hp with rfl | rfl | rfl <;> simp
    omega
/-- Step by step. -/
theorem put_len (s : Sp) (h : OkW s) (hk : s.1 = 2) : (tokS s).length ≤ s.2.2.size ∧ outS s.1 s.2.1 s.2.2 = ((tokS s).length : Int) := by
  rcases tokS_kind s h with ⟨_, us, hu, e⟩ | ⟨k, _⟩ | ⟨k, _⟩
  · refine ⟨?_, ?_⟩
    · have h1 := (dec_some hu).2
      have h2 := length_le_encs us
      rw [← h1, bs_length] at h2
      rw [e, List.length_map]; exact h2
    · rw [← (tin_span s h).2, (sides s h).2, if_neg (by omega)]
  · omega
  · omega
theorem over_putY (xs ys os : List Sp) (s : Sp) (h : OkW s) (hk : s.1 = 2) : tok (os ++ [(1, ((tokS s).length : Int), ⟨#[]⟩)]) ++ overT (tok xs) (tok ys) = tok os ++ overT (tok xs) (tok (s :: ys)) := by
  rcases tokS_kind s h with ⟨_, us, _, e⟩ | ⟨k, _⟩ | ⟨k, _⟩
  · rw [tok_append, tok_cons, tok_nil, tok_cons, List.append_nil, e, over_inss, List.append_assoc, tokS_num _ _ _ (by decide), if_neg (by decide), Int.toNat_natCast, List.length_map]
  · omega
  · omega
theorem over_putX (xs ys os : List Sp) (s : Sp) (h : OkW s) (hk : s.1 = 2) (hy : noIns (tok ys)) : tok (os ++ [s]) ++ overT (tok xs) (tok ys) = tok os ++ overT (tok (s :: xs)) (tok ys) := by
  rcases tokS_kind s h with ⟨_, us, _, e⟩ | ⟨k, _⟩ | ⟨k, _⟩
  · rw [tok_append, tok_cons, tok_nil, tok_cons, List.append_nil, e, over_putT _ _ _ hy, List.append_assoc]
  · omega
  · omega
theorem over_both (xs ys os : List Sp) (s u : Sp) (n : Nat) (hs : OkW s) (hu : OkW u) (ks : s.1 ≠ 2) (ku : u.1 ≠ 2) (h1 : n ≤ (tokS s).length) (h2 : n ≤ (tokS u).length) :
    tok (os ++ (if u.1 = 1 then [cutA s n] else [])) ++ overT (tok (left s n xs)) (tok (left u n ys)) = tok os ++ overT (tok (s :: xs)) (tok (u :: ys)) := by
  rw [tok_append, left_tok s n xs hs h1, left_tok u n ys hu h2, tok_cons, tok_cons, List.append_assoc]
  congr 1
  have ca := (cutA_ok s n hs h1).2
  have es := tokS_split s n
  have eu := tokS_split u n
  generalize hS : (tokS s).drop n = S1 at *
  generalize hU : (tokS u).drop n = U1 at *
  have lu : ((tokS u).take n).length = n := by rw [List.length_take]; omega
  have ls : ((tokS s).take n).length = n := by rw [List.length_take]; omega
  rcases tokS_kind u hu with ⟨k, _⟩ | ⟨k, e⟩ | ⟨k, e⟩
  · exact absurd k ku
  · have e' : (tokS u).take n = List.replicate n Tok.keep := by rw [e, List.take_replicate, Nat.min_eq_left h2]
    rw [if_pos k, tok_cons, tok_nil, List.append_nil, ca]
    rw [es, eu, e', List.append_assoc, List.append_assoc]
    rcases tokS_kind s hs with ⟨k2, _⟩ | ⟨k2, f⟩ | ⟨k2, f⟩
    · exact absurd k2 ks
    · have f' : (tokS s).take n = List.replicate n Tok.keep := by rw [f, List.take_replicate, Nat.min_eq_left h1]
      rw [f', List.take_left' (by rw [List.length_replicate]), over_kk]
    · have f' : (tokS s).take n = List.replicate n Tok.del := by rw [f, List.take_replicate, Nat.min_eq_left h1]
      rw [f', List.take_left' (by rw [List.length_replicate]), over_dk]
  · have e' : (tokS u).take n = List.replicate n Tok.del := by rw [e, List.take_replicate, Nat.min_eq_left h2]
    rw [if_neg (by omega), tok_nil, List.nil_append]
    rw [es, eu, e', List.append_assoc, List.append_assoc]
    rcases tokS_kind s hs with ⟨k2, _⟩ | ⟨k2, f⟩ | ⟨k2, f⟩
    · exact absurd k2 ks
    · have f' : (tokS s).take n = List.replicate n Tok.keep := by rw [f, List.take_replicate, Nat.min_eq_left h1]
      rw [f', over_kd]
    · have f' : (tokS s).take n = List.replicate n Tok.del := by rw [f, List.take_replicate, Nat.min_eq_left h1]
      rw [f', over_dd]
/-- Whose turn it is. -/
theorem overC (xs ys : List Sp) (hx : ∀ s ∈ xs, OkW s ∧ ¬ emp s) (hy : ∀ s ∈ ys, OkW s ∧ ¬ emp s) (h : tin (tok xs) = tin (tok ys)) :
    (xs = [] ∧ ys = []) ∨ (∃ b1 b2 b3 r, ys = (b1, b2, b3) :: r ∧ b1 = 2) ∨ (∃ a1 a2 a3 r, xs = (a1, a2, a3) :: r ∧ a1 = 2 ∧ ∀ s q, ys = s :: q → s.1 ≠ 2) ∨
      (∃ a1 a2 a3 r b1 b2 b3 q, xs = (a1, a2, a3) :: r ∧ ys = (b1, b2, b3) :: q ∧ a1 ≠ 2 ∧ b1 ≠ 2) := by
  have Z : tin ([] : List Tok) = 0 := rfl
  rcases ys with _ | ⟨⟨b1, b2, b3⟩, q⟩
  · rcases xs with _ | ⟨⟨a1, a2, a3⟩, r⟩
    · exact .inl ⟨rfl, rfl⟩
    · right; right; left
      refine ⟨a1, a2, a3, r, rfl, ?_, fun s q hs => by cases hs⟩
      obtain ⟨h1, h2⟩ := hx _ (List.mem_cons_self ..)
      have h3 := tokS_pos _ h1 h2
      rw [tok_cons, tin_append, (sides _ h1).1, tok_nil] at h
      by_cases hk : a1 = 2
      · exact hk
      · exfalso
        rw [if_neg hk] at h
        omega
  · by_cases hb : b1 = 2
    · right; left; exact ⟨b1, b2, b3, q, rfl, hb⟩
    · rcases xs with _ | ⟨⟨a1, a2, a3⟩, r⟩
      · exfalso
        obtain ⟨h1, h2⟩ := hy _ (List.mem_cons_self ..)
        have h3 := tokS_pos _ h1 h2
        rw [tok_cons, tin_append, (sides _ h1).1, if_neg hb, tok_nil] at h
        omega
      · by_cases ha : a1 = 2
        · right; right; left
          exact ⟨a1, a2, a3, r, rfl, ha, fun s q' hs => by injection hs with e1 e2; subst e1; exact hb⟩
        · right; right; right
          exact ⟨a1, a2, a3, r, b1, b2, b3, q, rfl, rfl, ha, hb⟩
theorem over_step {K1 : Int} {K2 K3 : Nat} {TT : List Tok} {s u : Sp} {xs ys os : List Sp} {n : Nat} (h : RowO K1 K2 K3 (s :: xs) (u :: ys) os) (htt : tok os ++ overT (tok (s :: xs)) (tok (u :: ys)) = TT) (hsid : tin (tok (s :: xs)) = tin (tok (u :: ys))) (ks : s.1 ≠ 2) (ku : u.1 ≠ 2) (hn : n = min (tokS s).length (tokS u).length) :
    RowO K1 K2 K3 (left s n xs) (left u n ys) (os ++ (if u.1 = 1 then [cutA s n] else [])) ∧ tok (os ++ (if u.1 = 1 then [cutA s n] else [])) ++ overT (tok (left s n xs)) (tok (left u n ys)) = TT ∧ tin (tok (left s n xs)) = tin (tok (left u n ys)) := by
  have hs := (h.x s (List.mem_cons_self ..)).1
  have hu := (h.y u (List.mem_cons_self ..)).1
  have hp : (if u.1 = 1 then [cutA s n] else []) = [] ∨ (if u.1 = 1 then [cutA s n] else []) = [cutA s n] ∨ (if u.1 = 1 then [cutA s n] else []) = [(1, 0, ⟨#[]⟩)] := by
    by_cases h1 : u.1 = 1
    · rw [if_pos h1]; exact .inr (.inl rfl)
    · rw [if_neg h1]; exact .inl rfl
  refine ⟨(h.both hn _ hp).1, ?_, ?_⟩
  · rw [over_both xs ys os s u n hs hu ks ku (by omega) (by omega)]; exact htt
  · have d1 := (drop_tok s hs n (by omega)).1
    have d2 := (drop_tok u hu n (by omega)).1
    have s1 := (sides s hs).1
    have s2 := (sides u hu).1
    rw [if_neg ks] at d1 s1
    rw [if_neg ku] at d2 s2
    rw [tok_cons, tok_cons, tin_append, tin_append] at hsid
    rw [left_tok s n xs hs (by omega), left_tok u n ys hu (by omega), tin_append, tin_append]
    omega
/-- Where the first one drops, the program puts an empty span. -/
theorem over_stepE {K1 : Int} {K2 K3 : Nat} {TT : List Tok} {s u : Sp} {xs ys os : List Sp} {n : Nat} (h : RowO K1 K2 K3 (s :: xs) (u :: ys) os) (htt : tok os ++ overT (tok (s :: xs)) (tok (u :: ys)) = TT) (hsid : tin (tok (s :: xs)) = tin (tok (u :: ys))) (ks : s.1 ≠ 2) (ku : u.1 ≠ 2) (hn : n = min (tokS s).length (tokS u).length) (m : Sp)
    (hm : m = if u.1 = 3 then (1, 0, ⟨#[]⟩) else cutA s n) :
    RowO K1 K2 K3 (left s n xs) (left u n ys) (os ++ [m]) ∧ tok (os ++ [m]) ++ overT (tok (left s n xs)) (tok (left u n ys)) = TT ∧ tin (tok (left s n xs)) = tin (tok (left u n ys)) ∧
      (left s n xs).length + (left u n ys).length < (s :: xs).length + (u :: ys).length := by
  have hu := (h.y u (List.mem_cons_self ..)).1
  have hlt := (h.both hn [] (.inl rfl)).2
  obtain ⟨h1, h2, h3⟩ := over_step h htt hsid ks ku hn
  have k13 : u.1 = 1 ∨ u.1 = 3 := by
    rcases hu with ⟨k1, _⟩ | ⟨k1, _⟩ <;> omega
  rcases k13 with k | k
  · rw [if_pos k] at h1 h2
    rw [if_neg (by omega)] at hm
    subst hm
    exact ⟨h1, h2, h3, hlt⟩
  · rw [if_neg (by omega), List.append_nil] at h2
    rw [if_pos k] at hm
    subst hm
    have hT : tokS (1, 0, (⟨#[]⟩ : ByteArray)) = [] := tokS_emp _ ⟨rfl, rfl⟩
    refine ⟨(h.both hn _ (.inr (.inr rfl))).1, ?_, h3, hlt⟩
    rw [tok_append, tok_cons, tok_nil, hT, List.append_nil, List.append_nil]; exact h2
end Go.Proofs.YtplbpddkmhmjiaaDoor
