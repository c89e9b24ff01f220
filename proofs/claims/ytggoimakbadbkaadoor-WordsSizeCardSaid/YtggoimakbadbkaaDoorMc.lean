/- Two operations span by span: a span cut in two, and what the loops of compose, over and under keep: mathematics. -/
import Derived.Test.YtggoimakbadbkaaDoorM7
namespace Go.Proofs.YtggoimakbadbkaaDoor
set_option maxRecDepth 100000
set_option linter.unusedSimpArgs false

theorem isN_ne : ∀ (l : List Sp), isN l → ∀ s ∈ l, ¬ emp s
  | [], _, s, h => (by cases h)
  | [a], h, s, hs => (by rw [List.mem_singleton] at hs; subst hs; exact h)
  | a :: b :: r, h, s, hs => (by
    rcases List.mem_cons.1 hs with rfl | hs
    · exact h.1
    · exact isN_ne (b :: r) h.2.2 s hs)
/-- The beginning of a span, of so many code points, and what is left of it. -/
def cutA (s : Sp) (n : Nat) : Sp := if s.1 = 2 then (2, s.2.1, mkS (encs (((dec (bs s.2.2)).getD []).take n))) else (s.1, (n : Int), s.2.2)
def cutB (s : Sp) (n : Nat) : Sp := if s.1 = 2 then (2, s.2.1, mkS (encs (((dec (bs s.2.2)).getD []).drop n))) else (s.1, s.2.1 - n, s.2.2)
theorem cutA_kind (s : Sp) (n : Nat) : (cutA s n).1 = s.1 := by unfold cutA; split <;> simp [*]
theorem cutB_kind (s : Sp) (n : Nat) : (cutB s n).1 = s.1 := by unfold cutB; split <;> simp [*]
theorem cutA_ok (s : Sp) (n : Nat) (h : OkW s) (hn : n ≤ (tokS s).length) : OkW (cutA s n) ∧ tokS (cutA s n) = (tokS s).take n := by
  rcases h with ⟨k1, n1, us, hu⟩ | ⟨k1, n1, t1⟩
  · obtain ⟨a1, a2, a3⟩ := s
    simp only at k1 n1 hu
    subst k1; subst n1
    have hd : dec (bs (mkS (encs (us.take n)))) = some (us.take n) := by rw [bs_mkS]; exact dec_encs fun c hc => (dec_some hu).1 c (List.mem_of_mem_take hc)
    have e : cutA (2, 0, a3) n = (2, 0, mkS (encs (us.take n))) := by unfold cutA; rw [if_pos rfl]; simp [hu]
    rw [e, tokS_text _ _ hd, tokS_text _ _ hu, List.map_take]
    exact ⟨.inl ⟨rfl, rfl, _, hd⟩, rfl⟩
  · obtain ⟨a1, a2, a3⟩ := s
    simp only at k1 n1 t1
    obtain ⟨N, rfl⟩ := Int.eq_ofNat_of_zero_le n1
    subst t1
    have hk : a1 ≠ 2 := by omega
    have e : cutA (a1, (N : Int), ⟨#[]⟩) n = (a1, (n : Int), ⟨#[]⟩) := by unfold cutA; rw [if_neg hk]
    rw [tokS_num _ _ _ hk, Int.toNat_natCast, List.length_replicate] at hn
    rw [e, tokS_num _ _ _ hk, tokS_num _ _ _ hk, Int.toNat_natCast, Int.toNat_natCast, List.take_replicate, Nat.min_eq_left hn]
    exact ⟨.inr ⟨k1, by simp only; omega, rfl⟩, rfl⟩
theorem cutB_ok (s : Sp) (n : Nat) (h : OkW s) (hn : n ≤ (tokS s).length) : OkW (cutB s n) ∧ tokS (cutB s n) = (tokS s).drop n := by
  rcases h with ⟨k1, n1, us, hu⟩ | ⟨k1, n1, t1⟩
  · obtain ⟨a1, a2, a3⟩ := s
    simp only at k1 n1 hu
    subst k1; subst n1
    have hd : dec (bs (mkS (encs (us.drop n)))) = some (us.drop n) := by rw [bs_mkS]; exact dec_encs fun c hc => (dec_some hu).1 c (List.mem_of_mem_drop hc)
    have e : cutB (2, 0, a3) n = (2, 0, mkS (encs (us.drop n))) := by unfold cutB; rw [if_pos rfl]; simp [hu]
    rw [e, tokS_text _ _ hd, tokS_text _ _ hu, List.map_drop]
    exact ⟨.inl ⟨rfl, rfl, _, hd⟩, rfl⟩
  · obtain ⟨a1, a2, a3⟩ := s
    simp only at k1 n1 t1
    obtain ⟨N, rfl⟩ := Int.eq_ofNat_of_zero_le n1
    subst t1
    have hk : a1 ≠ 2 := by omega
    have e : cutB (a1, (N : Int), ⟨#[]⟩) n = (a1, (N : Int) - n, ⟨#[]⟩) := by unfold cutB; rw [if_neg hk]
    rw [tokS_num _ _ _ hk, Int.toNat_natCast, List.length_replicate] at hn
    have e2 : ((N : Int) - (n : Int)).toNat = N - n := by omega
    rw [e, tokS_num _ _ _ hk, tokS_num _ _ _ hk, Int.toNat_natCast, e2, List.drop_replicate]
    exact ⟨.inr ⟨k1, by simp only; omega, rfl⟩, rfl⟩
/-- The numbers, and the texts, of both together. -/
theorem cut_sum (s : Sp) (n : Nat) (h : OkW s) (hn : n ≤ (tokS s).length) : (cutA s n).2.1 + (cutB s n).2.1 = s.2.1 ∧ (cutA s n).2.2.size + (cutB s n).2.2.size = s.2.2.size := by
  rcases h with ⟨k1, n1, us, hu⟩ | ⟨k1, n1, t1⟩
  · obtain ⟨a1, a2, a3⟩ := s
    simp only at k1 n1 hu
    subst k1; subst n1
    unfold cutA cutB
    rw [if_pos rfl, if_pos rfl]
    refine ⟨rfl, ?_⟩
    simp only [hu, Option.getD_some, size_mkS]
    rw [← List.length_append, ← encs_append, List.take_append_drop, ← (dec_some hu).2, bs_length]
  · obtain ⟨a1, a2, a3⟩ := s
    simp only at k1 n1 t1
    subst t1
    have hk : a1 ≠ 2 := by omega
    unfold cutA cutB
    rw [if_neg hk, if_neg hk]
    exact ⟨by simp only; omega, rfl⟩
theorem tokS_pos (s : Sp) (h : OkW s) (hn : ¬ emp s) : 0 < (tokS s).length := by
  rcases h with ⟨k1, n1, us, hu⟩ | ⟨k1, n1, t1⟩
  · obtain ⟨a1, a2, a3⟩ := s
    simp only at k1 n1 hu
    subst k1; subst n1
    rw [tokS_text _ _ hu, List.length_map]
    rcases us with _ | ⟨u, us⟩
    · exfalso; apply hn
      refine ⟨rfl, ?_⟩
      have := (dec_some hu).2
      rw [← bs_length]; simp only; rw [this]; rfl
    · simp
  · obtain ⟨a1, a2, a3⟩ := s
    simp only at k1 n1 t1
    obtain ⟨N, rfl⟩ := Int.eq_ofNat_of_zero_le n1
    subst t1
    have hk : a1 ≠ 2 := by omega
    rw [tokS_num _ _ _ hk, Int.toNat_natCast, List.length_replicate]
    rcases Nat.eq_zero_or_pos N with h0 | h0
    · exfalso; apply hn; subst h0; exact ⟨rfl, rfl⟩
    · exact h0
theorem tokS_ne (s : Sp) (h : 0 < (tokS s).length) : ¬ emp s := fun he => by rw [tokS_emp s he] at h; exact Nat.lt_irrefl 0 h
/-- Both reads of a span: all of one kind. -/
theorem tokS_kind (s : Sp) (h : OkW s) : (s.1 = 2 ∧ ∃ us, dec (bs s.2.2) = some us ∧ tokS s = us.map Tok.ins) ∨ (s.1 = 1 ∧ tokS s = List.replicate (tokS s).length Tok.keep) ∨ (s.1 = 3 ∧ tokS s = List.replicate (tokS s).length Tok.del) := by
  rcases h with ⟨k1, n1, us, hu⟩ | ⟨k1, n1, t1⟩
  · obtain ⟨a1, a2, a3⟩ := s
    simp only at k1 n1 hu
    subst k1
    exact .inl ⟨rfl, us, hu, tokS_text _ _ hu⟩
  · obtain ⟨a1, a2, a3⟩ := s
    simp only at k1 n1 t1
    have hk : a1 ≠ 2 := by omega
    right
    rcases k1 with rfl | rfl
    · left; refine ⟨rfl, ?_⟩; rw [tokS_num _ _ _ hk, if_neg (by decide), List.length_replicate]
    · right; refine ⟨rfl, ?_⟩; rw [tokS_num _ _ _ hk, if_pos rfl, List.length_replicate]
/-- Many tokens at once. -/
theorem comp_inss (us : List Nat) (a b : List Tok) : compT a (us.map Tok.ins ++ b) = us.map Tok.ins ++ compT a b := by
  induction us with
  | nil => rfl
  | cons u us ih => rw [List.map_cons, List.cons_append, compT_ins, ih]; rfl
def noIns : List Tok → Prop
  | .ins _ :: _ => False
  | _ => True
theorem comp_dels (n : Nat) (a b : List Tok) (h : noIns b) : compT (List.replicate n Tok.del ++ a) b = List.replicate n Tok.del ++ compT a b := by
  induction n with
  | zero => rfl
  | succ n ih =>
    rw [List.replicate_succ, List.cons_append, List.cons_append, ← ih]
    rcases b with _ | ⟨_ | _ | _, b⟩
    · rw [compT]
    · exact absurd h (by simp [noIns])
    · rw [compT]
    · rw [compT]
theorem comp_kk (n : Nat) (a b : List Tok) : compT (List.replicate n Tok.keep ++ a) (List.replicate n Tok.keep ++ b) = List.replicate n Tok.keep ++ compT a b := by
  induction n with
  | zero => rfl
  | succ n ih => rw [List.replicate_succ, List.cons_append, List.cons_append, List.cons_append, ← ih, compT]
theorem comp_kd (n : Nat) (a b : List Tok) : compT (List.replicate n Tok.keep ++ a) (List.replicate n Tok.del ++ b) = List.replicate n Tok.del ++ compT a b := by
  induction n with
  | zero => rfl
  | succ n ih => rw [List.replicate_succ, List.replicate_succ, List.cons_append, List.cons_append, List.cons_append, ← ih, compT]
theorem comp_ik (us : List Nat) (a b : List Tok) : compT (us.map Tok.ins ++ a) (List.replicate us.length Tok.keep ++ b) = us.map Tok.ins ++ compT a b := by
  induction us with
  | nil => rfl
  | cons u us ih => rw [List.length_cons, List.replicate_succ, List.map_cons, List.cons_append, List.cons_append, List.cons_append, ← ih, compT]
theorem comp_id (us : List Nat) (a b : List Tok) : compT (us.map Tok.ins ++ a) (List.replicate us.length Tok.del ++ b) = compT a b := by
  induction us with
  | nil => rfl
  | cons u us ih => rw [List.length_cons, List.replicate_succ, List.map_cons, List.cons_append, List.cons_append, compT, ih]
/-- What the loops keep: rows x, y that are left, and o that is made. -/
structure Row3 (K1 : Int) (K2 K3 : Nat) (xs ys os : List Sp) : Prop where
  x : ∀ s ∈ xs, OkW s ∧ ¬ emp s
  y : ∀ s ∈ ys, OkW s ∧ ¬ emp s
  o : ∀ s ∈ os, OkW s
  n : sumN os + sumN xs + sumN ys ≤ K1
  t : sumT os + sumT xs + sumT ys ≤ K2
  l : os.length + xs.length + ys.length ≤ K3
theorem sumN_cons (s : Sp) (l : List Sp) : sumN (s :: l) = s.2.1 + sumN l := rfl
theorem sumT_cons (s : Sp) (l : List Sp) : sumT (s :: l) = s.2.2.size + sumT l := rfl
theorem sumN_one (s : Sp) : sumN [s] = s.2.1 := by simp [sumN]
theorem sumT_sing (s : Sp) : sumT [s] = s.2.2.size := by simp [sumT]
theorem Row3.pops {K1 : Int} {K2 K3 : Nat} {xs ys os : List Sp} (h : Row3 K1 K2 K3 xs ys os) : 0 ≤ sumN xs ∧ 0 ≤ sumN ys ∧ 0 ≤ sumN os :=
  ⟨sumN_pos _ fun s hs => (h.x s hs).1.nonneg, sumN_pos _ fun s hs => (h.y s hs).1.nonneg, sumN_pos _ fun s hs => (h.o s hs).nonneg⟩
/-- The first span of y goes over as it is. -/
theorem Row3.putY {K1 : Int} {K2 K3 : Nat} {s : Sp} {xs ys os : List Sp} (h : Row3 K1 K2 K3 xs (s :: ys) os) : Row3 K1 K2 K3 xs ys (os ++ [s]) := by
  refine ⟨h.x, fun u hu => h.y u (List.mem_cons_of_mem _ hu), fun u hu => ?_, ?_, ?_, ?_⟩
  · rcases List.mem_append.1 hu with hu | hu
    · exact h.o u hu
    · rw [List.mem_singleton] at hu; subst hu; exact (h.y _ (List.mem_cons_self ..)).1
  · have := h.n; rw [sumN_append, sumN_one]; rw [sumN_cons] at this; omega
  · have := h.t; rw [sumT_append, sumT_sing]; rw [sumT_cons] at this; omega
  · have := h.l; simp only [List.length_append, List.length_cons, List.length_nil] at *; omega
theorem Row3.putX {K1 : Int} {K2 K3 : Nat} {s : Sp} {xs ys os : List Sp} (h : Row3 K1 K2 K3 (s :: xs) ys os) : Row3 K1 K2 K3 xs ys (os ++ [s]) := by
  refine ⟨fun u hu => h.x u (List.mem_cons_of_mem _ hu), h.y, fun u hu => ?_, ?_, ?_, ?_⟩
  · rcases List.mem_append.1 hu with hu | hu
    · exact h.o u hu
    · rw [List.mem_singleton] at hu; subst hu; exact (h.x _ (List.mem_cons_self ..)).1
  · have := h.n; rw [sumN_append, sumN_one]; rw [sumN_cons] at this; omega
  · have := h.t; rw [sumT_append, sumT_sing]; rw [sumT_cons] at this; omega
  · have := h.l; simp only [List.length_append, List.length_cons, List.length_nil] at *; omega
/-- What is left of a span stands ahead of the rest, if there is something left. -/
def left (s : Sp) (n : Nat) (l : List Sp) : List Sp := if (tokS s).length = n then l else cutB s n :: l
theorem left_tok (s : Sp) (n : Nat) (l : List Sp) (h : OkW s) (hn : n ≤ (tokS s).length) : tok (left s n l) = (tokS s).drop n ++ tok l := by
  unfold left
  split
  · rename_i e
    rw [List.drop_of_length_le (by omega), List.nil_append]
  · rw [tok_cons, (cutB_ok s n h hn).2]
theorem left_ok (s : Sp) (n : Nat) (l : List Sp) (h : OkW s) (hn : n ≤ (tokS s).length) (hl : ∀ u ∈ l, OkW u ∧ ¬ emp u) : ∀ u ∈ left s n l, OkW u ∧ ¬ emp u := by
  unfold left
  split
  · exact hl
  · rename_i e
    intro u hu
    rcases List.mem_cons.1 hu with rfl | hu
    · obtain ⟨g1, g2⟩ := cutB_ok s n h hn
      refine ⟨g1, tokS_ne _ ?_⟩
      rw [g2, List.length_drop]; omega
    · exact hl u hu
theorem left_sum (s : Sp) (n : Nat) (l : List Sp) (h : OkW s) (hn : n ≤ (tokS s).length) : (cutA s n).2.1 + sumN (left s n l) ≤ sumN (s :: l) ∧ (cutA s n).2.2.size + sumT (left s n l) ≤ sumT (s :: l) ∧ (left s n l).length ≤ l.length + 1 ∧ ((tokS s).length = n → (left s n l).length = l.length) := by
  obtain ⟨g1, g2⟩ := cut_sum s n h hn
  have g3 := (cutB_ok s n h hn).1.nonneg
  unfold left
  rw [sumN_cons, sumT_cons]
  split
  · exact ⟨by omega, by omega, by omega, fun _ => rfl⟩
  · rename_i e
    rw [sumN_cons, sumT_cons]
    exact ⟨by omega, by omega, by simp, fun e2 => absurd e2 e⟩
/-- Both begin with as many code points: out goes a part of one, or nothing. -/
theorem Row3.both {K1 : Int} {K2 K3 : Nat} {s u : Sp} {xs ys os : List Sp} {n : Nat} (h : Row3 K1 K2 K3 (s :: xs) (u :: ys) os) (hn : n = min (tokS s).length (tokS u).length) (ps : List Sp) (hp : ps = [] ∨ ps = [cutA s n] ∨ ps = [cutA u n]) : Row3 K1 K2 K3 (left s n xs) (left u n ys) (os ++ ps) ∧ (left s n xs).length + (left u n ys).length < (s :: xs).length + (u :: ys).length := by
  have hs := (h.x s (List.mem_cons_self ..)).1
  have hu := (h.y u (List.mem_cons_self ..)).1
  obtain ⟨a1, a2, a3, a4⟩ := left_sum s n xs hs (by omega)
  obtain ⟨b1, b2, b3, b4⟩ := left_sum u n ys hu (by omega)
  have ca := (cutA_ok s n hs (by omega)).1
  have cb := (cutA_ok u n hu (by omega)).1
  have ca0 := ca.nonneg
  have cb0 := cb.nonneg
  have hn' := h.n; have ht' := h.t; have hl' := h.l
  have hlt : (left s n xs).length + (left u n ys).length < (s :: xs).length + (u :: ys).length := by
    simp only [List.length_cons]
    rcases (by omega : (tokS s).length = n ∨ (tokS u).length = n) with e | e
    · have := a4 e; omega
    · have := b4 e; omega
  refine ⟨⟨left_ok s n xs hs (by omega) fun v hv => h.x v (List.mem_cons_of_mem _ hv), left_ok u n ys hu (by omega) fun v hv => h.y v (List.mem_cons_of_mem _ hv), fun v hv => ?_, ?_, ?_, ?_⟩, hlt⟩
  · rcases List.mem_append.1 hv with hv | hv
    · exact h.o v hv
    · rcases hp with rfl | rfl | rfl
      · cases hv
      · rw [List.mem_singleton] at hv; subst hv; exact ca
      · rw [List.mem_singleton] at hv; subst hv; exact cb
  · rw [sumN_append]
    rcases hp with rfl | rfl | rfl
    · have e : sumN ([] : List Sp) = 0 := rfl
      omega
    · rw [sumN_one]; omega
    · rw [sumN_one]; omega
  · rw [sumT_append]
    rcases hp with rfl | rfl | rfl
    · have e : sumT ([] : List Sp) = 0 := rfl
      omega
    · rw [sumT_sing]; omega
    · rw [sumT_sing]; omega
  · rw [List.length_append]
    have : ps.length ≤ 1 := by rcases hp with rfl | rfl | rfl <;> simp
    omega
theorem tokS_split (s : Sp) (n : Nat) : tokS s = (tokS s).take n ++ (tokS s).drop n := (List.take_append_drop _ _).symm
/-- Compose, step by step. -/
theorem comp_putY (xs ys os : List Sp) (s : Sp) (h : OkW s) (hk : s.1 = 2) : tok (os ++ [s]) ++ compT (tok xs) (tok ys) = tok os ++ compT (tok xs) (tok (s :: ys)) := by
  rcases tokS_kind s h with ⟨_, us, _, e⟩ | ⟨k, _⟩ | ⟨k, _⟩
  · rw [tok_append, tok_cons, tok_nil, tok_cons, List.append_nil, e, comp_inss, List.append_assoc]
  · omega
  · omega
theorem noIns_tok (ys : List Sp) (h : ∀ s ∈ ys, OkW s ∧ ¬ emp s) (hk : ∀ s r, ys = s :: r → s.1 ≠ 2) : noIns (tok ys) := by
  cases ys with
  | nil => exact trivial
  | cons s r =>
    obtain ⟨h1, h2⟩ := h s (List.mem_cons_self ..)
    have h3 := tokS_pos s h1 h2
    have hk := hk s r rfl
    rw [tok_cons]
    rcases tokS_kind s h1 with ⟨k, _⟩ | ⟨_, e⟩ | ⟨_, e⟩
    · exact absurd k hk
    all_goals
      rw [e]
      obtain ⟨m, hm⟩ : ∃ m, (tokS s).length = m + 1 := ⟨(tokS s).length - 1, by omega⟩
      rw [hm, List.replicate_succ]
      exact trivial
theorem comp_dropX (xs ys os : List Sp) (s : Sp) (h : OkW s) (hk : s.1 = 3) (hy : noIns (tok ys)) : tok (os ++ [s]) ++ compT (tok xs) (tok ys) = tok os ++ compT (tok (s :: xs)) (tok ys) := by
  rcases tokS_kind s h with ⟨k, _⟩ | ⟨k, _⟩ | ⟨_, e⟩
  · omega
  · omega
  · rw [tok_append, tok_cons, tok_nil, tok_cons, List.append_nil, e, comp_dels _ _ _ hy, List.append_assoc]
theorem comp_both (xs ys os : List Sp) (s u : Sp) (n : Nat) (hs : OkW s) (hu : OkW u) (ks : s.1 ≠ 3) (ku : u.1 ≠ 2) (h1 : n ≤ (tokS s).length) (h2 : n ≤ (tokS u).length) :
    tok (os ++ (if u.1 = 1 then [cutA s n] else if s.1 = 1 then [cutA u n] else [])) ++ compT (tok (left s n xs)) (tok (left u n ys)) = tok os ++ compT (tok (s :: xs)) (tok (u :: ys)) := by
  rw [tok_append, left_tok s n xs hs h1, left_tok u n ys hu h2, tok_cons, tok_cons, List.append_assoc]
  congr 1
  have ca := (cutA_ok s n hs h1).2
  have cb := (cutA_ok u n hu h2).2
  have es := tokS_split s n
  have eu := tokS_split u n
  generalize hS : (tokS s).drop n = S1 at *
  generalize hU : (tokS u).drop n = U1 at *
  have lu : ((tokS u).take n).length = n := by rw [List.length_take]; omega
  have ls : ((tokS s).take n).length = n := by rw [List.length_take]; omega
  rcases tokS_kind u hu with ⟨k, _⟩ | ⟨k, e⟩ | ⟨k, e⟩
  · exact absurd k ku
  · have e' : (tokS u).take n = List.replicate n Tok.keep := by rw [e, List.take_replicate, Nat.min_eq_left h2]
    rw [if_pos k, tok_cons, tok_nil, List.append_nil, ca]
    rw [es, eu, e', List.append_assoc, List.append_assoc]
    rcases tokS_kind s hs with ⟨k2, us, _, f⟩ | ⟨k2, f⟩ | ⟨k2, f⟩
    · have f' : (tokS s).take n = (us.take n).map Tok.ins := by rw [f, List.map_take]
      have fl : (us.take n).length = n := by have := ls; rw [f', List.length_map] at this; exact this
      rw [f']
      have g := comp_ik (us.take n) (S1 ++ tok xs) (U1 ++ tok ys)
      rw [fl] at g
      rw [List.take_left' (by rw [List.length_map]; exact fl)]
      exact g.symm
    · have f' : (tokS s).take n = List.replicate n Tok.keep := by rw [f, List.take_replicate, Nat.min_eq_left h1]
      rw [f', List.take_left' (by rw [List.length_replicate]), comp_kk]
    · exact absurd k2 ks
  · have e' : (tokS u).take n = List.replicate n Tok.del := by rw [e, List.take_replicate, Nat.min_eq_left h2]
    rw [if_neg (by omega)]
    rcases tokS_kind s hs with ⟨k2, us, _, f⟩ | ⟨k2, f⟩ | ⟨k2, f⟩
    · have f' : (tokS s).take n = (us.take n).map Tok.ins := by rw [f, List.map_take]
      have fl : (us.take n).length = n := by have := ls; rw [f', List.length_map] at this; exact this
      rw [if_neg (by omega), tok_nil, List.nil_append]
      rw [es, eu, e', f', List.append_assoc, List.append_assoc]
      have g := comp_id (us.take n) (S1 ++ tok xs) (U1 ++ tok ys)
      rw [fl] at g
      exact g.symm
    · have f' : (tokS s).take n = List.replicate n Tok.keep := by rw [f, List.take_replicate, Nat.min_eq_left h1]
      rw [if_pos k2, tok_cons, tok_nil, List.append_nil, cb]
      rw [es, eu, e', f', List.append_assoc, List.append_assoc, List.take_left' (by rw [List.length_replicate]), comp_kd]
    · exact absurd k2 ks
/-- Whose turn it is. -/
theorem tout_rep (n : Nat) (t : Tok) : tout (List.replicate n t) = if t = .del then 0 else n := by
  induction n with
  | zero => simp [tout]
  | succ n ih =>
    rw [List.replicate_succ]
    cases t with
    | ins c => rw [tout_cins, ih]; simp
    | keep => rw [tout_keep, ih]; simp
    | del => rw [tout_del, ih]; simp
theorem tout_inss (us : List Nat) : tout (us.map Tok.ins) = us.length := by
  induction us with
  | nil => rfl
  | cons u us ih => rw [List.map_cons, tout_cins, ih, List.length_cons]
theorem sides (s : Sp) (h : OkW s) : (tin (tokS s) = if s.1 = 2 then 0 else (tokS s).length) ∧ (tout (tokS s) = if s.1 = 3 then 0 else (tokS s).length) := by
  rcases tokS_kind s h with ⟨k, us, _, e⟩ | ⟨k, e⟩ | ⟨k, e⟩
  · rw [e, tin_map_ins, tout_inss, if_pos k, if_neg (by omega), List.length_map]; exact ⟨rfl, rfl⟩
  · rw [e, tin_rep _ (.inl rfl), tout_rep, List.length_replicate]; exact ⟨by rw [if_neg (show ¬ s.1 = 2 by omega)], by rw [if_neg (by decide), if_neg (show ¬ s.1 = 3 by omega)]⟩
  · rw [e, tin_rep _ (.inr rfl), tout_rep, List.length_replicate]; exact ⟨by rw [if_neg (show ¬ s.1 = 2 by omega)], by rw [if_pos rfl, if_pos k]⟩
theorem drop_tok (s : Sp) (h : OkW s) (n : Nat) (hn : n ≤ (tokS s).length) : tin ((tokS s).drop n) = tin (tokS s) - (if s.1 = 2 then 0 else n) ∧ tout ((tokS s).drop n) = tout (tokS s) - (if s.1 = 3 then 0 else n) := by
  have h1 := sides s h
  have h2 := sides (cutB s n) (cutB_ok s n h hn).1
  rw [(cutB_ok s n h hn).2, cutB_kind, List.length_drop] at h2
  rw [h1.1, h1.2, h2.1, h2.2]
  constructor <;> split <;> omega
end Go.Proofs.YtggoimakbadbkaaDoor
