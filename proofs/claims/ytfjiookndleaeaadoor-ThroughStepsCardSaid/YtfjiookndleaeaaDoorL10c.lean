/- Layer 10, FuseFirst. -/
import Derived.Test.YtfjiookndleaeaaDoorL10a
import Derived.Test.YtfjiookndleaeaaDoorL7a
namespace Go.Proofs.YtfjiookndleaeaaDoor
open Go.RowKit
set_option maxRecDepth 100000
set_option maxHeartbeats 4000000
theorem toE10 {X : List Sp} (hok : ∀ s ∈ X, OkW s) (cs : List Nat) (hcp : ∀ c ∈ cs, IsCp c) (hl : (cs.length : Int) = inL X) (hb : inL X ≤ 1048576) : toE X (mkS (encs cs)) = 0 ∧ toS X (mkS (encs cs)) = mkS (encs (apT (tok X) cs)) := by
  have hd : dec (bs (mkS (encs cs))) = some cs := by rw [bs_mkS]; exact dec_encs hcp
  have hE : toE X (mkS (encs cs)) = 0 := by unfold toE; rw [if_pos (okW_mayL X hok hb).1, hd]; exact if_pos hl
  refine ⟨hE, ?_⟩
  unfold toS
  rw [hE, if_pos rfl, hd]
  rfl
/-- All, one behind the other, or the one that they come to. -/
theorem all_fR {ls : List (List Sp)} {n m : Int} (h : Thru n ls m) (cs : List Nat) (hcp : ∀ c ∈ cs, IsCp c) (hl : (cs.length : Int) = n) : allL (mkS (encs cs)) ls = (mkS (encs (apT (fR n ls) cs)), 0) ∧ ((apT (fR n ls) cs).length : Int) = m ∧ ∀ c ∈ apT (fR n ls) cs, IsCp c := by
  induction ls generalizing n cs with
  | nil =>
    obtain ⟨rfl, h0⟩ := h
    have e : apT (fR n []) cs = cs := by
      show apT (List.replicate n.toNat Tok.keep) cs = cs
      rw [apT_keep, List.take_of_length_le (by omega)]
    rw [e]
    exact ⟨rfl, hl, hcp⟩
  | cons l r ih =>
    obtain ⟨h1, h2, h3, h4, h5⟩ := h
    obtain ⟨t1, t2⟩ := toE10 h1 cs hcp (by omega) (by omega)
    have tl := tin_ok l h1
    have hap := apT_length (tok l) cs (by omega)
    have hcp2 := apT_cp (tok l) cs (tok_okT l h1) hcp
    obtain ⟨g1, g2, g3⟩ := ih h5 (apT (tok l) cs) hcp2 (by omega)
    have t3 := fR_len h5
    have e : apT (fR n (l :: r)) cs = apT (fR (outL l) r) (apT (tok l) cs) := by
      show apT (compT (tok l) (fR (outL l) r)) cs = _
      exact apT_comp _ _ _ _ (Nat.le_refl _) (by omega) (by omega)
    rw [e]
    refine ⟨?_, g2, g3⟩
    rw [allL, if_pos t1, t2]
    exact g1
def insS (ls : List (List Sp)) : Nat := (ls.map fun l => (insT (tok l)).length).sum
theorem sum_take (f : List Sp → Nat) (ls : List (List Sp)) (j : Nat) (h : j < ls.length) : ((ls.take (j + 1)).map f).sum = ((ls.take j).map f).sum + f ls[j] := by
  rw [take_snoc h, List.map_append, List.sum_append]
  simp
theorem sum_le (f : List Sp → Nat) (ls : List (List Sp)) (k : Nat) (h : ∀ l ∈ ls, f l ≤ k) (j : Nat) : ((ls.take j).map f).sum ≤ j * k := by
  induction ls generalizing j with
  | nil => simp
  | cons l r ih =>
    cases j with
    | zero => simp
    | succ j =>
      have h1 := h l (List.mem_cons_self ..)
      have h2 := ih (fun x hx => h x (List.mem_cons_of_mem _ hx)) j
      rw [List.take_succ_cons, List.map_cons, List.sum_cons, Nat.add_mul]
      omega
theorem good_of {l : List Sp} (ho : ∀ s ∈ l, OkW s) (hl : l.length ≤ 300) (ht : sumT l ≤ 100000) (hi : inL l ≤ 100000) : Good l := ⟨ho, hl, ht, hi⟩
/-- Each of a chain that was made. -/
theorem chain_each (ls : List (List Sp)) (M : Int) (h0 : 0 ≤ M) (h1 : M + 312 * ls.length ≤ 50000) : ∀ l ∈ chainL ls M, Good l ∧ l.length ≤ 13 ∧ sumT l ≤ 312 := by
  induction ls generalizing M with
  | nil => exact fun l hl => by cases hl
  | cons x r ih =>
    rw [List.length_cons] at h1
    obtain ⟨g, g1, g2, g3, g4, g5⟩ := good_fit x M h0 (by omega)
    intro l hl
    rcases List.mem_cons.1 hl with rfl | hl
    · exact ⟨g, g4, g5⟩
    · exact ih _ g2 (by omega) l hl
end Go.Proofs.YtfjiookndleaeaaDoor
namespace Go.Proofs.YtfjiookndleaeaaDoor
open Go.RowKit
set_option maxRecDepth 100000
set_option maxHeartbeats 4000000
theorem RdSS.zero {w w' : World} {A : Option Addr} {n c : Nat} {ls : List (List Sp)} (_h : RdSS w A n c ls) (B : Option Addr) (d : Nat) : RdSS w' B 0 d [] :=
  ⟨rfl, [], ⟨rfl, B, d, rfl, Nat.zero_le _, fun h => absurd h (Nat.lt_irrefl 0)⟩, fun i l hl => by cases hl⟩
theorem RdSS.behind {w : World} {b o n c : Nat} {ls : List (List Sp)} (h : RdSS w (some ⟨b, o, none⟩) n c ls) {k : Nat} (hk : k ≤ n) (hc : n ≤ c) : RdSS w (if c = k then some ⟨b, o, none⟩ else some ⟨b, o + k, none⟩) (n - k) (c - k) (ls.drop k) := by
  have hl := h.1
  by_cases hkn : k = n
  · subst hkn
    rw [Nat.sub_self, List.drop_of_length_le (by omega)]
    exact h.zero _ _
  · rw [if_neg (by omega)]
    exact h.drop (by omega)
/-- What a function answers that makes a row of operations of its own. -/
def TellsC (w : World) (N : Nat) (L : List (List Sp)) (e : Ending) (w' : World) : Prop := Ext w w' ∧ ∃ A c, e = .returned (.slice A N c) ∧ RdSS w' A N c L ∧ ((A = none ∧ N = 0 ∧ c = 0) ∨ ∃ g, A = some ⟨g, 0, none⟩ ∧ N ≤ c)
theorem chainRC {A : Option Addr} {q c : Nat} {ls : List (List Sp)} {M : Int} {N : Nat} {w' : World} (h : RdSS w' A q c ls) (hs : ∀ l ∈ ls, ∀ s ∈ l, s.2.2.size ≤ maxLen) (h0 : 0 ≤ M) (h1 : M ≤ 1000) (hN : (chainL (ls.take 20) M).length = N) :
    Calls Tryd.prog 10 #[.slice A q c, .int .i64 M] w' (TellsC w' N (chainL (ls.take 20) M)) := by
  subst hN
  refine (chainR4_c A q c ls M w' h hs h0 h1).mono ?_
  rintro e w'' ⟨v, rfl, hx, ho⟩
  have ho2 := ho
  obtain ⟨vs, h1, _⟩ := ho2
  obtain ⟨A', c', rfl, hc, hr⟩ := ho.rd
  refine ⟨hx, A', c', rfl, hr, ?_⟩
  rcases h1.1.2 with ⟨hv, he⟩ | ⟨g, cap, cur, hv, _, _, hnc, _⟩
  · injection hv with e1 e2 e3
    exact .inl ⟨e1, e2, e3⟩
  · injection hv with e1 e2 e3
    exact .inr ⟨g, e1, hc⟩
/-- A chain cut at a place, each part made one. -/
theorem parts10 {CW : List (List Sp)} {M k : Int} (h260 : lenS CW ≤ 260) (ht : sumTT CW ≤ 6240) (hn : CW.length ≤ 20) (h : Thru M CW k) (h1 : M ≤ 1000) (K : Nat) :
    ∃ k1, Thru M (CW.take K) k1 ∧ Thru k1 (CW.drop K) k ∧ 0 ≤ k1 ∧ k1 ≤ 100000 ∧ Small (CW.take K) ∧ Small (CW.drop K) ∧ Good (spT (fR M (CW.take K))) ∧ outL (spT (fR M (CW.take K))) = k1 ∧
    Thru M [spT (fR M (CW.take K)), spT (fR k1 (CW.drop K))] k ∧ Small [spT (fR M (CW.take K)), spT (fR k1 (CW.drop K))] ∧ fR M [spT (fR M (CW.take K)), spT (fR k1 (CW.drop K))] = fR M CW := by
  obtain ⟨k1, t1, t2⟩ := thru_take h K
  have e1 := lenS_take CW K
  obtain ⟨a1, a2, a3, a4, a5, a6, a7⟩ := fR_small t1 (by omega)
  have hb := outL_le _ a1
  have l1 : (CW.take K).length ≤ 20 := by rw [List.length_take]; omega
  have l2 : (CW.drop K).length ≤ 20 := by rw [List.length_drop]; omega
  have hk1 : 0 ≤ k1 ∧ k1 ≤ 100000 := by omega
  obtain ⟨b1, b2, b3, b4, b5, b6, b7⟩ := fR_small t2 (by omega)
  have hlen : lenS [spT (fR M (CW.take K)), spT (fR k1 (CW.drop K))] = (spT (fR M (CW.take K))).length + ((spT (fR k1 (CW.drop K))).length + 0) := by rw [lenS_cons, lenS_cons]; rfl
  have htxt : sumTT [spT (fR M (CW.take K)), spT (fR k1 (CW.drop K))] = sumT (spT (fR M (CW.take K))) + (sumT (spT (fR k1 (CW.drop K))) + 0) := by rw [sumTT_cons, sumTT_cons]; rfl
  have hpos : 0 ≤ k := by
    have t := fR_len t2; omega
  refine ⟨k1, t1, t2, hk1.1, hk1.2, ⟨by omega, by omega, by omega⟩, ⟨by omega, by omega, by omega⟩, ⟨a1, by omega, by omega, by omega⟩, a5, ⟨a1, a4, h.pos, by omega, ?_⟩, ⟨by omega, by omega, by simp⟩, ?_⟩
  · rw [a5]
    exact ⟨b1, b4, hk1.1, by omega, by omega, by omega⟩
  · show compT (tok (spT (fR M (CW.take K)))) (fR (outL (spT (fR M (CW.take K)))) [spT (fR k1 (CW.drop K))]) = _
    have e : fR (outL (spT (fR M (CW.take K)))) [spT (fR k1 (CW.drop K))] = fR k1 (CW.drop K) := by
      rw [a5]
      have g := fR_one b1
      rw [b4, b2] at g
      exact g
    rw [e, a2, ← fR_append t1 t2, List.take_append_drop]
end Go.Proofs.YtfjiookndleaeaaDoor
namespace Go.Proofs.YtfjiookndleaeaaDoor
open Go.RowKit
set_option maxRecDepth 100000
set_option maxHeartbeats 4000000
set_option linter.unusedSimpArgs false
/-- Values that stand for rows of spans. -/
def El (w : World) (vs : List Value) (ls : List (List Sp)) : Prop := vs.length = ls.length ∧ ∀ (i : Nat) (l : List Sp), ls[i]? = some l → ∃ a k, vs[i]? = some (.slice a l.length k) ∧ Rd w 3 (.slice a l.length k) l.length (spCells l)
theorem El.ext {w w' : World} {vs : List Value} {ls : List (List Sp)} (h : El w vs ls) (x : Ext w w') : El w' vs ls := ⟨h.1, fun i l hl => by
  obtain ⟨a, k, g1, g2⟩ := h.2 i l hl
  exact ⟨a, k, g1, g2.ext x⟩⟩
theorem El.app {w : World} {vs us : List Value} {ls ms : List (List Sp)} (h : El w vs ls) (h' : El w us ms) : El w (vs ++ us) (ls ++ ms) := by
  refine ⟨by rw [List.length_append, List.length_append, h.1, h'.1], fun i l hl => ?_⟩
  rw [List.getElem?_append] at hl
  split at hl
  · obtain ⟨a, k, g1, g2⟩ := h.2 i l hl
    exact ⟨a, k, by rw [List.getElem?_append_left (by rw [h.1]; omega)]; exact g1, g2⟩
  · obtain ⟨a, k, g1, g2⟩ := h'.2 _ l hl
    exact ⟨a, k, by rw [List.getElem?_append_right (by rw [h.1]; omega), h.1]; exact g1, g2⟩
theorem El.one {w : World} {a : Option Addr} {n k : Nat} {X : List Sp} (h : RdO w a n k X) : El w [.slice a n k] [X] := by
  obtain ⟨rfl, h⟩ := h
  refine ⟨rfl, fun i l hl => ?_⟩
  match i, hl with
  | 0, hl => injection hl with hl; subst hl; exact ⟨a, k, rfl, h⟩
  | i + 1, hl => simp at hl
theorem El.take {w : World} {vs : List Value} {ls : List (List Sp)} (h : El w vs ls) (j : Nat) : El w (vs.take j) (ls.take j) := by
  refine ⟨by rw [List.length_take, List.length_take, h.1], fun i l hl => ?_⟩
  rw [List.getElem?_take] at hl
  split at hl
  · rename_i hij
    obtain ⟨a, k, g1, g2⟩ := h.2 i l hl
    exact ⟨a, k, by rw [List.getElem?_take, if_pos hij]; exact g1, g2⟩
  · cases hl
theorem El.drop {w : World} {vs : List Value} {ls : List (List Sp)} (h : El w vs ls) (j : Nat) : El w (vs.drop j) (ls.drop j) := by
  refine ⟨by rw [List.length_drop, List.length_drop, h.1], fun i l hl => ?_⟩
  rw [List.getElem?_drop] at hl
  obtain ⟨a, k, g1, g2⟩ := h.2 _ l hl
  exact ⟨a, k, by rw [List.getElem?_drop]; exact g1, g2⟩
theorem El.rd {w : World} {A : Option Addr} {n c : Nat} {vs : List Value} {ls : List (List Sp)} (h : El w vs ls) (hr : Rd w 1 (.slice A n c) n vs) : RdSS w A n c ls :=
  ⟨by have := hr.1; have := h.1; omega, vs, hr, h.2⟩
theorem El.cells {w : World} {vs : List Value} {ls : List (List Sp)} (h : El w vs ls) : ∀ u ∈ vs, u.oneCell' = true := rdSS_one (n := ls.length) (by rw [h.1, Nat.mul_one]) rfl h.2
theorem El.of1 {w : World} {B : Nat} {e : TypeId} {A : Option Addr} {a b : Int} {c : ByteArray} (h : Own w B e 3 (.slice A 1 1) 1 [.int .i64 a, .int .i64 b, .string c]) : El w [.slice A 1 1] [[(a, b, c)]] := El.one (X := [(a, b, c)]) ⟨rfl, h.rd⟩
/-- A row of one span, made and appended. -/
def AddP (W w0 : World) (B n : Nat) (xs : List Value) (a b : Int) (c : ByteArray) (v' : Value) (w' : World) : Prop :=
  Own w' B 22 1 v' (n + 1) (xs ++ [.slice (some ⟨W.heap.size, 0, none⟩) 1 1]) ∧ Below B w0 w' ∧ Own w' W.heap.size 48 3 (.slice (some ⟨W.heap.size, 0, none⟩) 1 1) 1 [.int .i64 a, .int .i64 b, .string c] ∧
  ∀ (B' m : Nat) (x : Value) (ys : List Value), Own W B' 48 3 x m ys → Own w' B' 48 3 x m ys
theorem add10 {W w0 : World} {B n : Nat} {v : Value} {xs : List Value} (a b : Int) (c : ByteArray) (hb : Below B w0 W) (ho : Own W B 22 1 v n xs) (hn : n ≤ 1000) :
    ∃ v' w', (Builtin.append_ #[23, 23] 23 #[v, .slice (some ⟨W.heap.size + 1, 0, none⟩) 1 1]).run Tryd.prog ((W.alloc (.cells #[.int .i64 a, .int .i64 b, .string c] 48)).alloc (.cells #[.slice (some ⟨W.heap.size, 0, none⟩) 1 1] 22)) = .ok v' w' ∧ AddP W w0 B n xs a b c v' w' := by
  obtain ⟨i, hi, hz0, hz1, hz2⟩ := info_parts info_ss
  have h0 := Own.made W W.heap.size 48 3 1 #[.int .i64 a, .int .i64 b, .string c] (Nat.le_refl _) (by omega) rfl
  have ho' := ho.alloc (.cells #[.int .i64 a, .int .i64 b, .string c] 48)
  obtain ⟨v', w', h1, h2, h3, h4⟩ := app_newo (P := Tryd.prog) 23 23 22 i _ 1 24 Tryd.underlying23 hi hz0 hz1 hz2 rfl (by omega) (by omega)
    (hb.alloc ho.2 (.cells #[.int .i64 a, .int .i64 b, .string c] 48)) ho' (by omega) 1 #[.slice (some ⟨W.heap.size, 0, none⟩) 1 1] rfl (by omega) (by simp [Value.oneCell']) 22
  rw [size_alloc] at h1
  exact ⟨v', w', h1, h2, h3, h4.own (by decide) h0, fun B' m x ys hx => h4.own (by decide) (hx.alloc _)⟩
theorem Rd.zero1 (w : World) (A : Option Addr) (c : Nat) : Rd w 1 (.slice A 0 c) 0 [] := ⟨rfl, A, c, rfl, Nat.zero_le _, fun h => absurd h (Nat.lt_irrefl 0)⟩
theorem chE_append {a b : List (List Sp)} {n k : Int} (h : Thru n a k) : chE n (a ++ b) = chE k b := by
  induction a generalizing n with
  | nil => obtain ⟨rfl, _⟩ := h; rfl
  | cons l r ih =>
    obtain ⟨h1, h2, h3, h4, h5⟩ := h
    have hm := (okW_mayL l h1 (by omega)).1
    have e : chE n (l :: r ++ b) = if mayL l = 0 then (if inL l = n then chE (outL l) (r ++ b) else 5) else mayL l := rfl
    rw [e, if_pos hm, if_pos h2]
    exact ih h5
/-- What does not fit, and what may not be. -/
theorem first10 {CW : List (List Sp)} {M k : Int} (h260 : lenS CW ≤ 260) (ht : sumTT CW ≤ 6240) (hn : CW.length ≤ 20) (h : Thru M CW k) (h1 : M ≤ 1000) (K : Nat) :
    ∃ k1, Thru M (CW.take K) k1 ∧ 0 ≤ k1 ∧ k1 ≤ 100000 ∧ Small (CW.take K) ∧ Small (CW.take K ++ [[(1, k1 + 1, ⟨#[]⟩)]] ++ [[(0, 0, ⟨#[]⟩)]] ++ CW.drop K) ∧ chainE M (CW.take K ++ [[(1, k1 + 1, ⟨#[]⟩)]] ++ [[(0, 0, ⟨#[]⟩)]] ++ CW.drop K) = 5 ∧
    Small (CW.take K ++ [[(0, 0, ⟨#[]⟩)]]) ∧ chainE M (CW.take K ++ [[(0, 0, ⟨#[]⟩)]]) = 1 := by
  obtain ⟨k1, t1, t2, p0, p1, S1, _⟩ := parts10 h260 ht hn h h1 K
  have e1 := lenS_take CW K
  have l1 : (CW.take K).length ≤ 20 := by rw [List.length_take]; omega
  have l2 : (CW.drop K).length ≤ 20 := by rw [List.length_drop]; omega
  have o1 : lenS [[((1 : Int), k1 + 1, (⟨#[]⟩ : ByteArray))]] = 1 := rfl
  have o2 : lenS [[((0 : Int), (0 : Int), (⟨#[]⟩ : ByteArray))]] = 1 := rfl
  have s1 : sumTT [[((1 : Int), k1 + 1, (⟨#[]⟩ : ByteArray))]] = 0 := rfl
  have s2 : sumTT [[((0 : Int), (0 : Int), (⟨#[]⟩ : ByteArray))]] = 0 := rfl
  have hM := t1.pos
  have okX : ∀ s ∈ [((1 : Int), k1 + 1, (⟨#[]⟩ : ByteArray))], OkW s := by
    intro s hs
    rw [List.mem_singleton] at hs
    subst hs
    exact .inr ⟨.inl rfl, by show 0 ≤ k1 + 1; omega, rfl⟩
  have hi : inL [((1 : Int), k1 + 1, (⟨#[]⟩ : ByteArray))] = k1 + 1 := by
    rw [inL_cons]; show k1 + 1 + 0 = k1 + 1; omega
  have hmX := (okW_mayL _ okX (by omega)).1
  have hm0 : mayL [((0 : Int), (0 : Int), (⟨#[]⟩ : ByteArray))] = 1 := by decide +kernel
  refine ⟨k1, t1, p0, p1, S1, ⟨?_, ?_, ?_⟩, ?_, ⟨?_, ?_, ?_⟩, ?_⟩
  · rw [lenS_append, lenS_append, lenS_append]; omega
  · rw [sumTT_append, sumTT_append, sumTT_append]; omega
  · simp only [List.length_append, List.length_cons, List.length_nil]; omega
  · unfold chainE
    rw [if_pos ⟨hM, by omega⟩, List.append_assoc, List.append_assoc, chE_append t1]
    show chE k1 ([((1 : Int), k1 + 1, (⟨#[]⟩ : ByteArray))] :: _) = 5
    unfold chE
    rw [if_pos hmX, if_neg (by omega)]
  · rw [lenS_append]; omega
  · rw [sumTT_append]; omega
  · simp only [List.length_append, List.length_cons, List.length_nil]; omega
  · unfold chainE
    rw [if_pos ⟨hM, by omega⟩, chE_append t1]
    show chE k1 ([((0 : Int), (0 : Int), (⟨#[]⟩ : ByteArray))] :: _) = 1
    unfold chE
    rw [hm0, if_neg (by decide)]
end Go.Proofs.YtfjiookndleaeaaDoor
