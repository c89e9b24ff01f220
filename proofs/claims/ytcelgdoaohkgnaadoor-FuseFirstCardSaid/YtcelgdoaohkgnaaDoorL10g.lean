/- Layer 10, FuseFirst. -/
import Derived.Test.YtcelgdoaohkgnaaDoorL10d
namespace Go.Proofs.YtcelgdoaohkgnaaDoor
open Go.RowKit
set_option maxRecDepth 100000
set_option maxHeartbeats 4000000
set_option linter.unusedSimpArgs false
/-- Values that stand for rows of spans. -/
def El (w : World) (vs : List Value) (ls : List (List Sp)) : Prop := vs.length = ls.length ∧ ∀ (i : Nat) (l : List Sp), ls[i]? = some l → ∃ a k, vs[i]? = some (.slice a l.length k) ∧ Rd w 3 (.slice a l.length k) l.length (spCells l)
theorem El.ext {w w' : World} {vs : List Value} {ls : List (List Sp)} (h : El w vs ls) (x : Ext w w') : El w' vs ls := ⟨h.1, fun i l hl => by
  obtain ⟨a, k, g1, g2⟩ := h.2 i l hl
  exact ⟨a, k, g1, g2.ext x⟩⟩
theorem El.app {w : World} {vs us : List Value} {ls ms : List (List Sp)} (h : El w vs ls) (h' : El w us ms) : El w (vs ++ us) (ls ++ ms) := by
  refine ⟨by rw [List.length_append, List.length_append, h.1, h'.1], fun i l hl => ?_⟩
  rw [List.getElem?_append] at hl
  split at hl
  · obtain ⟨a, k, g1, g2⟩ := h.2 i l hl
    exact ⟨a, k, by rw [List.getElem?_append_left (by rw [h.1]; omega)]; exact g1, g2⟩
  · obtain ⟨a, k, g1, g2⟩ := h'.2 _ l hl
    exact ⟨a, k, by rw [List.getElem?_append_right (by rw [h.1]; omega), h.1]; exact g1, g2⟩
theorem El.one {w : World} {a : Option Addr} {n k : Nat} {X : List Sp} (h : RdO w a n k X) : El w [.slice a n k] [X] := by
  obtain ⟨rfl, h⟩ := h
  refine ⟨rfl, fun i l hl => ?_⟩
  match i, hl with
  | 0, hl => injection hl with hl; subst hl; exact ⟨a, k, rfl, h⟩
  | i + 1, hl => simp at hl
theorem El.take {w : World} {vs : List Value} {ls : List (List Sp)} (h : El w vs ls) (j : Nat) : El w (vs.take j) (ls.take j) := by
  refine ⟨by rw [List.length_take, List.length_take, h.1], fun i l hl => ?_⟩
  rw [List.getElem?_take] at hl
  split at hl
  · rename_i hij
    obtain ⟨a, k, g1, g2⟩ := h.2 i l hl
    exact ⟨a, k, by rw [List.getElem?_take, if_pos hij]; exact g1, g2⟩
  · cases hl
theorem El.drop {w : World} {vs : List Value} {ls : List (List Sp)} (h : El w vs ls) (j : Nat) : El w (vs.drop j) (ls.drop j) := by
  refine ⟨by rw [List.length_drop, List.length_drop, h.1], fun i l hl => ?_⟩
  rw [List.getElem?_drop] at hl
  obtain ⟨a, k, g1, g2⟩ := h.2 _ l hl
  exact ⟨a, k, by rw [List.getElem?_drop]; exact g1, g2⟩
theorem El.rd {w : World} {A : Option Addr} {n c : Nat} {vs : List Value} {ls : List (List Sp)} (h : El w vs ls) (hr : Rd w 1 (.slice A n c) n vs) : RdSS w A n c ls :=
  ⟨by have := hr.1; have := h.1; omega, vs, hr, h.2⟩
theorem El.cells {w : World} {vs : List Value} {ls : List (List Sp)} (h : El w vs ls) : ∀ u ∈ vs, u.oneCell' = true := rdSS_one (n := ls.length) (by rw [h.1, Nat.mul_one]) rfl h.2
theorem El.of1 {w : World} {B : Nat} {e : TypeId} {A : Option Addr} {a b : Int} {c : ByteArray} (h : Own w B e 3 (.slice A 1 1) 1 [.int .i64 a, .int .i64 b, .string c]) : El w [.slice A 1 1] [[(a, b, c)]] := El.one (X := [(a, b, c)]) ⟨rfl, h.rd⟩
/-- A row of one span, made and appended. -/
def AddP (W w0 : World) (B n : Nat) (xs : List Value) (a b : Int) (c : ByteArray) (v' : Value) (w' : World) : Prop :=
  Own w' B 22 1 v' (n + 1) (xs ++ [.slice (some ⟨W.heap.size, 0, none⟩) 1 1]) ∧ Below B w0 w' ∧ Own w' W.heap.size 60 3 (.slice (some ⟨W.heap.size, 0, none⟩) 1 1) 1 [.int .i64 a, .int .i64 b, .string c] ∧
  ∀ (B' m : Nat) (x : Value) (ys : List Value), Own W B' 60 3 x m ys → Own w' B' 60 3 x m ys
theorem add10 {W w0 : World} {B n : Nat} {v : Value} {xs : List Value} (a b : Int) (c : ByteArray) (hb : Below B w0 W) (ho : Own W B 22 1 v n xs) (hn : n ≤ 1000) :
    ∃ v' w', (Builtin.append_ #[42, 42] 42 #[v, .slice (some ⟨W.heap.size + 1, 0, none⟩) 1 1]).run Tryd.prog ((W.alloc (.cells #[.int .i64 a, .int .i64 b, .string c] 60)).alloc (.cells #[.slice (some ⟨W.heap.size, 0, none⟩) 1 1] 22)) = .ok v' w' ∧ AddP W w0 B n xs a b c v' w' := by
  obtain ⟨i, hi, hz0, hz1, hz2⟩ := info_parts info_ss
  have h0 := Own.made W W.heap.size 60 3 1 #[.int .i64 a, .int .i64 b, .string c] (Nat.le_refl _) (by omega) rfl
  have ho' := ho.alloc (.cells #[.int .i64 a, .int .i64 b, .string c] 60)
  obtain ⟨v', w', h1, h2, h3, h4⟩ := app_newo (P := Tryd.prog) 42 42 22 i _ 1 24 Tryd.underlying42 hi hz0 hz1 hz2 rfl (by omega) (by omega)
    (hb.alloc ho.2 (.cells #[.int .i64 a, .int .i64 b, .string c] 60)) ho' (by omega) 1 #[.slice (some ⟨W.heap.size, 0, none⟩) 1 1] rfl (by omega) (by simp [Value.oneCell']) 22
  rw [size_alloc] at h1
  exact ⟨v', w', h1, h2, h3, h4.own (by decide) h0, fun B' m x ys hx => h4.own (by decide) (hx.alloc _)⟩
theorem Rd.zero1 (w : World) (A : Option Addr) (c : Nat) : Rd w 1 (.slice A 0 c) 0 [] := ⟨rfl, A, c, rfl, Nat.zero_le _, fun h => absurd h (Nat.lt_irrefl 0)⟩
theorem chE_append {a b : List (List Sp)} {n k : Int} (h : Thru n a k) : chE n (a ++ b) = chE k b := by
  induction a generalizing n with
  | nil => obtain ⟨rfl, _⟩ := h; rfl
  | cons l r ih =>
    obtain ⟨h1, h2, h3, h4, h5⟩ := h
    have hm := (okW_mayL l h1 (by omega)).1
    have e : chE n (l :: r ++ b) = if mayL l = 0 then (if inL l = n then chE (outL l) (r ++ b) else 5) else mayL l := rfl
    rw [e, if_pos hm, if_pos h2]
    exact ih h5
/-- What does not fit, and what may not be. -/
theorem first10 {CW : List (List Sp)} {M k : Int} (h260 : lenS CW ≤ 260) (ht : sumTT CW ≤ 6240) (hn : CW.length ≤ 20) (h : Thru M CW k) (h1 : M ≤ 1000) (K : Nat) :
    ∃ k1, Thru M (CW.take K) k1 ∧ 0 ≤ k1 ∧ k1 ≤ 100000 ∧ Small (CW.take K) ∧ Small (CW.take K ++ [[(1, k1 + 1, ⟨#[]⟩)]] ++ [[(0, 0, ⟨#[]⟩)]] ++ CW.drop K) ∧ chainE M (CW.take K ++ [[(1, k1 + 1, ⟨#[]⟩)]] ++ [[(0, 0, ⟨#[]⟩)]] ++ CW.drop K) = 5 ∧
    Small (CW.take K ++ [[(0, 0, ⟨#[]⟩)]]) ∧ chainE M (CW.take K ++ [[(0, 0, ⟨#[]⟩)]]) = 1 := by
  obtain ⟨k1, t1, t2, p0, p1, S1, _⟩ := parts10 h260 ht hn h h1 K
  have e1 := lenS_take CW K
  have l1 : (CW.take K).length ≤ 20 := by rw [List.length_take]; omega
  have l2 : (CW.drop K).length ≤ 20 := by rw [List.length_drop]; omega
  have o1 : lenS [[((1 : Int), k1 + 1, (⟨#[]⟩ : ByteArray))]] = 1 := rfl
  have o2 : lenS [[((0 : Int), (0 : Int), (⟨#[]⟩ : ByteArray))]] = 1 := rfl
  have s1 : sumTT [[((1 : Int), k1 + 1, (⟨#[]⟩ : ByteArray))]] = 0 := rfl
  have s2 : sumTT [[((0 : Int), (0 : Int), (⟨#[]⟩ : ByteArray))]] = 0 := rfl
  have hM := t1.pos
  have okX : ∀ s ∈ [((1 : Int), k1 + 1, (⟨#[]⟩ : ByteArray))], OkW s := by
    intro s hs
    rw [List.mem_singleton] at hs
    subst hs
    exact .inr ⟨.inl rfl, by show 0 ≤ k1 + 1; omega, rfl⟩
  have hi : inL [((1 : Int), k1 + 1, (⟨#[]⟩ : ByteArray))] = k1 + 1 := by
    rw [inL_cons]; show k1 + 1 + 0 = k1 + 1; omega
  have hmX := (okW_mayL _ okX (by omega)).1
  have hm0 : mayL [((0 : Int), (0 : Int), (⟨#[]⟩ : ByteArray))] = 1 := by decide +kernel
  refine ⟨k1, t1, p0, p1, S1, ⟨?_, ?_, ?_⟩, ?_, ⟨?_, ?_, ?_⟩, ?_⟩
  · rw [lenS_append, lenS_append, lenS_append]; omega
  · rw [sumTT_append, sumTT_append, sumTT_append]; omega
  · simp only [List.length_append, List.length_cons, List.length_nil]; omega
  · unfold chainE
    rw [if_pos ⟨hM, by omega⟩, List.append_assoc, List.append_assoc, chE_append t1]
    show chE k1 ([((1 : Int), k1 + 1, (⟨#[]⟩ : ByteArray))] :: _) = 5
    unfold chE
    rw [if_pos hmX, if_neg (by omega)]
  · rw [lenS_append]; omega
  · rw [sumTT_append]; omega
  · simp only [List.length_append, List.length_cons, List.length_nil]; omega
  · unfold chainE
    rw [if_pos ⟨hM, by omega⟩, chE_append t1]
    show chE k1 ([((0 : Int), (0 : Int), (⟨#[]⟩ : ByteArray))] :: _) = 1
    unfold chE
    rw [hm0, if_neg (by decide)]
theorem fuseFirst_c (A0 : Option Addr) (q0 c0 : Nat) (ls : List (List Sp)) (m at_ : Int) (w : World) [Tab w] (h0 : RdSS w A0 q0 c0 ls) (hls : ∀ l ∈ ls, ∀ s ∈ l, s.2.2.size ≤ maxLen) (hm : (Lit.int .u8 m).wf = true) (ha : (Lit.int .u8 at_).wf = true) :
    Calls Tryd.prog 9 #[.slice A0 q0 c0, .int .u8 m, .int .u8 at_] w fun e w' => e = .returned (.bool true) ∧ Below w.heap.size w w' := by
  obtain ⟨n0, n1⟩ := bounds_u8 hm
  obtain ⟨o0, o1⟩ := bounds_u8 ha
  obtain ⟨M, hM, hM0, hM1⟩ : ∃ M : Int, m % 64 = M ∧ 0 ≤ M ∧ M ≤ 63 := ⟨m % 64, rfl, by omega, by omega⟩
  obtain ⟨k, SW, TW, lW, tW, nW⟩ := made_chain ls M hM0 (by omega)
  obtain ⟨N, hN⟩ : ∃ N, (chainL (ls.take 20) M).length = N := ⟨_, rfl⟩
  have HW : Hid (∀ w', Ext w w' → Calls Tryd.prog 25 #[.slice A0 q0 c0, .int .i64 M] w' (TellsC w' N (chainL (ls.take 20) M))) := Lib.hid fun w' hx => chainRC (h0.ext hx) hls hM0 (by omega) hN
  obtain ⟨K, hK, hKN⟩ : ∃ K : Nat, at_ % ((N : Int) + 1) = (K : Int) ∧ K ≤ N := by
    have h1 := Int.emod_nonneg at_ (show ((N : Int) + 1) ≠ 0 by omega)
    have h2 := Int.emod_lt_of_pos at_ (show (0 : Int) < (N : Int) + 1 by omega)
    exact ⟨(at_ % ((N : Int) + 1)).toNat, by omega, by omega⟩
  have hK2 : at_.tmod ((N : Int) + 1) = (K : Int) := by rw [Int.tmod_eq_emod_of_nonneg o0]; exact hK
  obtain ⟨k1, t1, p0, p1, S1, SO, eO, SB, eB⟩ := first10 lW tW nW TW (by omega) K
  have hN20 : N ≤ 20 := by omega
  have CT : Hid (∀ A c w', Ext w w' → RdSS w' A K c ((chainL (ls.take 20) M).take K) → Calls Tryd.prog 23 #[.int .i64 M, .slice A K c] w' fun e w'' => e = .returned (.tuple #[.int .i64 k1, .int .i64 0]) ∧ Ext w' w'') := Lib.hid fun A c w' hx hr => chainG S1 t1 (by omega) hx hr
  have OO : Hid (∀ A n c w', Ext w w' → RdSS w' A n c ((chainL (ls.take 20) M).take K ++ [[(1, k1 + 1, ⟨#[]⟩)]] ++ [[(0, 0, ⟨#[]⟩)]] ++ (chainL (ls.take 20) M).drop K) → Calls Tryd.prog 20 #[.int .i64 M, .slice A n c] w' (TellsX w' 5 [])) := Lib.hid fun A n c w' hx hr => have hTb := tab_ext hx; by
    have h := (of10_c A n c _ M w' hr SO).mono fun _ _ h => h.fuse
    unfold fuseL at h
    rw [eO, if_neg (by decide)] at h
    exact h
  have CO : Hid (∀ A n c w', Ext w w' → RdSS w' A n c ((chainL (ls.take 20) M).take K ++ [[(1, k1 + 1, ⟨#[]⟩)]] ++ [[(0, 0, ⟨#[]⟩)]] ++ (chainL (ls.take 20) M).drop K) → Calls Tryd.prog 23 #[.int .i64 M, .slice A n c] w' fun e w'' => e = .returned (.tuple #[.int .i64 0, .int .i64 5]) ∧ Ext w' w'') := Lib.hid fun A n c w' hx hr => have hTb := tab_ext hx; by
    have h := chain10_c A n c _ M w' hr SO.each SO.txt (by have := hr.1; have := SO.num; omega)
    unfold chainN at h
    rw [eO, if_neg (by decide)] at h
    exact h
  have OB : Hid (∀ A n c w', Ext w w' → RdSS w' A n c ((chainL (ls.take 20) M).take K ++ [[(0, 0, ⟨#[]⟩)]]) → Calls Tryd.prog 20 #[.int .i64 M, .slice A n c] w' (TellsX w' 1 [])) := Lib.hid fun A n c w' hx hr => have hTb := tab_ext hx; by
    have h := (of10_c A n c _ M w' hr SB).mono fun _ _ h => h.fuse
    unfold fuseL at h
    rw [eB, if_neg (by decide)] at h
    exact h
  clear SW TW lW tW nW t1 S1 SO eO SB eB h0 hls hm ha hN
  generalize chainL (ls.take 20) M = CW at *
  obtain ⟨i, hi, hz0, hz1, hz2⟩ := info_parts info_ss
  have hI : Hid (Tryd.prog.info? 22 = some i ∧ i.zero = some (.slice none 0 0) ∧ i.size = 1 ∧ i.bytes = 24) := Lib.hid ⟨hi, hz0, hz1, hz2⟩
  clear hi hz0 hz1 hz2
  have hKi : (0 : Int) ≤ (K : Int) := by omega
  have hKn : (K : Int) ≤ (N : Int) := by omega
  go_enter Tryd.func9, Tryd.ntmps9
  go_wp2_with fail
  refine (shown10_c _).mono ?_; rintro e w1 ⟨rfl, hx1⟩
  have e1 : Ext w w1 := hx1
  clear hx1
  go_wp2_with fail
  refine (HW.out _ e1).mono ?_; rintro e w2 ⟨hx2, aW, cW, rfl, rW, hAW⟩
  have e2 : Ext w w2 := e1.trans hx2
  have RW := Lib.hid rW
  clear hx2 rW
  obtain ⟨hlW, vs, hvs, hel⟩ := RW.out
  have hvl : vs.length = N := by have := hvs.1; omega
  have EL : Hid (El w2 vs CW) := Lib.hid ⟨by omega, hel⟩
  clear hel
  rcases hAW with ⟨rfl, hz, rfl⟩ | ⟨g, rfl, hc⟩
  · subst hz
    obtain rfl : K = 0 := by omega
    have RT1 : Hid (Rd w2 1 (.slice none 0 0) 0 (vs.take 0)) := Lib.hid (Rd.zero1 _ _ _)
    have RD1 : Hid (Rd w2 1 (.slice none (0 - 0) 0) (0 - 0) (vs.drop 0)) := Lib.hid (by rw [List.drop_zero]; exact hvs)
    have RT := Lib.hid (RW.out.take hKN)
    go_wp2_with fail
    refine (CT.out _ _ _ e2 RT.out).mono ?_; rintro e w3 ⟨rfl, hx3⟩
    have e3 : Ext w w3 := e2.trans hx3
    replace RW := Lib.hid (RW.out.ext hx3)
    replace RT1 := Lib.hid (RT1.out.ext hx3)
    replace RD1 := Lib.hid (RD1.out.ext hx3)
    replace EL := Lib.hid (EL.out.ext hx3)
    replace RT := Lib.hid (RT.out.ext hx3)
    clear hx3
    clear RT
    have hkb : 0 ≤ k1 + 1 := by omega
    have bel0 : Below w3.heap.size w3 (w3.alloc (.cells #[] 22)) := (Below.refl _ _).alloc (Nat.le_refl _) _
    have own0 : Own (w3.alloc (.cells #[] 22)) w3.heap.size 22 1 (.slice (some ⟨w3.heap.size, 0, none⟩) 0 0) 0 [] := Own.made w3 w3.heap.size 22 1 0 #[] (Nat.le_refl _) (by omega) rfl
    obtain ⟨u1, x1, ha1, ow1, be1⟩ := app_rd (P := Tryd.prog) 42 42 22 i _ 1 24 Tryd.underlying42 hI.out.1 hI.out.2.1 hI.out.2.2.1 hI.out.2.2.2 rfl (by omega) (by omega) bel0 own0 (by omega) (RT1.out.ext bel0) (by omega) (EL.out.take 0).cells
    rw [Nat.zero_add, List.nil_append] at ow1
    obtain ⟨u2, x2, ha2, ow2, be2, os2, _⟩ := add10 1 (k1 + 1) ⟨#[]⟩ be1 ow1 (by omega)
    have HA1 := Lib.hid ha1; have HA2 := Lib.hid ha2
    have OW2 := Lib.hid ow2; have OS2 := Lib.hid os2; have BE2 := Lib.hid be2
    clear ha1 ha2 ow1 ow2 be1 be2 os2 own0 bel0
    go_wp2_with (at_builtin; first | (with_reducible refine wpList_append_run rfl rfl HA1.out rfl rfl ?_) | (with_reducible refine wpList_append_run rfl rfl HA2.out rfl rfl ?_))
    clear HA1 HA2
    refine region_T (fun _ => True) 9 (by kernel_rfl) trivial (fun hHeld => ?_)
    obtain ⟨Wd, hWd⟩ : ∃ x, x2.drew = x := ⟨_, rfl⟩
    have hdx : Ext x2 Wd := by rw [← hWd]; exact (Ext.refl _).drew
    have OW3 : Hid (Own Wd w3.heap.size 22 1 u2 (0 + 1) (vs.take 0 ++ [.slice (some ⟨x1.heap.size, 0, none⟩) 1 1])) := Lib.hid (by rw [← hWd]; exact OW2.out.drew)
    have OS3 : Hid (Own Wd x1.heap.size 60 3 (.slice (some ⟨x1.heap.size, 0, none⟩) 1 1) 1 [.int .i64 1, .int .i64 (k1 + 1), .string ⟨#[]⟩]) := Lib.hid (by rw [← hWd]; exact OS2.out.drew)
    have BE3 : Hid (Below w3.heap.size w3 Wd) := Lib.hid (by rw [← hWd]; exact BE2.out.drew)
    rw [hWd]
    clear hWd OW2 OS2 BE2 hdx
    have HA3 := Lib.hid (add10 0 0 ⟨#[]⟩ BE3.out OW3.out (by omega))
    clear OW3
    refine wpAnyT_take (i := 0) (v := ?_) rfl (by kernel_rfl) (fun _ _ _ h => h) (Or.inl ⟨by rfl, ?_⟩) (by assumption) ?_
    rotate_left
    · (intro W hSw; (try dsimp only at hSw); go_simp; (try with_reducible rfl))
    try simp only [Act.put, List.setIfInBounds_toArray, List.set_cons_zero, List.set_cons_succ]
    refine wpAnyT_take (i := 1) (v := ?_) rfl (by kernel_rfl) (fun _ _ _ h => h) (Or.inl ⟨by rfl, ?_⟩) (by assumption) ?_
    rotate_left
    · (intro W hSw; (try dsimp only at hSw); go_simp; (try with_reducible rfl))
    try simp only [Act.put, List.setIfInBounds_toArray, List.set_cons_zero, List.set_cons_succ]
    refine wpAnyT_take (i := 5) (v := ?_) rfl (by kernel_rfl) (fun _ _ _ h => h) (Or.inl ⟨by rfl, ?_⟩) (by assumption) ?_
    rotate_left
    · (intro W hSw; (try dsimp only at hSw); go_simp; (try with_reducible rfl))
    try simp only [Act.put, List.setIfInBounds_toArray, List.set_cons_zero, List.set_cons_succ]
    refine wpAnyT_take (i := 6) (v := ?_) rfl (by kernel_rfl) (fun _ _ _ h => h) (Or.inl ⟨by rfl, ?_⟩) (by assumption) ?_
    rotate_left
    · (intro W hSw; (try dsimp only at hSw); go_simp; (try with_reducible rfl))
    try simp only [Act.put, List.setIfInBounds_toArray, List.set_cons_zero, List.set_cons_succ]
    refine wpAnyT_take (i := 7) (v := ?_) rfl (by kernel_rfl) (fun _ _ _ h => h) (Or.inl ⟨by rfl, ?_⟩) (by assumption) ?_
    rotate_left
    · (intro W hSw; (try dsimp only at hSw); go_simp; (try with_reducible rfl))
    try simp only [Act.put, List.setIfInBounds_toArray, List.set_cons_zero, List.set_cons_succ]
    refine wpAnyT_one (i := 2) rfl (by kernel_rfl) (fun KQ hKQ => ?_)
    go_simp
    refine hKQ.out _ _ (fun _ => trivial) (fun hH => ?_)
    replace hHeld := hH (by decide)
    clear hKQ KQ hH
    try simp only [Act.put, List.setIfInBounds_toArray, List.set_cons_zero, List.set_cons_succ]
    refine wpAnyT_one (i := 3) rfl (by kernel_rfl) (fun KQ hKQ => ?_)
    go_simp
    refine hKQ.out _ _ (fun _ => trivial) (fun hH => ?_)
    replace hHeld := hH (by decide)
    clear hKQ KQ hH
    try simp only [Act.put, List.setIfInBounds_toArray, List.set_cons_zero, List.set_cons_succ]
    refine wpAnyT_one (i := 4) rfl (by kernel_rfl) (fun KQ hKQ => ?_)
    (refine step_append_ex (by rfl) _ _ _ (by rfl) (by rfl) (by rfl) (HA3.out) ?_)
    rintro u4 x4 ⟨ow4, be4, os4, kp4⟩
    have OS4 := Lib.hid os4; have OS5 := Lib.hid (kp4 _ _ _ _ OS3.out); have BE4 := Lib.hid be4
    obtain ⟨u5, x5, ha5, ow5, be5, ot5⟩ := app_erdo (P := Tryd.prog) 42 42 22 i _ 1 24 Tryd.underlying42 hI.out.1 hI.out.2.1 hI.out.2.2.1 hI.out.2.2.2 rfl (by omega) (by omega) be4 ow4.2 (.inr ow4) (by omega) (RD1.out.ext be4) (by omega) (EL.out.drop 0).cells
    have OW5 := Lib.hid (ow5.own (by omega))
    have OT6 := Lib.hid (ot5.own (by decide) OS4.out); have OT7 := Lib.hid (ot5.own (by decide) OS5.out)
    have HA5 := Lib.hid (⟨u5, x5, ha5, rfl, rfl⟩ : ∃ v' w', (Builtin.append_ #[42, 42] 42 #[u4, .slice none (0 - 0) (0)]).run Tryd.prog x4 = .ok v' w' ∧ v' = u5 ∧ w' = x5)
    have BE5 := Lib.hid be5
    clear ow4 be4 os4 kp4 ha5 ow5 be5 ot5 HA3 OS3 OS4 OS5 BE4
    refine hKQ.out _ _ (fun _ => trivial) (fun hH => ?_)
    replace hHeld := hH (by decide)
    clear hKQ KQ hH
    try simp only [Act.put, List.setIfInBounds_toArray, List.set_cons_zero, List.set_cons_succ]
    refine wpAnyT_one (i := 8) rfl (by kernel_rfl) (fun KQ hKQ => ?_)
    (refine step_append_ex (by rfl) _ _ _ (by rfl) (by rfl) (by rfl) (HA5.out) ?_)
    rintro v' w' ⟨hv', hw'⟩
    rw [hv', hw']
    clear hv' hw' v' w'
    refine hKQ.out _ _ (fun _ => trivial) (fun hH => ?_)
    replace hHeld := hH (by decide)
    clear hKQ KQ hH HA5
    try simp only [Act.put, List.setIfInBounds_toArray, List.set_cons_zero, List.set_cons_succ]
    refine wpAnyT_one (i := 9) rfl (by kernel_rfl) (fun KQ hKQ => ?_)
    go_simp
    refine hKQ.out _ _ (fun h => absurd rfl h) (fun _ => ?_)
    clear hKQ KQ hHeld
    try simp only [Act.put, List.setIfInBounds_toArray, List.set_cons_zero, List.set_cons_succ]
    refine wpAnyT_done (by kernel_rfl) ?_ _
    obtain ⟨aO, cO, rfl, _⟩ := OW5.out.len
    have e20 : Ext w x5 := e3.trans BE5.out
    have RO := Lib.hid ((((EL.out.ext BE5.out).take 0).app (El.of1 OT7.out)).app (El.of1 OT6.out) |>.app ((EL.out.ext BE5.out).drop 0) |>.rd OW5.out.rd)
    have RT5 := Lib.hid (RT1.out.ext BE5.out); have EL5 := Lib.hid (EL.out.ext BE5.out)
    clear OW5 OT6 OT7 BE5
    have bel0 : Below x5.heap.size x5 (x5.alloc (.cells #[] 22)) := (Below.refl _ _).alloc (Nat.le_refl _) _
    have own0 : Own (x5.alloc (.cells #[] 22)) x5.heap.size 22 1 (.slice (some ⟨x5.heap.size, 0, none⟩) 0 0) 0 [] := Own.made x5 x5.heap.size 22 1 0 #[] (Nat.le_refl _) (by omega) rfl
    obtain ⟨u6, x6, ha6, ow6, be6⟩ := app_rd (P := Tryd.prog) 42 42 22 i _ 1 24 Tryd.underlying42 hI.out.1 hI.out.2.1 hI.out.2.2.1 hI.out.2.2.2 rfl (by omega) (by omega) bel0 own0 (by omega) (RT5.out.ext bel0) (by omega) (EL5.out.take 0).cells
    rw [Nat.zero_add, List.nil_append] at ow6
    obtain ⟨u7, x7, ha7, ow7, be7, os7, _⟩ := add10 0 0 ⟨#[]⟩ be6 ow6 (by omega)
    obtain ⟨aB, cB, rfl, _⟩ := ow7.len
    have RB := Lib.hid ((((EL5.out.ext be7).take 0).app (El.of1 os7)).rd ow7.rd)
    have RO7 := Lib.hid (RO.out.ext be7)
    have e21 : Ext w x7 := e20.trans be7
    have HA6 := Lib.hid ha6; have HA7 := Lib.hid ha7
    clear ha6 ha7 ow6 ow7 be6 be7 os7 own0 bel0 RO RT5 EL5 RT1 EL RD1
    go_wp2_with (at_builtin; first | (with_reducible refine wpList_append_run rfl rfl HA6.out rfl rfl ?_) | (with_reducible refine wpList_append_run rfl rfl HA7.out rfl rfl ?_))
    clear HA6 HA7
    refine (OO.out _ _ _ _ e21 RO7.out).mono ?_; rintro e w22 ⟨hx22, aP, nP, cP, rfl, rP⟩
    have e22 : Ext w w22 := e21.trans hx22
    replace RO7 := Lib.hid (RO7.out.ext hx22)
    replace RB := Lib.hid (RB.out.ext hx22)
    have RP := Lib.hid rP
    clear hx22 rP
    go_wp2_with fail
    refine (CO.out _ _ _ _ e22 RO7.out).mono ?_; rintro e w23 ⟨rfl, hx23⟩
    have e23 : Ext w w23 := e22.trans hx23
    replace RO7 := Lib.hid (RO7.out.ext hx23)
    replace RB := Lib.hid (RB.out.ext hx23)
    replace RP := Lib.hid (RP.out.ext hx23)
    clear hx23
    go_wp2_with fail
    refine (OB.out _ _ _ _ e23 RB.out).mono ?_; rintro e w24 ⟨hx24, aQ, nQ, cQ, rfl, rQ⟩
    have e24 : Ext w w24 := e23.trans hx24
    replace RO7 := Lib.hid (RO7.out.ext hx24)
    replace RB := Lib.hid (RB.out.ext hx24)
    replace RP := Lib.hid (RP.out.ext hx24)
    have RQ := Lib.hid rQ
    clear hx24 rQ
    obtain rfl : 0 = nP := RP.out.1
    obtain rfl : 0 = nQ := RQ.out.1
    go_wp2_with fail
    go_ret
    exact ⟨rfl, e24⟩
  · have hKc : (K : Int) ≤ (cW : Int) := by omega
    have hNc : (N : Int) ≤ (cW : Int) := by omega
    have hKc' : K ≤ cW := by omega
    have rt := hvs.take hKN
    have rd := hvs.drop hKN
    rw [Nat.mul_one] at rt rd
    rw [Nat.zero_add] at rd
    rcases (by omega : ¬ cW = K ∨ (cW = K ∧ N = K)) with hne | ⟨rfl, rfl⟩
    · have RT1 := Lib.hid rt
      have RD1 := Lib.hid rd
      clear rt rd hvs
      have RT := Lib.hid (RW.out.take hKN)
      go_wp2_with fail
      refine (CT.out _ _ _ e2 RT.out).mono ?_; rintro e w3 ⟨rfl, hx3⟩
      have e3 : Ext w w3 := e2.trans hx3
      replace RW := Lib.hid (RW.out.ext hx3)
      replace RT1 := Lib.hid (RT1.out.ext hx3)
      replace RD1 := Lib.hid (RD1.out.ext hx3)
      replace EL := Lib.hid (EL.out.ext hx3)
      replace RT := Lib.hid (RT.out.ext hx3)
      clear hx3
      clear RT
      have hkb : 0 ≤ k1 + 1 := by omega
      have bel0 : Below w3.heap.size w3 (w3.alloc (.cells #[] 22)) := (Below.refl _ _).alloc (Nat.le_refl _) _
      have own0 : Own (w3.alloc (.cells #[] 22)) w3.heap.size 22 1 (.slice (some ⟨w3.heap.size, 0, none⟩) 0 0) 0 [] := Own.made w3 w3.heap.size 22 1 0 #[] (Nat.le_refl _) (by omega) rfl
      obtain ⟨u1, x1, ha1, ow1, be1⟩ := app_rd (P := Tryd.prog) 42 42 22 i _ 1 24 Tryd.underlying42 hI.out.1 hI.out.2.1 hI.out.2.2.1 hI.out.2.2.2 rfl (by omega) (by omega) bel0 own0 (by omega) (RT1.out.ext bel0) (by omega) (EL.out.take K).cells
      rw [Nat.zero_add, List.nil_append] at ow1
      obtain ⟨u2, x2, ha2, ow2, be2, os2, _⟩ := add10 1 (k1 + 1) ⟨#[]⟩ be1 ow1 (by omega)
      have HA1 := Lib.hid ha1; have HA2 := Lib.hid ha2
      have OW2 := Lib.hid ow2; have OS2 := Lib.hid os2; have BE2 := Lib.hid be2
      clear ha1 ha2 ow1 ow2 be1 be2 os2 own0 bel0
      go_wp2_with (at_builtin; first | (with_reducible refine wpList_append_run rfl rfl HA1.out rfl rfl ?_) | (with_reducible refine wpList_append_run rfl rfl HA2.out rfl rfl ?_))
      clear HA1 HA2
      refine region_T (fun _ => True) 9 (by kernel_rfl) trivial (fun hHeld => ?_)
      obtain ⟨Wd, hWd⟩ : ∃ x, x2.drew = x := ⟨_, rfl⟩
      have hdx : Ext x2 Wd := by rw [← hWd]; exact (Ext.refl _).drew
      have OW3 : Hid (Own Wd w3.heap.size 22 1 u2 (K + 1) (vs.take K ++ [.slice (some ⟨x1.heap.size, 0, none⟩) 1 1])) := Lib.hid (by rw [← hWd]; exact OW2.out.drew)
      have OS3 : Hid (Own Wd x1.heap.size 60 3 (.slice (some ⟨x1.heap.size, 0, none⟩) 1 1) 1 [.int .i64 1, .int .i64 (k1 + 1), .string ⟨#[]⟩]) := Lib.hid (by rw [← hWd]; exact OS2.out.drew)
      have BE3 : Hid (Below w3.heap.size w3 Wd) := Lib.hid (by rw [← hWd]; exact BE2.out.drew)
      rw [hWd]
      clear hWd OW2 OS2 BE2 hdx
      have HA3 := Lib.hid (add10 0 0 ⟨#[]⟩ BE3.out OW3.out (by omega))
      clear OW3
      refine wpAnyT_take (i := 0) (v := ?_) rfl (by kernel_rfl) (fun _ _ _ h => h) (Or.inl ⟨by rfl, ?_⟩) (by assumption) ?_
      rotate_left
      · (intro W hSw; (try dsimp only at hSw); go_simp; (try with_reducible rfl))
      try simp only [Act.put, List.setIfInBounds_toArray, List.set_cons_zero, List.set_cons_succ]
      refine wpAnyT_take (i := 1) (v := ?_) rfl (by kernel_rfl) (fun _ _ _ h => h) (Or.inl ⟨by rfl, ?_⟩) (by assumption) ?_
      rotate_left
      · (intro W hSw; (try dsimp only at hSw); go_simp; (try with_reducible rfl))
      try simp only [Act.put, List.setIfInBounds_toArray, List.set_cons_zero, List.set_cons_succ]
      refine wpAnyT_take (i := 5) (v := ?_) rfl (by kernel_rfl) (fun _ _ _ h => h) (Or.inl ⟨by rfl, ?_⟩) (by assumption) ?_
      rotate_left
      · (intro W hSw; (try dsimp only at hSw); go_simp; (try with_reducible rfl))
      try simp only [Act.put, List.setIfInBounds_toArray, List.set_cons_zero, List.set_cons_succ]
      refine wpAnyT_take (i := 6) (v := ?_) rfl (by kernel_rfl) (fun _ _ _ h => h) (Or.inl ⟨by rfl, ?_⟩) (by assumption) ?_
      rotate_left
      · (intro W hSw; (try dsimp only at hSw); go_simp; (try with_reducible rfl))
      try simp only [Act.put, List.setIfInBounds_toArray, List.set_cons_zero, List.set_cons_succ]
      refine wpAnyT_take (i := 7) (v := ?_) rfl (by kernel_rfl) (fun _ _ _ h => h) (Or.inl ⟨by rfl, ?_⟩) (by assumption) ?_
      rotate_left
      · (intro W hSw; (try dsimp only at hSw); go_simp; (try with_reducible rfl))
      try simp only [Act.put, List.setIfInBounds_toArray, List.set_cons_zero, List.set_cons_succ]
      refine wpAnyT_one (i := 2) rfl (by kernel_rfl) (fun KQ hKQ => ?_)
      go_simp
      refine hKQ.out _ _ (fun _ => trivial) (fun hH => ?_)
      replace hHeld := hH (by decide)
      clear hKQ KQ hH
      try simp only [Act.put, List.setIfInBounds_toArray, List.set_cons_zero, List.set_cons_succ]
      refine wpAnyT_one (i := 3) rfl (by kernel_rfl) (fun KQ hKQ => ?_)
      go_simp
      refine hKQ.out _ _ (fun _ => trivial) (fun hH => ?_)
      replace hHeld := hH (by decide)
      clear hKQ KQ hH
      try simp only [Act.put, List.setIfInBounds_toArray, List.set_cons_zero, List.set_cons_succ]
      refine wpAnyT_one (i := 4) rfl (by kernel_rfl) (fun KQ hKQ => ?_)
      (refine step_append_ex (by rfl) _ _ _ (by rfl) (by rfl) (by rfl) (HA3.out) ?_)
      rintro u4 x4 ⟨ow4, be4, os4, kp4⟩
      have OS4 := Lib.hid os4; have OS5 := Lib.hid (kp4 _ _ _ _ OS3.out); have BE4 := Lib.hid be4
      obtain ⟨u5, x5, ha5, ow5, be5, ot5⟩ := app_erdo (P := Tryd.prog) 42 42 22 i _ 1 24 Tryd.underlying42 hI.out.1 hI.out.2.1 hI.out.2.2.1 hI.out.2.2.2 rfl (by omega) (by omega) be4 ow4.2 (.inr ow4) (by omega) (RD1.out.ext be4) (by omega) (EL.out.drop K).cells
      have OW5 := Lib.hid (ow5.own (by omega))
      have OT6 := Lib.hid (ot5.own (by decide) OS4.out); have OT7 := Lib.hid (ot5.own (by decide) OS5.out)
      have HA5 := Lib.hid (⟨u5, x5, ha5, rfl, rfl⟩ : ∃ v' w', (Builtin.append_ #[42, 42] 42 #[u4, .slice (some ⟨g, K, none⟩) (N - K) (cW - K)]).run Tryd.prog x4 = .ok v' w' ∧ v' = u5 ∧ w' = x5)
      have BE5 := Lib.hid be5
      clear ow4 be4 os4 kp4 ha5 ow5 be5 ot5 HA3 OS3 OS4 OS5 BE4
      refine hKQ.out _ _ (fun _ => trivial) (fun hH => ?_)
      replace hHeld := hH (by decide)
      clear hKQ KQ hH
      try simp only [Act.put, List.setIfInBounds_toArray, List.set_cons_zero, List.set_cons_succ]
      refine wpAnyT_one (i := 8) rfl (by kernel_rfl) (fun KQ hKQ => ?_)
      (refine step_append_ex (by rfl) _ _ _ (by rfl) (by rfl) (by rfl) (HA5.out) ?_)
      rintro v' w' ⟨hv', hw'⟩
      rw [hv', hw']
      clear hv' hw' v' w'
      refine hKQ.out _ _ (fun _ => trivial) (fun hH => ?_)
      replace hHeld := hH (by decide)
      clear hKQ KQ hH HA5
      try simp only [Act.put, List.setIfInBounds_toArray, List.set_cons_zero, List.set_cons_succ]
      refine wpAnyT_one (i := 9) rfl (by kernel_rfl) (fun KQ hKQ => ?_)
      go_simp
      refine hKQ.out _ _ (fun h => absurd rfl h) (fun _ => ?_)
      clear hKQ KQ hHeld
      try simp only [Act.put, List.setIfInBounds_toArray, List.set_cons_zero, List.set_cons_succ]
      refine wpAnyT_done (by kernel_rfl) ?_ _
      obtain ⟨aO, cO, rfl, _⟩ := OW5.out.len
      have e20 : Ext w x5 := e3.trans BE5.out
      have RO := Lib.hid ((((EL.out.ext BE5.out).take K).app (El.of1 OT7.out)).app (El.of1 OT6.out) |>.app ((EL.out.ext BE5.out).drop K) |>.rd OW5.out.rd)
      have RT5 := Lib.hid (RT1.out.ext BE5.out); have EL5 := Lib.hid (EL.out.ext BE5.out)
      clear OW5 OT6 OT7 BE5
      have bel0 : Below x5.heap.size x5 (x5.alloc (.cells #[] 22)) := (Below.refl _ _).alloc (Nat.le_refl _) _
      have own0 : Own (x5.alloc (.cells #[] 22)) x5.heap.size 22 1 (.slice (some ⟨x5.heap.size, 0, none⟩) 0 0) 0 [] := Own.made x5 x5.heap.size 22 1 0 #[] (Nat.le_refl _) (by omega) rfl
      obtain ⟨u6, x6, ha6, ow6, be6⟩ := app_rd (P := Tryd.prog) 42 42 22 i _ 1 24 Tryd.underlying42 hI.out.1 hI.out.2.1 hI.out.2.2.1 hI.out.2.2.2 rfl (by omega) (by omega) bel0 own0 (by omega) (RT5.out.ext bel0) (by omega) (EL5.out.take K).cells
      rw [Nat.zero_add, List.nil_append] at ow6
      obtain ⟨u7, x7, ha7, ow7, be7, os7, _⟩ := add10 0 0 ⟨#[]⟩ be6 ow6 (by omega)
      obtain ⟨aB, cB, rfl, _⟩ := ow7.len
      have RB := Lib.hid ((((EL5.out.ext be7).take K).app (El.of1 os7)).rd ow7.rd)
      have RO7 := Lib.hid (RO.out.ext be7)
      have e21 : Ext w x7 := e20.trans be7
      have HA6 := Lib.hid ha6; have HA7 := Lib.hid ha7
      clear ha6 ha7 ow6 ow7 be6 be7 os7 own0 bel0 RO RT5 EL5 RT1 EL RD1
      go_wp2_with (at_builtin; first | (with_reducible refine wpList_append_run rfl rfl HA6.out rfl rfl ?_) | (with_reducible refine wpList_append_run rfl rfl HA7.out rfl rfl ?_))
      clear HA6 HA7
      refine (OO.out _ _ _ _ e21 RO7.out).mono ?_; rintro e w22 ⟨hx22, aP, nP, cP, rfl, rP⟩
      have e22 : Ext w w22 := e21.trans hx22
      replace RO7 := Lib.hid (RO7.out.ext hx22)
      replace RB := Lib.hid (RB.out.ext hx22)
      have RP := Lib.hid rP
      clear hx22 rP
      go_wp2_with fail
      refine (CO.out _ _ _ _ e22 RO7.out).mono ?_; rintro e w23 ⟨rfl, hx23⟩
      have e23 : Ext w w23 := e22.trans hx23
      replace RO7 := Lib.hid (RO7.out.ext hx23)
      replace RB := Lib.hid (RB.out.ext hx23)
      replace RP := Lib.hid (RP.out.ext hx23)
      clear hx23
      go_wp2_with fail
      refine (OB.out _ _ _ _ e23 RB.out).mono ?_; rintro e w24 ⟨hx24, aQ, nQ, cQ, rfl, rQ⟩
      have e24 : Ext w w24 := e23.trans hx24
      replace RO7 := Lib.hid (RO7.out.ext hx24)
      replace RB := Lib.hid (RB.out.ext hx24)
      replace RP := Lib.hid (RP.out.ext hx24)
      have RQ := Lib.hid rQ
      clear hx24 rQ
      obtain rfl : 0 = nP := RP.out.1
      obtain rfl : 0 = nQ := RQ.out.1
      go_wp2_with fail
      go_ret
      exact ⟨rfl, e24⟩
    · have RT1 := Lib.hid rt
      have RD1 : Hid (Rd w2 1 (.slice (some ⟨g, 0, none⟩) 0 0) 0 (vs.drop N)) := Lib.hid (by
        rw [List.drop_of_length_le (by omega)]
        exact Rd.zero1 _ _ _)
      clear rt rd hvs
      have RT := Lib.hid (RW.out.take hKN)
      go_wp2_with fail
      refine (CT.out _ _ _ e2 RT.out).mono ?_; rintro e w3 ⟨rfl, hx3⟩
      have e3 : Ext w w3 := e2.trans hx3
      replace RW := Lib.hid (RW.out.ext hx3)
      replace RT1 := Lib.hid (RT1.out.ext hx3)
      replace RD1 := Lib.hid (RD1.out.ext hx3)
      replace EL := Lib.hid (EL.out.ext hx3)
      replace RT := Lib.hid (RT.out.ext hx3)
      clear hx3
      clear RT
      have hkb : 0 ≤ k1 + 1 := by omega
      have bel0 : Below w3.heap.size w3 (w3.alloc (.cells #[] 22)) := (Below.refl _ _).alloc (Nat.le_refl _) _
      have own0 : Own (w3.alloc (.cells #[] 22)) w3.heap.size 22 1 (.slice (some ⟨w3.heap.size, 0, none⟩) 0 0) 0 [] := Own.made w3 w3.heap.size 22 1 0 #[] (Nat.le_refl _) (by omega) rfl
      obtain ⟨u1, x1, ha1, ow1, be1⟩ := app_rd (P := Tryd.prog) 42 42 22 i _ 1 24 Tryd.underlying42 hI.out.1 hI.out.2.1 hI.out.2.2.1 hI.out.2.2.2 rfl (by omega) (by omega) bel0 own0 (by omega) (RT1.out.ext bel0) (by omega) (EL.out.take N).cells
      rw [Nat.zero_add, List.nil_append] at ow1
      obtain ⟨u2, x2, ha2, ow2, be2, os2, _⟩ := add10 1 (k1 + 1) ⟨#[]⟩ be1 ow1 (by omega)
      have HA1 := Lib.hid ha1; have HA2 := Lib.hid ha2
      have OW2 := Lib.hid ow2; have OS2 := Lib.hid os2; have BE2 := Lib.hid be2
      clear ha1 ha2 ow1 ow2 be1 be2 os2 own0 bel0
      go_wp2_with (at_builtin; first | (with_reducible refine wpList_append_run rfl rfl HA1.out rfl rfl ?_) | (with_reducible refine wpList_append_run rfl rfl HA2.out rfl rfl ?_))
      clear HA1 HA2
      refine region_T (fun _ => True) 9 (by kernel_rfl) trivial (fun hHeld => ?_)
      obtain ⟨Wd, hWd⟩ : ∃ x, x2.drew = x := ⟨_, rfl⟩
      have hdx : Ext x2 Wd := by rw [← hWd]; exact (Ext.refl _).drew
      have OW3 : Hid (Own Wd w3.heap.size 22 1 u2 (N + 1) (vs.take N ++ [.slice (some ⟨x1.heap.size, 0, none⟩) 1 1])) := Lib.hid (by rw [← hWd]; exact OW2.out.drew)
      have OS3 : Hid (Own Wd x1.heap.size 60 3 (.slice (some ⟨x1.heap.size, 0, none⟩) 1 1) 1 [.int .i64 1, .int .i64 (k1 + 1), .string ⟨#[]⟩]) := Lib.hid (by rw [← hWd]; exact OS2.out.drew)
      have BE3 : Hid (Below w3.heap.size w3 Wd) := Lib.hid (by rw [← hWd]; exact BE2.out.drew)
      rw [hWd]
      clear hWd OW2 OS2 BE2 hdx
      have HA3 := Lib.hid (add10 0 0 ⟨#[]⟩ BE3.out OW3.out (by omega))
      clear OW3
      refine wpAnyT_take (i := 0) (v := ?_) rfl (by kernel_rfl) (fun _ _ _ h => h) (Or.inl ⟨by rfl, ?_⟩) (by assumption) ?_
      rotate_left
      · (intro W hSw; (try dsimp only at hSw); go_simp; (try with_reducible rfl))
      try simp only [Act.put, List.setIfInBounds_toArray, List.set_cons_zero, List.set_cons_succ]
      refine wpAnyT_take (i := 1) (v := ?_) rfl (by kernel_rfl) (fun _ _ _ h => h) (Or.inl ⟨by rfl, ?_⟩) (by assumption) ?_
      rotate_left
      · (intro W hSw; (try dsimp only at hSw); go_simp; (try with_reducible rfl))
      try simp only [Act.put, List.setIfInBounds_toArray, List.set_cons_zero, List.set_cons_succ]
      refine wpAnyT_take (i := 5) (v := ?_) rfl (by kernel_rfl) (fun _ _ _ h => h) (Or.inl ⟨by rfl, ?_⟩) (by assumption) ?_
      rotate_left
      · (intro W hSw; (try dsimp only at hSw); go_simp; (try with_reducible rfl))
      try simp only [Act.put, List.setIfInBounds_toArray, List.set_cons_zero, List.set_cons_succ]
      refine wpAnyT_take (i := 6) (v := ?_) rfl (by kernel_rfl) (fun _ _ _ h => h) (Or.inl ⟨by rfl, ?_⟩) (by assumption) ?_
      rotate_left
      · (intro W hSw; (try dsimp only at hSw); go_simp; (try with_reducible rfl))
      try simp only [Act.put, List.setIfInBounds_toArray, List.set_cons_zero, List.set_cons_succ]
      refine wpAnyT_take (i := 7) (v := ?_) rfl (by kernel_rfl) (fun _ _ _ h => h) (Or.inl ⟨by rfl, ?_⟩) (by assumption) ?_
      rotate_left
      · (intro W hSw; (try dsimp only at hSw); go_simp; (try with_reducible rfl))
      try simp only [Act.put, List.setIfInBounds_toArray, List.set_cons_zero, List.set_cons_succ]
      refine wpAnyT_one (i := 2) rfl (by kernel_rfl) (fun KQ hKQ => ?_)
      go_simp
      refine hKQ.out _ _ (fun _ => trivial) (fun hH => ?_)
      replace hHeld := hH (by decide)
      clear hKQ KQ hH
      try simp only [Act.put, List.setIfInBounds_toArray, List.set_cons_zero, List.set_cons_succ]
      refine wpAnyT_one (i := 3) rfl (by kernel_rfl) (fun KQ hKQ => ?_)
      go_simp
      refine hKQ.out _ _ (fun _ => trivial) (fun hH => ?_)
      replace hHeld := hH (by decide)
      clear hKQ KQ hH
      try simp only [Act.put, List.setIfInBounds_toArray, List.set_cons_zero, List.set_cons_succ]
      refine wpAnyT_one (i := 4) rfl (by kernel_rfl) (fun KQ hKQ => ?_)
      (refine step_append_ex (by rfl) _ _ _ (by rfl) (by rfl) (by rfl) (HA3.out) ?_)
      rintro u4 x4 ⟨ow4, be4, os4, kp4⟩
      have OS4 := Lib.hid os4; have OS5 := Lib.hid (kp4 _ _ _ _ OS3.out); have BE4 := Lib.hid be4
      obtain ⟨u5, x5, ha5, ow5, be5, ot5⟩ := app_erdo (P := Tryd.prog) 42 42 22 i _ 1 24 Tryd.underlying42 hI.out.1 hI.out.2.1 hI.out.2.2.1 hI.out.2.2.2 rfl (by omega) (by omega) be4 ow4.2 (.inr ow4) (by omega) (RD1.out.ext be4) (by omega) (EL.out.drop N).cells
      have OW5 := Lib.hid (ow5.own (by omega))
      have OT6 := Lib.hid (ot5.own (by decide) OS4.out); have OT7 := Lib.hid (ot5.own (by decide) OS5.out)
      have HA5 := Lib.hid (⟨u5, x5, ha5, rfl, rfl⟩ : ∃ v' w', (Builtin.append_ #[42, 42] 42 #[u4, .slice (some ⟨g, 0, none⟩) (0) (0)]).run Tryd.prog x4 = .ok v' w' ∧ v' = u5 ∧ w' = x5)
      have BE5 := Lib.hid be5
      clear ow4 be4 os4 kp4 ha5 ow5 be5 ot5 HA3 OS3 OS4 OS5 BE4
      refine hKQ.out _ _ (fun _ => trivial) (fun hH => ?_)
      replace hHeld := hH (by decide)
      clear hKQ KQ hH
      try simp only [Act.put, List.setIfInBounds_toArray, List.set_cons_zero, List.set_cons_succ]
      refine wpAnyT_one (i := 8) rfl (by kernel_rfl) (fun KQ hKQ => ?_)
      (refine step_append_ex (by rfl) _ _ _ (by rfl) (by rfl) (by rfl) (HA5.out) ?_)
      rintro v' w' ⟨hv', hw'⟩
      rw [hv', hw']
      clear hv' hw' v' w'
      refine hKQ.out _ _ (fun _ => trivial) (fun hH => ?_)
      replace hHeld := hH (by decide)
      clear hKQ KQ hH HA5
      try simp only [Act.put, List.setIfInBounds_toArray, List.set_cons_zero, List.set_cons_succ]
      refine wpAnyT_one (i := 9) rfl (by kernel_rfl) (fun KQ hKQ => ?_)
      go_simp
      refine hKQ.out _ _ (fun h => absurd rfl h) (fun _ => ?_)
      clear hKQ KQ hHeld
      try simp only [Act.put, List.setIfInBounds_toArray, List.set_cons_zero, List.set_cons_succ]
      refine wpAnyT_done (by kernel_rfl) ?_ _
      obtain ⟨aO, cO, rfl, _⟩ := OW5.out.len
      have e20 : Ext w x5 := e3.trans BE5.out
      have RO := Lib.hid ((((EL.out.ext BE5.out).take N).app (El.of1 OT7.out)).app (El.of1 OT6.out) |>.app ((EL.out.ext BE5.out).drop N) |>.rd OW5.out.rd)
      have RT5 := Lib.hid (RT1.out.ext BE5.out); have EL5 := Lib.hid (EL.out.ext BE5.out)
      clear OW5 OT6 OT7 BE5
      have bel0 : Below x5.heap.size x5 (x5.alloc (.cells #[] 22)) := (Below.refl _ _).alloc (Nat.le_refl _) _
      have own0 : Own (x5.alloc (.cells #[] 22)) x5.heap.size 22 1 (.slice (some ⟨x5.heap.size, 0, none⟩) 0 0) 0 [] := Own.made x5 x5.heap.size 22 1 0 #[] (Nat.le_refl _) (by omega) rfl
      obtain ⟨u6, x6, ha6, ow6, be6⟩ := app_rd (P := Tryd.prog) 42 42 22 i _ 1 24 Tryd.underlying42 hI.out.1 hI.out.2.1 hI.out.2.2.1 hI.out.2.2.2 rfl (by omega) (by omega) bel0 own0 (by omega) (RT5.out.ext bel0) (by omega) (EL5.out.take N).cells
      rw [Nat.zero_add, List.nil_append] at ow6
      obtain ⟨u7, x7, ha7, ow7, be7, os7, _⟩ := add10 0 0 ⟨#[]⟩ be6 ow6 (by omega)
      obtain ⟨aB, cB, rfl, _⟩ := ow7.len
      have RB := Lib.hid ((((EL5.out.ext be7).take N).app (El.of1 os7)).rd ow7.rd)
      have RO7 := Lib.hid (RO.out.ext be7)
      have e21 : Ext w x7 := e20.trans be7
      have HA6 := Lib.hid ha6; have HA7 := Lib.hid ha7
      clear ha6 ha7 ow6 ow7 be6 be7 os7 own0 bel0 RO RT5 EL5 RT1 EL RD1
      go_wp2_with (at_builtin; first | (with_reducible refine wpList_append_run rfl rfl HA6.out rfl rfl ?_) | (with_reducible refine wpList_append_run rfl rfl HA7.out rfl rfl ?_))
      clear HA6 HA7
      refine (OO.out _ _ _ _ e21 RO7.out).mono ?_; rintro e w22 ⟨hx22, aP, nP, cP, rfl, rP⟩
      have e22 : Ext w w22 := e21.trans hx22
      replace RO7 := Lib.hid (RO7.out.ext hx22)
      replace RB := Lib.hid (RB.out.ext hx22)
      have RP := Lib.hid rP
      clear hx22 rP
      go_wp2_with fail
      refine (CO.out _ _ _ _ e22 RO7.out).mono ?_; rintro e w23 ⟨rfl, hx23⟩
      have e23 : Ext w w23 := e22.trans hx23
      replace RO7 := Lib.hid (RO7.out.ext hx23)
      replace RB := Lib.hid (RB.out.ext hx23)
      replace RP := Lib.hid (RP.out.ext hx23)
      clear hx23
      go_wp2_with fail
      refine (OB.out _ _ _ _ e23 RB.out).mono ?_; rintro e w24 ⟨hx24, aQ, nQ, cQ, rfl, rQ⟩
      have e24 : Ext w w24 := e23.trans hx24
      replace RO7 := Lib.hid (RO7.out.ext hx24)
      replace RB := Lib.hid (RB.out.ext hx24)
      replace RP := Lib.hid (RP.out.ext hx24)
      have RQ := Lib.hid rQ
      clear hx24 rQ
      obtain rfl : 0 = nP := RP.out.1
      obtain rfl : 0 = nQ := RQ.out.1
      go_wp2_with fail
      go_ret
      exact ⟨rfl, e24⟩
end Go.Proofs.YtcelgdoaohkgnaaDoor
