/- Layer 6, GapsNormal. -/
import Derived.Test.YtelepadnbgcbnaaDoorP6
import Derived.Test.YtelepadnbgcbnaaDoorFr
import Derived.Test.YtelepadnbgcbnaaDoorL5b
namespace Go.Proofs.YtelepadnbgcbnaaDoor
open Go.RowKit
set_option maxRecDepth 100000
set_option maxHeartbeats 4000000

theorem GapsOf.ok {w w' : World} {l : List Sp} {e : Ending} (h : GapsOf w w' l e) (hE : gapsE l = 0) {n : Nat} (hn : inL l = n) :
    ∃ A c B d, e = .returned (.tuple #[.agg #[.slice A (n + 1) c, .slice B n d], .int .i64 0]) ∧ Ext w w' ∧ Rd w' 1 (.slice A (n + 1) c) (n + 1) ((putC (gpP (tok l))).map Value.string) ∧ Rd w' 1 (.slice B n d) n ((gpD (tok l)).map Value.bool) := by
  obtain ⟨hx, ⟨h1, _⟩ | ⟨_, va, vb, rfl, r1, r2⟩⟩ := h
  · exact absurd hE h1
  · have e : (inL l).toNat = n := by omega
    rw [e] at r1 r2
    obtain ⟨A, c, rfl, _⟩ := r1.len
    obtain ⟨B, d, rfl, _⟩ := r2.len
    exact ⟨A, c, B, d, rfl, hx, r1, r2⟩
theorem tok_raw (ps : List (List Nat)) (ds : List Bool) (h : ps.length = ds.length + 1) (hc : ∀ p ∈ ps, ∀ c ∈ p, IsCp c) : tok (raw (putC ps) ds) = ug ps ds ∧ (∀ s ∈ raw (putC ps) ds, OkW s) := by
  induction ds generalizing ps with
  | nil =>
    match ps, h with
    | [p], _ =>
      have hd : dec (bs (mkS (encs p))) = some p := by rw [bs_mkS, dec_encs (hc p (List.mem_cons_self ..))]
      refine ⟨?_, ?_⟩
      · show tokS (2, 0, mkS (encs p)) ++ [] = _
        rw [tokS_text _ _ hd, List.append_nil]; rfl
      · intro s hs
        rcases List.mem_cons.1 hs with rfl | hs
        · exact .inl ⟨rfl, rfl, p, hd⟩
        · cases hs
  | cons d ds ih =>
    cases ps with
    | nil => simp at h
    | cons p ps =>
      have hd : dec (bs (mkS (encs p))) = some p := by rw [bs_mkS, dec_encs (hc p (List.mem_cons_self ..))]
      obtain ⟨h1, h2⟩ := ih ps (by simpa using h) (fun q hq => hc q (List.mem_cons_of_mem _ hq))
      refine ⟨?_, ?_⟩
      · show tokS (2, 0, mkS (encs p)) ++ (tokS (if d then 3 else 1, 1, ⟨#[]⟩) ++ tok (raw (putC ps) ds)) = _
        rw [tokS_text _ _ hd, h1]
        cases d <;> rfl
      · intro s hs
        rcases List.mem_cons.1 hs with rfl | hs
        · exact .inl ⟨rfl, rfl, p, hd⟩
        · rcases List.mem_cons.1 hs with rfl | hs
          · refine .inr ⟨?_, by show (0 : Int) ≤ 1; omega, rfl⟩
            cases d
            · exact .inl rfl
            · exact .inr rfl
          · exact h2 s hs
theorem putC_inj {a b : List (List Nat)} (ha : ∀ p ∈ a, ∀ c ∈ p, IsCp c) (hb : ∀ p ∈ b, ∀ c ∈ p, IsCp c) (h : putC a = putC b) : a = b := by
  induction a generalizing b with
  | nil => cases b with
    | nil => rfl
    | cons q b => simp [putC] at h
  | cons p a ih =>
    cases b with
    | nil => simp [putC] at h
    | cons q b =>
      simp only [putC, List.map_cons, List.cons.injEq] at h
      have e1 : dec (bs (mkS (encs p))) = dec (bs (mkS (encs q))) := by rw [h.1]
      rw [bs_mkS, bs_mkS, dec_encs (ha p (List.mem_cons_self ..)), dec_encs (hb q (List.mem_cons_self ..))] at e1
      injection e1 with e1
      rw [e1, ih (fun x hx => ha x (List.mem_cons_of_mem _ hx)) (fun x hx => hb x (List.mem_cons_of_mem _ hx)) h.2]
theorem gpP_sum (ts : List Tok) : ((putC (gpP ts)).map fun t => t.size).sum = (encs (insT ts)).length := by
  induction ts with
  | nil => rfl
  | cons t ts ih =>
    cases t with
    | ins c =>
      obtain ⟨x, r, hx⟩ := gpP_head ts
      rw [hx] at ih
      have e : insT (Tok.ins c :: ts) = c :: insT ts := rfl
      have e2 : gpP (Tok.ins c :: ts) = (c :: x) :: r := by rw [gpP, hx]; rfl
      rw [e2, e]
      simp only [putC, List.map_cons, List.sum_cons, size_mkS, encs_cons, List.length_append] at ih ⊢
      omega
    | keep =>
      have e : insT (Tok.keep :: ts) = insT ts := rfl
      have e0 : (mkS (encs [])).size = 0 := rfl
      rw [gpP, e]
      simp only [putC, List.map_cons, List.sum_cons, e0] at ih ⊢
      omega
    | del =>
      have e : insT (Tok.del :: ts) = insT ts := rfl
      have e0 : (mkS (encs [])).size = 0 := rfl
      rw [gpP, e]
      simp only [putC, List.map_cons, List.sum_cons, e0] at ih ⊢
      omega
theorem okTs_put (ps : List (List Nat)) (hc : ∀ p ∈ ps, ∀ c ∈ p, IsCp c) : okTs (putC ps) = true := by
  unfold okTs
  rw [List.all_eq_true]
  intro t ht
  obtain ⟨p, hp, rfl⟩ := List.mem_map.1 ht
  rw [bs_mkS, dec_encs (hc p hp)]; rfl
/-- What is made of an operation's gaps is its shortest form. -/
theorem raw_norm (l : List Sp) (h : ∀ s ∈ l, OkW s) : normL (raw (putC (gpP (tok l))) (gpD (tok l))) = normL l := by
  have hc := gpP_cp (tok l) (tok_okT l h)
  obtain ⟨h1, h2⟩ := tok_raw (gpP (tok l)) (gpD (tok l)) (gpP_length _) hc
  rw [norm_iff _ _ h2 h, h1, ug_gp]
theorem spansE_gaps (l : List Sp) (h : ∀ s ∈ l, OkW s) (hn : inL l ≤ 512) : spansE (putC (gpP (tok l))) (gpD (tok l)) = 0 := by
  have h1 := (tin_ok l h).1
  rw [← gpD_length] at h1
  unfold spansE
  rw [putC_length, gpP_length, if_pos rfl, if_neg (by omega), if_pos (okTs_put _ (gpP_cp (tok l) (tok_okT l h)))]
/-- Two operations have the same gaps just if they have the same shortest form. -/
theorem gaps_iff (l m : List Sp) (hl : ∀ s ∈ l, OkW s) (hm : ∀ s ∈ m, OkW s) : (putC (gpP (tok l)) = putC (gpP (tok m)) ∧ gpD (tok l) = gpD (tok m)) ↔ normL l = normL m := by
  rw [norm_iff l m hl hm, ← gp_iff]
  exact ⟨fun h => ⟨putC_inj (gpP_cp _ (tok_okT l hl)) (gpP_cp _ (tok_okT m hm)) h.1, h.2⟩, fun h => ⟨by rw [h.1], h.2⟩⟩
def ex6 : List Sp := [(1, 1, ⟨#[]⟩), (3, 1, ⟨#[]⟩), (2, 0, ⟨#[120]⟩)]
theorem ex6_e : gapsE ex6 = 0 := by decide +kernel
theorem ex6_p : putC (gpP (tok ex6)) = [⟨#[]⟩, ⟨#[]⟩, ⟨#[120]⟩] := by decide +kernel
theorem ex6_d : gpD (tok ex6) = [false, true] := by decide +kernel
theorem shown6_c (w : World) [Tab w] : Calls Tryd.prog 9 #[] w fun e w' => e = .returned (.bool true) ∧ Ext w w' := by
  have hrd : Rd (w.alloc (.cells #[.int .i64 1, .int .i64 1, .string ⟨#[]⟩, .int .i64 3, .int .i64 1, .string ⟨#[]⟩, .int .i64 2, .int .i64 0, .string ⟨#[120]⟩] 29)) 3 (.slice (some ⟨w.heap.size, 0, none⟩) 3 3) 3 (spCells ex6) :=
    (Own.made w w.heap.size 29 3 3 _ (Nat.le_refl _) (by omega) rfl).rd
  have hts : ∀ s ∈ ex6, s.2.2.size ≤ 1000000000 := by
    intro s hs
    simp only [ex6, List.mem_cons, List.not_mem_nil, or_false] at hs
    rcases hs with rfl | rfl | rfl <;> decide
  have hg := (gaps_c _ _ _ ex6 _ hrd rfl (by omega) hts (by decide)).mono fun e w' h => h.ok ex6_e (n := 2) rfl
  rw [ex6_p, ex6_d] at hg
  have HG := Lib.hid hg
  have HX := Lib.hid ((Ext.refl w).alloc (.cells #[.int .i64 1, .int .i64 1, .string ⟨#[]⟩, .int .i64 3, .int .i64 1, .string ⟨#[]⟩, .int .i64 2, .int .i64 0, .string ⟨#[120]⟩] 29))
  clear hrd hts hg
  go_enter Tryd.func9, Tryd.ntmps9
  go_wp2_with fail
  refine HG.out.mono ?_; rintro e w1 ⟨A, c, B, d, rfl, hx1, r1, r2⟩
  have HR1 := Lib.hid r1; have HR2 := Lib.hid r2
  clear r1 r2
  go_wp2_with fail
  have hs := same6_c A B (some ⟨w1.heap.size + 1, 0, none⟩) (some ⟨w1.heap.size + 1 + 1, 0, none⟩) 3 c 2 d 3 3 2 2 [⟨#[]⟩, ⟨#[]⟩, ⟨#[120]⟩] [⟨#[]⟩, ⟨#[]⟩, ⟨#[120]⟩] [false, true] [false, true]
    (((w1.alloc (.cells #[.slice A 3 c, .slice B 2 d] 26)).alloc (.cells #[.string ⟨#[]⟩, .string ⟨#[]⟩, .string ⟨#[120]⟩] 9)).alloc (.cells #[.bool false, .bool true] 4))
    (HR1.out.ext ((((Ext.refl w1).alloc _).alloc _).alloc _)) (HR2.out.ext ((((Ext.refl w1).alloc _).alloc _).alloc _)) (rd_row (t := 9) (three w1 _ _ _).2.1 rfl) (rd_row (t := 4) (three w1 _ _ _).2.2 rfl) rfl rfl rfl rfl (by omega) (by omega)
  rw [decide_eq_true ⟨rfl, rfl⟩] at hs
  refine hs.mono ?_; rintro e w2 ⟨rfl, hx2⟩
  go_wp2_with fail
  go_ret
  exact ⟨rfl, ((HX.out.trans hx1).trans ((((Ext.refl w1).alloc _).alloc _).alloc _)).trans hx2⟩
end Go.Proofs.YtelepadnbgcbnaaDoor
namespace Go.Proofs.YtelepadnbgcbnaaDoor
open Go.RowKit
set_option maxRecDepth 100000
set_option maxHeartbeats 4000000
/-- An operation that Fit made: all that the contracts ask. -/
theorem fit_all (l : List Sp) (n : Int) (h0 : 0 ≤ n) (h1 : n ≤ 63) : (∀ s ∈ fitL l n, OkW s) ∧ inL (fitL l n) = n ∧ gapsE (fitL l n) = 0 ∧ Ok (fitL l n) ∧ (fitL l n).length ≤ 13 ∧ (∀ s ∈ fitL l n, s.2.2.size ≤ 1000000000) ∧ sumT (fitL l n) ≤ 1000000000 := by
  obtain ⟨hm, hi⟩ := fitL_all l n h0 (by omega)
  have ho := fit_ok l n h0 (by omega)
  refine ⟨fun s hs => okW_of_may (hm s hs), hi, ?_, ho, fitL_len l n, fun s hs => by have := fitL_text l n s hs; omega, ho.t⟩
  unfold gapsE
  rw [if_pos (fitL_may l n h0 (by omega)), hi, if_neg (by omega)]
theorem gapsNormal_c (A : Option Addr) (q c : Nat) (l : List Sp) (A' : Option Addr) (q' c' : Nat) (l' : List Sp) (n : Int) (w : World) [Tab w] (h : Rd w 3 (.slice A q c) q (spCells l)) (hl : l.length = q) (hs : ∀ s ∈ l, s.2.2.size ≤ maxLen)
    (h' : Rd w 3 (.slice A' q' c') q' (spCells l')) (hl' : l'.length = q') (hs' : ∀ s ∈ l', s.2.2.size ≤ maxLen) (hn : (Lit.int .u8 n).wf = true) :
    Calls Tryd.prog 5 #[.slice A q c, .slice A' q' c', .int .u8 n] w fun e w' => e = .returned (.bool true) ∧ Below w.heap.size w w' := by
  obtain ⟨a0, a1⟩ := bounds_u8 hn
  obtain ⟨m, hm, hm0, hm1⟩ : ∃ m : Int, n % 64 = m ∧ 0 ≤ m ∧ m ≤ 63 := ⟨_, rfl, by omega, by omega⟩
  have HFIT : Hid (∀ w', Ext w w' → _) := Lib.hid fun w' hx => fitR4_c A q c l m w' (h.ext hx) hl hs hm0 (by omega)
  have HFIT' : Hid (∀ w', Ext w w' → _) := Lib.hid fun w' hx => fitR4_c A' q' c' l' m w' (h'.ext hx) hl' hs' hm0 (by omega)
  obtain ⟨f1, f2, f3, f4, f5, f6, f7⟩ := fit_all l m hm0 hm1
  obtain ⟨g1, g2, g3, g4, g5, g6, g7⟩ := fit_all l' m hm0 hm1
  generalize fitL l m = xs at *
  generalize fitL l' m = ys at *
  obtain ⟨M, rfl⟩ : ∃ M : Nat, m = (M : Int) := ⟨m.toNat, by omega⟩
  have hiff := gaps_iff xs ys f1 g1
  have hraw := raw_norm xs f1
  have hse := spansE_gaps xs f1 (by omega)
  obtain ⟨nx, hnx⟩ : ∃ nx, xs.length = nx := ⟨_, rfl⟩
  obtain ⟨ny, hny⟩ : ∃ ny, ys.length = ny := ⟨_, rfl⟩
  rw [hnx] at HFIT f5
  rw [hny] at HFIT' g5
  have hpl : (putC (gpP (tok xs))).length = M + 1 := by
    have := (tin_ok xs f1).1
    rw [← gpD_length, f2] at this
    rw [putC_length, gpP_length]; omega
  have hdl : (gpD (tok xs)).length = M := by
    have := (tin_ok xs f1).1
    rw [← gpD_length, f2] at this; omega
  have hpl' : (putC (gpP (tok ys))).length = M + 1 := by
    have := (tin_ok ys g1).1
    rw [← gpD_length, g2] at this
    rw [putC_length, gpP_length]; omega
  have hdl' : (gpD (tok ys)).length = M := by
    have := (tin_ok ys g1).1
    rw [← gpD_length, g2] at this; omega
  have hpt : ∀ t ∈ putC (gpP (tok xs)), t.size ≤ 1000000000 := by
    intro t ht
    obtain ⟨p, hp, rfl⟩ := List.mem_map.1 ht
    have := gpP_le _ p hp
    have := insT_sum xs f1
    rw [size_mkS]; omega
  have hnl := norm_len xs
  have hnl' := norm_len ys
  have HG : Hid (∀ A k c w', Ext w w' → xs.length = k → Rd w' 3 (.slice A k c) k (spCells xs) → _) := Lib.hid fun A k c w' hx hk hr => have hTb := tab_ext hx; (gaps_c A k c xs w' hr hk (by omega) f6 f7).mono fun e w'' h => h.ok f3 f2
  have HG' : Hid (∀ A k c w', Ext w w' → ys.length = k → Rd w' 3 (.slice A k c) k (spCells ys) → _) := Lib.hid fun A k c w' hx hk hr => have hTb := tab_ext hx; (gaps_c A k c ys w' hr hk (by omega) g6 g7).mono fun e w'' h => h.ok g3 g2
  have HO : Hid (∀ A k c w', xs.length = k → Rd w' 3 (.slice A k c) k (spCells xs) → _) := Lib.hid fun A k c w' hk hr => of5_c A k c xs w' hr hk (by omega) f4
  have HO' : Hid (∀ A k c w', ys.length = k → Rd w' 3 (.slice A k c) k (spCells ys) → _) := Lib.hid fun A k c w' hk hr => of5_c A k c ys w' hr hk (by omega) g4
  have hpsum : ((putC (gpP (tok xs))).map fun t => t.size).sum ≤ 1000000000 := by
    have := insT_sum xs f1
    rw [gpP_sum]; omega
  have HS : Hid (∀ A c B d w', Ext w w' → Rd w' 1 (.slice A (M + 1) c) (M + 1) ((putC (gpP (tok xs))).map Value.string) → Rd w' 1 (.slice B M d) M ((gpD (tok xs)).map Value.bool) → Calls Tryd.prog 12 #[.agg #[.slice A (M + 1) c, .slice B M d]] w' fun e w'' => ∃ v, e = .returned (.tuple #[v, .int .i64 0]) ∧ Ext w' w'' ∧ Rd w'' 3 v (normL xs).length (spCells (normL xs))) := Lib.hid fun A c B d w' hx hr1 hr2 => by
    have hTb := tab_ext hx
    refine (spans_c A B (M + 1) c M d _ _ w' hr1 hr2 hpl hdl (by omega) (by omega) hpt hpsum).mono ?_
    rintro e w'' ⟨hx, ⟨h1, _⟩ | ⟨_, v, rfl, hr⟩⟩
    · exact absurd hse h1
    · rw [hraw] at hr
      exact ⟨v, rfl, hx, hr⟩
  have HM : Hid (∀ A c B d A' c' B' d' w', Rd w' 1 (.slice A (M + 1) c) (M + 1) ((putC (gpP (tok xs))).map Value.string) → Rd w' 1 (.slice B M d) M ((gpD (tok xs)).map Value.bool) → Rd w' 1 (.slice A' (M + 1) c') (M + 1) ((putC (gpP (tok ys))).map Value.string) → Rd w' 1 (.slice B' M d') M ((gpD (tok ys)).map Value.bool) →
      Calls Tryd.prog 15 #[.agg #[.slice A (M + 1) c, .slice B M d], .agg #[.slice A' (M + 1) c', .slice B' M d']] w' fun e w'' => e = .returned (.bool (decide (normL xs = normL ys))) ∧ Ext w' w'') := Lib.hid fun A c B d A' c' B' d' w' r1 r2 r3 r4 => by
    have h := same6_c A B A' B' (M + 1) c M d (M + 1) c' M d' _ _ _ _ w' r1 r2 r3 r4 hpl hdl hpl' hdl' (by omega) (by omega)
    rw [show decide (putC (gpP (tok xs)) = putC (gpP (tok ys)) ∧ gpD (tok xs) = gpD (tok ys)) = decide (normL xs = normL ys) from decide_eq_decide.2 hiff] at h
    exact h
  have HNX := Lib.hid hnx; have HNY := Lib.hid hny
  have hL40 : (normL xs).length ≤ 40 := by omega
  have hL41 : (normL ys).length ≤ 40 := by omega
  clear h h' hl hl' hs hs' hn f1 f2 f3 f4 f6 f7 g1 g2 g3 g4 g6 g7 hiff hraw hse hpl hdl hpl' hdl' hpt hpsum hnl hnl' hnx hny
  generalize normL xs = X at *
  generalize normL ys = Y at *
  obtain ⟨nX, hnX⟩ : ∃ nX, X.length = nX := ⟨_, rfl⟩
  obtain ⟨nY, hnY⟩ : ∃ nY, Y.length = nY := ⟨_, rfl⟩
  rw [hnX] at HO HS hL40
  rw [hnY] at HO' hL41
  have HLX := Lib.hid hnX; have HLY := Lib.hid hnY
  clear hnX hnY
  go_enter Tryd.func5, Tryd.ntmps5
  go_wp2_with fail
  refine (shown6_c _).mono ?_; rintro e w1 ⟨rfl, hx1⟩
  go_wp2_with fail
  refine (HFIT.out _ hx1).mono ?_; rintro e w2 ⟨v2, rfl, hx2, hown2⟩
  obtain ⟨a2, c2, rfl, _⟩ := hown2.len
  have HR2 := Lib.hid hown2.rd
  clear hown2
  go_wp2_with fail
  refine (HFIT'.out _ (hx1.trans hx2)).mono ?_; rintro e w3 ⟨v3, rfl, hx3, hown3⟩
  obtain ⟨a3, c3, rfl, _⟩ := hown3.len
  have HR3 := Lib.hid hown3.rd
  clear hown3
  have e3 : Ext w w3 := (hx1.trans hx2).trans hx3
  go_wp2_with fail
  refine (HG.out _ _ _ _ e3 HNX.out (HR2.out.ext hx3)).mono ?_; rintro e w4 ⟨pa, pc, pb, pd, rfl, hx4, r4, s4⟩
  have HP4 := Lib.hid r4; have HS4 := Lib.hid s4
  clear r4 s4
  go_wp2_with fail
  refine (HG'.out _ _ _ _ ((e3.trans hx4).alloc _) HNY.out (HR3.out.ext (hx4.alloc _))).mono ?_; rintro e w5 ⟨qa, qc, qb, qd, rfl, hx5, r5, s5⟩
  have HP5 := Lib.hid r5; have HS5 := Lib.hid s5
  clear r5 s5
  have k0 := box_at _ _ _ _ (hx5.alloc (.cells #[.slice qa (M + 1) qc, .slice qb M qd] 26)) 0 _ rfl
  have k1 := box_at _ _ _ _ (hx5.alloc (.cells #[.slice qa (M + 1) qc, .slice qb M qd] 26)) 1 _ rfl
  have e45 : Ext w4 (w5.alloc (.cells #[.slice qa (M + 1) qc, .slice qb M qd] 26)) := (((Ext.refl w4).alloc _).trans hx5).alloc _
  go_wp2_with fail
  refine (HS.out _ _ _ _ _ ((e3.trans hx4).trans e45) (HP4.out.ext e45) (HS4.out.ext e45)).mono ?_; rintro e w6 ⟨v6, rfl, hx6, r6⟩
  obtain ⟨a6, c6, rfl, _⟩ := r6.len
  have HR6 := Lib.hid r6
  clear r6 k0 k1
  have e36 : Ext w3 w6 := (hx4.trans e45).trans hx6
  go_wp2_with fail
  refine (HO.out _ _ _ _ HNX.out (HR2.out.ext (hx3.trans e36))).mono ?_; rintro e w7 ⟨v7, rfl, hx7, hown7⟩
  obtain ⟨a7, c7, rfl, _⟩ := hown7.len
  have HR7 := Lib.hid hown7.rd
  clear hown7
  go_wp2_with fail
  refine (sameR4_c _ _ _ _ _ X w7 (HR6.out.ext hx7) HR7.out HLX.out (by omega)).mono ?_; rintro e w8 ⟨rfl, hx8⟩
  have e68 : Ext w6 w8 := hx7.trans hx8
  have m0 := box_at _ _ _ _ (((hx5.alloc (.cells #[.slice qa (M + 1) qc, .slice qb M qd] 26)).trans hx6).trans e68) 0 _ rfl
  have m1 := box_at _ _ _ _ (((hx5.alloc (.cells #[.slice qa (M + 1) qc, .slice qb M qd] 26)).trans hx6).trans e68) 1 _ rfl
  have n0 := box_at _ _ _ _ (hx6.trans e68) 0 _ rfl
  have n1 := box_at _ _ _ _ (hx6.trans e68) 1 _ rfl
  go_wp2_with fail
  refine (HM.out _ _ _ _ _ _ _ _ _ (HP4.out.ext ((e45.trans hx6).trans e68)) (HS4.out.ext ((e45.trans hx6).trans e68)) (HP5.out.ext ((((Ext.refl w5).alloc _).trans hx6).trans e68)) (HS5.out.ext ((((Ext.refl w5).alloc _).trans hx6).trans e68))).mono ?_; rintro e w9 ⟨rfl, hx9⟩
  have e39 : Ext w3 w9 := (e36.trans e68).trans hx9
  go_wp2_with fail
  refine (HO.out _ _ _ _ HNX.out (HR2.out.ext (hx3.trans e39))).mono ?_; rintro e wA ⟨vA, rfl, hxA, hownA⟩
  obtain ⟨aA, cA, rfl, _⟩ := hownA.len
  have HRA := Lib.hid hownA.rd
  clear hownA
  go_wp2_with fail
  refine (HO'.out _ _ _ _ HNY.out (HR3.out.ext (e39.trans hxA))).mono ?_; rintro e wB ⟨vB, rfl, hxB, hownB⟩
  obtain ⟨aB, cB, rfl, _⟩ := hownB.len
  have HRB := Lib.hid hownB.rd
  clear hownB
  go_wp2_with fail
  refine (sameG_c _ _ _ _ _ _ X Y wB (HRA.out.ext hxB) HRB.out HLX.out HLY.out (by omega)).mono ?_; rintro e wC ⟨rfl, hxC⟩
  have hfin : Ext w wC := (((e3.trans e39).trans hxA).trans hxB).trans hxC
  generalize decide (X = Y) = dd at *
  cases dd
  all_goals
    go_wp2_with fail
    go_ret
    exact ⟨rfl, hfin⟩
end Go.Proofs.YtelepadnbgcbnaaDoor
