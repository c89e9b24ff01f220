/- Layer 6, GapsNormal. -/
import Derived.Test.YtejgkhmpmnjgaaaDoorP6
import Derived.Test.YtejgkhmpmnjgaaaDoorFr
import Derived.Test.YtejgkhmpmnjgaaaDoorL5b
namespace Go.Proofs.YtejgkhmpmnjgaaaDoor
open Go.RowKit
set_option maxRecDepth 100000
set_option maxHeartbeats 4000000

theorem GapsOf.ok {w w' : World} {l : List Sp} {e : Ending} (h : GapsOf w w' l e) (hE : gapsE l = 0) {n : Nat} (hn : inL l = n) :
    ∃ A c B d, e = .returned (.tuple #[.agg #[.slice A (n + 1) c, .slice B n d], .int .i64 0]) ∧ Ext w w' ∧ Rd w' 1 (.slice A (n + 1) c) (n + 1) ((putC (gpP (tok l))).map Value.string) ∧ Rd w' 1 (.slice B n d) n ((gpD (tok l)).map Value.bool) := by
  obtain ⟨hx, ⟨h1, _⟩ | ⟨_, va, vb, rfl, r1, r2⟩⟩ := h
  · exact absurd hE h1
  · have e : (inL l).toNat = n := by omega
    rw [e] at r1 r2
    obtain ⟨A, c, rfl, _⟩ := r1.len
    obtain ⟨B, d, rfl, _⟩ := r2.len
    exact ⟨A, c, B, d, rfl, hx, r1, r2⟩
theorem tok_raw (ps : List (List Nat)) (ds : List Bool) (h : ps.length = ds.length + 1) (hc : ∀ p ∈ ps, ∀ c ∈ p, IsCp c) : tok (raw (putC ps) ds) = ug ps ds ∧ (∀ s ∈ raw (putC ps) ds, OkW s) := by
  induction ds generalizing ps with
  | nil =>
    match ps, h with
    | [p], _ =>
      have hd : dec (bs (mkS (encs p))) = some p := by rw [bs_mkS, dec_encs (hc p (List.mem_cons_self ..))]
      refine ⟨?_, ?_⟩
      · show tokS (2, 0, mkS (encs p)) ++ [] = _
        rw [tokS_text _ _ hd, List.append_nil]; rfl
      · intro s hs
        rcases List.mem_cons.1 hs with rfl | hs
        · exact .inl ⟨rfl, rfl, p, hd⟩
        · cases hs
  | cons d ds ih =>
    cases ps with
    | nil => simp at h
    | cons p ps =>
      have hd : dec (bs (mkS (encs p))) = some p := by rw [bs_mkS, dec_encs (hc p (List.mem_cons_self ..))]
      obtain ⟨h1, h2⟩ := ih ps (by simpa using h) (fun q hq => hc q (List.mem_cons_of_mem _ hq))
      refine ⟨?_, ?_⟩
      · show tokS (2, 0, mkS (encs p)) ++ (tokS (if d then 3 else 1, 1, ⟨#[]⟩) ++ tok (raw (putC ps) ds)) = _
        rw [tokS_text _ _ hd, h1]
        cases d <;> rfl
      · intro s hs
        rcases List.mem_cons.1 hs with rfl | hs
        · exact .inl ⟨rfl, rfl, p, hd⟩
        · rcases List.mem_cons.1 hs with rfl | hs
          · refine .inr ⟨?_, by show (0 : Int) ≤ 1; omega, rfl⟩
            cases d
            · exact .inl rfl
            · exact .inr rfl
          · exact h2 s hs
theorem putC_inj {a b : List (List Nat)} (ha : ∀ p ∈ a, ∀ c ∈ p, IsCp c) (hb : ∀ p ∈ b, ∀ c ∈ p, IsCp c) (h : putC a = putC b) : a = b := by
  induction a generalizing b with
  | nil => cases b with
    | nil => rfl
    | cons q b => simp [putC] at h
  | cons p a ih =>
    cases b with
    | nil => simp [putC] at h
    | cons q b =>
      simp only [putC, List.map_cons, List.cons.injEq] at h
      have e1 : dec (bs (mkS (encs p))) = dec (bs (mkS (encs q))) := by rw [h.1]
      rw [bs_mkS, bs_mkS, dec_encs (ha p (List.mem_cons_self ..)), dec_encs (hb q (List.mem_cons_self ..))] at e1
      injection e1 with e1
      rw [e1, ih (fun x hx => ha x (List.mem_cons_of_mem _ hx)) (fun x hx => hb x (List.mem_cons_of_mem _ hx)) h.2]
theorem gpP_sum (ts : List Tok) : ((putC (gpP ts)).map fun t => t.size).sum = (encs (insT ts)).length := by
  induction ts with
  | nil => rfl
  | cons t ts ih =>
    cases t with
    | ins c =>
      obtain ⟨x, r, hx⟩ := gpP_head ts
      rw [hx] at ih
      have e : insT (Tok.ins c :: ts) = c :: insT ts := rfl
      have e2 : gpP (Tok.ins c :: ts) = (c :: x) :: r := by rw [gpP, hx]; rfl
      rw [e2, e]
      simp only [putC, List.map_cons, List.sum_cons, size_mkS, encs_cons, List.length_append] at ih ⊢
      omega
    | keep =>
      have e : insT (Tok.keep :: ts) = insT ts := rfl
      have e0 : (mkS (encs [])).size = 0 := rfl
      rw [gpP, e]
      simp only [putC, List.map_cons, List.sum_cons, e0] at ih ⊢
      omega
    | del =>
      have e : insT (Tok.del :: ts) = insT ts := rfl
      have e0 : (mkS (encs [])).size = 0 := rfl
      rw [gpP, e]
      simp only [putC, List.map_cons, List.sum_cons, e0] at ih ⊢
      omega
theorem okTs_put (ps : List (List Nat)) (hc : ∀ p ∈ ps, ∀ c ∈ p, IsCp c) : okTs (putC ps) = true := by
  unfold okTs
  rw [List.all_eq_true]
  intro t ht
  obtain ⟨p, hp, rfl⟩ := List.mem_map.1 ht
  rw [bs_mkS, dec_encs (hc p hp)]; rfl
/-- What is made of an operation's gaps is its shortest form. -/
theorem raw_norm (l : List Sp) (h : ∀ s ∈ l, OkW s) : normL (raw (putC (gpP (tok l))) (gpD (tok l))) = normL l := by
  have hc := gpP_cp (tok l) (tok_okT l h)
  obtain ⟨h1, h2⟩ := tok_raw (gpP (tok l)) (gpD (tok l)) (gpP_length _) hc
  rw [norm_iff _ _ h2 h, h1, ug_gp]
theorem spansE_gaps (l : List Sp) (h : ∀ s ∈ l, OkW s) (hn : inL l ≤ 512) : spansE (putC (gpP (tok l))) (gpD (tok l)) = 0 := by
  have h1 := (tin_ok l h).1
  rw [← gpD_length] at h1
  unfold spansE
  rw [putC_length, gpP_length, if_pos rfl, if_neg (by omega), if_pos (okTs_put _ (gpP_cp (tok l) (tok_okT l h)))]
/-- Two operations have the same gaps just if they have the same shortest form. -/
theorem gaps_iff (l m : List Sp) (hl : ∀ s ∈ l, OkW s) (hm : ∀ s ∈ m, OkW s) : (putC (gpP (tok l)) = putC (gpP (tok m)) ∧ gpD (tok l) = gpD (tok m)) ↔ normL l = normL m := by
  rw [norm_iff l m hl hm, ← gp_iff]
  exact ⟨fun h => ⟨putC_inj (gpP_cp _ (tok_okT l hl)) (gpP_cp _ (tok_okT m hm)) h.1, h.2⟩, fun h => ⟨by rw [h.1], h.2⟩⟩
end Go.Proofs.YtejgkhmpmnjgaaaDoor
namespace Go.Proofs.YtejgkhmpmnjgaaaDoor
open Go.RowKit
set_option maxRecDepth 100000
set_option maxHeartbeats 4000000
/-- An operation that Fit made: all that the contracts ask. -/
theorem fit_all (l : List Sp) (n : Int) (h0 : 0 ≤ n) (h1 : n ≤ 63) : (∀ s ∈ fitL l n, OkW s) ∧ inL (fitL l n) = n ∧ gapsE (fitL l n) = 0 ∧ Ok (fitL l n) ∧ (fitL l n).length ≤ 13 ∧ (∀ s ∈ fitL l n, s.2.2.size ≤ 1000000000) ∧ sumT (fitL l n) ≤ 1000000000 := by
  obtain ⟨hm, hi⟩ := fitL_all l n h0 (by omega)
  have ho := fit_ok l n h0 (by omega)
  refine ⟨fun s hs => okW_of_may (hm s hs), hi, ?_, ho, fitL_len l n, fun s hs => by have := fitL_text l n s hs; omega, ho.t⟩
  unfold gapsE
  rw [if_pos (fitL_may l n h0 (by omega)), hi, if_neg (by omega)]
end Go.Proofs.YtejgkhmpmnjgaaaDoor
