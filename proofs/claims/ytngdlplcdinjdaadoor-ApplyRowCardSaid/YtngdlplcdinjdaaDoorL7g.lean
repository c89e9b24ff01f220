/- Layer 7, ApplyRow. -/
import Derived.Test.YtngdlplcdinjdaaDoorL7b
import Derived.Test.YtngdlplcdinjdaaDoorC5
namespace Go.Proofs.YtngdlplcdinjdaaDoor
open Go.RowKit
set_option maxRecDepth 100000
set_option maxHeartbeats 4000000
theorem OwnSS.more {w : World} {B B' : Nat} {tS tE : TypeId} {v : Value} {ls : List (List Sp)} (h : OwnSS w B tS tE v ls) (hB : B' ≤ B) : OwnSS w B' tS tE v ls := by
  obtain ⟨vs, h1, h2⟩ := h
  exact ⟨vs, h1.more hB, fun i l hl => by
    obtain ⟨u, g1, g2⟩ := h2 i l hl
    exact ⟨u, g1, g2.more hB⟩⟩
theorem OwnSS.slice {w : World} {B : Nat} {tS tE : TypeId} {v : Value} {ls : List (List Sp)} {n : Nat} (h : OwnSS w B tS tE v ls) (hn : ls.length = n) : ∃ A c, v = .slice A n c ∧ n ≤ c ∧ RdSS w A n c ls := by
  subst hn
  exact h.rd
/-- An element of the row is turned. -/
theorem OwnSS.set {w : World} {B : Nat} {tS tE : TypeId} {A : Option Addr} {n c : Nat} {ls : List (List Sp)} (h : OwnSS w B tS tE (.slice A n c) ls) (hn : ls.length = n) (hne : tS ≠ tE) {j : Nat} (hj : j < n) {u : Value} {l' : List Sp} (hu : Own w B tE 3 u l'.length (spCells l')) :
    ∃ g u0, A = some ⟨g, 0, none⟩ ∧ B ≤ g ∧ g < w.heap.size ∧ w.cell? ⟨g, j, none⟩ = some u0 ∧ w.frozen? ⟨g, j, none⟩ = false ∧ OwnSS (w.setCell ⟨g, j, none⟩ u) B tS tE (.slice A n c) (ls.set j l') := by
  obtain ⟨vs, h1, h2⟩ := h
  subst hn
  obtain ⟨g, c', hv, _, hBg, hgl, hcell⟩ := h1.cells (by omega)
  injection hv with e1 _ e2
  subst e1; subst e2
  have hjv : j < vs.length := by have := h1.1.1; omega
  have hg : ∃ cur f, w.heap[g]? = some (.cells cur tS f) := by
    rcases h1.1.2 with ⟨h, _⟩ | ⟨g', cap, cur, hv, _, hg, _⟩
    · cases h
    · injection hv with e1 _ _
      injection e1 with e1
      injection e1 with e1
      subst e1
      exact ⟨cur, _, hg⟩
  obtain ⟨cur, f, hg⟩ := hg
  refine ⟨g, vs[j], rfl, hBg, hgl, hcell j _ (List.getElem?_eq_getElem hjv), h1.free j, vs.set j u, ?_, fun i l hl => ?_⟩
  · rw [List.length_set]
    exact h1.set (by omega) u
  · rw [List.getElem?_set] at hl
    by_cases hij : j = i
    · subst hij
      rw [if_pos rfl, if_pos hj] at hl
      injection hl with hl
      subst hl
      refine ⟨u, by rw [List.getElem?_set, if_pos rfl, if_pos hjv], ?_⟩
      exact own_cell_other hu (a := ⟨g, j, none⟩) hg hne u
    · rw [if_neg hij] at hl
      obtain ⟨x, g1, g2⟩ := h2 i l hl
      refine ⟨x, by rw [List.getElem?_set, if_neg hij]; exact g1, ?_⟩
      exact own_cell_other g2 (a := ⟨g, j, none⟩) hg hne u
/-- Operations that fit each other do something to a text that is as long as the first one asks. -/
theorem chain_all (ls : List (List Sp)) (cs : List Nat) (U : ByteArray) (hU : dec (bs U) = some cs) (h : cs.length + 312 * ls.length ≤ 1048576) : (allL U (chainL ls cs.length)).2 = 0 := by
  induction ls generalizing cs U with
  | nil => rfl
  | cons l r ih =>
    rw [List.length_cons] at h
    obtain ⟨hm, hi⟩ := fitL_all l (cs.length : Int) (by omega) (by omega)
    have hok : ∀ s ∈ fitL l cs.length, OkW s := fun s hs => okW_of_may (hm s hs)
    obtain ⟨g1, g2⟩ := to_ok (l := fitL l cs.length) (s := U) (fitL_may l (cs.length : Int) (by omega) (by omega)) hU (by rw [hi])
    obtain ⟨t1, t2⟩ := tin_ok _ hok
    have hlen := apT_length (tok (fitL l cs.length)) cs (by omega)
    have hcp := apT_cp _ cs (tok_okT _ hok) (dec_some hU).1
    have ho := fit_out l cs.length (by omega) (by omega)
    show (allL U (fitL l cs.length :: chainL r (outL (fitL l cs.length)))).2 = 0
    rw [allL, if_pos g1, g2]
    have e : outL (fitL l cs.length) = ((apT (tok (fitL l cs.length)) cs).length : Int) := by rw [hlen]; omega
    rw [e]
    exact ih (apT (tok (fitL l cs.length)) cs) _ (by rw [bs_mkS, dec_encs hcp]) (by omega)
theorem sumTT_le (ls : List (List Sp)) (k : Nat) (h : ∀ l ∈ ls, sumT l ≤ k) : sumTT ls ≤ ls.length * k := by
  induction ls with
  | nil => exact Nat.zero_le _
  | cons l r ih =>
    have h1 := h l (List.mem_cons_self ..)
    have h2 := ih fun x hx => h x (List.mem_cons_of_mem _ hx)
    have e : sumTT (l :: r) = sumT l + sumTT r := rfl
    rw [e, List.length_cons, Nat.add_mul]; omega
theorem applyRow_c (s : ByteArray) (A : Option Addr) (n c : Nat) (ls : List (List Sp)) (x : Int) (w : World) [Tab w] (hs : s.size ≤ maxLen) (h : RdSS w A n c ls) (hls : ∀ l ∈ ls, ∀ s ∈ l, s.2.2.size ≤ maxLen) (hn : (Lit.int .u8 x).wf = true) :
    Calls Tryd.prog 4 #[.string s, .slice A n c, .int .u8 x] w fun e w' => e = .returned (.bool true) ∧ Below w.heap.size w w' := by
  obtain ⟨x0, x1⟩ := bounds_u8 hn
  obtain ⟨at0, rfl⟩ := Int.eq_ofNat_of_zero_le x0
  obtain ⟨T, cs, hm1, hm2, hTl, hT0, hsz, HFIT, HCP, hcl, hUs, HD⟩ := cut_fit s 20 20 rfl (by omega) hs
  have hln := h.1
  have hca := chain_all (ls.take 20) cs (mkS (encs cs)) HD.out (by rw [List.length_take]; omega)
  have HCH : Hid (∀ w', Ext w w' → _) := Lib.hid fun w' hx => chainR4_c A n c ls cs.length w' (h.ext hx) hls (by omega) (by omega)
  have hcl2 : (chainL (ls.take 20) cs.length).length = min 20 n := by rw [chainL_len, List.length_take, hln]
  have hmem : ∀ l ∈ chainL (ls.take 20) cs.length, l.length ≤ 1000 ∧ (∀ s ∈ l, s.2.2.size ≤ 1000000000) ∧ sumT l ≤ 1200 := fun l hl => by
    obtain ⟨k, m, rfl⟩ := chainL_mem _ _ l hl
    have h1 := fitL_len k m; have h2 := fit_sumT k m
    exact ⟨by omega, fun s hs => by have := fitL_text k m s hs; omega, by omega⟩
  obtain ⟨M, hM⟩ : ∃ M, cs.length = M := ⟨_, rfl⟩
  have hcU := cnt_U cs _ HD.out
  rw [hM] at hcU HCH hca hcl2 hmem
  have HCU : Hid (∀ w', Calls Tryd.prog 15 #[.string (mkS (encs cs))] w' fun e w'' => e = .returned (.int .i64 (M : Int)) ∧ Ext w' w'') := Lib.hid fun w' => by
    have h := count_c (mkS (encs cs)) w' (by omega); rw [hcU] at h; exact h
  generalize chainL (ls.take 20) M = LS at *
  obtain ⟨nW, hnW⟩ : ∃ nW, LS.length = nW := ⟨_, rfl⟩
  rw [hnW] at hcl2
  have hw20 : nW ≤ 20 := by omega
  have hwn : nW ≤ n := by omega
  clear hcl2
  have hv0 : allV (mkS (encs cs)) LS = .tuple #[.string (allL (mkS (encs cs)) LS).1, .int .i64 0] := by
    unfold allV allR
    rw [if_neg]
    · rw [hca]
    · rintro ⟨_, h2⟩
      rw [HD.out] at h2; cases h2
  have HAL : Hid (∀ (L : List (List Sp)), L.length ≤ 20 → (∀ l ∈ L, l.length ≤ 1000 ∧ (∀ s ∈ l, s.2.2.size ≤ 1000000000) ∧ sumT l ≤ 1200) → ∀ A n c w', Ext w w' → RdSS w' A n c L →
      (Calls Tryd.prog 17 #[.string (mkS (encs cs)), .slice A n c] w' fun e w'' => e = .returned (allV (mkS (encs cs)) L) ∧ Ext w' w'') ∧ (Calls Tryd.prog 18 #[.string (mkS (encs cs)), .slice A n c] w' fun e w'' => e = .returned (allV (mkS (encs cs)) L) ∧ Ext w' w'')) := Lib.hid fun L hL hm A n c w' hx hr => by
    have hTb := tab_ext hx
    have h1 := sumTT_le L 1200 fun l hl => (hm l hl).2.2
    have h2 := hr.1
    exact ⟨all_c A n c L (mkS (encs cs)) w' hr (fun l hl => (hm l hl).1) (fun l hl => (hm l hl).2.1) (by omega) (by omega), allR_c A n c L (mkS (encs cs)) w' hr (fun l hl => (hm l hl).1) (fun l hl => (hm l hl).2.1) (by omega) (by omega)⟩
  have HFF : Hid (∀ (w' : World) [Tab w'], Calls Tryd.prog 17 #[.string ⟨#[255]⟩, .slice none 0 0] w' fun e w'' => e = .returned (.tuple #[.string ⟨#[]⟩, .int .i64 3]) ∧ Ext w' w'') := Lib.hid fun w' _ => by
    have h := all_c none 0 0 [] ⟨#[255]⟩ w' (RdSS.nil w') (by simp) (by simp) (by decide) (by omega)
    have e : allV ⟨#[255]⟩ [] = .tuple #[.string ⟨#[]⟩, .int .i64 3] := by
      unfold allV allR
      rw [if_pos ⟨rfl, by decide +kernel⟩]
    rw [e] at h
    exact h
  have HAL1 := Lib.hid (HAL.out LS (by omega) hmem)
  rw [hv0] at HAL1
  have HFW : Hid (∀ (l : List Sp) a k c' w', l ∈ ls → l.length = k → Rd w' 3 (.slice a k c') k (spCells l) → _) := Lib.hid fun l a k c' w' hl hk hr => few7_c a k c' l w' hr hk (hls l hl)
  have H := Lib.hid h; have HLN := Lib.hid hln; have HMEM := Lib.hid hmem; have HNW := Lib.hid hnW
  clear h hln hls hs hca hmem hcU HCP HD hUs hM hv0 hnW hn
  generalize (allL (mkS (encs cs)) LS).1 = P1 at *
  generalize mkS (encs cs) = U at *
  go_enter Tryd.func4, Tryd.ntmps4
  go_wp2_with fail
  refine (shown7_c _).mono ?_; rintro e w1 ⟨rfl, hx1⟩
  have e1 : Ext w w1 := hx1
  clear hx1
  go_wp2_with fail
  refine (HFIT.out _).mono ?_; rintro e w2 ⟨rfl, hx2⟩
  have e2 : Ext w w2 := e1.trans hx2
  clear hx2
  go_wp2_with fail
  refine (HCU.out _).mono ?_; rintro e w3 ⟨rfl, hx3⟩
  have e3 : Ext w w3 := e2.trans hx3
  clear hx3
  have hsB : w.heap.size ≤ w3.heap.size := e3.size
  go_wp2_with fail
  refine (HCH.out _ e3).mono ?_; rintro e w4 ⟨vL, rfl, hx4, oL⟩
  have e4 : Ext w w4 := e3.trans hx4
  have oL2 := oL.more hsB
  obtain ⟨aL, cL, rfl, hcL, rL⟩ := oL2.slice HNW.out
  have RL := Lib.hid rL; have OL := Lib.hid oL2
  clear oL rL oL2
  clear hx4
  go_wp2_with fail
  refine ((HAL1.out _ _ _ _ e4 RL.out).1).mono ?_; rintro e w5 ⟨rfl, hx5⟩
  have e5 : Ext w w5 := e4.trans hx5
  replace RL := Lib.hid (RL.out.ext hx5)
  replace OL := Lib.hid (OL.out.ext hx5)
  clear hx5
  go_wp2_with fail
  refine ((HAL1.out _ _ _ _ e5 RL.out).2).mono ?_; rintro e w6 ⟨rfl, hx6⟩
  have e6 : Ext w w6 := e5.trans hx6
  replace RL := Lib.hid (RL.out.ext hx6)
  replace OL := Lib.hid (OL.out.ext hx6)
  clear hx6
  have hfin : ∀ (L2 : List (List Sp)) (wz : World), L2.length = nW → (∀ l ∈ L2, l.length ≤ 1000 ∧ (∀ s ∈ l, s.2.2.size ≤ 1000000000) ∧ sumT l ≤ 1200) → Ext w wz → RdSS wz aL nW cL L2 → ∃ P2 E2, (∀ w', Ext wz w' → Calls Tryd.prog 17 #[.string U, .slice aL nW cL] w' fun e w'' => e = .returned (.tuple #[.string P2, .int .i64 E2]) ∧ Ext w' w'') ∧ (∀ w', Ext wz w' → Calls Tryd.prog 18 #[.string U, .slice aL nW cL] w' fun e w'' => e = .returned (.tuple #[.string P2, .int .i64 E2]) ∧ Ext w' w'') ∧ (∀ w', Ext wz w' → Calls Tryd.prog 17 #[.string ⟨#[255]⟩, .slice none 0 0] w' fun e w'' => e = .returned (.tuple #[.string ⟨#[]⟩, .int .i64 3]) ∧ Ext w' w'') := fun L2 wz hl hm hx hr =>
    ⟨_, _, fun w' hx' => (HAL.out L2 (by omega) hm aL nW cL w' (hx.trans hx') (hr.ext hx')).1, fun w' hx' => (HAL.out L2 (by omega) hm aL nW cL w' (hx.trans hx') (hr.ext hx')).2, fun w' hx' => have hTb := tab_ext (hx.trans hx'); HFF.out w'⟩
  have HFIN := Lib.hid hfin
  clear hfin
  by_cases hat : at0 < nW
  · have hat2 : at0 < n := by omega
    have hjl : at0 < ls.length := by have := HLN.out; omega
    have d1 : decide (at0 < nW) = true := by rw [decide_eq_true_eq]; exact hat
    have d2 : decide (at0 < n) = true := by rw [decide_eq_true_eq]; exact hat2
    have i0 : (0 : Int) ≤ (at0 : Int) := by omega
    have i1 : (at0 : Int) < (n : Int) := by omega
    have i2 : (at0 : Int) < (nW : Int) := by omega
    obtain ⟨b, off, a, kc, rfl, hb, q0, hr⟩ := (H.out.ext e6).at_ hat2 hjl
    have HC := Lib.hid (HFW.out ls[at0] a _ kc w6 (List.getElem_mem hjl) rfl hr)
    have hz1 := fewL7_size ls[at0]
    have hz2 : (fewL7 ls[at0]).length ≤ 20 := by rw [fewL7_len]; omega
    have hz3 := sumT_le (fewL7 ls[at0]) 60 hz1
    clear hr hb
    obtain ⟨k, hk⟩ : ∃ k, ls[at0].length = k := ⟨_, rfl⟩
    rw [hk] at q0 HC
    clear hk
    generalize fewL7 ls[at0] = Z at *
    go_wp2_with fail
    refine HC.out.mono ?_; rintro e wA ⟨vZ, rfl, hxA, oZ⟩
    obtain ⟨g, u0, rfl, hBg, hgl, hcell, hfr, hset⟩ := (OL.out.ext hxA).set HNW.out (by decide) hat (oZ.more e6.size)
    obtain ⟨aZ, cZ, rfl, _⟩ := oZ.len
    have hxz : Ext w (wA.setCell ⟨g, at0, none⟩ (.slice aZ Z.length cZ)) := Below.setCell (e6.trans hxA) hBg _
    obtain ⟨_, _, e1, _, hrs⟩ := hset.slice (n := nW) (by rw [List.length_set]; exact HNW.out)
    injection e1 with e2 _ e3
    subst e2; subst e3
    obtain ⟨P2, E2, HA1, HA2, HA3⟩ := HFIN.out _ _ (by rw [List.length_set]; exact HNW.out) (fun l hl => by
      rcases List.mem_or_eq_of_mem_set hl with hl | rfl
      · exact HMEM.out l hl
      · exact ⟨by omega, fun s hs => by have := hz1 s hs; omega, by omega⟩) hxz hrs
    have HB1 := Lib.hid HA1; have HB2 := Lib.hid HA2; have HB3 := Lib.hid HA3
    clear HA1 HA2 HA3 hset hrs oZ HC
    go_wp2_with fail
    refine (HB1.out _ (Ext.refl _)).mono ?_; rintro e wB ⟨rfl, hxB⟩
    go_wp2_with fail
    refine (HB2.out _ hxB).mono ?_; rintro e wC ⟨rfl, hxC⟩
    go_wp2_with fail
    refine (HB3.out _ (hxB.trans hxC)).mono ?_; rintro e wD ⟨rfl, hxD⟩
    go_wp2_with fail
    go_ret
    exact ⟨rfl, hxz.trans ((hxB.trans hxC).trans hxD)⟩
  · have d1 : decide (at0 < nW) = false := by rw [decide_eq_false_iff_not]; exact hat
    obtain ⟨P2, E2, HA1, HA2, HA3⟩ := HFIN.out LS _ HNW.out HMEM.out e6 RL.out
    have HB1 := Lib.hid HA1; have HB2 := Lib.hid HA2; have HB3 := Lib.hid HA3
    clear HA1 HA2 HA3
    go_wp2_with fail
    refine (HB1.out _ (Ext.refl _)).mono ?_; rintro e wB ⟨rfl, hxB⟩
    go_wp2_with fail
    refine (HB2.out _ hxB).mono ?_; rintro e wC ⟨rfl, hxC⟩
    go_wp2_with fail
    refine (HB3.out _ (hxB.trans hxC)).mono ?_; rintro e wD ⟨rfl, hxD⟩
    go_wp2_with fail
    go_ret
    exact ⟨rfl, e6.trans ((hxB.trans hxC).trans hxD)⟩
end Go.Proofs.YtngdlplcdinjdaaDoor
