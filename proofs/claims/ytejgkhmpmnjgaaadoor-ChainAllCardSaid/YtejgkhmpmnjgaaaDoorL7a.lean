/- Layer 7, ApplyRow. -/
import Derived.Test.YtejgkhmpmnjgaaaDoorP7
import Derived.Test.YtejgkhmpmnjgaaaDoorC1h
import Derived.Test.YtejgkhmpmnjgaaaDoorC1f
import Derived.Test.YtejgkhmpmnjgaaaDoorFr
import Derived.Test.YtejgkhmpmnjgaaaDoorL6b
import Derived.Test.YtejgkhmpmnjgaaaDoorBs
import Derived.Test.YtejgkhmpmnjgaaaDoorC5
namespace Go.Proofs.YtejgkhmpmnjgaaaDoor
open Go.RowKit
set_option maxRecDepth 100000
set_option maxHeartbeats 2000000
/-- A string is cut, and made a text. -/
theorem cut_fit (s : ByteArray) (k : Nat) (K : Int) (hK : K = k) (hk : k ≤ 1000) (hs : s.size ≤ maxLen) : ∃ (T : Nat) (cs : List Nat), min (s.size : Int) K = (T : Int) ∧ (if K < (s.size : Int) then K else (s.size : Int)) = (T : Int) ∧ (T : Int) ≤ (s.size : Int) ∧ (0 : Int) ≤ (T : Int) ∧ s.size ≤ 9223372036854775807 ∧
    Hid (∀ w', Calls Tryd.prog 33 #[.string (s.extract 0 T)] w' fun e w'' => e = .returned (.string (mkS (encs cs))) ∧ Ext w' w'') ∧ Hid (∀ c ∈ cs, IsCp c) ∧ cs.length ≤ k ∧ (mkS (encs cs)).size ≤ 4 * k ∧ Hid (dec (bs (mkS (encs cs))) = some cs) := by
  unfold maxLen at hs
  have hz : (s.extract 0 (min s.size k)).size ≤ k := by simp; omega
  have hcp := fitC_cp (bs (s.extract 0 (min s.size k)))
  have hl : (fitC (bs (s.extract 0 (min s.size k)))).length ≤ k := by rw [fitC_length, bs_length]; exact hz
  refine ⟨min s.size k, fitC (bs (s.extract 0 (min s.size k))), by omega, by split <;> omega, by omega, by omega, by omega, Lib.hid fun w' => fit_c _ w' (by omega), Lib.hid hcp, hl, ?_, Lib.hid (by rw [bs_mkS, dec_encs hcp])⟩
  rw [size_mkS]
  have := encs_le (fitC (bs (s.extract 0 (min s.size k)))); omega
/-- An operation that is made for a text: what it gives. -/
theorem to_fit (l : List Sp) (cs : List Nat) (U : ByteArray) (hU : dec (bs U) = some cs) (hn : cs.length ≤ 1000) : toV (fitL l cs.length) U = .tuple #[.string (mkS (encs (apT (tok (fitL l cs.length)) cs))), .int .i64 0] := by
  obtain ⟨h1, h2⟩ := fitL_all l (cs.length : Int) (by omega) (by omega)
  obtain ⟨g1, g2⟩ := to_ok (l := fitL l cs.length) (s := U) (fitL_may l (cs.length : Int) (by omega) (by omega)) hU (by rw [h2])
  unfold toV
  rw [g1, g2]
theorem cnt_U (cs : List Nat) (U : ByteArray) (hU : dec (bs U) = some cs) : cntF (bs U) = (cs.length : Int) := cntF_some hU
end Go.Proofs.YtejgkhmpmnjgaaaDoor
namespace Go.Proofs.YtejgkhmpmnjgaaaDoor
open Go.RowKit
set_option maxRecDepth 100000
set_option maxHeartbeats 4000000
theorem sumT_gt (l : List Sp) : ∀ s ∈ l, s.2.2.size ≤ sumT l := by
  induction l with
  | nil => intro s hs; cases hs
  | cons a t ih =>
    intro s hs
    have e : sumT (a :: t) = a.2.2.size + sumT t := rfl
    rcases List.mem_cons.1 hs with rfl | hs
    · omega
    · have := ih s hs; omega
theorem to_norm (X : List Sp) (U : ByteArray) (h : ∀ s ∈ X, mayS s.1 s.2.1 s.2.2 = 0) (h0 : 0 ≤ inL X) (h1 : inL X ≤ 1048576) : toV (normL X) U = toV X U := by
  have hs : sumN X = inL X := (may_sum X h).2
  have hm := norm_may X h (by omega)
  have ha : mayL X = 0 := mayL_ok X h h0 h1
  have hb : mayL (normL X) = 0 := mayL_ok _ hm (by rw [inL_norm]; exact h0) (by rw [inL_norm]; exact h1)
  have ht : tok (normL X) = tok X := tok_norm X fun s hs => okW_of_may (h s hs)
  have he : toE (normL X) U = toE X U := by unfold toE; rw [ha, hb, inL_norm]
  unfold toV toS
  rw [he, ht]
end Go.Proofs.YtejgkhmpmnjgaaaDoor
namespace Go.Proofs.YtejgkhmpmnjgaaaDoor
open Go.RowKit
set_option maxRecDepth 100000
set_option maxHeartbeats 4000000
theorem OwnSS.more {w : World} {B B' : Nat} {tS tE : TypeId} {v : Value} {ls : List (List Sp)} (h : OwnSS w B tS tE v ls) (hB : B' ≤ B) : OwnSS w B' tS tE v ls := by
  obtain ⟨vs, h1, h2⟩ := h
  exact ⟨vs, h1.more hB, fun i l hl => by
    obtain ⟨u, g1, g2⟩ := h2 i l hl
    exact ⟨u, g1, g2.more hB⟩⟩
theorem OwnSS.slice {w : World} {B : Nat} {tS tE : TypeId} {v : Value} {ls : List (List Sp)} {n : Nat} (h : OwnSS w B tS tE v ls) (hn : ls.length = n) : ∃ A c, v = .slice A n c ∧ n ≤ c ∧ RdSS w A n c ls := by
  subst hn
  exact h.rd
/-- An element of the row is turned. -/
theorem OwnSS.set {w : World} {B : Nat} {tS tE : TypeId} {A : Option Addr} {n c : Nat} {ls : List (List Sp)} (h : OwnSS w B tS tE (.slice A n c) ls) (hn : ls.length = n) (hne : tS ≠ tE) {j : Nat} (hj : j < n) {u : Value} {l' : List Sp} (hu : Own w B tE 3 u l'.length (spCells l')) :
    ∃ g u0, A = some ⟨g, 0, none⟩ ∧ B ≤ g ∧ g < w.heap.size ∧ w.cell? ⟨g, j, none⟩ = some u0 ∧ w.frozen? ⟨g, j, none⟩ = false ∧ OwnSS (w.setCell ⟨g, j, none⟩ u) B tS tE (.slice A n c) (ls.set j l') := by
  obtain ⟨vs, h1, h2⟩ := h
  subst hn
  obtain ⟨g, c', hv, _, hBg, hgl, hcell⟩ := h1.cells (by omega)
  injection hv with e1 _ e2
  subst e1; subst e2
  have hjv : j < vs.length := by have := h1.1.1; omega
  have hg : ∃ cur f, w.heap[g]? = some (.cells cur tS f) := by
    rcases h1.1.2 with ⟨h, _⟩ | ⟨g', cap, cur, hv, _, hg, _⟩
    · cases h
    · injection hv with e1 _ _
      injection e1 with e1
      injection e1 with e1
      subst e1
      exact ⟨cur, _, hg⟩
  obtain ⟨cur, f, hg⟩ := hg
  refine ⟨g, vs[j], rfl, hBg, hgl, hcell j _ (List.getElem?_eq_getElem hjv), h1.free j, vs.set j u, ?_, fun i l hl => ?_⟩
  · rw [List.length_set]
    exact h1.set (by omega) u
  · rw [List.getElem?_set] at hl
    by_cases hij : j = i
    · subst hij
      rw [if_pos rfl, if_pos hj] at hl
      injection hl with hl
      subst hl
      refine ⟨u, by rw [List.getElem?_set, if_pos rfl, if_pos hjv], ?_⟩
      exact own_cell_other hu (a := ⟨g, j, none⟩) hg hne u
    · rw [if_neg hij] at hl
      obtain ⟨x, g1, g2⟩ := h2 i l hl
      refine ⟨x, by rw [List.getElem?_set, if_neg hij]; exact g1, ?_⟩
      exact own_cell_other g2 (a := ⟨g, j, none⟩) hg hne u
/-- Operations that fit each other do something to a text that is as long as the first one asks. -/
theorem chain_all (ls : List (List Sp)) (cs : List Nat) (U : ByteArray) (hU : dec (bs U) = some cs) (h : cs.length + 312 * ls.length ≤ 1048576) : (allL U (chainL ls cs.length)).2 = 0 := by
  induction ls generalizing cs U with
  | nil => rfl
  | cons l r ih =>
    rw [List.length_cons] at h
    obtain ⟨hm, hi⟩ := fitL_all l (cs.length : Int) (by omega) (by omega)
    have hok : ∀ s ∈ fitL l cs.length, OkW s := fun s hs => okW_of_may (hm s hs)
    obtain ⟨g1, g2⟩ := to_ok (l := fitL l cs.length) (s := U) (fitL_may l (cs.length : Int) (by omega) (by omega)) hU (by rw [hi])
    obtain ⟨t1, t2⟩ := tin_ok _ hok
    have hlen := apT_length (tok (fitL l cs.length)) cs (by omega)
    have hcp := apT_cp _ cs (tok_okT _ hok) (dec_some hU).1
    have ho := fit_out l cs.length (by omega) (by omega)
    show (allL U (fitL l cs.length :: chainL r (outL (fitL l cs.length)))).2 = 0
    rw [allL, if_pos g1, g2]
    have e : outL (fitL l cs.length) = ((apT (tok (fitL l cs.length)) cs).length : Int) := by rw [hlen]; omega
    rw [e]
    exact ih (apT (tok (fitL l cs.length)) cs) _ (by rw [bs_mkS, dec_encs hcp]) (by omega)
theorem sumTT_le (ls : List (List Sp)) (k : Nat) (h : ∀ l ∈ ls, sumT l ≤ k) : sumTT ls ≤ ls.length * k := by
  induction ls with
  | nil => exact Nat.zero_le _
  | cons l r ih =>
    have h1 := h l (List.mem_cons_self ..)
    have h2 := ih fun x hx => h x (List.mem_cons_of_mem _ hx)
    have e : sumTT (l :: r) = sumT l + sumTT r := rfl
    rw [e, List.length_cons, Nat.add_mul]; omega
end Go.Proofs.YtejgkhmpmnjgaaaDoor
