/- Layer 6, the statements' few. -/
import Derived.Test.YtelepadnbgcbnaaDoorL6b
import Derived.Test.YtelepadnbgcbnaaDoorBf
namespace Go.Proofs.YtelepadnbgcbnaaDoor
open Go.RowKit
set_option maxRecDepth 100000
set_option linter.unusedSimpArgs false
set_option maxHeartbeats 4000000
attribute [local go_sem ↓] Go.wp_at_zero Go.wp_at_succ
def fewT (s : ByteArray) : ByteArray := s.extract 0 (min s.size 20)
theorem fewT_size (s : ByteArray) : (fewT s).size ≤ 20 := by simp [fewT]; omega
/-- The texts that few lets through. -/
def fewP (ts : List ByteArray) : List ByteArray := (ts.take 41).map fewT
theorem fewP_take (ts : List ByteArray) (j : Nat) (h : j < ts.length) (h41 : j < 41) : fewP (ts.take (j + 1)) = fewP (ts.take j) ++ [fewT ts[j]] := by
  unfold fewP
  have e1 : (ts.take (j + 1)).take 41 = ts.take (j + 1) := List.take_of_length_le (by rw [List.length_take]; omega)
  have e2 : (ts.take j).take 41 = ts.take j := List.take_of_length_le (by rw [List.length_take]; omega)
  rw [e1, e2, List.take_add_one, List.getElem?_eq_getElem h, List.map_append]
  rfl
theorem fewP_len (ts : List ByteArray) : (fewP ts).length = min 41 ts.length := by simp [fewP]
/-- The beginning of a row of single cells. -/
theorem rd_take1 {w : World} {A : Option Addr} {n c : Nat} {xs : List Value} (h : Rd w 1 (.slice A n c) n xs) {k : Nat} (hk : k ≤ n) : Rd w 1 (.slice A k c) k (xs.take k) := by
  obtain ⟨h1, A', c', hv, hc, h2⟩ := h
  injection hv with e1 _ e2
  subst e1; subst e2
  refine ⟨by rw [List.length_take]; omega, A, c, rfl, by omega, fun h0 => ?_⟩
  obtain ⟨b, off, hA, hb, hcell⟩ := h2 (by omega)
  refine ⟨b, off, hA, hb, fun j u hu => hcell j u ?_⟩
  rw [List.getElem?_take] at hu
  split at hu
  · exact hu
  · cases hu
theorem below_alloc' {B : Nat} {a W : World} (h : Below B a W) (hB : B ≤ a.heap.size) (o : Obj) : Below B a (W.alloc o) := Below.alloc h (Nat.le_trans hB h.size) o
theorem rd_made1 {w W : World} {H : Nat} (hH : w.heap.size = H) {t : ByteArray} {e : TypeId} (hx : Ext (w.alloc (.cells #[.string t] e)) W) : Rd W 1 (.slice (some ⟨H, 0, none⟩) 1 1) 1 [.string t] :=
  rd_made w W H hH _ e hx rfl (by omega)
theorem own_far {w : World} {B : Nat} {e : TypeId} {size : Nat} {v : Value} {n : Nat} {xs : List Value} (h : Own w B e size v n xs) (a : Addr) (ha : a.block < B) (u : Value) : Own (w.setCell a u) B e size v n xs := by
  obtain ⟨⟨h1, h2⟩, h3⟩ := h
  refine ⟨⟨h1, ?_⟩, by simpa using h3⟩
  rcases h2 with h2 | ⟨g, cap, cur, hv, hb, hg, r⟩
  · exact .inl h2
  · exact .inr ⟨g, cap, cur, hv, hb, by rw [heap_setCell_other _ _ _ _ (by omega)]; exact hg, r⟩
theorem few6_c (A B : Option Addr) (n c m d : Nat) (ts : List ByteArray) (ds : List Bool) (w : World) (h : Rd w 1 (.slice A n c) n (ts.map Value.string)) (h' : Rd w 1 (.slice B m d) m (ds.map Value.bool)) (hl : ts.length = n) (hl' : ds.length = m) (hmd : m ≤ d) (hts : ∀ t ∈ ts, t.size ≤ maxLen)
    (hm : m ≤ 9223372036854775807) (hd : d ≤ 9223372036854775807) :
    Calls Tryd.prog 13 #[.agg #[.slice A n c, .slice B m d]] w fun e w' => ∃ v, e = .returned (.agg #[v, .slice B (min m 40) d]) ∧ Ext w w' ∧ Rd w' 1 v (fewP ts).length ((fewP ts).map Value.string) := by
  obtain ⟨i, hi, hz0, hz1, hz2⟩ := info_parts info_str
  have H := Lib.hid h; have H' := Lib.hid h'; have HL := Lib.hid hl; have HL' := Lib.hid hl'; have HTS := Lib.hid hts
  obtain ⟨M, hM⟩ : ∃ M, M = min m 40 := ⟨_, rfl⟩
  have hmin1 : min (m : Int) 40 = (M : Int) := by omega
  have hmin2 : (if (40 : Int) < (m : Int) then (40 : Int) else (m : Int)) = (M : Int) := by split <;> omega
  have hMd : (M : Int) ≤ (d : Int) := by omega
  have hM0 : (0 : Int) ≤ (M : Int) := by omega
  have HM := Lib.hid hM
  clear h h' hl hl' hts hM
  go_enter Tryd.func13, Tryd.ntmps13
  go_wp2_with fail
  have hsz2 : ((w.alloc (.cells #[.slice A n c, .slice B m d] 26)).alloc (.cells #[.slice none 0 0, .slice none 0 0] 26)).heap.size = w.heap.size + 1 + 1 := by simp
  have HSZ2 := Lib.hid hsz2
  have HR0 := Lib.hid (three w (.cells #[.slice A n c, .slice B m d] 26) (.cells #[.slice none 0 0, .slice none 0 0] 26) (.cells #[.slice none 0 0, .slice B M d] 26)).2.2
  have HB0 := Lib.hid (show Below (w.heap.size + 1 + 1) ((w.alloc (.cells #[.slice A n c, .slice B m d] 26)).alloc (.cells #[.slice none 0 0, .slice none 0 0] 26)) (((w.alloc (.cells #[.slice A n c, .slice B m d] 26)).alloc (.cells #[.slice none 0 0, .slice none 0 0] 26)).alloc (.cells #[.slice none 0 0, .slice B M d] 26)) by rw [← hsz2]; exact (Ext.refl _).alloc _)
  have HN0 := Lib.hid (Own.nil (((w.alloc (.cells #[.slice A n c, .slice B m d] 26)).alloc (.cells #[.slice none 0 0, .slice none 0 0] 26)).alloc (.cells #[.slice none 0 0, .slice B M d] 26)) (w.heap.size + 1 + 1 + 1) 9 1 (by simp))
  clear hsz2
  go_loopw [4] (fun z wr => ∃ (j : Nat) (v : Value), j ≤ n ∧ j ≤ 41 ∧ z = .int .i64 j ∧ wr.heap[w.heap.size + 1 + 1]? = some (.cells #[v, .slice B M d] 26 (0, 0)) ∧ Own wr (w.heap.size + 1 + 1 + 1) 9 1 v j ((fewP (ts.take j)).map Value.string) ∧ Below (w.heap.size + 1 + 1) ((w.alloc (.cells #[.slice A n c, .slice B m d] 26)).alloc (.cells #[.slice none 0 0, .slice none 0 0] 26)) wr) (fun z _ => 41 - (intOf z).toNat)
  case atStart => exact ⟨0, _, by omega, by omega, rfl, HR0.out, HN0.out, HB0.out⟩
  case round =>
    obtain ⟨j, v, hj, hj41, rfl, hrow, hown, hbel⟩ := hrel
    have hx2 : Ext ((w.alloc (.cells #[.slice A n c, .slice B m d] 26)).alloc (.cells #[.slice none 0 0, .slice none 0 0] 26)) wr := by have h := hbel; rw [← HSZ2.out] at h; exact h
    have hxw : Ext w wr := (((Ext.refl w).alloc _).alloc _).trans hx2
    have g0 := box_at w wr #[.slice A n c, .slice B m d] 26 (((Ext.refl _).alloc _).trans hx2) 0 _ rfl
    have o0 : wr.cell? ⟨w.heap.size + 1 + 1, 0, none⟩ = some v := by rw [cell_of_row wr (w.heap.size + 1 + 1) 0 _ _ (0, 0) hrow]; rfl
    have of0 : wr.frozen? ⟨w.heap.size + 1 + 1, 0, none⟩ = false := frozen_of_row wr _ 0 _ _ hrow
    by_cases hlt : j < n ∧ j < 41
    · have hjl : j < ts.length := by have := HL.out; omega
      obtain ⟨b, off, hA, hb, q0⟩ := rd_at1 H.out hlt.1 (u := .string ts[j]) (by simp [List.getElem?_eq_getElem hjl])
      subst hA
      replace q0 := ext_cell hxw q0
      have hst := fewP_take ts j hjl hlt.2
      have htz : ts[j].size ≤ maxLen := HTS.out _ (List.getElem_mem hjl)
      obtain ⟨t, ht⟩ : ∃ t, ts[j] = t := ⟨_, rfl⟩
      rw [ht] at q0 hst htz
      unfold maxLen at htz
      obtain ⟨T, hT⟩ : ∃ T, T = min t.size 20 := ⟨_, rfl⟩
      have hX : t.extract 0 T = fewT t := by unfold fewT; rw [hT]
      have hm1 : min (t.size : Int) 20 = (T : Int) := by omega
      have hm2 : (if (20 : Int) < (t.size : Int) then (20 : Int) else (t.size : Int)) = (T : Int) := by split <;> omega
      have hTl : (T : Int) ≤ (t.size : Int) := by omega
      have hTl2 : T ≤ t.size := by omega
      obtain ⟨R1, hR1⟩ : ∃ R1, fewP (ts.take (j + 1)) = R1 := ⟨_, rfl⟩
      rw [hR1] at hst
      have HR1 := Lib.hid hR1
      clear hR1 ht
      generalize fewP (ts.take j) = xs at *
      have hB0 : w.heap.size + 1 + 1 + 1 ≤ wr.heap.size := hown.2
      have HOWN := Lib.hid hown; have HROW := Lib.hid hrow; have HBEL := Lib.hid hbel; have HST := Lib.hid hst; have HXX := Lib.hid hX
      have HA : Hid (∀ (W : World) (K : Nat), Below (w.heap.size + 1 + 1 + 1) wr W → Own W (w.heap.size + 1 + 1 + 1) 9 1 v j (xs.map Value.string) → Rd W 1 (.slice (some ⟨K, 0, none⟩) 1 1) 1 [.string (t.extract 0 T)] → ∃ v' w', (Builtin.append_ #[23, 23] 23 #[v, .slice (some ⟨K, 0, none⟩) 1 1]).run Tryd.prog W = .ok v' w' ∧ (Own w' (w.heap.size + 1 + 1 + 1) 9 1 v' (j + 1) (R1.map Value.string) ∧ Below (w.heap.size + 1 + 1 + 1) wr w')) := Lib.hid fun W K hb ho hr => by
        obtain ⟨v', w', h1, h2, h3⟩ := app_rd (P := Tryd.prog) 23 23 9 i _ 1 16 Tryd.underlying23 hi hz0 hz1 hz2 rfl (by omega) (by omega)
          hb ho (by omega) hr (by omega) (by simp [Value.oneCell'])
        refine ⟨v', w', h1, ?_, h3⟩
        rw [HST.out, List.map_append, ← HXX.out]
        exact h2
      have HC : Hid (∀ W, Below (w.heap.size + 1 + 1 + 1) wr W → W.cell? ⟨w.heap.size, 0, none⟩ = some (.slice (some ⟨b, off, none⟩) n c) ∧ W.cell? ⟨w.heap.size + 1 + 1, 0, none⟩ = some v ∧ W.frozen? ⟨w.heap.size + 1 + 1, 0, none⟩ = false ∧ W.cell? ⟨b, off + j, none⟩ = some (.string t)) := Lib.hid fun W hb' =>
        ⟨(hb'.cell (p := ⟨w.heap.size, 0, none⟩) (by simp only; omega)).trans g0, (hb'.cell (p := ⟨w.heap.size + 1 + 1, 0, none⟩) (by simp only; omega)).trans o0, (hb'.frozen (p := ⟨w.heap.size + 1 + 1, 0, none⟩) (by simp only; omega)).trans of0, (hb'.cell (p := ⟨b, off + j, none⟩) (by simp only; omega)).trans q0⟩
      have HHB := Lib.hid hB0
      have dn : decide (j < n) = true := by rw [decide_eq_true_eq]; exact hlt.1
      have d41 : decide ((j : Int) < 41) = true := by rw [decide_eq_true_eq]; omega
      have i0 : (0 : Int) ≤ (j : Int) := by omega
      have i1 : (j : Int) < (n : Int) := by omega
      clear hown hrow hbel hst hx2 hxw hX hT hB0
      go_wp2_with fail
      have hbb : Below (w.heap.size + 1 + 1 + 1) wr wr := Below.refl _ _
      have HK : Hid (∀ W, Below (w.heap.size + 1 + 1 + 1) wr W → (fun W => Below (w.heap.size + 1 + 1 + 1) wr W ∧ W.cell? ⟨w.heap.size, 0, none⟩ = some (.slice (some ⟨b, off, none⟩) n c) ∧ W.cell? ⟨w.heap.size + 1 + 1, 0, none⟩ = some v ∧ W.frozen? ⟨w.heap.size + 1 + 1, 0, none⟩ = false ∧ W.cell? ⟨b, off + j, none⟩ = some (.string t)) W) := Lib.hid fun W hb' => ⟨hb', HC.out W hb'⟩
      clear g0 o0 of0 q0
      refine region_T (fun W => Below (w.heap.size + 1 + 1 + 1) wr W ∧ W.cell? ⟨w.heap.size, 0, none⟩ = some (.slice (some ⟨b, off, none⟩) n c) ∧ W.cell? ⟨w.heap.size + 1 + 1, 0, none⟩ = some v ∧ W.frozen? ⟨w.heap.size + 1 + 1, 0, none⟩ = false ∧ W.cell? ⟨b, off + j, none⟩ = some (.string t)) 18 (by kernel_rfl) (HK.out _ (Below.drew hbb)) (fun hHeld => ?_)
      refine wpAnyT_take (i := 0) (v := ?_) rfl (by kernel_rfl) (fun _ _ _ h => h) (Or.inl ⟨by rfl, ?_⟩) (by assumption) ?_
      rotate_left
      · (intro W hSw; (try dsimp only at hSw); go_simp; (try with_reducible rfl))
      try simp only [Act.put, List.setIfInBounds_toArray, List.set_cons_zero, List.set_cons_succ]
      refine wpAnyT_take (i := 1) (v := ?_) rfl (by kernel_rfl) (fun _ _ _ h => h) (Or.inl ⟨by rfl, ?_⟩) (by assumption) ?_
      rotate_left
      · (intro W hSw; (try dsimp only at hSw); go_simp; (try with_reducible rfl))
      try simp only [Act.put, List.setIfInBounds_toArray, List.set_cons_zero, List.set_cons_succ]
      refine wpAnyT_take (i := 2) (v := ?_) rfl (by kernel_rfl) (fun _ _ _ h => h) (Or.inl ⟨by rfl, ?_⟩) (by assumption) ?_
      rotate_left
      · (intro W hSw; (try dsimp only at hSw); go_simp; (try with_reducible rfl))
      try simp only [Act.put, List.setIfInBounds_toArray, List.set_cons_zero, List.set_cons_succ]
      refine wpAnyT_take (i := 3) (v := ?_) rfl (by kernel_rfl) (fun _ _ _ h => h) (Or.inl ⟨by rfl, ?_⟩) (by assumption) ?_
      rotate_left
      · (intro W hSw; (try dsimp only at hSw); go_simp; (try with_reducible rfl))
      try simp only [Act.put, List.setIfInBounds_toArray, List.set_cons_zero, List.set_cons_succ]
      refine wpAnyT_take (i := 4) (v := ?_) rfl (by kernel_rfl) (fun _ _ _ h => h) (Or.inl ⟨by rfl, ?_⟩) (by assumption) ?_
      rotate_left
      · (intro W hSw; (try dsimp only at hSw); go_simp; (try with_reducible rfl))
      try simp only [Act.put, List.setIfInBounds_toArray, List.set_cons_zero, List.set_cons_succ]
      refine wpAnyT_take (i := 5) (v := ?_) rfl (by kernel_rfl) (fun _ _ _ h => h) (Or.inl ⟨by rfl, ?_⟩) (by assumption) ?_
      rotate_left
      · (intro W hSw; (try dsimp only at hSw); go_simp; (try with_reducible rfl))
      try simp only [Act.put, List.setIfInBounds_toArray, List.set_cons_zero, List.set_cons_succ]
      refine wpAnyT_take (i := 6) (v := ?_) rfl (by kernel_rfl) (fun _ _ _ h => h) (Or.inl ⟨by rfl, ?_⟩) (by assumption) ?_
      rotate_left
      · (intro W hSw; (try dsimp only at hSw); go_simp; (try with_reducible rfl))
      try simp only [Act.put, List.setIfInBounds_toArray, List.set_cons_zero, List.set_cons_succ]
      refine wpAnyT_take (i := 7) (v := ?_) rfl (by kernel_rfl) (fun _ _ _ h => h) (Or.inl ⟨by rfl, ?_⟩) (by assumption) ?_
      rotate_left
      · (intro W hSw; (try dsimp only at hSw); go_simp; (try with_reducible rfl))
      try simp only [Act.put, List.setIfInBounds_toArray, List.set_cons_zero, List.set_cons_succ]
      refine wpAnyT_take (i := 8) (v := ?_) rfl (by kernel_rfl) (fun _ _ _ h => h) (Or.inl ⟨by rfl, ?_⟩) (by assumption) ?_
      rotate_left
      · (intro W hSw; (try dsimp only at hSw); go_simp; (try with_reducible rfl))
      try simp only [Act.put, List.setIfInBounds_toArray, List.set_cons_zero, List.set_cons_succ]
      refine wpAnyT_take (i := 9) (v := ?_) rfl (by kernel_rfl) (fun _ _ _ h => h) (Or.inl ⟨by rfl, ?_⟩) (by assumption) ?_
      rotate_left
      · (intro W hSw; (try dsimp only at hSw); go_simp; (try with_reducible rfl))
      try simp only [Act.put, List.setIfInBounds_toArray, List.set_cons_zero, List.set_cons_succ]
      refine wpAnyT_take (i := 10) (v := ?_) rfl (by kernel_rfl) (fun _ _ _ h => h) (Or.inl ⟨by rfl, ?_⟩) (by assumption) ?_
      rotate_left
      · (intro W hSw; (try dsimp only at hSw); go_simp; (try with_reducible rfl))
      try simp only [Act.put, List.setIfInBounds_toArray, List.set_cons_zero, List.set_cons_succ]
      refine wpAnyT_take (i := 11) (v := ?_) rfl (by kernel_rfl) (fun _ _ _ h => h) (Or.inl ⟨by rfl, ?_⟩) (by assumption) ?_
      rotate_left
      · (intro W hSw; (try dsimp only at hSw); go_simp; (try with_reducible rfl))
      try simp only [Act.put, List.setIfInBounds_toArray, List.set_cons_zero, List.set_cons_succ]
      refine wpAnyT_take (i := 12) (v := ?_) rfl (by kernel_rfl) (fun _ _ _ h => h) (Or.inl ⟨by rfl, ?_⟩) (by assumption) ?_
      rotate_left
      · (intro W hSw; (try dsimp only at hSw); go_simp; (try with_reducible rfl))
      try simp only [Act.put, List.setIfInBounds_toArray, List.set_cons_zero, List.set_cons_succ]
      refine wpAnyT_take (i := 13) (v := ?_) rfl (by kernel_rfl) (fun _ _ _ h => h) (Or.inl ⟨by rfl, ?_⟩) (by assumption) ?_
      rotate_left
      · (intro W hSw; (try dsimp only at hSw); go_simp; (try with_reducible rfl))
      try simp only [Act.put, List.setIfInBounds_toArray, List.set_cons_zero, List.set_cons_succ]
      refine wpAnyT_take (i := 14) (v := ?_) rfl (by kernel_rfl) (fun _ _ _ h => h) (Or.inl ⟨by rfl, ?_⟩) (by assumption) ?_
      rotate_left
      · (intro W hSw; (try dsimp only at hSw); go_simp; (try with_reducible rfl))
      try simp only [Act.put, List.setIfInBounds_toArray, List.set_cons_zero, List.set_cons_succ]
      refine wpAnyT_one (i := 15) rfl (by kernel_rfl) (fun K hK => ?_)
      go_simp
      refine hK.out _ _ (fun _ => (by first | exact HK.out _ (below_alloc' (Below.drew hbb) HHB.out _) | exact HK.out _ (Below.drew (below_alloc' hbb HHB.out _)))) (fun hH => ?_)
      replace hHeld := hH (by decide)
      clear hK K hH
      try simp only [Act.put, List.setIfInBounds_toArray, List.set_cons_zero, List.set_cons_succ]
      refine wpAnyT_one (i := 16) rfl (by kernel_rfl) (fun K hK => ?_)
      (refine step_append_ex (by rfl) _ _ _ (by rfl) (by rfl) (by rfl) (HA.out _ _ ?_ ?_ ?_) ?_); (first | exact below_alloc' (Below.drew hbb) HHB.out _ | exact Below.drew (below_alloc' hbb HHB.out _)); (first | exact HOWN.out.ext ((Ext.refl _).drew.alloc _) | exact HOWN.out.ext ((Ext.refl _).alloc _).drew); (first | exact rd_made1 rfl (Ext.refl _) | exact rd_made1 rfl (Ext.refl _).drew)
      rintro v' w' ⟨hown', hxk⟩
      obtain ⟨a', c', rfl, _⟩ := hown'.len
      refine hK.out _ _ (fun _ => HK.out _ hxk) (fun hH => ?_)
      replace hHeld := hH (by decide)
      clear hK K hH
      try simp only [Act.put, List.setIfInBounds_toArray, List.set_cons_zero, List.set_cons_succ]
      refine wpAnyT_take (i := 17) (v := ?_) rfl (by kernel_rfl) (fun _ _ _ h => h) (Or.inl ⟨by rfl, ?_⟩) (by assumption) ?_
      rotate_left
      · (intro W hSw; (try dsimp only at hSw); go_simp; (try with_reducible rfl))
      try simp only [Act.put, List.setIfInBounds_toArray, List.set_cons_zero, List.set_cons_succ]
      refine wpAnyT_one (i := 18) rfl (by kernel_rfl) (fun K hK => ?_)
      obtain ⟨e0, e1, e2, e3, e4⟩ := id hHeld
      go_simp
      refine hK.out _ _ (fun h => absurd rfl h) (fun _ => ?_)
      clear hK K hHeld
      try simp only [Act.put, List.setIfInBounds_toArray, List.set_cons_zero, List.set_cons_succ]
      refine wpAnyT_done (by kernel_rfl) ?_ _
      go_wp2_with fail
      go_roundw
      case rel =>
        exact ⟨j + 1, _, by omega, by omega, by go_num, heap_setCell_same w' (w.heap.size + 1 + 1) 0 _ _ (.slice a' (j + 1) c') ((hxk.block _ (by omega)).trans HROW.out), by rw [HR1.out]; exact own_far hown' _ (by simp only; omega) _,
          Below.setCell (HBEL.out.trans (hxk.mono (by omega))) (Nat.le_refl _) _⟩
      case measure => simp [intOf]; omega
    · have hcase : (decide (j < n) = false) ∨ (decide (j < n) = true ∧ decide ((j : Int) < 41) = false) := by
        by_cases e : j < n
        · exact .inr ⟨by rw [decide_eq_true_eq]; exact e, by rw [decide_eq_false_iff_not]; omega⟩
        · exact .inl (by rw [decide_eq_false_iff_not]; exact e)
      have hfl : fewP (ts.take j) = fewP ts := by
        have hln := HL.out
        unfold fewP
        rw [List.take_take]
        congr 1
        rcases (by omega : j = 41 ∨ j = n) with e | e
        · rw [e, Nat.min_self]
        · rw [List.take_of_length_le (by omega), List.take_of_length_le (by omega)]
      have hlen : (fewP ts).length = j := by rw [← hfl, fewP_len, List.length_take]; have := HL.out; omega
      rw [hfl] at hown
      have o1 : wr.cell? ⟨w.heap.size + 1 + 1, 1, none⟩ = some (.slice B M d) := by rw [cell_of_row wr (w.heap.size + 1 + 1) 1 _ _ (0, 0) hrow]; rfl
      have hres : wr.heap[w.heap.size + 1]? = some (.cells #[.slice none 0 0, .slice none 0 0] 26 (0, 0)) := (hbel.block _ (by omega)).trans (heap_alloc2_new w _ _)
      have r0 : wr.cell? ⟨w.heap.size + 1, 0, none⟩ = some (.slice none 0 0) := by rw [cell_of_row wr (w.heap.size + 1) 0 _ _ (0, 0) hres]; rfl
      have r1 : wr.cell? ⟨w.heap.size + 1, 1, none⟩ = some (.slice none 0 0) := by rw [cell_of_row wr (w.heap.size + 1) 1 _ _ (0, 0) hres]; rfl
      have f0 : wr.frozen? ⟨w.heap.size + 1, 0, none⟩ = false := frozen_of_row wr _ 0 _ _ hres
      have f1 : wr.frozen? ⟨w.heap.size + 1, 1, none⟩ = false := frozen_of_row wr _ 1 _ _ hres
      obtain ⟨a', c', rfl, _⟩ := hown.len
      have HOWN := Lib.hid hown; have HRES := Lib.hid hres; have HXW := Lib.hid hxw; have HLN := Lib.hid hlen
      clear hown hres hxw hlen hfl hlt hrow hbel hx2 of0
      rcases hcase with d1 | ⟨d1, d2⟩
      all_goals
        go_wp2_with fail
        have e1 := heap_setCell_same wr (w.heap.size + 1) 0 _ 26 (.slice a' j c') HRES.out
        have e2 := heap_setCell_same _ (w.heap.size + 1) 1 _ 26 (.slice B M d) e1
        refine bodyPost_ret (results_cell_row rfl _ _ (w.heap.size + 1) _ _ (0, 0) _ rfl e2 Tryd.underlying26 rfl (by kernel_rfl)) rfl ?_
        refine ⟨.slice a' j c', by rw [← HM.out]; rfl, Below.setCell (Below.setCell HXW.out (by simp only; omega) _) (by simp only; omega) _, ?_⟩
        rw [HLN.out]
        exact (own_far (own_far HOWN.out _ (by simp only; omega) _) _ (by simp only; omega) _).rd
end Go.Proofs.YtelepadnbgcbnaaDoor
