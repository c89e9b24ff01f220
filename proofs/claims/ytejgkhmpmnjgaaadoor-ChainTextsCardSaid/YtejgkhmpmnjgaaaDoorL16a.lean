/- Layer 16: few, shown. -/
import Derived.Test.YtejgkhmpmnjgaaaDoorC16f
import Derived.Test.YtejgkhmpmnjgaaaDoorP16
import Derived.Test.YtejgkhmpmnjgaaaDoorFr
namespace Go.Proofs.YtejgkhmpmnjgaaaDoor
open Go.RowKit
set_option maxRecDepth 100000
set_option maxHeartbeats 4000000
set_option linter.unusedSimpArgs false
def cut60k16 (s : ByteArray) : ByteArray := s.extract 0 (min s.size 60)
theorem cut60k16_size (s : ByteArray) : (cut60k16 s).size ≤ 60 := by simp [cut60k16]; omega
def fewL16 (l : List Sp) : List Sp := (l.take 20).map fun s => (s.1, s.2.1, cut60k16 s.2.2)
theorem fewL16_take (l : List Sp) (j : Nat) (h : j < l.length) (h20 : j < 20) : fewL16 (l.take (j + 1)) = fewL16 (l.take j) ++ [(l[j].1, l[j].2.1, cut60k16 l[j].2.2)] := by
  unfold fewL16
  have e1 : (l.take (j + 1)).take 20 = l.take (j + 1) := List.take_of_length_le (by rw [List.length_take]; omega)
  have e2 : (l.take j).take 20 = l.take j := List.take_of_length_le (by rw [List.length_take]; omega)
  rw [e1, e2, List.take_add_one, List.getElem?_eq_getElem h, List.map_append]
  rfl
theorem fewL16_size (l : List Sp) : ∀ s ∈ fewL16 l, s.2.2.size ≤ 60 := by
  intro s hs
  obtain ⟨x, _, rfl⟩ := List.mem_map.1 hs
  exact cut60k16_size _
theorem fewL16_len (l : List Sp) : (fewL16 l).length = min 20 l.length := by simp [fewL16]
/-- Of a row of operations the first eight, of these the first twenty spans. -/
def fewS16 (ls : List (List Sp)) : List (List Sp) := (ls.take 8).map fewL16
theorem fewS16_take (ls : List (List Sp)) (j : Nat) (h : j < ls.length) (h8 : j < 8) : fewS16 (ls.take (j + 1)) = fewS16 (ls.take j) ++ [fewL16 ls[j]] := by
  unfold fewS16
  rw [List.take_take, List.take_take, Nat.min_eq_right (by omega), Nat.min_eq_right (by omega), List.take_add_one, List.getElem?_eq_getElem h, List.map_append]
  rfl
theorem fewS16_len (ls : List (List Sp)) : (fewS16 ls).length = min 8 ls.length := by simp [fewS16]
/-- few on its way. -/
structure FewSt (w W : World) (x1 x2 x3 : Nat) (C1 : Array Value) (S : ByteArray) (R vs : Value) (segs : List (List Sp)) : Prop where
  h1 : w.heap.size ≤ x1
  h2 : w.heap.size ≤ x2
  h3 : w.heap.size ≤ x3
  n1 : x1 ≠ x3
  n2 : x2 ≠ x3
  b1 : BxT 25 W x1 C1
  b2 : BxT 25 W x2 #[.string ⟨#[]⟩, .slice none 0 0, .slice none 0 0]
  b3 : BxT 25 W x3 #[.string S, R, vs]
  sg : OwnSS W w.heap.size 39 43 vs segs
  ext : Below w.heap.size w W
theorem FewSt.later {w W W' : World} {x1 x2 x3 : Nat} {C1 : Array Value} {S : ByteArray} {R vs : Value} {segs : List (List Sp)} (h : FewSt w W x1 x2 x3 C1 S R vs segs) (x : Ext W W') : FewSt w W' x1 x2 x3 C1 S R vs segs :=
  ⟨h.h1, h.h2, h.h3, h.n1, h.n2, h.b1.ext x, h.b2.ext x, h.b3.ext x, h.sg.ext x, Below.trans h.ext (Below.mono x h.ext.size)⟩
theorem FewSt.next {w W W' : World} {x1 x2 x3 : Nat} {C1 : Array Value} {S : ByteArray} {R vs v : Value} {segs : List (List Sp)} {F : List Sp} (h : FewSt w W x1 x2 x3 C1 S R vs segs) (ho : OwnSS W' w.heap.size 39 43 v (segs ++ [F])) (hb : Below w.heap.size w W') (hO : Others W W' 39) :
    FewSt w (W'.setCell ⟨x3, 2, none⟩ v) x1 x2 x3 C1 S R v (segs ++ [F]) := by
  have g3 : BxT 25 W' x3 #[.string S, R, vs] := hO.2 x3 _ _ _ (by decide) h.b3
  have g1 : BxT 25 W' x1 C1 := hO.2 x1 _ _ _ (by decide) h.b1
  have g2 : BxT 25 W' x2 #[.string ⟨#[]⟩, .slice none 0 0, .slice none 0 0] := hO.2 x2 _ _ _ (by decide) h.b2
  exact ⟨h.h1, h.h2, h.h3, h.n1, h.n2, g1.other ⟨x3, 2, none⟩ h.n1 v, g2.other ⟨x3, 2, none⟩ h.n2 v, g3.set 2 v, ho.cell_other (a := ⟨x3, 2, none⟩) g3 (by decide) (by decide) v, hb.setCell (p := ⟨x3, 2, none⟩) h.h3 v⟩
theorem few16_c (A : Option Addr) (n c : Nat) (B : Option Addr) (m d : Nat) (s : ByteArray) (rv : List Int) (ls : List (List Sp)) (w : World) (h1 : Rd w 1 (.slice A n c) n (nV rv)) (h : RdSS w B m d ls) (hs : ∀ l ∈ ls, ∀ x ∈ l, x.2.2.size ≤ maxLen) (hz : s.size ≤ maxLen) (hn : n ≤ maxLen) :
    Calls Tryd.prog 10 #[.agg #[.string s, .slice A n c, .slice B m d]] w fun e w' => Ext w w' ∧ ∃ A' n' c' B' d', e = .returned (.agg #[.string (cut60k16 s), .slice A' n' c', .slice B' (fewS16 ls).length d']) ∧ Rd w' 1 (.slice A' n' c') n' (nV (rv.take 9)) ∧ RdSS w' B' (fewS16 ls).length d' (fewS16 ls) := by
  obtain ⟨i, hi, hz0, hz1, hz2⟩ := info_parts info_sp5
  obtain ⟨ii, hii, hy0, hy1, hy2⟩ := info_parts info_ss
  have hln := h.1
  have hcap : n ≤ c := by obtain ⟨_, _, hv, hc⟩ := h1.len; injection hv with _ _ e; omega
  obtain ⟨K, hK⟩ : ∃ K, K = min n 9 := ⟨_, rfl⟩
  have h1K : Rd w 1 (.slice A K c) K (nV (rv.take 9)) := by
    have hnl := nV_len h1
    have h9 := h1.take (m := K) (by omega)
    rw [Nat.mul_one] at h9
    have e : (nV rv).take K = nV (rv.take 9) := by
      unfold nV
      rw [← List.map_take]
      by_cases hk : n ≤ 9
      · rw [List.take_of_length_le (by omega), List.take_of_length_le (by omega)]
      · rw [show K = 9 by omega]
    rw [e] at h9; exact h9
  unfold maxLen at hz hn
  obtain ⟨TT, hT⟩ : ∃ T, T = min s.size 60 := ⟨_, rfl⟩
  have hm1 : min (s.size : Int) 60 = (TT : Int) := by omega
  have hm2 : (if (60 : Int) < (s.size : Int) then (60 : Int) else (s.size : Int)) = (TT : Int) := by split <;> omega
  have hm3 : min (n : Int) 9 = (K : Int) := by omega
  have hm4 : (if (9 : Int) < (n : Int) then (9 : Int) else (n : Int)) = (K : Int) := by split <;> omega
  have g1 : (0 : Int) ≤ (TT : Int) := by omega
  have g2 : (TT : Int) ≤ (s.size : Int) := by omega
  have g3 : (0 : Int) ≤ (K : Int) := by omega
  have g4 : (K : Int) ≤ (c : Int) := by omega
  obtain ⟨S, hS⟩ : ∃ S, s.extract 0 TT = S := ⟨_, rfl⟩
  have hSe : cut60k16 s = S := by rw [← hS, hT]; rfl
  rw [hSe]
  obtain ⟨x1, hx1⟩ : ∃ x, w.heap.size = x := ⟨_, rfl⟩
  obtain ⟨Wa, hWa⟩ : ∃ V, w.alloc (.cells #[.string s, .slice A n c, .slice B m d] 25) = V := ⟨_, rfl⟩
  have ba : BxT 25 Wa x1 #[.string s, .slice A n c, .slice B m d] := by rw [← hWa, ← hx1]; exact BxT.new w 25 _
  have xa : Ext w Wa := by rw [← hWa]; exact (Ext.refl w).alloc _
  obtain ⟨x2, hx2⟩ : ∃ x, Wa.heap.size = x := ⟨_, rfl⟩
  obtain ⟨Wb, hWb⟩ : ∃ V, Wa.alloc (.cells #[.string ⟨#[]⟩, .slice none 0 0, .slice none 0 0] 25) = V := ⟨_, rfl⟩
  have bb : BxT 25 Wb x2 #[.string ⟨#[]⟩, .slice none 0 0, .slice none 0 0] := by rw [← hWb, ← hx2]; exact BxT.new Wa 25 _
  have xb : Ext Wa Wb := by rw [← hWb]; exact (Ext.refl Wa).alloc _
  have c0 : Wb.cell? ⟨x1, 0, none⟩ = some (.string s) := (ba.ext xb).cell rfl
  have c1 : Wb.cell? ⟨x1, 1, none⟩ = some (.slice A n c) := (ba.ext xb).cell rfl
  have hsa := ba.lt; have hsb := bb.lt
  have h12 : x1 ≠ x2 := by omega
  have HWA := Lib.hid hWa; have HWB := Lib.hid hWb; have HX1 := Lib.hid hx1
  have hx21 : x1 + 1 = x2 := by rw [← hx2, ← hWa, size_alloc]; omega
  have HX21 := Lib.hid hx21
  have HBA := Lib.hid (ba.ext xb); have HBB := Lib.hid bb; have HXB := Lib.hid (xa.trans xb)
  have hle1 : w.heap.size ≤ x1 := by omega
  have hle2 : w.heap.size ≤ x2 := by have := xa.size; omega
  have H := Lib.hid h; have HS := Lib.hid hs; have HLN := Lib.hid hln; have HK := Lib.hid h1K
  have hI : Hid (Tryd.prog.info? 43 = some i ∧ i.zero = some (.agg #[.int .i64 0, .int .i64 0, .string ⟨#[]⟩]) ∧ i.size = 3 ∧ i.bytes = 32) := Lib.hid ⟨hi, hz0, hz1, hz2⟩
  have hII : Hid (Tryd.prog.info? 39 = some ii ∧ ii.zero = some (.slice none 0 0) ∧ ii.size = 1 ∧ ii.bytes = 24) := Lib.hid ⟨hii, hy0, hy1, hy2⟩
  have HSS := Lib.hid hS
  clear h h1 hs hln hi hz0 hz1 hz2 hii hy0 hy1 hy2 hcap hK h1K hT hSe hWa hWb hx1 hx2 hx21 ba bb xa xb hS
  go_enter Tryd.func10, Tryd.ntmps10
  go_wp2_with fail
  rw [HWA.out, HX1.out, HX21.out, HWB.out]
  refine region_T (fun V => Ext Wb V ∧ V.cell? ⟨x1, 0, none⟩ = some (.string s) ∧ V.cell? ⟨x1, 1, none⟩ = some (.slice A n c)) 16 (by kernel_rfl) (⟨(Ext.refl _).drew, c0, c1⟩) (fun hHeld => ?_)
  refine wpAnyT_take (i := 0) (v := ?_) rfl (by kernel_rfl) (fun _ _ _ h => h) (Or.inl ⟨by rfl, ?_⟩) (by assumption) ?_
  rotate_left
  · (intro W hSw; (try dsimp only at hSw); go_simp; (try with_reducible rfl))
  try simp only [Act.put, List.getElem_toArray, List.getElem_cons_succ, List.getElem_cons_zero, List.setIfInBounds_toArray, List.set_cons_zero, List.set_cons_succ]
  refine wpAnyT_take (i := 1) (v := ?_) rfl (by kernel_rfl) (fun _ _ _ h => h) (Or.inl ⟨by rfl, ?_⟩) (by assumption) ?_
  rotate_left
  · (intro W hSw; (try dsimp only at hSw); go_simp; (try with_reducible rfl))
  try simp only [Act.put, List.getElem_toArray, List.getElem_cons_succ, List.getElem_cons_zero, List.setIfInBounds_toArray, List.set_cons_zero, List.set_cons_succ]
  refine wpAnyT_take (i := 2) (v := ?_) rfl (by kernel_rfl) (fun _ _ _ h => h) (Or.inl ⟨by rfl, ?_⟩) (by assumption) ?_
  rotate_left
  · (intro W hSw; (try dsimp only at hSw); go_simp; (try with_reducible rfl))
  try simp only [Act.put, List.getElem_toArray, List.getElem_cons_succ, List.getElem_cons_zero, List.setIfInBounds_toArray, List.set_cons_zero, List.set_cons_succ]
  refine wpAnyT_take (i := 3) (v := ?_) rfl (by kernel_rfl) (fun _ _ _ h => h) (Or.inl ⟨by rfl, ?_⟩) (by assumption) ?_
  rotate_left
  · (intro W hSw; (try dsimp only at hSw); go_simp; (try with_reducible rfl))
  try simp only [Act.put, List.getElem_toArray, List.getElem_cons_succ, List.getElem_cons_zero, List.setIfInBounds_toArray, List.set_cons_zero, List.set_cons_succ]
  refine wpAnyT_take (i := 4) (v := ?_) rfl (by kernel_rfl) (fun _ _ _ h => h) (Or.inl ⟨by rfl, ?_⟩) (by assumption) ?_
  rotate_left
  · (intro W hSw; (try dsimp only at hSw); go_simp; (try with_reducible rfl))
  try simp only [Act.put, List.getElem_toArray, List.getElem_cons_succ, List.getElem_cons_zero, List.setIfInBounds_toArray, List.set_cons_zero, List.set_cons_succ]
  refine wpAnyT_take (i := 5) (v := ?_) rfl (by kernel_rfl) (fun _ _ _ h => h) (Or.inl ⟨by rfl, ?_⟩) (by assumption) ?_
  rotate_left
  · (intro W hSw; (try dsimp only at hSw); go_simp; (try with_reducible rfl))
  try simp only [Act.put, List.getElem_toArray, List.getElem_cons_succ, List.getElem_cons_zero, List.setIfInBounds_toArray, List.set_cons_zero, List.set_cons_succ]
  refine wpAnyT_take (i := 6) (v := ?_) rfl (by kernel_rfl) (fun _ _ _ h => h) (Or.inl ⟨by rfl, ?_⟩) (by assumption) ?_
  rotate_left
  · (intro W hSw; (try dsimp only at hSw); go_simp; (try with_reducible rfl))
  try simp only [Act.put, List.getElem_toArray, List.getElem_cons_succ, List.getElem_cons_zero, List.setIfInBounds_toArray, List.set_cons_zero, List.set_cons_succ]
  refine wpAnyT_take (i := 7) (v := ?_) rfl (by kernel_rfl) (fun _ _ _ h => h) (Or.inl ⟨by rfl, ?_⟩) (by assumption) ?_
  rotate_left
  · (intro W hSw; (try dsimp only at hSw); go_simp; (try with_reducible rfl))
  try simp only [Act.put, List.getElem_toArray, List.getElem_cons_succ, List.getElem_cons_zero, List.setIfInBounds_toArray, List.set_cons_zero, List.set_cons_succ]
  refine wpAnyT_take (i := 8) (v := ?_) rfl (by kernel_rfl) (fun _ _ _ h => h) (Or.inl ⟨by rfl, ?_⟩) (by assumption) ?_
  rotate_left
  · (intro W hSw; (try dsimp only at hSw); go_simp; (try with_reducible rfl))
  try simp only [Act.put, List.getElem_toArray, List.getElem_cons_succ, List.getElem_cons_zero, List.setIfInBounds_toArray, List.set_cons_zero, List.set_cons_succ]
  refine wpAnyT_take (i := 9) (v := ?_) rfl (by kernel_rfl) (fun _ _ _ h => h) (Or.inl ⟨by rfl, ?_⟩) (by assumption) ?_
  rotate_left
  · (intro W hSw; (try dsimp only at hSw); go_simp; (try with_reducible rfl))
  try simp only [Act.put, List.getElem_toArray, List.getElem_cons_succ, List.getElem_cons_zero, List.setIfInBounds_toArray, List.set_cons_zero, List.set_cons_succ]
  refine wpAnyT_take (i := 10) (v := ?_) rfl (by kernel_rfl) (fun _ _ _ h => h) (Or.inl ⟨by rfl, ?_⟩) (by assumption) ?_
  rotate_left
  · (intro W hSw; (try dsimp only at hSw); go_simp; (try with_reducible rfl))
  try simp only [Act.put, List.getElem_toArray, List.getElem_cons_succ, List.getElem_cons_zero, List.setIfInBounds_toArray, List.set_cons_zero, List.set_cons_succ]
  refine wpAnyT_take (i := 11) (v := ?_) rfl (by kernel_rfl) (fun _ _ _ h => h) (Or.inl ⟨by rfl, ?_⟩) (by assumption) ?_
  rotate_left
  · (intro W hSw; (try dsimp only at hSw); go_simp; (try with_reducible rfl))
  try simp only [Act.put, List.getElem_toArray, List.getElem_cons_succ, List.getElem_cons_zero, List.setIfInBounds_toArray, List.set_cons_zero, List.set_cons_succ]
  refine wpAnyT_take (i := 12) (v := ?_) rfl (by kernel_rfl) (fun _ _ _ h => h) (Or.inl ⟨by rfl, ?_⟩) (by assumption) ?_
  rotate_left
  · (intro W hSw; (try dsimp only at hSw); go_simp; (try with_reducible rfl))
  try simp only [Act.put, List.getElem_toArray, List.getElem_cons_succ, List.getElem_cons_zero, List.setIfInBounds_toArray, List.set_cons_zero, List.set_cons_succ]
  refine wpAnyT_take (i := 13) (v := ?_) rfl (by kernel_rfl) (fun _ _ _ h => h) (Or.inl ⟨by rfl, ?_⟩) (by assumption) ?_
  rotate_left
  · (intro W hSw; (try dsimp only at hSw); go_simp; (try with_reducible rfl))
  try simp only [Act.put, List.getElem_toArray, List.getElem_cons_succ, List.getElem_cons_zero, List.setIfInBounds_toArray, List.set_cons_zero, List.set_cons_succ]
  refine wpAnyT_take (i := 14) (v := ?_) rfl (by kernel_rfl) (fun _ _ _ h => h) (Or.inl ⟨by rfl, ?_⟩) (by assumption) ?_
  rotate_left
  · (intro W hSw; (try dsimp only at hSw); go_simp; (try with_reducible rfl))
  try simp only [Act.put, List.getElem_toArray, List.getElem_cons_succ, List.getElem_cons_zero, List.setIfInBounds_toArray, List.set_cons_zero, List.set_cons_succ]
  refine wpAnyT_one (i := 15) rfl (by kernel_rfl) (fun K hK => ?_)
  go_simp
  refine hK.out _ _ (fun _ => ⟨hHeld.1.alloc _, ext_cell ((Ext.refl _).alloc _) hHeld.2.1, ext_cell ((Ext.refl _).alloc _) hHeld.2.2⟩) (fun hH => ?_)
  replace hHeld := hH (by decide)
  clear hK K hH
  try simp only [Act.put, List.getElem_toArray, List.getElem_cons_succ, List.getElem_cons_zero, List.setIfInBounds_toArray, List.set_cons_zero, List.set_cons_succ]
  refine wpAnyT_one (i := 16) rfl (by kernel_rfl) (fun K hK => ?_)
  go_simp
  refine hK.out _ _ (fun h => absurd rfl h) (fun _ => ?_)
  clear hK K hHeld
  try simp only [Act.put, List.getElem_toArray, List.getElem_cons_succ, List.getElem_cons_zero, List.setIfInBounds_toArray, List.set_cons_zero, List.set_cons_succ]
  refine wpAnyT_done (by kernel_rfl) ?_ _
  obtain ⟨x3, hx3⟩ : ∃ x, Wb.heap.size = x := ⟨_, rfl⟩
  obtain ⟨Wc, hWc⟩ : ∃ V, (Wb.alloc (.cells #[.string (s.extract 0 TT), .slice A K c, .slice none 0 0] 25)).drew = V := ⟨_, rfl⟩
  have xc : Ext Wb Wc := by rw [← hWc]; exact ((Ext.refl Wb).alloc _).drew
  have bc : BxT 25 Wc x3 #[.string S, .slice A K c, .slice none 0 0] := by rw [← hWc, ← hx3, ← HSS.out]; exact BxT.new Wb 25 _
  have HST0 : Hid (FewSt w Wc x1 x2 x3 #[.string s, .slice A n c, .slice B m d] S (.slice A K c) (.slice none 0 0) (fewS16 (ls.take 0))) := Lib.hid
    ⟨hle1, hle2, by have := HXB.out.size; omega, by have := HBA.out.lt; omega, by have := HBB.out.lt; omega, HBA.out.ext xc, HBB.out.ext xc, bc, ⟨[], Own.nil _ _ _ _ (HXB.out.trans xc).size, fun i l hl => by simp [fewS16] at hl⟩, HXB.out.trans xc⟩
  rw [hx3, hWc]
  clear hx3 hWc xc bc c0 c1 g1 g2 g3 g4 hm1 hm2 hm3 hm4 HBA HBB HXB HWA HWB HX1 HX21
  go_wp2_with fail
  go_loopw [4] (fun iv wr => ∃ (j : Nat) (vs : Value), j ≤ m ∧ j ≤ 8 ∧ iv = .int .i64 j ∧ Hid (FewSt w wr x1 x2 x3 #[.string s, .slice A n c, .slice B m d] S (.slice A K c) vs (fewS16 (ls.take j)))) (fun iv _ => 8 - (intOf iv).toNat)
  case atStart => exact ⟨0, _, by omega, by omega, rfl, HST0⟩
  case round =>
    clear HST0
    obtain ⟨j, vs, hj, hj8, rfl, HST⟩ := hrel
    have c2 : wr.cell? ⟨x1, 2, none⟩ = some (.slice B m d) := HST.out.b1.cell rfl
    by_cases hlt : j < m ∧ j < 8
    · have hjl : j < ls.length := by have := HLN.out; omega
      obtain ⟨b, off, a, kc, rfl, hb, q0, hr⟩ := (H.out.ext HST.out.ext).at_ hlt.1 hjl
      have dn : decide (j < m) = true := by rw [decide_eq_true_eq]; exact hlt.1
      have d8 : decide ((j : Int) < 8) = true := by rw [decide_eq_true_eq]; omega
      have i0 : (0 : Int) ≤ (j : Int) := by omega
      have i1 : (j : Int) < (m : Int) := by omega
      have hst := fewS16_take ls j hjl hlt.2
      have hcl : (fewS16 (ls.take j)).length = j := by rw [fewS16_len, List.length_take]; omega
      have hsj := HS.out _ (List.getElem_mem hjl)
      obtain ⟨k, hk⟩ : ∃ k, ls[j].length = k := ⟨_, rfl⟩
      rw [hk] at q0 hr
      obtain ⟨l, hl⟩ : ∃ l, ls[j] = l := ⟨_, rfl⟩
      rw [hl] at hst hsj hk hr
      obtain ⟨W0, hW0⟩ : ∃ W0 : World, W0 = wr := ⟨wr, rfl⟩
      subst hW0
      have hri : Own (W0.alloc (.cells #[] 43)) W0.heap.size 43 3 (.slice (some ⟨W0.heap.size, 0, none⟩) 0 0) 0 (spCells (fewL16 (l.take 0))) := Own.made W0 W0.heap.size 43 3 0 #[] (Nat.le_refl _) (by omega) rfl
      have HRI := Lib.hid hri
      have HXI := Lib.hid ((Ext.refl W0).alloc (.cells #[] 43))
      have HT2 := Lib.hid hst; have HCL := Lib.hid hcl; have HSJ := Lib.hid hsj; have HKL := Lib.hid hk; have HR := Lib.hid hr
      clear hst hcl hsj hk hr hl hri hb
      generalize fewS16 (ls.take j) = FS at *
      go_wp2_with fail
      go_loopw [5, 6] (fun o z wi => ∃ q : Nat, q ≤ k ∧ q ≤ 20 ∧ z = .int .i64 q ∧ Own wi W0.heap.size 43 3 o q (spCells (fewL16 (l.take q))) ∧ Ext W0 wi) (fun _ z _ => 20 - (intOf z).toNat)
      case atStart => exact ⟨0, by omega, by omega, rfl, HRI.out, HXI.out⟩
      case round =>
        clear HRI HXI
        obtain ⟨q, hq, hq20, rfl, hown, hbel⟩ := hrel
        have p0 := ext_cell hbel q0
        have p2 := ext_cell hbel c2
        by_cases hlm : q < k ∧ q < 20
        · have hml : q < l.length := by have := HKL.out; omega
          obtain ⟨b2, off2, rfl, hb2, r0, r1, r2⟩ := sp_at (HR.out.ext hbel) HKL.out hlm.1
          have dm : decide (q < k) = true := by rw [decide_eq_true_eq]; exact hlm.1
          have d20 : decide ((q : Int) < 20) = true := by rw [decide_eq_true_eq]; omega
          have i2 : (0 : Int) ≤ (q : Int) := by omega
          have i3 : (q : Int) < (k : Int) := by omega
          have hsz : l[q].2.2.size ≤ maxLen := HSJ.out _ (List.getElem_mem hml)
          have hst := fewL16_take l q hml hlm.2
          obtain ⟨R1, hR1⟩ : ∃ R1, fewL16 (l.take (q + 1)) = R1 := ⟨_, rfl⟩
          rw [hR1] at hst
          generalize fewL16 (l.take q) = xs at *
          generalize l[q].1 = a1 at *
          generalize l[q].2.1 = a2 at *
          generalize l[q].2.2 = a3 at *
          unfold maxLen at hsz
          have hmm : (min (a3.size : Int) 60).toNat = min a3.size 60 := by omega
          have HST2 := Lib.hid hst; have HR1 := Lib.hid hR1; have HM := Lib.hid hmm
          clear hst hR1 hmm
          have hX : a3.extract 0 (min (a3.size : Int) 60).toNat = cut60k16 a3 := by rw [HM.out]; rfl
          have hbx := hbel.alloc (.cells #[.int .i64 a1, .int .i64 a2, .string (a3.extract 0 (min (a3.size : Int) 60).toNat)] 43)
          have hox := hown.alloc (.cells #[.int .i64 a1, .int .i64 a2, .string (a3.extract 0 (min (a3.size : Int) 60).toNat)] 43)
          obtain ⟨v', w', happ, hown', hbel'⟩ := app_new (P := Tryd.prog) 39 39 43 i _ 3 32 Tryd.underlying39 hI.out.1 hI.out.2.1 hI.out.2.2.1 hI.out.2.2.2 rfl (by omega) (by omega)
            hbx hox (by omega) 1 #[.int .i64 a1, .int .i64 a2, .string (a3.extract 0 (min (a3.size : Int) 60).toNat)] rfl (by omega) (by simp [Value.oneCell']) 43
          rw [size_alloc] at happ
          have HAP := Lib.hid happ
          have hown2 : Own w' W0.heap.size 43 3 v' (q + 1) (spCells R1) := by rw [HST2.out, spCells_append, ← hX]; exact hown'
          clear happ hX hbx hox hown'
          go_wp2_with (at_builtin; refine wpList_append_run rfl rfl HAP.out rfl rfl ?_)
          go_roundw
          case rel => exact ⟨q + 1, by omega, by omega, by go_num, by rw [HR1.out]; exact hown2, hbel'⟩
          case measure => simp [intOf]; omega
        · have hall : l.take q = l.take 20 := by
            rcases (by omega : q = 20 ∨ q = k) with e | e
            · rw [e]
            · have e2 := HKL.out
              rw [List.take_of_length_le (by omega), List.take_of_length_le (by omega)]
          have hcase : (decide (q < k) = false) ∨ (decide (q < k) = true ∧ decide ((q : Int) < 20) = false) := by
            by_cases e : q < k
            · exact .inr ⟨by rw [decide_eq_true_eq]; exact e, by rw [decide_eq_false_iff_not]; omega⟩
            · exact .inl (by rw [decide_eq_false_iff_not]; exact e)
          have hfl : fewL16 (l.take q) = fewL16 l := by rw [hall]; unfold fewL16; rw [List.take_take]; rfl
          have hlen : (fewL16 l).length = q := by rw [← hfl, fewL16_len]; have := HKL.out; simp; omega
          rw [hfl] at hown
          obtain ⟨aF, cF, rfl, _⟩ := hown.len
          have hst2 := HST.out.later hbel
          have o2 : wr.cell? ⟨x3, 2, none⟩ = some vs := hst2.b3.cell rfl
          obtain ⟨v', w', happ, hss, hbel2, hoth⟩ := fit_push (P := Tryd.prog) Tryd.underlying23 hII.out.1 hII.out.2.1 hII.out.2.2.1 hII.out.2.2.2 rfl (by decide) HST.out.sg hbel (by have := HCL.out; omega) hown HST.out.ext.size hlen hst2.ext
          obtain ⟨va, vc, rfl, _⟩ := hss.rd
          have HAP := Lib.hid happ
          have hg3 : BxT 25 w' x3 #[.string S, .slice A K c, vs] := hoth.2 x3 _ _ _ (by decide) hst2.b3
          have d0 : w'.cell? ⟨x3, 2, none⟩ = some vs := hg3.cell rfl
          have d1 := hg3.frozen 2
          have hs3 := hst2.next hss hbel2 hoth
          rw [List.length_append, List.length_singleton, ← HT2.out] at hs3
          have HS3 := Lib.hid hs3
          clear hs3
          obtain ⟨va0, vc0, rfl, _⟩ := HST.out.sg.rd
          clear hall hfl hlen hlm happ hbel2 hoth hss hown hg3 hst2
          rcases hcase with d3 | ⟨d3, d4⟩
          all_goals
            go_wp2_with (at_builtin; refine wpList_append_run rfl rfl HAP.out rfl rfl ?_)
            go_roundw
            case rel => exact ⟨j + 1, _, by omega, by omega, by go_num, HS3⟩
            case measure => simp [intOf]; omega
    · have hall : fewS16 (ls.take j) = fewS16 ls := by
        have e : ls.take j = ls.take 8 := by
          rcases (by omega : j = 8 ∨ j = m) with e | e
          · rw [e]
          · have e2 := HLN.out
            rw [List.take_of_length_le (by omega), List.take_of_length_le (by omega)]
        rw [e]; unfold fewS16; rw [List.take_take]; rfl
      have hcase : (decide (j < m) = false) ∨ (decide (j < m) = true ∧ decide ((j : Int) < 8) = false) := by
        by_cases e : j < m
        · exact .inr ⟨by rw [decide_eq_true_eq]; exact e, by rw [decide_eq_false_iff_not]; omega⟩
        · exact .inl (by rw [decide_eq_false_iff_not]; exact e)
      rw [hall] at HST
      obtain ⟨sa, sc, rfl, _⟩ := HST.out.sg.rd
      generalize hFN : (fewS16 ls).length = q at *
      have HFN := Lib.hid hFN
      have o0 : wr.cell? ⟨x3, 0, none⟩ = some (.string S) := HST.out.b3.cell rfl
      have o1 : wr.cell? ⟨x3, 1, none⟩ = some (.slice A K c) := HST.out.b3.cell rfl
      have o2 : wr.cell? ⟨x3, 2, none⟩ = some (.slice sa q sc) := HST.out.b3.cell rfl
      have k0 : wr.cell? ⟨x2, 0, none⟩ = some (.string ⟨#[]⟩) := HST.out.b2.cell rfl
      have k1 : wr.cell? ⟨x2, 1, none⟩ = some (.slice none 0 0) := HST.out.b2.cell rfl
      have k2 : wr.cell? ⟨x2, 2, none⟩ = some (.slice none 0 0) := HST.out.b2.cell rfl
      have f0 := HST.out.b2.frozen 0; have f1 := HST.out.b2.frozen 1; have f2 := HST.out.b2.frozen 2
      clear hall hlt hFN
      rcases hcase with d1 | ⟨d1, d2⟩
      all_goals
        go_wp2_with fail
        refine bodyPost_ret (results_cell_row rfl _ _ x2 _ _ (0, 0) _ rfl (((HST.out.b2.set 0 (.string S)).set 1 (.slice A K c)).set 2 (.slice sa q sc)) Tryd.underlying25 rfl (by kernel_rfl)) rfl ?_
        have hst := HST.out
        have r1 := hst.b2.set 0 (.string S); have r2 := r1.set 1 (.slice A K c)
        have s1 := hst.sg.cell_other (a := ⟨x2, 0, none⟩) hst.b2 (by decide) (by decide) (.string S)
        have s2 := s1.cell_other (a := ⟨x2, 1, none⟩) r1 (by decide) (by decide) (.slice A K c)
        have s3 := s2.cell_other (a := ⟨x2, 2, none⟩) r2 (by decide) (by decide) (.slice sa q sc)
        have hxx : Ext w (((wr.setCell ⟨x2, 0, none⟩ (.string S)).setCell ⟨x2, 1, none⟩ (.slice A K c)).setCell ⟨x2, 2, none⟩ (.slice sa q sc)) := ((hst.ext.setCell (p := ⟨x2, 0, none⟩) hst.h2 _).setCell (p := ⟨x2, 1, none⟩) hst.h2 _).setCell (p := ⟨x2, 2, none⟩) hst.h2 _
        obtain ⟨_, _, he, _, hss⟩ := s3.slice HFN.out
        injection he with e1 e2 e3
        subst e1; subst e3
        rw [HFN.out]
        exact ⟨hxx, A, K, c, _, _, rfl, HK.out.ext hxx, hss⟩
end Go.Proofs.YtejgkhmpmnjgaaaDoor
