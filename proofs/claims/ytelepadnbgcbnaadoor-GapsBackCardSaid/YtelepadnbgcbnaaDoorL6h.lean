/- Layer 6, GapsBack. -/
import Derived.Test.YtelepadnbgcbnaaDoorL6g
import Derived.Deep.RegionHeld3
namespace Go.Proofs.YtelepadnbgcbnaaDoor
open Go.RowKit
set_option maxRecDepth 100000
set_option maxHeartbeats 4000000
theorem tout_ins (cs : List Nat) : tout (cs.map Tok.ins) = cs.length := by
  induction cs with
  | nil => rfl
  | cons c cs ih =>
    have e : tout (Tok.ins c :: cs.map Tok.ins) = tout (cs.map Tok.ins) + 1 := by simp [tout]
    rw [List.map_cons, e, ih]; rfl
def cntB (ds : List Bool) : Int := (ds.map fun d => if d then (0 : Int) else 1).sum
def lenP (ps : List (List Nat)) : Int := (ps.map fun p => (p.length : Int)).sum
theorem tout_ug (ps : List (List Nat)) (ds : List Bool) (h : ps.length = ds.length + 1) : (tout (ug ps ds) : Int) = lenP ps + cntB ds := by
  induction ds generalizing ps with
  | nil =>
    match ps, h with
    | [p], _ =>
      show (tout (p.map Tok.ins) : Int) = _
      rw [tout_ins]; simp [lenP, cntB]
  | cons d ds ih =>
    cases ps with
    | nil => simp at h
    | cons p ps =>
      have g := ih ps (by simpa using h)
      show (tout (p.map Tok.ins ++ (if d then Tok.del else Tok.keep) :: ug ps ds) : Int) = _
      have e : ((if d then Tok.del else Tok.keep) :: ug ps ds) = [if d then Tok.del else Tok.keep] ++ ug ps ds := rfl
      have e2 : (tout [if d then Tok.del else Tok.keep] : Int) = if d then 0 else 1 := by cases d <;> rfl
      have e3 : lenP (p :: ps) = p.length + lenP ps := by simp [lenP]
      have e4 : cntB (d :: ds) = (if d then 0 else 1) + cntB ds := by simp [cntB]
      rw [e, tout_append, tout_append, tout_ins, e3, e4]
      omega
theorem lenP_take (ps : List (List Nat)) (j : Nat) (h : j < ps.length) : lenP (ps.take (j + 1)) = lenP (ps.take j) + ps[j].length := by
  unfold lenP
  rw [List.take_add_one, List.getElem?_eq_getElem h, List.map_append, List.sum_append]
  simp
theorem cntB_take (ds : List Bool) (j : Nat) (h : j < ds.length) : cntB (ds.take (j + 1)) = cntB (ds.take j) + if ds[j] then 0 else 1 := by
  unfold cntB
  rw [List.take_add_one, List.getElem?_eq_getElem h, List.map_append, List.sum_append]
  simp
theorem raw_may (ts : List ByteArray) (ds : List Bool) (h : ∀ t ∈ ts, ∃ cs, dec (bs t) = some cs) : ∀ s ∈ raw ts ds, mayS s.1 s.2.1 s.2.2 = 0 := by
  have h2 : ∀ t, (∃ cs, dec (bs t) = some cs) → mayS 2 0 t = 0 := by
    rintro t ⟨cs, hd⟩
    unfold mayS; rw [if_neg (by simp), if_pos rfl, if_pos rfl, hd]; rfl
  have h1 : ∀ d : Bool, mayS (if d then 3 else 1) 1 ⟨#[]⟩ = 0 := by
    intro d
    cases d
    · unfold mayS; rw [if_pos (by simp), if_neg (by omega)]; rfl
    · unfold mayS; rw [if_pos (by simp), if_neg (by omega)]; rfl
  induction ts generalizing ds with
  | nil => intro s hs; cases hs
  | cons t ts ih =>
    have ht := h2 t (h t (List.mem_cons_self ..))
    have hr : ∀ u ∈ ts, ∃ cs, dec (bs u) = some cs := fun u hu => h u (List.mem_cons_of_mem _ hu)
    cases ds with
    | nil =>
      intro s hs
      rcases List.mem_cons.1 hs with rfl | hs
      · exact ht
      · exact ih [] hr s hs
    | cons d ds =>
      intro s hs
      rcases List.mem_cons.1 hs with rfl | hs
      · exact ht
      · rcases List.mem_cons.1 hs with rfl | hs
        · exact h1 d
        · exact ih ds hr s hs
theorem sumT_raw (ts : List ByteArray) (ds : List Bool) : sumT (raw ts ds) = (ts.map fun t => t.size).sum := by
  induction ts generalizing ds with
  | nil => rfl
  | cons t ts ih =>
    cases ds with
    | nil =>
      show t.size + sumT (raw ts []) = _
      rw [ih, List.map_cons, List.sum_cons]
    | cons d ds =>
      show t.size + (0 + sumT (raw ts ds)) = _
      rw [ih, List.map_cons, List.sum_cons, Nat.zero_add]
theorem sum_le (ts : List ByteArray) (k : Nat) (h : ∀ t ∈ ts, t.size ≤ k) : (ts.map fun t => t.size).sum ≤ ts.length * k := by
  induction ts with
  | nil => simp
  | cons t ts ih =>
    have h1 := h t (List.mem_cons_self ..)
    have h2 := ih fun u hu => h u (List.mem_cons_of_mem _ hu)
    rw [List.map_cons, List.sum_cons, List.length_cons, Nat.add_mul]
    omega
theorem sumT_ge (l : List Sp) : ∀ s ∈ l, s.2.2.size ≤ sumT l := by
  induction l with
  | nil => intro s hs; cases hs
  | cons a t ih =>
    intro s hs
    have e : sumT (a :: t) = a.2.2.size + sumT t := rfl
    rcases List.mem_cons.1 hs with rfl | hs
    · omega
    · have := ih s hs; omega
/-- All that the contracts ask of an operation made of gaps that may be. -/
theorem raw_all (ps : List (List Nat)) (ds : List Bool) (h : ps.length = ds.length + 1) (hd : ds.length ≤ 40) (hc : ∀ p ∈ ps, (∀ c ∈ p, IsCp c) ∧ p.length ≤ 20) :
    (putC ps).length = ds.length + 1 ∧ spansE (putC ps) ds = 0 ∧ (∀ t ∈ putC ps, t.size ≤ 1000000000) ∧ ((putC ps).map fun t => t.size).sum ≤ 1000000000 ∧
    (normL (raw (putC ps) ds)).length ≤ 100 ∧ (∀ s ∈ normL (raw (putC ps) ds), s.2.2.size ≤ 1000000000) ∧ sumT (normL (raw (putC ps) ds)) ≤ 1000000000 ∧
    gapsE (normL (raw (putC ps) ds)) = 0 ∧ inL (normL (raw (putC ps) ds)) = (ds.length : Int) ∧ outL (normL (raw (putC ps) ds)) = lenP ps + cntB ds ∧
    gpP (tok (normL (raw (putC ps) ds))) = ps ∧ gpD (tok (normL (raw (putC ps) ds))) = ds ∧ isN (normL (raw (putC ps) ds)) := by
  have hcp : ∀ p ∈ ps, ∀ c ∈ p, IsCp c := fun p hp => (hc p hp).1
  have hpl : (putC ps).length = ds.length + 1 := by rw [putC_length]; exact h
  obtain ⟨t1, t2⟩ := tok_raw ps ds h hcp
  have hsz : ∀ t ∈ putC ps, t.size ≤ 80 := by
    intro t ht
    obtain ⟨p, hp, rfl⟩ := List.mem_map.1 ht
    rw [size_mkS]
    have := encs_le p; have := (hc p hp).2; omega
  have hsum : ((putC ps).map fun t => t.size).sum ≤ 3280 := by
    have := sum_le (putC ps) 80 hsz
    rw [hpl] at this
    omega
  have hmay := raw_may (putC ps) ds (fun t ht => by
    obtain ⟨p, hp, rfl⟩ := List.mem_map.1 ht
    exact ⟨p, by rw [bs_mkS, dec_encs (hcp p hp)]⟩)
  have hrl := raw_len (putC ps) ds
  have hnl := norm_len (raw (putC ps) ds)
  have hT : sumT (normL (raw (putC ps) ds)) ≤ 3280 := by rw [sumT_norm, sumT_raw]; exact hsum
  have htk : tok (normL (raw (putC ps) ds)) = ug ps ds := by rw [tok_norm _ t2, t1]
  have hokn := (norm_okW _ t2).1
  obtain ⟨g1, g2⟩ := gp_ug ps ds h
  obtain ⟨i1, i2⟩ := tin_ok _ hokn
  have hin : inL (normL (raw (putC ps) ds)) = (ds.length : Int) := by rw [← i1, htk, ← gpD_length, g2]
  have hsn : sumN (raw (putC ps) ds) = (ds.length : Int) := by
    unfold sumN
    rw [(may_sum _ hmay).2, ← inL_norm, hin]
  have hmn := norm_may _ hmay (by omega)
  refine ⟨hpl, ?_, fun t ht => by have := hsz t ht; omega, by omega, by omega, fun s hs => ?_, by omega, ?_, hin, ?_, by rw [htk, g1], by rw [htk, g2], norm_is _ (okW_pos _ t2)⟩
  · unfold spansE
    rw [if_pos hpl, if_neg (by omega), if_pos (okTs_put _ hcp)]
  · have := sumT_ge _ s hs; omega
  · unfold gapsE
    rw [if_pos (mayL_ok _ hmn (by omega) (by omega)), if_neg (by omega)]
  · rw [← i2, htk, tout_ug ps ds h]
theorem gapsBack_c (A B : Option Addr) (n c m d : Nat) (ts : List ByteArray) (ds : List Bool) (w : World) [Tab w] (h : Rd w 1 (.slice A n c) n (ts.map Value.string)) (h' : Rd w 1 (.slice B m d) m (ds.map Value.bool)) (hl : ts.length = n) (hl' : ds.length = m) (hmd : m ≤ d) (hts : ∀ t ∈ ts, t.size ≤ maxLen)
    (hm : m ≤ 9223372036854775807) (hd : d ≤ 9223372036854775807) :
    Calls Tryd.prog 4 #[.agg #[.slice A n c, .slice B m d]] w fun e w' => e = .returned (.bool true) ∧ Below w.heap.size w w' := by
  have HF : Hid (∀ w', Ext w w' → _) := Lib.hid fun w' hx => fit6_c A B n c m d ts ds w' (h.ext hx) (h'.ext hx) hl hl' hmd hts hm hd
  obtain ⟨M, hM⟩ : ∃ M, min m 40 = M := ⟨_, rfl⟩
  rw [hM] at HF
  have hM40 : M ≤ 40 := by omega
  have HGD : Hid (Rd w 1 (.slice B M d) M ((ds.take M).map Value.bool)) := Lib.hid (by
    have h2 := rd_take1 h' (k := M) (by omega)
    rw [← List.map_take] at h2
    exact h2)
  have hdl : (ds.take M).length = M := by rw [List.length_take]; omega
  have hpl : (fitP ts (M + 1)).length = (ds.take M).length + 1 := by rw [fitP_len, hdl]
  obtain ⟨f1, f2, f3, f4, f5, f6, f7, f8, f9, f10, f11, f12, f13⟩ := raw_all (fitP ts (M + 1)) (ds.take M) hpl (by omega) (fitP_all ts (M + 1))
  have hcp := fitP_all ts (M + 1)
  have hBX : ∀ w', Ext (w.alloc (.cells #[.slice A n c, .slice B m d] 26)) w' → w'.cell? ⟨w.heap.size, 0, none⟩ = some (.slice A n c) ∧ w'.cell? ⟨w.heap.size, 1, none⟩ = some (.slice B m d) := fun w' hx => ⟨box_at _ _ _ _ hx 0 _ rfl, box_at _ _ _ _ hx 1 _ rfl⟩
  have HBX := Lib.hid hBX
  clear hBX h h' hl hl' hts hM
  generalize fitP ts (M + 1) = ps at *
  generalize ds.take M = gs at *
  rw [hdl] at f1 f9
  have hps : ps.length = M + 1 := by omega
  obtain ⟨rw0, hrw⟩ : ∃ rw0, raw (putC ps) gs = rw0 := ⟨_, rfl⟩
  rw [hrw] at f5 f6 f7 f8 f9 f10 f11 f12 f13
  have HGB := Lib.hid f13
  obtain ⟨L, hL⟩ : ∃ L, normL rw0 = L := ⟨_, rfl⟩
  have HS : Hid (∀ A c w', Ext w w' → Rd w' 1 (.slice A (M + 1) c) (M + 1) ((putC ps).map Value.string) → Calls Tryd.prog 12 #[.agg #[.slice A (M + 1) c, .slice B M d]] w' fun e w'' => ∃ v, e = .returned (.tuple #[v, .int .i64 0]) ∧ Ext w' w'' ∧ Rd w'' 3 v L.length (spCells L)) := Lib.hid fun A c w' hx hr1 => by
    have hTb := tab_ext hx
    refine (spans_c A B (M + 1) c M d _ _ w' hr1 (HGD.out.ext hx) f1 hdl (by omega) (by omega) f3 f4).mono ?_
    rintro e w'' ⟨hx, ⟨h1, _⟩ | ⟨_, v, rfl, hr⟩⟩
    · exact absurd f2 h1
    · rw [hrw, hL] at hr
      exact ⟨v, rfl, hx, hr⟩
  rw [hL] at f5 f6 f7 f8 f9 f10 f11 f12 HGB
  obtain ⟨nL, hnL⟩ : ∃ nL, L.length = nL := ⟨_, rfl⟩
  rw [hnL] at HS f5
  have HNL := Lib.hid hnL
  have HG : Hid (∀ A k w', Ext w w' → Rd w' 3 (.slice A nL k) nL (spCells L) → Calls Tryd.prog 10 #[.slice A nL k] w' fun e w'' => ∃ C c D k, e = .returned (.tuple #[.agg #[.slice C (M + 1) c, .slice D M k], .int .i64 0]) ∧ Ext w' w'' ∧ Rd w'' 1 (.slice C (M + 1) c) (M + 1) ((putC ps).map Value.string) ∧ Rd w'' 1 (.slice D M k) M (gs.map Value.bool)) := Lib.hid fun A k w' hx hr => by
    have hTb := tab_ext hx
    have h := (gaps_c A nL k L w' hr HNL.out (by omega) f6 f7).mono fun e w'' h => h.ok f8 (n := M) (by rw [f9])
    rw [f11, f12] at h
    exact h
  have hwi : wrap64 (inL L) = (M : Int) := by rw [f9]; unfold wrap64; omega
  have HIN : Hid (∀ A k w', Ext w w' → Rd w' 3 (.slice A nL k) nL (spCells L) → Calls Tryd.prog 20 #[.slice A nL k] w' fun e w'' => e = .returned (.int .i64 (M : Int)) ∧ Ext w' w'') := Lib.hid fun A k w' hx hr => by
    have hTb := tab_ext hx
    have h := in4_c A nL k L w' hr HNL.out (by omega)
    rw [hwi] at h
    exact h
  obtain ⟨OUT, hOUT⟩ : ∃ OUT, wrap64 (lenP ps + cntB gs) = OUT := ⟨_, rfl⟩
  have HOU : Hid (∀ A k w', Ext w w' → Rd w' 3 (.slice A nL k) nL (spCells L) → Calls Tryd.prog 21 #[.slice A nL k] w' fun e w'' => e = .returned (.int .i64 OUT) ∧ Ext w' w'') := Lib.hid fun A k w' hx hr => by
    have hTb := tab_ext hx
    have h := out4_c A nL k L w' hr HNL.out (by omega) f6
    rw [f10, hOUT] at h
    exact h
  have HIS : Hid (∀ A k w', Rd w' 3 (.slice A nL k) nL (spCells L) → Calls Tryd.prog 19 #[.slice A nL k] w' fun e w'' => e = .returned (.bool true) ∧ Ext w' w'') := Lib.hid fun A k w' hr => by
    refine (is5_c A nL k L w' hr HNL.out (by omega)).mono ?_
    rintro e w'' ⟨b, rfl, hx, hb⟩
    rw [hb.2 HGB.out]
    exact ⟨rfl, hx⟩
  have HSA : Hid (∀ C c D k A2 c2 w', Rd w' 1 (.slice C (M + 1) c) (M + 1) ((putC ps).map Value.string) → Rd w' 1 (.slice D M k) M (gs.map Value.bool) → Rd w' 1 (.slice A2 (M + 1) c2) (M + 1) ((putC ps).map Value.string) → Rd w' 1 (.slice B M d) M (gs.map Value.bool) → Calls Tryd.prog 15 #[.agg #[.slice C (M + 1) c, .slice D M k], .agg #[.slice A2 (M + 1) c2, .slice B M d]] w' fun e w'' => e = .returned (.bool true) ∧ Ext w' w'') := Lib.hid fun C c D k A2 c2 w' r1 r2 r3 r4 => by
    have h := same6_c C D A2 B (M + 1) c M k (M + 1) c2 M d _ _ _ _ w' r1 r2 r3 r4 f1 hdl f1 hdl (by omega) (by omega)
    rw [decide_eq_true ⟨rfl, rfl⟩] at h
    exact h
  have HCN : Hid (∀ j, (hj : j < ps.length) → ∃ t, (putC ps)[j]? = some t ∧ ∀ w', Calls Tryd.prog 18 #[.string t] w' fun e w'' => e = .returned (.int .i64 (ps[j].length : Int)) ∧ Ext w' w'') := Lib.hid fun j hj => by
    refine ⟨mkS (encs ps[j]), by simp [putC, List.getElem?_eq_getElem hj], fun w' => ?_⟩
    have hpj := hcp _ (List.getElem_mem hj)
    have h := countR_c (mkS (encs ps[j])) w' (by rw [size_mkS]; have := encs_le ps[j]; omega)
    rw [cntF_some (by rw [bs_mkS]; exact dec_encs hpj.1)] at h
    exact h
  have HPS := Lib.hid hps; have HDL := Lib.hid hdl; have HOUT := Lib.hid hOUT
  have hnL100 := f5
  clear f1 f2 f3 f4 f6 f7 f8 f9 f10 f11 f12 HGB hnL hps hdl hOUT hcp hwi hL hrw hpl f13
  go_enter Tryd.func4, Tryd.ntmps4
  go_wp2_with fail
  refine (shown6_c _).mono ?_; rintro e w1 ⟨rfl, hx1⟩
  obtain ⟨q0, q1⟩ := HBX.out w1 hx1
  have e1 : Ext w w1 := ((Ext.refl w).alloc _).trans hx1
  go_wp2_with fail
  refine (HF.out _ e1).mono ?_; rintro e w2 ⟨v2, rfl, hx2, r2⟩
  obtain ⟨a2, c2, rfl, _⟩ := r2.len
  have HR2 := Lib.hid r2
  have e2 : Ext w w2 := e1.trans hx2
  clear r2 q0 q1
  have k2 : ∀ w', Ext (w2.alloc (.cells #[.slice a2 (M + 1) c2, .slice B M d] 26)) w' → w'.cell? ⟨w2.heap.size, 0, none⟩ = some (.slice a2 (M + 1) c2) ∧ w'.cell? ⟨w2.heap.size, 1, none⟩ = some (.slice B M d) := fun w' hx => ⟨box_at _ _ _ _ hx 0 _ rfl, box_at _ _ _ _ hx 1 _ rfl⟩
  have HK2 := Lib.hid k2
  clear k2
  go_wp2_with fail
  refine (HS.out _ _ _ (e2.alloc _) (HR2.out.ext ((Ext.refl w2).alloc _))).mono ?_; rintro e w3 ⟨v3, rfl, hx3, r3⟩
  obtain ⟨a3, c3, rfl, _⟩ := r3.len
  have HR3 := Lib.hid r3
  have e3 : Ext w w3 := (e2.alloc _).trans hx3
  clear r3
  go_wp2_with fail
  refine (HG.out _ _ _ e3 HR3.out).mono ?_; rintro e w4 ⟨a4, c4, b4, d4, rfl, hx4, r4, s4⟩
  have HR4 := Lib.hid r4; have HS4 := Lib.hid s4
  clear r4 s4
  have HK4 : Hid (∀ w', Ext (w4.alloc (.cells #[.slice a4 (M + 1) c4, .slice b4 M d4] 26)) w' → w'.cell? ⟨w4.heap.size, 0, none⟩ = some (.slice a4 (M + 1) c4) ∧ w'.cell? ⟨w4.heap.size, 1, none⟩ = some (.slice b4 M d4)) := Lib.hid fun w' hx => ⟨box_at _ _ _ _ hx 0 _ rfl, box_at _ _ _ _ hx 1 _ rfl⟩
  have HX24 := Lib.hid (hx3.trans (hx4.alloc (.cells #[.slice a4 (M + 1) c4, .slice b4 M d4] 26)))
  have HX2 := Lib.hid ((Ext.refl w2).alloc (.cells #[.slice a2 (M + 1) c2, .slice B M d] 26))
  have HX3 := Lib.hid (hx4.alloc (.cells #[.slice a4 (M + 1) c4, .slice b4 M d4] 26))
  have HE3 := Lib.hid e3; have HE2 := Lib.hid e2
  obtain ⟨q0, q1⟩ := HK2.out _ HX24.out
  clear hx1 hx2 hx3 hx4 e1 e2 e3
  go_wp2_with fail
  have HX4 := Lib.hid ((Ext.refl w4).alloc (.cells #[.slice a4 (M + 1) c4, .slice b4 M d4] 26))
  obtain ⟨k0, k1⟩ := HK4.out _ (Ext.refl _)
  generalize (w4.alloc (.cells #[.slice a4 (M + 1) c4, .slice b4 M d4] 26)) = W5 at *
  generalize w4.heap.size = H4 at *
  generalize w2.heap.size = H2 at *
  go_loopw [9, 10] (fun z q wr => ∃ j : Nat, j ≤ M + 1 ∧ q = .int .i64 j ∧ z = .int .i64 (wrap64 (lenP (ps.take j))) ∧ Ext W5 wr) (fun _ q _ => M + 1 - (intOf q).toNat)
  case atStart => exact ⟨0, by omega, rfl, by rw [List.take_zero, show lenP [] = 0 from rfl, wrap_zero], Ext.refl _⟩
  case round =>
    obtain ⟨j, hj, rfl, rfl, hxr⟩ := hrel
    have g0 := ext_cell hxr q0
    by_cases hlt : j < M + 1
    · have hjl : j < ps.length := by have := HPS.out; omega
      obtain ⟨t, ht, hcall⟩ := HCN.out j hjl
      obtain ⟨b, off, rfl, hb, q2⟩ := rd_at1 (HR2.out.ext (HX2.out.trans (HX24.out.trans hxr))) hlt (u := .string t) (by rw [List.getElem?_map, ht]; rfl)
      have dn : decide (j < M + 1) = true := by rw [decide_eq_true_eq]; exact hlt
      have dn' : decide ((j : Int) < (M : Int) + 1) = true := by rw [decide_eq_true_eq]; omega
      have i0 : (0 : Int) ≤ (j : Int) := by omega
      have i1 : (j : Int) < (M : Int) + 1 := by omega
      have hst : wrap64 (wrap64 (lenP (ps.take j)) + (ps[j].length : Int)) = wrap64 (lenP (ps.take (j + 1))) := by rw [wrap_step, lenP_take ps j hjl]
      have HC := Lib.hid hcall; have HST := Lib.hid hst
      clear hcall hst ht
      generalize (ps[j].length : Int) = y at *
      generalize wrap64 (lenP (ps.take j)) = x at *
      go_wp2_with fail
      refine (HC.out _).mono ?_; rintro e w6 ⟨rfl, hx6⟩
      go_wp2_with fail
      go_roundw
      case rel => exact ⟨j + 1, by omega, by go_num, by rw [← HST.out], hxr.trans hx6⟩
      case measure => simp [intOf]; omega
    · obtain rfl : j = M + 1 := by omega
      have hall : ps.take (M + 1) = ps := by rw [← HPS.out]; exact List.take_length
      rw [hall]
      clear hlt hj hall
      have dn : decide ((((M + 1 : Nat)) : Int) < (M : Int) + 1) = false := by rw [decide_eq_false_iff_not]; omega
      have dn' : decide (M + 1 < M + 1) = false := by rw [decide_eq_false_iff_not]; omega
      have dn2 : decide (((M : Int) + 1) < (M : Int) + 1) = false := by rw [decide_eq_false_iff_not]; omega
      have g1 := ext_cell hxr q1
      have m0 := ext_cell hxr k0
      have m1 := ext_cell hxr k1
      have HXR := Lib.hid hxr
      clear hxr
      obtain ⟨X0, hX0⟩ : ∃ X0, wrap64 (lenP ps) = X0 := ⟨_, rfl⟩
      have HX0 := Lib.hid hX0
      rw [hX0]
      clear hX0
      go_wp2_with fail
      go_loop [9, 11] (fun z q => ∃ j : Nat, j ≤ M ∧ q = .int .i64 j ∧ z = .int .i64 (wrap64 (lenP ps + cntB (gs.take j)))) (fun _ q => M - (intOf q).toNat)
      case atStart => exact ⟨0, by omega, rfl, by rw [← HX0.out, List.take_zero]; simp [cntB]⟩
      case round =>
        obtain ⟨j, hj, rfl, rfl⟩ := hrel
        by_cases hlt : j < M
        · have hjl : j < gs.length := by have := HDL.out; omega
          have hrg : Rd wr 1 (.slice B M d) M (gs.map Value.bool) := HGD.out.ext (HE2.out.trans (HX2.out.trans (HX24.out.trans HXR.out)))
          obtain ⟨b, off, rfl, hb, p2⟩ := rd_at1 hrg hlt (u := .bool gs[j]) (by simp [List.getElem?_eq_getElem hjl])
          have dn : decide (j < M) = true := by rw [decide_eq_true_eq]; exact hlt
          have i0 : (0 : Int) ≤ (j : Int) := by omega
          have i1 : (j : Int) < (M : Int) := by omega
          have hst := cntB_take gs j hjl
          clear hrg
          obtain ⟨x, hx⟩ : ∃ x, wrap64 (lenP ps + cntB (gs.take j)) = x := ⟨_, rfl⟩
          rw [hx]
          cases hg : gs[j] with
          | true =>
            rw [hg] at p2 hst
            have hst2 : wrap64 (lenP ps + cntB (gs.take (j + 1))) = x := by rw [← hx]; congr 2; simpa using hst
            have HST := Lib.hid hst2
            clear hst hst2 hg hx
            go_wp2_with fail
            go_round
            case rel => exact ⟨j + 1, by omega, by go_num, by rw [HST.out]⟩
            case measure => simp [intOf]; omega
          | false =>
            rw [hg] at p2 hst
            have hst2 : wrap64 (lenP ps + cntB (gs.take (j + 1))) = wrap64 (x + 1) := by
              rw [← hx, wrap_step]; congr 1
              have : cntB (gs.take (j + 1)) = cntB (gs.take j) + 1 := by simpa using hst
              omega
            have HST := Lib.hid hst2
            clear hst hst2 hg hx
            go_wp2_with fail
            go_round
            case rel => exact ⟨j + 1, by omega, by go_num, by rw [HST.out]⟩
            case measure => simp [intOf]; omega
        · obtain rfl : j = M := by omega
          have hall : gs.take j = gs := by rw [← HDL.out]; exact List.take_length
          rw [hall, HOUT.out]
          clear hlt hj hall
          have dn : decide (j < j) = false := by rw [decide_eq_false_iff_not]; omega
          have dn2 : decide ((j : Int) < (j : Int)) = false := by rw [decide_eq_false_iff_not]; omega
          have HT5 : Hid (Ext w W5) := Lib.hid (HE2.out.trans (HX2.out.trans HX24.out))
          have hxr := Ext.refl wr
          go_wp2_with fail
          go_region_held3 (fun W => Ext wr W ∧ W.cell? ⟨H2, 0, none⟩ = some (.slice a2 (j + 1) c2) ∧ W.cell? ⟨H2, 1, none⟩ = some (.slice B j d) ∧ W.cell? ⟨H4, 0, none⟩ = some (.slice a4 (j + 1) c4) ∧ W.cell? ⟨H4, 1, none⟩ = some (.slice b4 j d4))
            ((go_split_ands; refine ⟨?_, ?_, ?_, ?_, ?_⟩ <;> first | (exact Ext.drew ‹_›) | (exact Ext.trans ‹_› hxk) | (exact ext_cell hxk ‹_›) | go_keep))
            (first
            | (go_at_call 15; go_split_ands; refine (HSA.out _ _ _ _ _ _ _ (HR4.out.ext (HX4.out.trans (HXR.out.trans ‹Ext wr _›))) (HS4.out.ext (HX4.out.trans (HXR.out.trans ‹Ext wr _›))) (HR2.out.ext (HX2.out.trans (HX24.out.trans (HXR.out.trans ‹Ext wr _›)))) (HGD.out.ext (HT5.out.trans (HXR.out.trans ‹Ext wr _›)))).mono ?_; rintro e w' ⟨rfl, hxk⟩)
            | (go_at_call 19; go_split_ands; refine (HIS.out _ _ _ (HR3.out.ext (HX3.out.trans (HXR.out.trans ‹Ext wr _›)))).mono ?_; rintro e w' ⟨rfl, hxk⟩)
            | (go_at_call 20; go_split_ands; refine (HIN.out _ _ _ (HT5.out.trans (HXR.out.trans ‹Ext wr _›)) (HR3.out.ext (HX3.out.trans (HXR.out.trans ‹Ext wr _›)))).mono ?_; rintro e w' ⟨rfl, hxk⟩)
            | (go_at_call 21; go_split_ands; refine (HOU.out _ _ _ (HT5.out.trans (HXR.out.trans ‹Ext wr _›)) (HR3.out.ext (HX3.out.trans (HXR.out.trans ‹Ext wr _›)))).mono ?_; rintro e w' ⟨rfl, hxk⟩))
          all_goals
            go_split_ands
            go_wp2_with fail
            go_ret
            exact ⟨rfl, (HT5.out.trans HXR.out).trans (by first | exact ‹Ext wr _› | exact Ext.trans ‹Ext wr _› hxk)⟩
end Go.Proofs.YtelepadnbgcbnaaDoor
