/- Layer 6, GapsLeast. -/
import Derived.Test.YtelepadnbgcbnaaDoorL6b
namespace Go.Proofs.YtelepadnbgcbnaaDoor
open Go.RowKit
set_option maxRecDepth 100000
set_option maxHeartbeats 4000000
/-- The kind of the last span, if there is one. -/
def lastK (l : List Sp) : Int := match l.getLast? with | some s => s.1 | none => 0
theorem lastK_snoc (l : List Sp) (s : Sp) : lastK (l ++ [s]) = s.1 := by unfold lastK; simp
theorem snoc_cnt (l : List Sp) (s : Sp) (h : ¬ emp s) (hk : s.1 ≠ 0) : (snocN l s).length = (if lastK l = s.1 then l.length else l.length + 1) ∧ lastK (snocN l s) = s.1 := by
  rcases norm_ends l with rfl | ⟨ys, t, rfl⟩
  · rw [snocN_nil _ h, if_neg (by intro e; exact hk e.symm)]
    exact ⟨rfl, rfl⟩
  · rw [snocN_last _ _ _ h, lastK_snoc]
    by_cases e : t.1 = s.1
    · rw [if_pos e, if_pos e, lastK_snoc]
      exact ⟨by simp, by rw [← e]; rfl⟩
    · rw [if_neg e, if_neg e]
      refine ⟨by simp, ?_⟩
      have e2 : ys ++ [t, s] = (ys ++ [t]) ++ [s] := by simp
      rw [e2, lastK_snoc]
theorem gapsLeast_c (A : Option Addr) (q c : Nat) (l : List Sp) (n : Int) (w : World) [Tab w] (h : Rd w 3 (.slice A q c) q (spCells l)) (hl : l.length = q) (hs : ∀ s ∈ l, s.2.2.size ≤ maxLen) (hn : (Lit.int .u8 n).wf = true) :
    Calls Tryd.prog 6 #[.slice A q c, .int .u8 n] w fun e w' => e = .returned (.bool true) ∧ Below w.heap.size w w' := by
  obtain ⟨a0, a1⟩ := bounds_u8 hn
  obtain ⟨m, hm, hm0, hm1⟩ : ∃ m : Int, n % 64 = m ∧ 0 ≤ m ∧ m ≤ 63 := ⟨_, rfl, by omega, by omega⟩
  have HFIT : Hid (∀ w', Ext w w' → _) := Lib.hid fun w' hx => fitR4_c A q c l m w' (h.ext hx) hl hs hm0 (by omega)
  obtain ⟨f1, f2, f3, f4, f5, f6, f7⟩ := fit_all l m hm0 hm1
  generalize fitL l m = xs at *
  obtain ⟨M, rfl⟩ : ∃ M : Nat, m = (M : Int) := ⟨m.toNat, by omega⟩
  have hraw := raw_norm xs f1
  have hse := spansE_gaps xs f1 (by omega)
  obtain ⟨nx, hnx⟩ : ∃ nx, xs.length = nx := ⟨_, rfl⟩
  rw [hnx] at HFIT f5
  have hdl : (gpD (tok xs)).length = M := by
    have := (tin_ok xs f1).1
    rw [← gpD_length, f2] at this; omega
  have hpl : (putC (gpP (tok xs))).length = M + 1 := by rw [putC_length, gpP_length, hdl]
  have hpsum : ((putC (gpP (tok xs))).map fun t => t.size).sum ≤ 1000000000 := by
    have := insT_sum xs f1
    rw [gpP_sum]; omega
  have hpt : ∀ t ∈ putC (gpP (tok xs)), t.size ≤ 1000000000 := by
    intro t ht
    obtain ⟨p, hp, rfl⟩ := List.mem_map.1 ht
    have := gpP_le _ p hp
    have := insT_sum xs f1
    rw [size_mkS]; omega
  have hnl := norm_len xs
  have HG : Hid (∀ A k c w', Ext w w' → xs.length = k → Rd w' 3 (.slice A k c) k (spCells xs) → _) := Lib.hid fun A k c w' hx hk hr => have hTb := tab_ext hx; (gaps_c A k c xs w' hr hk (by omega) f6 f7).mono fun e w'' h => h.ok f3 f2
  obtain ⟨ts, hts⟩ : ∃ ts, putC (gpP (tok xs)) = ts := ⟨_, rfl⟩
  obtain ⟨ds, hds⟩ : ∃ ds, gpD (tok xs) = ds := ⟨_, rfl⟩
  rw [hts, hds] at HG hraw hse
  rw [hts] at hpl hpsum hpt
  rw [hds] at hdl
  have HS : Hid (∀ A c B d w', Ext w w' → Rd w' 1 (.slice A (M + 1) c) (M + 1) (ts.map Value.string) → Rd w' 1 (.slice B M d) M (ds.map Value.bool) → Calls Tryd.prog 12 #[.agg #[.slice A (M + 1) c, .slice B M d]] w' fun e w'' => ∃ v, e = .returned (.tuple #[v, .int .i64 0]) ∧ Ext w' w'' ∧ Rd w'' 3 v (normL xs).length (spCells (normL xs))) := Lib.hid fun A c B d w' hx hr1 hr2 => by
    have hTb := tab_ext hx
    refine (spans_c A B (M + 1) c M d _ _ w' hr1 hr2 hpl hdl (by omega) (by omega) hpt hpsum).mono ?_
    rintro e w'' ⟨hx, ⟨h1, _⟩ | ⟨_, v, rfl, hr⟩⟩
    · exact absurd hse h1
    · rw [hraw] at hr
      exact ⟨v, rfl, hx, hr⟩
  have hfin : (normL xs).length ≤ nx := by omega
  have HNX := Lib.hid hnx; have HRAW := Lib.hid hraw; have HPL := Lib.hid hpl; have HDL := Lib.hid hdl
  clear h hl hs hn f1 f2 f3 f4 f6 f7 hraw hse hpl hdl hpt hpsum hnl hnx hts hds
  generalize normL xs = X at *
  obtain ⟨nX, hnX⟩ : ∃ nX, X.length = nX := ⟨_, rfl⟩
  rw [hnX] at HS hfin
  have HLX := Lib.hid hnX
  clear hnX
  go_enter Tryd.func6, Tryd.ntmps6
  go_wp2_with fail
  refine (shown6_c _).mono ?_; rintro e w1 ⟨rfl, hx1⟩
  go_wp2_with fail
  refine (HFIT.out _ hx1).mono ?_; rintro e w3 ⟨v2, rfl, hx2, hown2⟩
  obtain ⟨a2, c2, rfl, _⟩ := hown2.len
  have HR2 := Lib.hid hown2.rd
  clear hown2
  have e3 : Ext w w3 := hx1.trans hx2
  go_wp2_with fail
  refine (HG.out _ _ _ _ e3 HNX.out HR2.out).mono ?_; rintro e w4 ⟨pa, pc, pb, pd, rfl, hx4, r4, s4⟩
  have HP4 := Lib.hid r4; have HS4 := Lib.hid s4
  clear r4 s4
  go_wp2_with fail
  refine (HS.out _ _ _ _ _ ((e3.trans hx4).alloc _) (HP4.out.ext ((Ext.refl w4).alloc _)) (HS4.out.ext ((Ext.refl w4).alloc _))).mono ?_; rintro e w6 ⟨v6, rfl, hx6, r6⟩
  obtain ⟨a6, c6, rfl, _⟩ := r6.len
  clear r6
  have HX6 := Lib.hid hx6; have HX4 := Lib.hid (e3.trans hx4)
  clear e3 hx1 hx2 hx4 hx6 HFIT HG HS
  go_wp2_with fail
  go_loopw [11, 12, 13] (fun mu wa z wr => ∃ (j r : Nat) (kw : Int), j ≤ M + 1 ∧ z = .int .i64 j ∧ mu = .int .i64 r ∧ wa = .int .i64 kw ∧ r ≤ 2 * j ∧ r = (normL (raw (ts.take j) (ds.take j))).length ∧ kw = lastK (normL (raw (ts.take j) (ds.take j))) ∧ (j ≤ M → kw ≠ 2) ∧ Ext w6 wr) (fun _ _ z _ => M + 1 - (intOf z).toNat)
  case atStart => exact ⟨0, 0, 0, by omega, rfl, rfl, rfl, by omega, rfl, rfl, fun _ h => (by cases h), Ext.refl _⟩
  case round =>
    obtain ⟨j, r, kw, hj, rfl, rfl, rfl, hr2, hr, hkw, hk2, hxr⟩ := hrel
    have hx46 := HX6.out.trans hxr
    have g0 := box_at _ _ _ _ hx46 0 _ rfl
    have g1 := box_at _ _ _ _ hx46 1 _ rfl
    have hx4r : Ext w4 wr := ((Ext.refl w4).alloc _).trans hx46
    by_cases hlt : j < M + 1
    · have hjl : j < ts.length := by have := HPL.out; omega
      obtain ⟨b, off, hpa, hb, q0⟩ := rd_at1 (HP4.out.ext hx4r) hlt (u := .string ts[j]) (by simp [List.getElem?_eq_getElem hjl])
      subst hpa
      have dn : decide (j < M + 1) = true := by rw [decide_eq_true_eq]; exact hlt
      have dn' : decide ((j : Int) < (M : Int) + 1) = true := by rw [decide_eq_true_eq]; omega
      have i0 : (0 : Int) ≤ (j : Int) := by omega
      have i1 : (j : Int) < (M : Int) + 1 := by omega
      have hst := raw_take ts ds j hjl
      obtain ⟨t, ht⟩ : ∃ t, ts[j] = t := ⟨_, rfl⟩
      rw [ht] at q0 hst
      generalize raw (ts.take j) (ds.take j) = R at *
      have hkw2 : kw ≠ 2 := hk2 (by omega)
      -- behind the text
      obtain ⟨e, r1, kw1, he, h1, h2, hr1, hne1⟩ : ∃ (e : Bool) (r1 : Nat) (kw1 : Int), t.toList.isEmpty = e ∧ (normL (R ++ [(2, 0, t)])).length = r1 ∧ lastK (normL (R ++ [(2, 0, t)])) = kw1 ∧ ((e = true ∧ r1 = r ∧ kw1 = kw) ∨ (e = false ∧ r1 = r + 1 ∧ kw1 = 2)) ∧ (kw1 = 2 ∨ kw1 = kw) := by
        rw [norm_snoc, toList_bs]
        by_cases ht0 : emp (2, 0, t)
        · have e2 : t = ⟨#[]⟩ := ba_empty ht0.2
          rw [snocN_emp _ _ ht0]
          exact ⟨true, r, kw, by rw [e2]; rfl, hr.symm, hkw.symm, .inl ⟨rfl, rfl, rfl⟩, .inr rfl⟩
        · obtain ⟨c1, c2⟩ := snoc_cnt (normL R) (2, 0, t) ht0 (by show (2 : Int) ≠ 0; decide)
          refine ⟨false, r + 1, 2, ?_, ?_, c2, .inr ⟨rfl, rfl, rfl⟩, .inl rfl⟩
          · cases hb : bs t with
            | nil => exact absurd ⟨rfl, by rw [← bs_length, hb]; rfl⟩ ht0
            | cons x y => rfl
          · rw [c1, ← hkw, if_neg hkw2, hr]
      by_cases hjM : j < M
      · have hdl : j < ds.length := by have := HDL.out; omega
        obtain ⟨b2, off2, hpb, hb2, p0⟩ := rd_at1 (HS4.out.ext hx4r) hjM (u := .bool ds[j]) (by simp [List.getElem?_eq_getElem hdl])
        subst hpb
        have dg : decide (j < M) = true := by rw [decide_eq_true_eq]; exact hjM
        have i2 : (j : Int) < (M : Int) := by omega
        rw [dif_pos hdl] at hst
        obtain ⟨d, hd⟩ : ∃ d, ds[j] = d := ⟨_, rfl⟩
        rw [hd] at hst p0
        obtain ⟨kd, hkd⟩ : ∃ kd : Int, (if d then (3 : Int) else 1) = kd := ⟨_, rfl⟩
        rw [hkd] at hst
        have hst2 : raw (ts.take (j + 1)) (ds.take (j + 1)) = (R ++ [(2, 0, t)]) ++ [(kd, 1, ⟨#[]⟩)] := by rw [hst, List.append_assoc]; rfl
        have hkd2 : kd ≠ 2 ∧ kd ≠ 0 := by rw [← hkd]; cases d <;> decide
        obtain ⟨c1, c2⟩ := snoc_cnt (normL (R ++ [(2, 0, t)])) (kd, 1, ⟨#[]⟩) (fun h => by have := h.1; simp only at this; omega) hkd2.2
        rw [← norm_snoc, ← hst2] at c1 c2
        rw [h1, h2] at c1
        simp only at c1 c2
        have HC1 := Lib.hid c1; have HC2 := Lib.hid c2
        have HKD := Lib.hid hkd2.1
        have hcase : (kw1 = kd ∧ (kd != kw1) = false) ∨ (kw1 ≠ kd ∧ (kd != kw1) = true) := by
          by_cases h : kw1 = kd
          · exact .inl ⟨h, by rw [h]; simp⟩
          · exact .inr ⟨h, by rw [bne_iff_ne]; exact fun e => h e.symm⟩
        clear hst hst2 c1 c2 h1 h2 hne1 hd ht hr hkw hk2 hkw2 hkd2 hx46 hx4r hjl hdl
        rcases hr1 with ⟨rfl, rfl, rfl⟩ | ⟨rfl, rfl, rfl⟩
        all_goals
          rcases hcase with ⟨hc, hcc⟩ | ⟨hc, hcc⟩
          all_goals
            first | (rw [if_pos hc] at HC1) | (rw [if_neg hc] at HC1)
            clear hc
            cases d
            all_goals
              first | (rw [if_pos rfl] at hkd) | (rw [if_neg (by decide)] at hkd)
              subst hkd
              go_wp2_with fail
              go_roundw
              case rel => exact ⟨j + 1, _, _, by omega, by go_num, by first | rfl | go_num, rfl, by omega, HC1.out.symm, HC2.out.symm, fun _ => HKD.out, hxr⟩
              case measure => simp [intOf]; omega
      · have dg : decide (j < M) = false := by rw [decide_eq_false_iff_not]; exact hjM
        have hdl : ¬ j < ds.length := by have := HDL.out; omega
        rw [dif_neg hdl] at hst
        rw [← hst] at h1 h2
        have HC1 := Lib.hid h1; have HC2 := Lib.hid h2
        have HJM : Hid (¬ j + 1 ≤ M) := Lib.hid (by omega)
        clear hst h1 h2 hne1 ht hr hkw hk2 hkw2 hx46 hx4r hjl hdl
        rcases hr1 with ⟨rfl, rfl, rfl⟩ | ⟨rfl, rfl, rfl⟩
        all_goals
          go_wp2_with fail
          go_roundw
          case rel => exact ⟨j + 1, _, _, by omega, by go_num, by first | rfl | go_num, rfl, by omega, HC1.out.symm, HC2.out.symm, fun h => absurd h HJM.out, hxr⟩
          case measure => simp [intOf]; omega
    · obtain rfl : j = M + 1 := by omega
      have dn : decide (M + 1 < M + 1) = false := by rw [decide_eq_false_iff_not]; omega
      have t1 : ts.take (M + 1) = ts := by rw [← HPL.out]; exact List.take_length
      have t2 : ds.take (M + 1) = ds := List.take_of_length_le (by have := HDL.out; omega)
      rw [t1, t2, HRAW.out, HLX.out] at hr
      have HE := Lib.hid (((HX4.out.alloc _).trans HX6.out).trans hxr)
      subst hr
      clear hkw hk2 hxr hx46 hx4r t1 t2
      go_wp2_with fail
      go_ret
      exact ⟨rfl, HE.out⟩
end Go.Proofs.YtelepadnbgcbnaaDoor
