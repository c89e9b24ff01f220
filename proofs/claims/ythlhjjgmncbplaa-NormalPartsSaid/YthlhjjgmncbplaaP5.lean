/- Layer 5, the program: Of, Is. -/
import Derived.Test.YthlhjjgmncbplaaP5c
import Derived.Test.YthlhjjgmncbplaaMf
import Derived.Deep.RegionHeld3
import Derived.Deep.RegionWith
namespace Go.Proofs.Ythlhjjgmncbplaa
open Go.RowKit
set_option maxRecDepth 100000
set_option maxHeartbeats 1000000
theorem sp_take (l : List Sp) (k : Nat) (h : k ≤ l.length) : (spCells l).take (k * 3) = spCells (l.take k) := by
  conv => lhs; rw [← List.take_append_drop k l, spCells_append]
  have : (spCells (l.take k)).length = k * 3 := by rw [spCells_length, List.length_take]; omega
  rw [List.take_append_of_le_length (by omega), List.take_of_length_le (by omega)]
theorem sp_drop (l : List Sp) (k : Nat) (h : k ≤ l.length) : (spCells l).drop (k * 3) = spCells (l.drop k) := by
  conv => lhs; rw [← List.take_append_drop k l, spCells_append]
  have : (spCells (l.take k)).length = k * 3 := by rw [spCells_length, List.length_take]; omega
  rw [List.drop_append_of_le_length (by omega), List.drop_of_length_le (by omega), List.nil_append]
theorem rd_behind {w : World} {b off n c : Nat} {l : List Sp} (h : Rd w 3 (.slice (some ⟨b, off, none⟩) n c) n (spCells l)) (hl : l.length = n) {k : Nat} (hk : k ≤ n) (hc : n ≤ c) :
    Rd w 3 (.slice (if c = k then some ⟨b, off, none⟩ else some ⟨b, off + k * 3, none⟩) (n - k) (c - k)) (n - k) (spCells (l.drop k)) := by
  split
  · rename_i e
    have e0 : n - k = 0 := by omega
    have e1 : l.drop k = [] := List.drop_of_length_le (by omega)
    rw [e0, e1]
    exact ⟨by simp [spCells], _, _, rfl, by omega, fun h => absurd h (Nat.lt_irrefl 0)⟩
  · have h := h.drop hk
    rw [sp_drop l k (by omega)] at h
    exact h
def slen : Value → Nat
  | .slice _ n _ => n
  | _ => 0
theorem of5_c (A : Option Addr) (q c : Nat) (l : List Sp) (w : World) (h : Rd w 3 (.slice A q c) q (spCells l)) (hl : l.length = q) (hq : q ≤ 100000) (ho : Ok l) :
    Calls Try.prog 9 #[.slice A q c] w fun e w' => ∃ v, e = .returned v ∧ Ext w w' ∧ Own w' w.heap.size 31 3 v (normL l).length (spCells (normL l)) := by
  obtain ⟨i, hi, hz0, hz1, hz2⟩ := info_parts info_sp5
  have HL := Lib.hid hl
  have hnf := norm_full l
  have hfl := full_len l
  have hof := ho.full
  have hfe : ∀ s ∈ full l, ¬ emp s := fun s hs => (full_mem hs).2
  have hmk : ∀ w' : World, (Instr.makeSlice 22 (.int .i64 (q : Int)) (.int .i64 (q : Int))).run Try.prog w' = .ok (.slice (some ⟨w'.heap.size, 0, none⟩) q q) (w'.alloc (.cells (madeCells (Value.agg #[.int .i64 0, .int .i64 0, .string ⟨#[]⟩]).cells (q * i.size)) 31)) :=
    fun w' => by
      have h := run_make w' 22 31 i (.agg #[.int .i64 0, .int .i64 0, .string ⟨#[]⟩]) Try.underlying22 hi hz0 .i64 .i64 (q : Int) (q : Int) (by omega) (by omega) (by rw [hz2]; omega) (by omega)
      rw [Int.toNat_natCast] at h
      exact h
  rw [hz1] at hmk
  have hms : (madeCells (Value.agg #[.int .i64 0, .int .i64 0, .string ⟨#[]⟩]).cells (q * 3)).size = q * 3 := size_madeCells _ _
  generalize madeCells (Value.agg #[.int .i64 0, .int .i64 0, .string ⟨#[]⟩]).cells (q * 3) = mcs at hmk hms
  have hlc : (spCells l).length = q * 3 := by rw [spCells_length, hl]
  have hm0 : Own (w.alloc (.cells mcs 31)) w.heap.size 31 3 (.slice (some ⟨w.heap.size, 0, none⟩) q q) q mcs.toList := Own.made w w.heap.size 31 3 q mcs (Nat.le_refl _) (by omega) hms
  have hcp : (Builtin.copy_ #[22, 22] 3 #[.slice (some ⟨w.heap.size, 0, none⟩) q q, .slice A q c]).run Try.prog (w.alloc (.cells mcs 31)) = .ok (goInt (q : Int)) ((w.alloc (.cells mcs 31)).setCells w.heap.size 0 (spCells l)) :=
    run_copy_k _ 22 22 3 31 3 w.heap.size q q A q c (spCells l) Try.underlying22 (by kernel_rfl) rfl (h.ext ((Ext.refl w).alloc _)) (hm0.there 0 _ (by omega)) (spCells_one l)
  have hm1 := hm0.setCells (spCells l) 0 _ _ (by omega)
  rw [List.take_zero, List.nil_append, List.drop_of_length_le (by rw [hm0.1.1]; omega), List.append_nil] at hm1
  have hb1 : Below w.heap.size w ((w.alloc (.cells mcs 31)).setCells w.heap.size 0 (spCells l)) := below_setCells5 w.heap.size (Nat.le_refl _) (spCells l) 0 _ ((Below.refl _ _).alloc (Nat.le_refl _) _)
  generalize (w.alloc (.cells mcs 31)).setCells w.heap.size 0 (spCells l) = w1 at hcp hm1 hb1
  have HDE := Lib.hid (deleteEmpty_c w.heap.size q q w.heap.size l w1 hm1 hl hq (Nat.le_refl _))
  have HMK := Lib.hid hmk; have HCP := Lib.hid hcp; have HB1 := Lib.hid hb1; have HNF := Lib.hid hnf
  have HOF := Lib.hid hof; have HFE := Lib.hid hfe
  have hfq : (full l).length ≤ q := by omega
  clear h hl hm0 hlc hms hm1 hb1 hcp hmk hnf hfl hof hfe ho
  generalize full l = f at *
  obtain ⟨m, hm⟩ : ∃ m, f.length = m := ⟨_, rfl⟩
  rw [hm] at HDE hfq
  have HM := Lib.hid hm
  clear hm
  go_enter Try.func9, Try.ntmps9
  go_wp2_with fail
  rw [HMK.out]
  simp only [Result.andThen]
  rw [Oper.upon_value]
  go_wp2_with fail
  rw [HCP.out]
  simp only [Result.andThen]
  rw [Oper.upon_value]
  go_wp2_with fail
  refine HDE.out.mono ?_; rintro e w2 ⟨v, rfl, hown, hbel⟩
  have hrd := hown.rd
  obtain ⟨A2, c2, rfl, hc2⟩ := hown.len
  have HRD := Lib.hid hrd
  have HX2 : Hid (Ext w w2) := Lib.hid (Below.trans HB1.out hbel)
  clear hown hbel hrd HDE HB1 HCP HMK
  go_wp2_with fail
  go_loopw [3, 4] (fun r o wr => ∃ (kk n : Nat) (A' : Option Addr) (c' : Nat) (S : List Sp), kk + n = m ∧ r = .slice A' n c' ∧ Rd w2 3 (.slice A' n c') n (spCells (f.drop kk)) ∧
    Own wr w2.heap.size 31 3 o S.length (spCells S) ∧ S ++ normL (f.drop kk) = normL f ∧ Ext w2 wr) (fun r _ _ => slen r)
  case atStart => exact ⟨0, m, A2, c2, [], by omega, rfl, HRD.out, Own.nil _ _ _ _ (Nat.le_refl _), rfl, Ext.refl _⟩
  case round =>
    obtain ⟨kk, n, A', c', S, hkn, rfl, hrd, hown, hnm, hxr⟩ := hrel
    have hnc : n ≤ c' := by obtain ⟨_, _, hv, hc⟩ := hrd.len; injection hv with _ _ e; omega
    have HFL : Hid ((f.drop kk).length = n) := Lib.hid (by rw [List.length_drop, HM.out]; omega)
    have HNM := Lib.hid hnm; have HRD := Lib.hid hrd; have HOWN := Lib.hid hown
    have hSl : S.length ≤ 100000 := by
      have h1 := congrArg List.length HNM.out
      have h2 := norm_len f
      rw [List.length_append] at h1
      have := HM.out
      omega
    clear hnm hrd hown
    by_cases hlt : 0 < n
    · have n0 : (0 : Int) < (n : Int) := by omega
      have HAL := Lib.hid (alike5_c A' n c' (f.drop kk) wr (HRD.out.ext hxr) HFL.out (by omega) hlt)
      go_wp2_with fail
      refine HAL.out.mono ?_; rintro e w3 ⟨x, rfl, hx3, hrun⟩
      obtain ⟨k, hk, hnr⟩ := runOf_norm _ x hrun (fun s hs => HFE.out s (List.mem_of_mem_drop hs))
      have hx1 : 1 ≤ x := hrun.1
      have hxn : x ≤ n := by have := hrun.2.1; have := HFL.out; omega
      have HR3 := Lib.hid (HRD.out.ext (hxr.trans hx3))
      have hokx : Ok ((f.drop kk).take x) := (HOF.out.drop kk).take x
      have hlx : ((f.drop kk).take x).length = x := by rw [List.length_take, HFL.out]; omega
      have hrx : Rd w3 3 (.slice A' x c') x (spCells ((f.drop kk).take x)) := by
        have h := HR3.out.take hxn
        rw [sp_take _ _ (by rw [HFL.out]; exact hxn)] at h
        exact h
      have HON := Lib.hid (one5_c A' x c' ((f.drop kk).take x) k w3 hrx hlx (by omega) (by omega) hk hokx)
      unfold spanV at HON
      have HNR : Hid ((S ++ [(k, sumN ((f.drop kk).take x), catT ((f.drop kk).take x))]) ++ normL (f.drop (kk + x)) = normL f) := Lib.hid (by
        rw [← HNM.out, hnr, List.append_assoc, List.drop_drop]; rfl)
      have HX3 := Lib.hid (Ext.trans hxr hx3)
      have HO3 := Lib.hid (HOWN.out.ext hx3)
      obtain ⟨bA, oA, rfl, _, _, _, _⟩ := sp_at HRD.out HFL.out hlt
      generalize sumN ((f.drop kk).take x) = SN at *
      generalize catT ((f.drop kk).take x) = CT at *
      have x0 : (0 : Int) ≤ (x : Int) := by omega
      have x1 : (x : Int) ≤ (c' : Int) := by omega
      have x2 : (x : Int) ≤ (n : Int) := by omega
      have x3 : (n : Int) ≤ (c' : Int) := by omega
      clear hrun hk hnr hokx hlx hrx hx3 HAL HOWN
      go_wp2_with fail
      refine HON.out.mono ?_; rintro e w4 ⟨rfl, hx4⟩
      have hX4 := Ext.trans HX3.out hx4
      have hO4 := HO3.out.ext hx4
      have hR4 := rd_behind HRD.out HFL.out hxn hnc
      rw [List.drop_drop] at hR4
      obtain ⟨AD, hAD⟩ : ∃ AD : Option Addr, (if c' = x then some ⟨bA, oA, none⟩ else some ⟨bA, oA + x * 3, none⟩) = AD := ⟨_, rfl⟩
      rw [hAD] at hR4
      obtain ⟨v', w', happ, hown', hbel'⟩ := app_new (P := Try.prog) 22 22 31 i _ 3 32 Try.underlying22 hi hz0 hz1 hz2 rfl (by omega) (by omega)
        hX4 hO4 (by omega) 1 #[.int .i64 k, .int .i64 SN, .string CT] rfl (by omega) (by simp [Value.oneCell']) 31
      have HAP := Lib.hid happ
      have HO5 : Hid (Own w' w2.heap.size 31 3 v' (S ++ [(k, SN, CT)]).length (spCells (S ++ [(k, SN, CT)]))) := Lib.hid (by rw [spCells_append, List.length_append]; exact hown')
      have HX5 := Lib.hid hbel'
      obtain ⟨av, cv, hv', _⟩ := hown'.len
      subst hv'
      have HR4 := Lib.hid hR4
      clear happ hown' hbel' hR4 hO4 hX4 hx4 HON HR3 HRD HX3 HO3
      go_wp2_with (at_builtin; refine wpList_append_run rfl rfl HAP.out rfl rfl ?_)
      go_roundw
      case rel => exact ⟨kk + x, n - x, AD, c' - x, S ++ [(k, SN, CT)], by omega, rfl, HR4.out, by have h := HO5.out; rw [List.length_append] at h ⊢; exact h, HNR.out, HX5.out⟩
      case measure => simp [slen]; omega
    · obtain rfl : n = 0 := by omega
      have HD : Hid (f.drop kk = []) := Lib.hid (List.drop_of_length_le (by have := HM.out; omega))
      have HOE : Hid (Own wr w.heap.size 31 3 u4 (normL l).length (spCells (normL l))) := Lib.hid (by
        have e := HNM.out
        rw [HD.out] at e
        have e' : S = normL l := by rw [← HNF.out, ← e]; exact (List.append_nil _).symm
        rw [← e']; exact HOWN.out.more HX2.out.size)
      have HXE : Hid (Ext w wr) := Lib.hid (HX2.out.trans hxr)
      clear hlt hSl HD
      go_wp2_with fail
      go_ret
      exact ⟨_, rfl, HXE.out, HOE.out⟩
theorem is5_c (A : Option Addr) (q c : Nat) (l : List Sp) (w : World) (h : Rd w 3 (.slice A q c) q (spCells l)) (hl : l.length = q) (hq : q ≤ 100000) :
    Calls Try.prog 12 #[.slice A q c] w fun e w' => ∃ b, e = .returned (.bool b) ∧ Ext w w' ∧ (b = true ↔ isN l) := by
  have H := Lib.hid h; have HL := Lib.hid hl
  clear h hl
  go_enter Try.func12, Try.ntmps12
  go_wp2_with fail
  go_loopw [7] (fun z wr => ∃ j : Nat, j ≤ q ∧ z = .int .i64 j ∧ Ext w wr ∧ ∀ i, i < j → good l i) (fun z _ => q - (intOf z).toNat)
  case atStart => exact ⟨0, by omega, rfl, Ext.refl _, fun i hi => by omega⟩
  case round =>
    obtain ⟨j, hj, rfl, hxr, hgood⟩ := hrel
    have HG := Lib.hid hgood
    clear hgood
    by_cases hlt : j < q
    · have hjl : j < l.length := by have := HL.out; omega
      have HR := Lib.hid (H.out.ext hxr)
      obtain ⟨b, off, rfl, hb, q0, q1, q2⟩ := sp_at HR.out HL.out hlt
      have dn : decide (j < q) = true := by rw [decide_eq_true_eq]; exact hlt
      have i0 : (0 : Int) ≤ (j : Int) := by omega
      have i1 : (j : Int) < (q : Int) := by omega
      obtain ⟨a1, ha1⟩ : ∃ a1, l[j].1 = a1 := ⟨_, rfl⟩
      obtain ⟨a2, ha2⟩ : ∃ a2, l[j].2.1 = a2 := ⟨_, rfl⟩
      obtain ⟨a3, ha3⟩ : ∃ a3, l[j].2.2 = a3 := ⟨_, rfl⟩
      have hlj : l[j] = (a1, a2, a3) := by rw [← ha1, ← ha2, ← ha3]
      rw [hlj] at q0 q1 q2
      simp only at q0 q1 q2
      have HLJ := Lib.hid hlj
      clear hlj ha1 ha2 ha3
      have HIN := Lib.hid (fun (w' : World) => empty5_c a1 a2 a3 w')
      unfold spanV at HIN
      by_cases hemp : emp (a1, a2, a3)
      · have HBAD : Hid (¬ isN l) := Lib.hid (fun h => ((is_good l).1 h j hjl).1 hjl (by rw [HLJ.out]; exact hemp))
        rw [decide_eq_true hemp] at HIN
        clear hemp
        go_wp2_with fail
        obtain ⟨W0, hW0⟩ : ∃ W0, W0 = wr.alloc (.cells #[.int .i64 a1, .int .i64 a2, .string a3] 31) := ⟨_, rfl⟩
        obtain ⟨G, hG⟩ : ∃ G, G = wr.heap.size := ⟨_, rfl⟩
        have z0 : W0.cell? ⟨G, 0, none⟩ = some (.int .i64 a1) := by rw [hW0, hG]; exact box_at _ _ _ _ (Ext.refl _) 0 _ rfl
        have z1 : W0.cell? ⟨G, 1, none⟩ = some (.int .i64 a2) := by rw [hW0, hG]; exact box_at _ _ _ _ (Ext.refl _) 1 _ rfl
        have z2 : W0.cell? ⟨G, 2, none⟩ = some (.string a3) := by rw [hW0, hG]; exact box_at _ _ _ _ (Ext.refl _) 2 _ rfl
        have HX0 : Hid (Ext w W0) := Lib.hid (by rw [hW0]; exact hxr.alloc _)
        rw [← hW0, ← hG]
        clear hW0 hG q0 q1 q2
        have hxx := Ext.refl W0
        refine wp_region_held_drew (S := (fun w' => Ext W0 w' ∧ w'.cell? ⟨G, 0, none⟩ = some (.int .i64 a1) ∧ w'.cell? ⟨G, 1, none⟩ = some (.int .i64 a2) ∧ w'.cell? ⟨G, 2, none⟩ = some (.string a3))) (by kernel_rfl) ?_ (fun hHeld => ?_)
        · refine ⟨?_, ?_, ?_, ?_⟩ <;> first | (exact Ext.drew ‹_›) | go_keep
        refine wpAnyH_take (i := 0) (v := (.agg #[.int .i64 a1, .int .i64 a2, .string a3])) rfl (by kernel_rfl) (by kernel_rfl) (by kernel_rfl) (fun _ _ _ h => h) (Or.inl ⟨by rfl, ?_⟩) (by assumption) ?_
        · intro w hSw; (try dsimp only at hSw); go_simp
        simp only [List.getElem_toArray, List.getElem_cons_zero, Act.put, List.setIfInBounds_toArray, List.set_cons_zero, List.set_cons_succ]
        refine wpAnyH_ready (rs := [1]) (by kernel_rfl) (by simp) ?_
        refine AllReadyH.cons rfl (fun K hK => ?_) AllReadyH.nil
        go_simp
        (go_at_call 16; refine (HIN.out _).mono ?_; rintro e w' ⟨rfl, hxk⟩)
        go_wp2_with fail
        refine hK.out _ _ ?_ (fun hHeld2 => ?_)
        · go_split_ands; refine ⟨?_, ?_, ?_, ?_⟩ <;> first | (exact Ext.trans ‹_› hxk) | (exact ext_cell hxk ‹_›)
        clear hK K hHeld
        refine wpAnyH_take (i := 2) (v := (.bool true)) rfl (by kernel_rfl) (by kernel_rfl) (by kernel_rfl) (fun _ _ _ h => h) (Or.inl ⟨by rfl, ?_⟩) (by assumption) ?_
        · intro w hSw; (try dsimp only at hSw); go_simp
        simp only [List.getElem_toArray, List.getElem_cons_zero, List.getElem_cons_succ, Act.put, List.setIfInBounds_toArray, List.set_cons_zero, List.set_cons_succ]
        refine wpAnyH_take (i := 3) (v := undef) rfl (by kernel_rfl) (by kernel_rfl) (by kernel_rfl) (fun _ _ _ h => h) (Or.inr ⟨by rfl, rfl⟩) (by assumption) ?_
        simp only [List.getElem_toArray, List.getElem_cons_zero, List.getElem_cons_succ, Act.put, List.setIfInBounds_toArray, List.set_cons_zero, List.set_cons_succ]
        refine wpAnyH_take (i := 4) (v := undef) rfl (by kernel_rfl) (by kernel_rfl) (by kernel_rfl) (fun _ _ _ h => h) (Or.inr ⟨by rfl, rfl⟩) (by assumption) ?_
        simp only [List.getElem_toArray, List.getElem_cons_zero, List.getElem_cons_succ, Act.put, List.setIfInBounds_toArray, List.set_cons_zero, List.set_cons_succ]
        refine wpAnyH_take (i := 5) (v := undef) rfl (by kernel_rfl) (by kernel_rfl) (by kernel_rfl) (fun _ _ _ h => h) (Or.inr ⟨by rfl, rfl⟩) (by assumption) ?_
        simp only [List.getElem_toArray, List.getElem_cons_zero, List.getElem_cons_succ, Act.put, List.setIfInBounds_toArray, List.set_cons_zero, List.set_cons_succ]
        refine wpAnyH_take (i := 6) (v := undef) rfl (by kernel_rfl) (by kernel_rfl) (by kernel_rfl) (fun _ _ _ h => h) (Or.inr ⟨by rfl, rfl⟩) (by assumption) ?_
        simp only [List.getElem_toArray, List.getElem_cons_zero, List.getElem_cons_succ, Act.put, List.setIfInBounds_toArray, List.set_cons_zero, List.set_cons_succ]
        refine wpAnyH_take (i := 7) (v := undef) rfl (by kernel_rfl) (by kernel_rfl) (by kernel_rfl) (fun _ _ _ h => h) (Or.inr ⟨by rfl, rfl⟩) (by assumption) ?_
        simp only [List.getElem_toArray, List.getElem_cons_zero, List.getElem_cons_succ, Act.put, List.setIfInBounds_toArray, List.set_cons_zero, List.set_cons_succ]
        refine wpAnyH_take (i := 8) (v := undef) rfl (by kernel_rfl) (by kernel_rfl) (by kernel_rfl) (fun _ _ _ h => h) (Or.inr ⟨by rfl, rfl⟩) (by assumption) ?_
        simp only [List.getElem_toArray, List.getElem_cons_zero, List.getElem_cons_succ, Act.put, List.setIfInBounds_toArray, List.set_cons_zero, List.set_cons_succ]
        refine wpAnyH_take (i := 9) (v := undef) rfl (by kernel_rfl) (by kernel_rfl) (by kernel_rfl) (fun _ _ _ h => h) (Or.inr ⟨by rfl, rfl⟩) (by assumption) ?_
        simp only [List.getElem_toArray, List.getElem_cons_zero, List.getElem_cons_succ, Act.put, List.setIfInBounds_toArray, List.set_cons_zero, List.set_cons_succ]
        refine wpAnyH_take (i := 10) (v := undef) rfl (by kernel_rfl) (by kernel_rfl) (by kernel_rfl) (fun _ _ _ h => h) (Or.inr ⟨by rfl, rfl⟩) (by assumption) ?_
        simp only [List.getElem_toArray, List.getElem_cons_zero, List.getElem_cons_succ, Act.put, List.setIfInBounds_toArray, List.set_cons_zero, List.set_cons_succ]
        refine wpAnyH_take (i := 11) (v := undef) rfl (by kernel_rfl) (by kernel_rfl) (by kernel_rfl) (fun _ _ _ h => h) (Or.inr ⟨by rfl, rfl⟩) (by assumption) ?_
        simp only [List.getElem_toArray, List.getElem_cons_zero, List.getElem_cons_succ, Act.put, List.setIfInBounds_toArray, List.set_cons_zero, List.set_cons_succ]
        refine wpAnyH_take (i := 12) (v := undef) rfl (by kernel_rfl) (by kernel_rfl) (by kernel_rfl) (fun _ _ _ h => h) (Or.inr ⟨by rfl, rfl⟩) (by assumption) ?_
        simp only [List.getElem_toArray, List.getElem_cons_zero, List.getElem_cons_succ, Act.put, List.setIfInBounds_toArray, List.set_cons_zero, List.set_cons_succ]
        refine wpAnyH_take (i := 13) (v := undef) rfl (by kernel_rfl) (by kernel_rfl) (by kernel_rfl) (fun _ _ _ h => h) (Or.inr ⟨by rfl, rfl⟩) (by assumption) ?_
        simp only [List.getElem_toArray, List.getElem_cons_zero, List.getElem_cons_succ, Act.put, List.setIfInBounds_toArray, List.set_cons_zero, List.set_cons_succ]
        refine wpAnyH_take (i := 14) (v := undef) rfl (by kernel_rfl) (by kernel_rfl) (by kernel_rfl) (fun _ _ _ h => h) (Or.inr ⟨by rfl, rfl⟩) (by assumption) ?_
        simp only [List.getElem_toArray, List.getElem_cons_zero, List.getElem_cons_succ, Act.put, List.setIfInBounds_toArray, List.set_cons_zero, List.set_cons_succ]
        refine wpAnyH_take (i := 15) (v := undef) rfl (by kernel_rfl) (by kernel_rfl) (by kernel_rfl) (fun _ _ _ h => h) (Or.inr ⟨by rfl, rfl⟩) (by assumption) ?_
        simp only [List.getElem_toArray, List.getElem_cons_zero, List.getElem_cons_succ, Act.put, List.setIfInBounds_toArray, List.set_cons_zero, List.set_cons_succ]
        refine wpAnyH_take (i := 16) (v := (.bool true)) rfl (by kernel_rfl) (by kernel_rfl) (by kernel_rfl) (fun _ _ _ h => h) (Or.inl ⟨by rfl, ?_⟩) (by assumption) ?_
        · intro w hSw; (try dsimp only at hSw); go_simp
        simp only [List.getElem_toArray, List.getElem_cons_zero, List.getElem_cons_succ, Act.put, List.setIfInBounds_toArray, List.set_cons_zero, List.set_cons_succ]
        refine wpAnyH_done (by kernel_rfl) ?_ _
        go_split_ands
        go_wp2_with fail
        go_ret
        exact ⟨false, rfl, HX0.out.trans ‹Ext W0 _›, ⟨fun h => absurd h Bool.false_ne_true, fun h => absurd h HBAD.out⟩⟩
      · rw [decide_eq_false hemp] at HIN
        rcases Nat.eq_zero_or_pos j with hj0 | hj0
        · subst hj0
          simp only [Nat.zero_mul, Nat.add_zero] at q0 q1 q2
          have HOK : Hid (∀ i, i < 0 + 1 → good l i) := Lib.hid (fun i hi => by
            obtain rfl : i = 0 := by omega
            exact ⟨fun h => by rw [HLJ.out]; exact hemp, fun k hk => by omega⟩)
          clear hemp
          go_wp2_with fail
          obtain ⟨W0, hW0⟩ : ∃ W0, W0 = wr.alloc (.cells #[.int .i64 a1, .int .i64 a2, .string a3] 31) := ⟨_, rfl⟩
          obtain ⟨G, hG⟩ : ∃ G, G = wr.heap.size := ⟨_, rfl⟩
          have z0 : W0.cell? ⟨G, 0, none⟩ = some (.int .i64 a1) := by rw [hW0, hG]; exact box_at _ _ _ _ (Ext.refl _) 0 _ rfl
          have z1 : W0.cell? ⟨G, 1, none⟩ = some (.int .i64 a2) := by rw [hW0, hG]; exact box_at _ _ _ _ (Ext.refl _) 1 _ rfl
          have z2 : W0.cell? ⟨G, 2, none⟩ = some (.string a3) := by rw [hW0, hG]; exact box_at _ _ _ _ (Ext.refl _) 2 _ rfl
          have HX0 : Hid (Ext w W0) := Lib.hid (by rw [hW0]; exact hxr.alloc _)
          rw [← hW0, ← hG]
          clear hW0 hG q0 q1 q2
          have hxx := Ext.refl W0
          refine wp_region_held_drew (S := (fun w' => Ext W0 w' ∧ w'.cell? ⟨G, 0, none⟩ = some (.int .i64 a1) ∧ w'.cell? ⟨G, 1, none⟩ = some (.int .i64 a2) ∧ w'.cell? ⟨G, 2, none⟩ = some (.string a3))) (by kernel_rfl) ?_ (fun hHeld => ?_)
          · refine ⟨?_, ?_, ?_, ?_⟩ <;> first | (exact Ext.drew ‹_›) | go_keep
          refine wpAnyH_take (i := 0) (v := (.agg #[.int .i64 a1, .int .i64 a2, .string a3])) rfl (by kernel_rfl) (by kernel_rfl) (by kernel_rfl) (fun _ _ _ h => h) (Or.inl ⟨by rfl, ?_⟩) (by assumption) ?_
          · intro w hSw; (try dsimp only at hSw); go_simp
          simp only [List.getElem_toArray, List.getElem_cons_zero, Act.put, List.setIfInBounds_toArray, List.set_cons_zero, List.set_cons_succ]
          refine wpAnyH_ready (rs := [1]) (by kernel_rfl) (by simp) ?_
          refine AllReadyH.cons rfl (fun K hK => ?_) AllReadyH.nil
          go_simp
          (go_at_call 16; refine (HIN.out _).mono ?_; rintro e w' ⟨rfl, hxk⟩)
          go_wp2_with fail
          refine hK.out _ _ ?_ (fun hHeld2 => ?_)
          · go_split_ands; refine ⟨?_, ?_, ?_, ?_⟩ <;> first | (exact Ext.trans ‹_› hxk) | (exact ext_cell hxk ‹_›)
          clear hK K hHeld
          refine wpAnyH_take (i := 2) (v := (.bool false)) rfl (by kernel_rfl) (by kernel_rfl) (by kernel_rfl) (fun _ _ _ h => h) (Or.inl ⟨by rfl, ?_⟩) (by assumption) ?_
          · intro w hSw; (try dsimp only at hSw); go_simp
          simp only [List.getElem_toArray, List.getElem_cons_zero, List.getElem_cons_succ, Act.put, List.setIfInBounds_toArray, List.set_cons_zero, List.set_cons_succ]
          refine wpAnyH_take (i := 3) (v := (.int .i64 ((0 : Nat) : Int))) rfl (by kernel_rfl) (by kernel_rfl) (by kernel_rfl) (fun _ _ _ h => h) (Or.inl ⟨by rfl, ?_⟩) (by assumption) ?_
          · intro w hSw; (try dsimp only at hSw); go_simp
          simp only [List.getElem_toArray, List.getElem_cons_zero, List.getElem_cons_succ, Act.put, List.setIfInBounds_toArray, List.set_cons_zero, List.set_cons_succ]
          refine wpAnyH_take (i := 4) (v := (.bool false)) rfl (by kernel_rfl) (by kernel_rfl) (by kernel_rfl) (fun _ _ _ h => h) (Or.inl ⟨by rfl, ?_⟩) (by assumption) ?_
          · intro w hSw; (try dsimp only at hSw); go_simp
          simp only [List.getElem_toArray, List.getElem_cons_zero, List.getElem_cons_succ, Act.put, List.setIfInBounds_toArray, List.set_cons_zero, List.set_cons_succ]
          refine wpAnyH_take (i := 5) (v := (.bool false)) rfl (by kernel_rfl) (by kernel_rfl) (by kernel_rfl) (fun _ _ _ h => h) (Or.inl ⟨by rfl, ?_⟩) (by assumption) ?_
          · intro w hSw; (try dsimp only at hSw); go_simp
          simp only [List.getElem_toArray, List.getElem_cons_zero, List.getElem_cons_succ, Act.put, List.setIfInBounds_toArray, List.set_cons_zero, List.set_cons_succ]
          refine wpAnyH_take (i := 6) (v := undef) rfl (by kernel_rfl) (by kernel_rfl) (by kernel_rfl) (fun _ _ _ h => h) (Or.inr ⟨by rfl, rfl⟩) (by assumption) ?_
          simp only [List.getElem_toArray, List.getElem_cons_zero, List.getElem_cons_succ, Act.put, List.setIfInBounds_toArray, List.set_cons_zero, List.set_cons_succ]
          refine wpAnyH_take (i := 7) (v := undef) rfl (by kernel_rfl) (by kernel_rfl) (by kernel_rfl) (fun _ _ _ h => h) (Or.inr ⟨by rfl, rfl⟩) (by assumption) ?_
          simp only [List.getElem_toArray, List.getElem_cons_zero, List.getElem_cons_succ, Act.put, List.setIfInBounds_toArray, List.set_cons_zero, List.set_cons_succ]
          refine wpAnyH_take (i := 8) (v := undef) rfl (by kernel_rfl) (by kernel_rfl) (by kernel_rfl) (fun _ _ _ h => h) (Or.inr ⟨by rfl, rfl⟩) (by assumption) ?_
          simp only [List.getElem_toArray, List.getElem_cons_zero, List.getElem_cons_succ, Act.put, List.setIfInBounds_toArray, List.set_cons_zero, List.set_cons_succ]
          refine wpAnyH_take (i := 9) (v := undef) rfl (by kernel_rfl) (by kernel_rfl) (by kernel_rfl) (fun _ _ _ h => h) (Or.inr ⟨by rfl, rfl⟩) (by assumption) ?_
          simp only [List.getElem_toArray, List.getElem_cons_zero, List.getElem_cons_succ, Act.put, List.setIfInBounds_toArray, List.set_cons_zero, List.set_cons_succ]
          refine wpAnyH_take (i := 10) (v := undef) rfl (by kernel_rfl) (by kernel_rfl) (by kernel_rfl) (fun _ _ _ h => h) (Or.inr ⟨by rfl, rfl⟩) (by assumption) ?_
          simp only [List.getElem_toArray, List.getElem_cons_zero, List.getElem_cons_succ, Act.put, List.setIfInBounds_toArray, List.set_cons_zero, List.set_cons_succ]
          refine wpAnyH_take (i := 11) (v := undef) rfl (by kernel_rfl) (by kernel_rfl) (by kernel_rfl) (fun _ _ _ h => h) (Or.inr ⟨by rfl, rfl⟩) (by assumption) ?_
          simp only [List.getElem_toArray, List.getElem_cons_zero, List.getElem_cons_succ, Act.put, List.setIfInBounds_toArray, List.set_cons_zero, List.set_cons_succ]
          refine wpAnyH_take (i := 12) (v := undef) rfl (by kernel_rfl) (by kernel_rfl) (by kernel_rfl) (fun _ _ _ h => h) (Or.inr ⟨by rfl, rfl⟩) (by assumption) ?_
          simp only [List.getElem_toArray, List.getElem_cons_zero, List.getElem_cons_succ, Act.put, List.setIfInBounds_toArray, List.set_cons_zero, List.set_cons_succ]
          refine wpAnyH_take (i := 13) (v := undef) rfl (by kernel_rfl) (by kernel_rfl) (by kernel_rfl) (fun _ _ _ h => h) (Or.inr ⟨by rfl, rfl⟩) (by assumption) ?_
          simp only [List.getElem_toArray, List.getElem_cons_zero, List.getElem_cons_succ, Act.put, List.setIfInBounds_toArray, List.set_cons_zero, List.set_cons_succ]
          refine wpAnyH_take (i := 14) (v := undef) rfl (by kernel_rfl) (by kernel_rfl) (by kernel_rfl) (fun _ _ _ h => h) (Or.inr ⟨by rfl, rfl⟩) (by assumption) ?_
          simp only [List.getElem_toArray, List.getElem_cons_zero, List.getElem_cons_succ, Act.put, List.setIfInBounds_toArray, List.set_cons_zero, List.set_cons_succ]
          refine wpAnyH_take (i := 15) (v := (.bool false)) rfl (by kernel_rfl) (by kernel_rfl) (by kernel_rfl) (fun _ _ _ h => h) (Or.inl ⟨by rfl, ?_⟩) (by assumption) ?_
          · intro w hSw; (try dsimp only at hSw); go_simp
          simp only [List.getElem_toArray, List.getElem_cons_zero, List.getElem_cons_succ, Act.put, List.setIfInBounds_toArray, List.set_cons_zero, List.set_cons_succ]
          refine wpAnyH_take (i := 16) (v := (.bool false)) rfl (by kernel_rfl) (by kernel_rfl) (by kernel_rfl) (fun _ _ _ h => h) (Or.inl ⟨by rfl, ?_⟩) (by assumption) ?_
          · intro w hSw; (try dsimp only at hSw); go_simp
          simp only [List.getElem_toArray, List.getElem_cons_zero, List.getElem_cons_succ, Act.put, List.setIfInBounds_toArray, List.set_cons_zero, List.set_cons_succ]
          refine wpAnyH_done (by kernel_rfl) ?_ _
          go_split_ands
          go_wp2_with fail
          go_roundw
          case rel => exact ⟨0 + 1, by omega, by go_num, HX0.out.trans ‹Ext W0 _›, HOK.out⟩
          case measure => simp [intOf]; omega
        · obtain ⟨p, rfl⟩ : ∃ p, j = p + 1 := ⟨j - 1, by omega⟩
          have hpl : p < l.length := by omega
          obtain ⟨b', off', hA, _, r0, _, _⟩ := sp_at HR.out HL.out (show p < q by omega)
          injection hA with hA
          injection hA with e1 e2
          subst e1; subst e2
          obtain ⟨k1, hk1⟩ : ∃ k1, l[p].1 = k1 := ⟨_, rfl⟩
          rw [hk1] at r0
          have HK1 := Lib.hid hk1
          have p0 : (0 : Int) < ((p + 1 : Nat) : Int) := by omega
          have p1 : ((p + 1 : Nat) : Int) - 1 = (p : Int) := by omega
          have p2 : (0 : Int) ≤ (p : Int) := by omega
          have p3 : (p : Int) < (q : Int) := by omega
          have p4 : IntKind.i64.wrap (p : Int) = (p : Int) := by rw [IntKind.wrap_i64]; omega
          have p5 : (0 : Int) < (p : Int) + 1 := by omega
          by_cases hk : k1 = a1
          · have HBAD : Hid (¬ isN l) := Lib.hid (fun h => ((is_good l).1 h (p + 1) hjl).2 p rfl hjl (by rw [HK1.out, HLJ.out]; exact hk))
            subst hk
            clear hemp hk1 HK1
            go_wp2_with fail
            have r0' := ext_cell ((Ext.refl wr).alloc (.cells #[.int .i64 k1, .int .i64 a2, .string a3] 31)) r0
            obtain ⟨W0, hW0⟩ : ∃ W0, W0 = wr.alloc (.cells #[.int .i64 k1, .int .i64 a2, .string a3] 31) := ⟨_, rfl⟩
            obtain ⟨G, hG⟩ : ∃ G, G = wr.heap.size := ⟨_, rfl⟩
            have z0 : W0.cell? ⟨G, 0, none⟩ = some (.int .i64 k1) := by rw [hW0, hG]; exact box_at _ _ _ _ (Ext.refl _) 0 _ rfl
            have z1 : W0.cell? ⟨G, 1, none⟩ = some (.int .i64 a2) := by rw [hW0, hG]; exact box_at _ _ _ _ (Ext.refl _) 1 _ rfl
            have z2 : W0.cell? ⟨G, 2, none⟩ = some (.string a3) := by rw [hW0, hG]; exact box_at _ _ _ _ (Ext.refl _) 2 _ rfl
            have HX0 : Hid (Ext w W0) := Lib.hid (by rw [hW0]; exact hxr.alloc _)
            rw [← hW0] at r0'
            rw [← hW0, ← hG]
            clear hW0 hG q0 q1 q2 r0
            have hxx := Ext.refl W0
            go_region_held3 (fun w' => Ext W0 w' ∧ w'.cell? ⟨G, 0, none⟩ = some (.int .i64 k1) ∧ w'.cell? ⟨G, 1, none⟩ = some (.int .i64 a2) ∧ w'.cell? ⟨G, 2, none⟩ = some (.string a3) ∧ w'.cell? ⟨b, off + p * 3, none⟩ = some (.int .i64 k1))
                  ((go_split_ands; refine ⟨?_, ?_, ?_, ?_, ?_⟩ <;> first | (exact Ext.drew ‹_›) | (exact Ext.trans ‹_› hxk) | (exact ext_cell hxk ‹_›) | go_keep))
                  (first | (go_at_call 16; (try go_split_ands); refine (HIN.out _).mono ?_; rintro e w' ⟨rfl, hxk⟩) | fail)
            go_split_ands
            go_wp2_with fail
            go_ret
            exact ⟨false, rfl, HX0.out.trans ‹Ext W0 _›, ⟨fun h => absurd h Bool.false_ne_true, fun h => absurd h HBAD.out⟩⟩
          · have hkb : (a1 == k1) = false := by rw [beq_eq_false_iff_ne]; exact fun e => hk e.symm
            have HOK : Hid (∀ i, i < p + 1 + 1 → good l i) := Lib.hid (fun i hi => by
              rcases (by omega : i < p + 1 ∨ i = p + 1) with h | rfl
              · exact HG.out i h
              · exact ⟨fun h => by rw [HLJ.out]; exact hemp, fun k hk' _ => by
                  obtain rfl : k = p := by omega
                  rw [HK1.out, HLJ.out]; exact hk⟩)
            clear hemp hk1 hk
            go_wp2_with fail
            have r0' := ext_cell ((Ext.refl wr).alloc (.cells #[.int .i64 a1, .int .i64 a2, .string a3] 31)) r0
            obtain ⟨W0, hW0⟩ : ∃ W0, W0 = wr.alloc (.cells #[.int .i64 a1, .int .i64 a2, .string a3] 31) := ⟨_, rfl⟩
            obtain ⟨G, hG⟩ : ∃ G, G = wr.heap.size := ⟨_, rfl⟩
            have z0 : W0.cell? ⟨G, 0, none⟩ = some (.int .i64 a1) := by rw [hW0, hG]; exact box_at _ _ _ _ (Ext.refl _) 0 _ rfl
            have z1 : W0.cell? ⟨G, 1, none⟩ = some (.int .i64 a2) := by rw [hW0, hG]; exact box_at _ _ _ _ (Ext.refl _) 1 _ rfl
            have z2 : W0.cell? ⟨G, 2, none⟩ = some (.string a3) := by rw [hW0, hG]; exact box_at _ _ _ _ (Ext.refl _) 2 _ rfl
            have HX0 : Hid (Ext w W0) := Lib.hid (by rw [hW0]; exact hxr.alloc _)
            rw [← hW0] at r0'
            rw [← hW0, ← hG]
            clear hW0 hG q0 q1 q2 r0
            have hxx := Ext.refl W0
            go_region_held3 (fun w' => Ext W0 w' ∧ w'.cell? ⟨G, 0, none⟩ = some (.int .i64 a1) ∧ w'.cell? ⟨G, 1, none⟩ = some (.int .i64 a2) ∧ w'.cell? ⟨G, 2, none⟩ = some (.string a3) ∧ w'.cell? ⟨b, off + p * 3, none⟩ = some (.int .i64 k1))
                  ((go_split_ands; refine ⟨?_, ?_, ?_, ?_, ?_⟩ <;> first | (exact Ext.drew ‹_›) | (exact Ext.trans ‹_› hxk) | (exact ext_cell hxk ‹_›) | go_keep))
                  (first | (go_at_call 16; (try go_split_ands); refine (HIN.out _).mono ?_; rintro e w' ⟨rfl, hxk⟩) | fail)
            go_split_ands
            go_wp2_with fail
            go_roundw
            case rel => exact ⟨p + 1 + 1, by omega, by go_num, HX0.out.trans ‹Ext W0 _›, HOK.out⟩
            case measure => simp [intOf]; omega
    · obtain rfl : j = q := by omega
      have dn : decide (j < j) = false := by rw [decide_eq_false_iff_not]; exact hlt
      have HIS : Hid (isN l) := Lib.hid ((is_good l).2 (fun i hi => HG.out i (by have := HL.out; omega)))
      clear hlt hj
      go_wp2_with fail
      go_ret
      exact ⟨true, rfl, hxr, fun _ => HIS.out, fun _ => rfl⟩
end Go.Proofs.Ythlhjjgmncbplaa
