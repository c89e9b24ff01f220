/- Layer 5, the program: slices.DeleteFunc. -/
import Derived.Test.YthlhjjgmncbplaaP5a
namespace Go.Proofs.Ythlhjjgmncbplaa
open Go.RowKit
set_option maxRecDepth 100000
set_option maxHeartbeats 1000000
theorem spCells_split (xs : List Sp) (i : Nat) (s : Sp) (hi : i < xs.length) :
    (spCells xs).take (i * 3) ++ [.int .i64 s.1, .int .i64 s.2.1, .string s.2.2] ++ (spCells xs).drop (i * 3 + 3) = spCells (xs.set i s) := by
  have h1 : xs = xs.take i ++ xs[i] :: xs.drop (i + 1) := by rw [← List.drop_eq_getElem_cons hi, List.take_append_drop]
  have hl : (spCells (xs.take i)).length = i * 3 := by rw [spCells_length, List.length_take, Nat.min_eq_left (by omega)]
  have h2 : xs.set i s = xs.take i ++ s :: xs.drop (i + 1) := List.set_eq_take_append_cons_drop.trans (by rw [if_pos hi])
  have h3 : spCells xs = spCells (xs.take i) ++ ([.int .i64 xs[i].1, .int .i64 xs[i].2.1, .string xs[i].2.2] ++ spCells (xs.drop (i + 1))) := by
    conv => lhs; rw [h1]
    rw [spCells_append]; rfl
  rw [h2, spCells_append, h3, List.take_append_of_le_length (by omega), List.take_of_length_le (by omega), List.append_assoc]
  congr 1
  rw [List.drop_append, List.drop_of_length_le (by omega), List.nil_append, hl, show i * 3 + 3 - i * 3 = 3 by omega]
  rfl
theorem drop_at {xs l : List Sp} {j : Nat} (h : xs.drop j = l.drop j) (h1 : j < xs.length) (h2 : j < l.length) : xs[j] = l[j] ∧ xs.drop (j + 1) = l.drop (j + 1) := by
  rw [List.drop_eq_getElem_cons h1, List.drop_eq_getElem_cons h2] at h
  injection h with a b
  exact ⟨a, b⟩
theorem deleteEmpty_c (g c q B : Nat) (l : List Sp) (w : World) (h : Own w B 31 3 (.slice (some ⟨g, 0, none⟩) q c) q (spCells l)) (hl : l.length = q) (hq : q ≤ 100000) (hB : B ≤ g) :
    Calls Try.prog 15 #[.slice (some ⟨g, 0, none⟩) q c, .func (.func 16) #[] #[]] w fun e w' =>
      ∃ v, e = .returned v ∧ Own w' B 31 3 v (full l).length (spCells (full l)) ∧ Below B w w' := by
  obtain ⟨i0, hi, hz0, hz1, hz2⟩ := info_parts info_sp5
  have H := Lib.hid h; have HL := Lib.hid hl
  have hqc : q ≤ c := by obtain ⟨a, c', hv, hc⟩ := h.len; injection hv with _ _ e; omega
  have HIX := Lib.hid (indexEmpty_c (some ⟨g, 0, none⟩) q c l w h.rd hl hq)
  have hBw := h.2
  have HZV : Hid (∀ w : World, (zeroValue 31).run Try.prog w = .ok (.agg #[.int .i64 0, .int .i64 0, .string ⟨#[]⟩]) w) := Lib.hid fun w => by kernel_rfl
  clear h hl hi hz0 hz1 hz2
  go_enter Try.func15, Try.ntmps15
  go_wp2_with fail
  refine HIX.out.mono ?_
  rintro e w1 ⟨hx1, ⟨rfl, hno⟩ | ⟨i, rfl, hil, hemp, hno⟩⟩
  · have HNO := Lib.hid hno
    clear hno
    go_wp2_with fail
    go_ret
    refine ⟨_, rfl, ?_, Below.mono hx1 hBw⟩
    rw [full_self l HNO.out, HL.out]
    exact H.out.ext hx1
  · have hin : ((i : Int) == -1) = false := by rw [beq_eq_false_iff_ne]; omega
    have hiq : i < q := by have := HL.out; omega
    have HI : Hid (l.take i = full (l.take (i + 1))) := Lib.hid (by rw [full_take_emp l i hil hemp, full_self _ hno])
    have HB1 := Lib.hid (Below.mono hx1 hBw)
    have HO1 := Lib.hid (H.out.ext hx1)
    have hi1 : (0 : Int) ≤ (i : Int) := by omega
    clear hemp hno hx1
    go_wp2_with fail
    go_loopw [5, 6] (fun zi zj wr => ∃ (i j : Nat) (xs : List Sp), i < j ∧ j ≤ q ∧ zi = .int .i64 i ∧ zj = .int .i64 j ∧ xs.length = q ∧ xs.take i = full (l.take j) ∧ xs.drop j = l.drop j ∧
      Own wr B 31 3 (.slice (some ⟨g, 0, none⟩) q c) q (spCells xs) ∧ Below B w wr) (fun _ zj _ => q - (intOf zj).toNat)
    case atStart => exact ⟨i, i + 1, l, by omega, by omega, rfl, by go_num, HL.out, HI.out, rfl, HO1.out, HB1.out⟩
    case round =>
      obtain ⟨i, j, xs, hij, hj, rfl, rfl, hxl, hxt, hxd, hown, hbel⟩ := hrel
      have HXL := Lib.hid hxl; have HXT := Lib.hid hxt; have HXD := Lib.hid hxd; have HOW := Lib.hid hown; have HBE := Lib.hid hbel
      clear hxl hxt hxd hown hbel HI HB1 HO1
      have hqc' := hqc
      by_cases hlt : j < q
      · have hjl : j < xs.length := by have := HXL.out; omega
        have hjl2 : j < l.length := by have := HL.out; omega
        obtain ⟨hxj, hxd⟩ := drop_at HXD.out hjl hjl2
        obtain ⟨b, off, hA, hb, q0, q1, q2⟩ := sp_at HOW.out.rd HXL.out hlt
        injection hA with hA
        injection hA with e1 e2
        subst e1; subst e2
        obtain ⟨b', off', hA, _, s0, s1, s2⟩ := sp_at HOW.out.rd HXL.out (show i < q by omega)
        injection hA with hA
        injection hA with e1 e2
        subst e1; subst e2
        have dn : decide (j < q) = true := by rw [decide_eq_true_eq]; exact hlt
        have i0 : (0 : Int) ≤ (j : Int) := by omega
        have i1 : (j : Int) < (q : Int) := by omega
        have i2 : (0 : Int) ≤ (i : Int) := by omega
        have i3 : (i : Int) < (q : Int) := by omega
        obtain ⟨s, hs⟩ : ∃ s, l[j] = s := ⟨_, rfl⟩
        obtain ⟨a1, a2, a3⟩ := s
        rw [hxj, hs] at q0 q1 q2
        simp only [Nat.zero_add] at q0 q1 q2 s0 s1 s2
        obtain ⟨v0, hv0⟩ : ∃ v, v = Value.int .i64 xs[i].1 := ⟨_, rfl⟩
        obtain ⟨v1, hv1⟩ : ∃ v, v = Value.int .i64 xs[i].2.1 := ⟨_, rfl⟩
        obtain ⟨v2, hv2⟩ : ∃ v, v = Value.string xs[i].2.2 := ⟨_, rfl⟩
        rw [← hv0] at s0; rw [← hv1] at s1; rw [← hv2] at s2
        have HS := Lib.hid hs; have HXD2 := Lib.hid hxd
        have HIN := Lib.hid (fun (w' : World) => empty5_c a1 a2 a3 w')
        unfold spanV at HIN
        have HX : Hid (∀ o, Ext wr (wr.alloc o)) := Lib.hid fun o => (Ext.refl wr).alloc o
        clear hs hxj hxd hv0 hv1 hv2
        by_cases hemp : emp (a1, a2, a3)
        · rw [decide_eq_true hemp] at HIN
          have HT : Hid (full (l.take (j + 1)) = full (l.take j)) := Lib.hid (full_take_emp l j hjl2 (by rw [HS.out]; exact hemp))
          clear hemp
          go_wp2_with fail
          refine (HIN.out _).mono ?_; rintro e w2 ⟨rfl, hx2⟩
          have HX2 := Lib.hid ((HX.out _).trans hx2)
          go_wp2_with fail
          go_roundw
          case rel => exact ⟨i, j + 1, xs, by omega, by omega, rfl, by go_num, HXL.out, by rw [HT.out]; exact HXT.out, HXD2.out, HOW.out.ext HX2.out, HBE.out.trans (Below.mono HX2.out HOW.out.2)⟩
          case measure => simp [intOf]; omega
        · rw [decide_eq_false hemp] at HIN
          have HT : Hid (full (l.take (j + 1)) = full (l.take j) ++ [(a1, a2, a3)]) := Lib.hid (by have h := full_take l j hjl2 (by rw [HS.out]; exact hemp); rw [HS.out] at h; exact h)
          clear hemp
          go_wp2_with fail
          refine (HIN.out _).mono ?_; rintro e w2 ⟨rfl, hx2⟩
          have HX2 := Lib.hid ((HX.out _).trans hx2)
          have z0 := box_at _ _ _ _ hx2 0 _ rfl
          have z1 := box_at _ _ _ _ hx2 1 _ rfl
          have z2 := box_at _ _ _ _ hx2 2 _ rfl
          have t0 := ext_cell HX2.out s0
          have t1 := ext_cell HX2.out s1
          have t2 := ext_cell HX2.out s2
          have HO2 := Lib.hid (HOW.out.ext HX2.out)
          have f0 := HO2.out.free (i * 3)
          have f1 := HO2.out.free (i * 3 + 1)
          have f2 := HO2.out.free (i * 3 + 2)
          obtain ⟨G, hG⟩ : ∃ G, wr.heap.size = G := ⟨_, rfl⟩
          rw [hG] at z0 z1 z2 ⊢
          have HB2 := Lib.hid (HBE.out.trans (Below.mono HX2.out HOW.out.2))
          clear q0 q1 q2 s0 s1 s2 hG hx2
          go_wp2_with fail
          have HO3 := Lib.hid (HO2.out.setCells [.int .i64 a1, .int .i64 a2, .string a3] (i * 3) _ _ (by show i * 3 + 3 ≤ q * 3; omega))
          have HB3 := Lib.hid (below_setCells5 g hB [.int .i64 a1, .int .i64 a2, .string a3] (i * 3) _ HB2.out)
          have HSP : Hid ((spCells xs).take (i * 3) ++ [Value.int .i64 a1, .int .i64 a2, .string a3] ++ (spCells xs).drop (i * 3 + [Value.int .i64 a1, .int .i64 a2, .string a3].length) = spCells (xs.set i (a1, a2, a3))) := Lib.hid (spCells_split xs i (a1, a2, a3) (by have := HXL.out; omega))
          have HXI : Hid ((xs.set i (a1, a2, a3)).take (i + 1) = full (l.take (j + 1)) ∧ (xs.set i (a1, a2, a3)).drop (j + 1) = l.drop (j + 1)) := Lib.hid (by
            refine ⟨?_, ?_⟩
            · rw [List.take_add_one, List.take_set_of_le (Nat.le_refl _), List.getElem?_set_self (by have := HXL.out; omega), HXT.out, HT.out]; rfl
            · rw [List.drop_set_of_lt (by omega)]; exact HXD2.out)
          clear z0 z1 z2 t0 t1 t2 f0 f1 f2
          go_roundw
          case rel => exact ⟨i + 1, j + 1, xs.set i (a1, a2, a3), by omega, by omega, by go_num, by go_num, by rw [List.length_set]; exact HXL.out, HXI.out.1, HXI.out.2, by have h := HO3.out; rw [HSP.out] at h; exact h, HB3.out⟩
          case measure => simp [intOf]; omega
      · obtain rfl : j = q := by omega
        have dn : decide (j < j) = false := by rw [decide_eq_false_iff_not]; exact hlt
        have hall : l.take j = l := by rw [← HL.out]; exact List.take_length
        have HXT2 : Hid (xs.take i = full l) := Lib.hid (by rw [HXT.out, hall])
        have i2 : (0 : Int) ≤ (i : Int) := by omega
        have i3 : (i : Int) ≤ (j : Int) := by omega
        have i4 : (i : Int) ≤ (c : Int) := by omega
        have i5 : ¬ c = i := by omega
        have HTH := Lib.hid (HOW.out.there (i * 3) ((j - i) * 3) (by omega))
        have HCL : Hid (∃ vs : List Value, vs.length = (j - i) * 3 ∧ (Builtin.clear_ #[22] 0 #[Value.slice (some ⟨g, i * 3, none⟩) (j - i) (c - i)]).run Try.prog wr = .ok (.tuple #[]) (wr.setCells g (i * 3) vs)) :=
          Lib.hid (run_clear_k wr 22 31 0 (.agg #[.int .i64 0, .int .i64 0, .string ⟨#[]⟩]) 3 Try.underlying22 HZV.out rfl (by decide +kernel) (by omega) g (i * 3) (j - i) (c - i) HTH.out)
        obtain ⟨vs, hvs, hclr⟩ := HCL.out
        have HO3 := Lib.hid (HOW.out.setCells vs (i * 3) _ _ (by rw [hvs, ← Nat.add_mul]; exact Nat.mul_le_mul_right _ (by omega)))
        have HB3 := Lib.hid (below_setCells5 g hB vs (i * 3) _ HBE.out)
        have HCR := Lib.hid hclr
        clear hlt hj hall hqc' hvs hclr
        go_wp2_with fail
        rw [HCR.out]
        simp only [Result.andThen]
        rw [Oper.upon_value]
        go_wp2_with fail
        go_ret
        refine ⟨_, rfl, ?_, HB3.out⟩
        have hfl : (full l).length = i := by rw [← HXT2.out, List.length_take, HXL.out]; omega
        have h := HO3.out.front (m := i) (by omega)
        have hsl : (spCells xs).length = j * 3 := by rw [spCells_length, HXL.out]
        rw [List.append_assoc, List.take_append_of_le_length (by rw [List.length_take, hsl]; omega), List.take_of_length_le (by rw [List.length_take]; omega)] at h
        rw [hfl, ← HXT2.out]
        have e : (spCells xs).take (i * 3) = spCells (xs.take i) := by
          conv => lhs; rw [← List.take_append_drop i xs, spCells_append]
          have : (spCells (xs.take i)).length = i * 3 := by rw [spCells_length, List.length_take, HXL.out]; omega
          rw [List.take_append_of_le_length (by omega), List.take_of_length_le (by omega)]
        rw [e] at h
        exact h
end Go.Proofs.Ythlhjjgmncbplaa
