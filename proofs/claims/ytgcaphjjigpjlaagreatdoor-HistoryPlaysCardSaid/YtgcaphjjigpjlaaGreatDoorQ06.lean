/- Packed: P5. -/
import Derived.BigQuiet
import Derived.Deep.MidRow
import Derived.Deep.QuietTactic
import Derived.Deep.RegionHeld3
import Derived.Deep.RegionWith
import Derived.Laws.AppendOwnNone
import Derived.Laws.BytesArg
import Derived.Laws.IdiomCopy
import Derived.Laws.MakeOwn
import Derived.Lib.AppendStr
import Derived.Lib.Builder
import Derived.Lib.DecodeN
import Derived.Lib.Hide
import Derived.Lib.Strings
import Derived.Lib.UnsafeStr
import Derived.StillTailTactics
import Derived.Test.YtgcaphjjigpjlaaGreatDoorProg
import Derived.Test.YtgcaphjjigpjlaaGreatDoorShelf
import Derived.WalkKit
import Derived.WalkLawsBesides
import Derived.WalkSpells
import Derived.Test.YtgcaphjjigpjlaaGreatDoorQ00
import Derived.Test.YtgcaphjjigpjlaaGreatDoorQ01
import Derived.Test.YtgcaphjjigpjlaaGreatDoorQ02
import Derived.Test.YtgcaphjjigpjlaaGreatDoorQ05
namespace Go.Proofs.YtgcaphjjigpjlaaGreatDoor
open Go.RowKit
set_option maxRecDepth 100000
set_option maxHeartbeats 1000000
theorem emp_ways (n : Int) (t : ByteArray) (k : Int) : (emp (k, n, t) ∧ n = 0 ∧ t = ⟨#[]⟩) ∨ (¬ emp (k, n, t) ∧ ((n == 0) = false ∨ ((n == 0) = true ∧ t.toList.isEmpty = false))) := by
  by_cases h : emp (k, n, t)
  · exact .inl ⟨h, h.1, ba_empty h.2⟩
  · refine .inr ⟨h, ?_⟩
    by_cases h2 : n = 0
    · right
      refine ⟨by rw [beq_iff_eq]; exact h2, ?_⟩
      rw [toList_bs]
      cases hb3 : bs t with
      | nil => exact absurd ⟨h2, by rw [← bs_length, hb3]; rfl⟩ h
      | cons x y => rfl
    · left; rw [beq_eq_false_iff_ne]; exact h2
theorem empty5_c (k n : Int) (t : ByteArray) (w : World) :
    Calls Tryz.prog 53 #[spanV k n t] w fun e w' => e = .returned (.bool (decide (emp (k, n, t)))) ∧ Ext w w' := by
  have HX : Hid (∀ o, Ext w (w.alloc o)) := Lib.hid fun o => (Ext.refl w).alloc o
  unfold spanV
  rcases emp_ways n t k with ⟨h, h2, h3⟩ | ⟨h, h2⟩
  · rw [decide_eq_true h]
    subst h2; subst h3
    clear h
    go_enter Tryz.func53, Tryz.ntmps53
    go_wp2_with fail
    go_ret
    exact ⟨rfl, HX.out _⟩
  · rw [decide_eq_false h]
    clear h
    rcases h2 with n1 | ⟨n1, n2⟩
    all_goals
      go_enter Tryz.func53, Tryz.ntmps53
      go_wp2_with fail
      go_ret
      exact ⟨rfl, HX.out _⟩
theorem alike5_c (A : Option Addr) (q c : Nat) (l : List Sp) (w : World) (h : Rd w 3 (.slice A q c) q (spCells l)) (hl : l.length = q) (hq : q ≤ 100000) (h0 : 0 < q) :
    Calls Tryz.prog 54 #[.slice A q c] w fun e w' => ∃ n : Nat, e = .returned (.int .i64 n) ∧ Ext w w' ∧ runOf l n := by
  have H := Lib.hid h; have HL := Lib.hid hl
  have hl0 : 0 < l.length := by omega
  obtain ⟨k0, hk0⟩ : ∃ k0, l[0].1 = k0 := ⟨_, rfl⟩
  have HK := Lib.hid hk0
  clear h hl
  go_enter Tryz.func54, Tryz.ntmps54
  go_wp2_with fail
  go_loopw [3] (fun z wr => ∃ j : Nat, 1 ≤ j ∧ j ≤ q ∧ z = .int .i64 j ∧ Ext w wr ∧ ∀ i (h : i < l.length), i < j → l[i].1 = k0) (fun z _ => q - (intOf z).toNat)
  case atStart => exact ⟨1, by omega, by omega, rfl, Ext.refl _, fun i hi h1 => by obtain rfl : i = 0 := (by omega); exact HK.out⟩
  case round =>
    obtain ⟨j, hj1, hj, rfl, hxr, hall⟩ := hrel
    have HA := Lib.hid hall
    clear hall
    have HR := Lib.hid (H.out.ext hxr)
    obtain ⟨b, off, rfl, hb, r0, _, _⟩ := sp_at HR.out HL.out h0
    rw [hk0] at r0
    simp only [Nat.zero_mul, Nat.add_zero] at r0
    have i0 : (0 : Int) ≤ (j : Int) := by omega
    have i2 : (0 : Int) < (q : Int) := by omega
    by_cases hlt : j < q
    · have hjl : j < l.length := by have := HL.out; omega
      obtain ⟨b', off', hA, _, q0, _, _⟩ := sp_at HR.out HL.out hlt
      injection hA with hA
      injection hA with e1 e2
      subst e1; subst e2
      have dn : decide (j < q) = true := by rw [decide_eq_true_eq]; exact hlt
      have i1 : (j : Int) < (q : Int) := by omega
      obtain ⟨k1, hk1⟩ : ∃ k1, l[j].1 = k1 := ⟨_, rfl⟩
      rw [hk1] at q0
      have HK1 := Lib.hid hk1
      clear hk1 hk0
      by_cases hk : k1 = k0
      · subst hk
        go_wp2_with fail
        go_quiet (fail)
        go_wp2_with fail
        go_roundw
        case rel => exact ⟨j + 1, by omega, by omega, by go_num, hxr.drewN _, fun i hi h1 => by
          rcases (by omega : i < j ∨ i = j) with h | rfl
          · exact HA.out i hi h
          · exact HK1.out⟩
        case measure => simp [intOf]; omega
      · have hkb : (k1 == k0) = false := by rw [beq_eq_false_iff_ne]; exact hk
        have HN := Lib.hid hk
        clear hk
        go_wp2_with fail
        go_quiet (fail)
        go_wp2_with fail
        go_ret
        exact ⟨j, rfl, hxr.drewN _, hj1, by omega, fun i hi h1 => by rw [HA.out i hi h1]; exact HK.out.symm, fun h1 => by rw [HK1.out, HK.out]; exact HN.out⟩
    · obtain rfl : j = q := by omega
      have dn : decide (j < j) = false := by rw [decide_eq_false_iff_not]; exact hlt
      clear hlt hj hk0
      go_wp2_with fail
      go_quiet (fail)
      go_wp2_with fail
      go_ret
      exact ⟨j, rfl, hxr.drewN _, hj1, by have := HL.out; omega, fun i hi h1 => by rw [HA.out i hi h1]; exact HK.out.symm, fun h1 => by have := HL.out; omega⟩
theorem indexEmpty_c (A : Option Addr) (q c : Nat) (l : List Sp) (w : World) (h : Rd w 3 (.slice A q c) q (spCells l)) (hl : l.length = q) (hq : q ≤ 100000) :
    Calls Tryz.prog 79 #[.slice A q c, .func (.func 53) #[] #[]] w fun e w' =>
      Ext w w' ∧ ((e = .returned (.int .i64 (-1)) ∧ ∀ s ∈ l, ¬ emp s) ∨ ∃ i : Nat, e = .returned (.int .i64 i) ∧ ∃ hi : i < l.length, emp l[i] ∧ ∀ s ∈ l.take i, ¬ emp s) := by
  have H := Lib.hid h; have HL := Lib.hid hl
  clear h hl
  go_enter Tryz.func79, Tryz.ntmps79
  go_wp2_with fail
  go_loopw [8] (fun z wr => ∃ j : Nat, j ≤ q ∧ z = .int .i64 j ∧ Ext w wr ∧ ∀ s ∈ l.take j, ¬ emp s) (fun z _ => q - (intOf z).toNat)
  case atStart => exact ⟨0, by omega, rfl, Ext.refl _, fun s hs => by simp at hs⟩
  case round =>
    obtain ⟨j, hj, rfl, hxr, hall⟩ := hrel
    have HA := Lib.hid hall
    clear hall
    by_cases hlt : j < q
    · have hjl : j < l.length := by have := HL.out; omega
      obtain ⟨b, off, rfl, hb, q0, q1, q2⟩ := sp_at (H.out.ext hxr) HL.out hlt
      have dn : decide (j < q) = true := by rw [decide_eq_true_eq]; exact hlt
      have i0 : (0 : Int) ≤ (j : Int) := by omega
      have i1 : (j : Int) < (q : Int) := by omega
      obtain ⟨s, hs⟩ : ∃ s, l[j] = s := ⟨_, rfl⟩
      obtain ⟨a1, a2, a3⟩ := s
      rw [hs] at q0 q1 q2
      have HS := Lib.hid hs
      have HIN := Lib.hid (fun (w' : World) => empty5_c a1 a2 a3 w')
      unfold spanV at HIN
      clear hs
      by_cases hemp : emp (a1, a2, a3)
      · rw [decide_eq_true hemp] at HIN
        have HE := Lib.hid hemp
        clear hemp
        go_wp2_with fail
        refine (HIN.out _).mono ?_; rintro e w1 ⟨rfl, hx1⟩
        go_wp2_with fail
        go_ret
        exact ⟨hxr.trans hx1, .inr ⟨j, rfl, hjl, by rw [HS.out]; exact HE.out, HA.out⟩⟩
      · rw [decide_eq_false hemp] at HIN
        have HE := Lib.hid hemp
        clear hemp
        go_wp2_with fail
        refine (HIN.out _).mono ?_; rintro e w1 ⟨rfl, hx1⟩
        go_wp2_with fail
        go_roundw
        case rel => exact ⟨j + 1, by omega, by go_num, hxr.trans hx1, fun s hs => by
          rw [List.take_add_one, List.getElem?_eq_getElem hjl, Option.toList_some, HS.out] at hs
          rcases List.mem_append.1 hs with h | h
          · exact HA.out s h
          · rw [List.mem_singleton] at h; rw [h]; exact HE.out⟩
        case measure => simp [intOf]; omega
    · obtain rfl : j = q := by omega
      have dn : decide (j < j) = false := by rw [decide_eq_false_iff_not]; exact hlt
      clear hlt hj
      go_wp2_with fail
      go_ret
      exact ⟨hxr, .inl ⟨rfl, fun s hs => HA.out s (by rw [← HL.out, List.take_length]; exact hs)⟩⟩
end Go.Proofs.YtgcaphjjigpjlaaGreatDoor
namespace Go.Proofs.YtgcaphjjigpjlaaGreatDoor
open Go.RowKit
set_option maxRecDepth 100000
set_option maxHeartbeats 1000000
theorem spCells_split (xs : List Sp) (i : Nat) (s : Sp) (hi : i < xs.length) :
    (spCells xs).take (i * 3) ++ [.int .i64 s.1, .int .i64 s.2.1, .string s.2.2] ++ (spCells xs).drop (i * 3 + 3) = spCells (xs.set i s) := by
  have h1 : xs = xs.take i ++ xs[i] :: xs.drop (i + 1) := by rw [← List.drop_eq_getElem_cons hi, List.take_append_drop]
  have hl : (spCells (xs.take i)).length = i * 3 := by rw [spCells_length, List.length_take, Nat.min_eq_left (by omega)]
  have h2 : xs.set i s = xs.take i ++ s :: xs.drop (i + 1) := List.set_eq_take_append_cons_drop.trans (by rw [if_pos hi])
  have h3 : spCells xs = spCells (xs.take i) ++ ([.int .i64 xs[i].1, .int .i64 xs[i].2.1, .string xs[i].2.2] ++ spCells (xs.drop (i + 1))) := by
    conv => lhs; rw [h1]
    rw [spCells_append]; rfl
  rw [h2, spCells_append, h3, List.take_append_of_le_length (by omega), List.take_of_length_le (by omega), List.append_assoc]
  congr 1
  rw [List.drop_append, List.drop_of_length_le (by omega), List.nil_append, hl, show i * 3 + 3 - i * 3 = 3 by omega]
  rfl
theorem drop_at {xs l : List Sp} {j : Nat} (h : xs.drop j = l.drop j) (h1 : j < xs.length) (h2 : j < l.length) : xs[j] = l[j] ∧ xs.drop (j + 1) = l.drop (j + 1) := by
  rw [List.drop_eq_getElem_cons h1, List.drop_eq_getElem_cons h2] at h
  injection h with a b
  exact ⟨a, b⟩
theorem deleteEmpty_c (g c q B : Nat) (l : List Sp) (w : World) (h : Own w B 60 3 (.slice (some ⟨g, 0, none⟩) q c) q (spCells l)) (hl : l.length = q) (hq : q ≤ 100000) (hB : B ≤ g) :
    Calls Tryz.prog 52 #[.slice (some ⟨g, 0, none⟩) q c, .func (.func 53) #[] #[]] w fun e w' =>
      ∃ v, e = .returned v ∧ Own w' B 60 3 v (full l).length (spCells (full l)) ∧ Below B w w' := by
  obtain ⟨i0, hi, hz0, hz1, hz2⟩ := info_parts info_sp5
  have H := Lib.hid h; have HL := Lib.hid hl
  have hqc : q ≤ c := by obtain ⟨a, c', hv, hc⟩ := h.len; injection hv with _ _ e; omega
  have HIX := Lib.hid (indexEmpty_c (some ⟨g, 0, none⟩) q c l w h.rd hl hq)
  have hBw := h.2
  have HZV : Hid (∀ w : World, (zeroValue 60).run Tryz.prog w = .ok (.agg #[.int .i64 0, .int .i64 0, .string ⟨#[]⟩]) w) := Lib.hid fun w => by kernel_rfl
  clear h hl hi hz0 hz1 hz2
  go_enter Tryz.func52, Tryz.ntmps52
  go_wp2_with fail
  refine HIX.out.mono ?_
  rintro e w1 ⟨hx1, ⟨rfl, hno⟩ | ⟨i, rfl, hil, hemp, hno⟩⟩
  · have HNO := Lib.hid hno
    clear hno
    go_wp2_with fail
    go_ret
    refine ⟨_, rfl, ?_, Below.mono hx1 hBw⟩
    rw [full_self l HNO.out, HL.out]
    exact H.out.ext hx1
  · have hin : ((i : Int) == -1) = false := by rw [beq_eq_false_iff_ne]; omega
    have hiq : i < q := by have := HL.out; omega
    have HI : Hid (l.take i = full (l.take (i + 1))) := Lib.hid (by rw [full_take_emp l i hil hemp, full_self _ hno])
    have HB1 := Lib.hid (Below.mono hx1 hBw)
    have HO1 := Lib.hid (H.out.ext hx1)
    have hi1 : (0 : Int) ≤ (i : Int) := by omega
    clear hemp hno hx1
    go_wp2_with fail
    go_loopw [5, 6] (fun zi zj wr => ∃ (i j : Nat) (xs : List Sp), i < j ∧ j ≤ q ∧ zi = .int .i64 i ∧ zj = .int .i64 j ∧ xs.length = q ∧ xs.take i = full (l.take j) ∧ xs.drop j = l.drop j ∧
      Own wr B 60 3 (.slice (some ⟨g, 0, none⟩) q c) q (spCells xs) ∧ Below B w wr) (fun _ zj _ => q - (intOf zj).toNat)
    case atStart => exact ⟨i, i + 1, l, by omega, by omega, rfl, by go_num, HL.out, HI.out, rfl, HO1.out, HB1.out⟩
    case round =>
      obtain ⟨i, j, xs, hij, hj, rfl, rfl, hxl, hxt, hxd, hown, hbel⟩ := hrel
      have HXL := Lib.hid hxl; have HXT := Lib.hid hxt; have HXD := Lib.hid hxd; have HOW := Lib.hid hown; have HBE := Lib.hid hbel
      clear hxl hxt hxd hown hbel HI HB1 HO1
      have hqc' := hqc
      by_cases hlt : j < q
      · have hjl : j < xs.length := by have := HXL.out; omega
        have hjl2 : j < l.length := by have := HL.out; omega
        obtain ⟨hxj, hxd⟩ := drop_at HXD.out hjl hjl2
        obtain ⟨b, off, hA, hb, q0, q1, q2⟩ := sp_at HOW.out.rd HXL.out hlt
        injection hA with hA
        injection hA with e1 e2
        subst e1; subst e2
        obtain ⟨b', off', hA, _, s0, s1, s2⟩ := sp_at HOW.out.rd HXL.out (show i < q by omega)
        injection hA with hA
        injection hA with e1 e2
        subst e1; subst e2
        have dn : decide (j < q) = true := by rw [decide_eq_true_eq]; exact hlt
        have i0 : (0 : Int) ≤ (j : Int) := by omega
        have i1 : (j : Int) < (q : Int) := by omega
        have i2 : (0 : Int) ≤ (i : Int) := by omega
        have i3 : (i : Int) < (q : Int) := by omega
        obtain ⟨s, hs⟩ : ∃ s, l[j] = s := ⟨_, rfl⟩
        obtain ⟨a1, a2, a3⟩ := s
        rw [hxj, hs] at q0 q1 q2
        simp only [Nat.zero_add] at q0 q1 q2 s0 s1 s2
        obtain ⟨v0, hv0⟩ : ∃ v, v = Value.int .i64 xs[i].1 := ⟨_, rfl⟩
        obtain ⟨v1, hv1⟩ : ∃ v, v = Value.int .i64 xs[i].2.1 := ⟨_, rfl⟩
        obtain ⟨v2, hv2⟩ : ∃ v, v = Value.string xs[i].2.2 := ⟨_, rfl⟩
        rw [← hv0] at s0; rw [← hv1] at s1; rw [← hv2] at s2
        have HS := Lib.hid hs; have HXD2 := Lib.hid hxd
        have HIN := Lib.hid (fun (w' : World) => empty5_c a1 a2 a3 w')
        unfold spanV at HIN
        have HX : Hid (∀ o, Ext wr (wr.alloc o)) := Lib.hid fun o => (Ext.refl wr).alloc o
        clear hs hxj hxd hv0 hv1 hv2
        by_cases hemp : emp (a1, a2, a3)
        · rw [decide_eq_true hemp] at HIN
          have HT : Hid (full (l.take (j + 1)) = full (l.take j)) := Lib.hid (full_take_emp l j hjl2 (by rw [HS.out]; exact hemp))
          clear hemp
          go_wp2_with fail
          refine (HIN.out _).mono ?_; rintro e w2 ⟨rfl, hx2⟩
          have HX2 := Lib.hid ((HX.out _).trans hx2)
          go_wp2_with fail
          go_roundw
          case rel => exact ⟨i, j + 1, xs, by omega, by omega, rfl, by go_num, HXL.out, by rw [HT.out]; exact HXT.out, HXD2.out, HOW.out.ext HX2.out, HBE.out.trans (Below.mono HX2.out HOW.out.2)⟩
          case measure => simp [intOf]; omega
        · rw [decide_eq_false hemp] at HIN
          have HT : Hid (full (l.take (j + 1)) = full (l.take j) ++ [(a1, a2, a3)]) := Lib.hid (by have h := full_take l j hjl2 (by rw [HS.out]; exact hemp); rw [HS.out] at h; exact h)
          clear hemp
          go_wp2_with fail
          refine (HIN.out _).mono ?_; rintro e w2 ⟨rfl, hx2⟩
          have HX2 := Lib.hid ((HX.out _).trans hx2)
          have z0 := box_at _ _ _ _ hx2 0 _ rfl
          have z1 := box_at _ _ _ _ hx2 1 _ rfl
          have z2 := box_at _ _ _ _ hx2 2 _ rfl
          have t0 := ext_cell HX2.out s0
          have t1 := ext_cell HX2.out s1
          have t2 := ext_cell HX2.out s2
          have HO2 := Lib.hid (HOW.out.ext HX2.out)
          have f0 := HO2.out.free (i * 3)
          have f1 := HO2.out.free (i * 3 + 1)
          have f2 := HO2.out.free (i * 3 + 2)
          obtain ⟨G, hG⟩ : ∃ G, wr.heap.size = G := ⟨_, rfl⟩
          rw [hG] at z0 z1 z2 ⊢
          have HB2 := Lib.hid (HBE.out.trans (Below.mono HX2.out HOW.out.2))
          clear q0 q1 q2 s0 s1 s2 hG hx2
          go_wp2_with fail
          have HO3 := Lib.hid (HO2.out.setCells [.int .i64 a1, .int .i64 a2, .string a3] (i * 3) _ _ (by show i * 3 + 3 ≤ q * 3; omega))
          have HB3 := Lib.hid (below_setCells5 g hB [.int .i64 a1, .int .i64 a2, .string a3] (i * 3) _ HB2.out)
          have HSP : Hid ((spCells xs).take (i * 3) ++ [Value.int .i64 a1, .int .i64 a2, .string a3] ++ (spCells xs).drop (i * 3 + [Value.int .i64 a1, .int .i64 a2, .string a3].length) = spCells (xs.set i (a1, a2, a3))) := Lib.hid (spCells_split xs i (a1, a2, a3) (by have := HXL.out; omega))
          have HXI : Hid ((xs.set i (a1, a2, a3)).take (i + 1) = full (l.take (j + 1)) ∧ (xs.set i (a1, a2, a3)).drop (j + 1) = l.drop (j + 1)) := Lib.hid (by
            refine ⟨?_, ?_⟩
            · rw [List.take_add_one, List.take_set_of_le (Nat.le_refl _), List.getElem?_set_self (by have := HXL.out; omega), HXT.out, HT.out]; rfl
            · rw [List.drop_set_of_lt (by omega)]; exact HXD2.out)
          clear z0 z1 z2 t0 t1 t2 f0 f1 f2
          go_roundw
          case rel => exact ⟨i + 1, j + 1, xs.set i (a1, a2, a3), by omega, by omega, by go_num, by go_num, by rw [List.length_set]; exact HXL.out, HXI.out.1, HXI.out.2, by have h := HO3.out; rw [HSP.out] at h; exact h, HB3.out⟩
          case measure => simp [intOf]; omega
      · obtain rfl : j = q := by omega
        have dn : decide (j < j) = false := by rw [decide_eq_false_iff_not]; exact hlt
        have hall : l.take j = l := by rw [← HL.out]; exact List.take_length
        have HXT2 : Hid (xs.take i = full l) := Lib.hid (by rw [HXT.out, hall])
        have i2 : (0 : Int) ≤ (i : Int) := by omega
        have i3 : (i : Int) ≤ (j : Int) := by omega
        have i4 : (i : Int) ≤ (c : Int) := by omega
        have i5 : ¬ c = i := by omega
        have HTH := Lib.hid (HOW.out.there (i * 3) ((j - i) * 3) (by omega))
        have HCL : Hid (∃ vs : List Value, vs.length = (j - i) * 3 ∧ (Builtin.clear_ #[23] 0 #[Value.slice (some ⟨g, i * 3, none⟩) (j - i) (c - i)]).run Tryz.prog wr = .ok (.tuple #[]) (wr.setCells g (i * 3) vs)) :=
          Lib.hid (run_clear_k wr 23 60 0 (.agg #[.int .i64 0, .int .i64 0, .string ⟨#[]⟩]) 3 Tryz.underlying23 HZV.out rfl (by decide +kernel) (by omega) g (i * 3) (j - i) (c - i) HTH.out)
        obtain ⟨vs, hvs, hclr⟩ := HCL.out
        have HO3 := Lib.hid (HOW.out.setCells vs (i * 3) _ _ (by rw [hvs, ← Nat.add_mul]; exact Nat.mul_le_mul_right _ (by omega)))
        have HB3 := Lib.hid (below_setCells5 g hB vs (i * 3) _ HBE.out)
        have HCR := Lib.hid hclr
        clear hlt hj hall hqc' hvs hclr
        go_wp2_with fail
        rw [HCR.out]
        simp only [Result.andThen]
        rw [Oper.upon_value]
        go_wp2_with fail
        go_ret
        refine ⟨_, rfl, ?_, HB3.out⟩
        have hfl : (full l).length = i := by rw [← HXT2.out, List.length_take, HXL.out]; omega
        have h := HO3.out.front (m := i) (by omega)
        have hsl : (spCells xs).length = j * 3 := by rw [spCells_length, HXL.out]
        rw [List.append_assoc, List.take_append_of_le_length (by rw [List.length_take, hsl]; omega), List.take_of_length_le (by rw [List.length_take]; omega)] at h
        rw [hfl, ← HXT2.out]
        have e : (spCells xs).take (i * 3) = spCells (xs.take i) := by
          conv => lhs; rw [← List.take_append_drop i xs, spCells_append]
          have : (spCells (xs.take i)).length = i * 3 := by rw [spCells_length, List.length_take, HXL.out]; omega
          rw [List.take_append_of_le_length (by omega), List.take_of_length_le (by omega)]
        rw [e] at h
        exact h
end Go.Proofs.YtgcaphjjigpjlaaGreatDoor
namespace Go.Proofs.YtgcaphjjigpjlaaGreatDoor
open Go.RowKit
set_option maxRecDepth 100000
set_option maxHeartbeats 1000000
theorem strCells_bs (s : ByteArray) : Lib.strCells s = Lib.byteCells (bs s) := rfl
theorem bcells_append (a b : List UInt8) : Lib.byteCells (a ++ b) = Lib.byteCells a ++ Lib.byteCells b := by simp [Lib.byteCells]
theorem heap_three (w : World) (a b c : Array Value) (ta tb tc : TypeId) :
    (((w.alloc (.cells a ta)).alloc (.cells b tb)).alloc (.cells c tc)).heap[w.heap.size]? = some (.cells a ta (0, 0)) ∧ (((w.alloc (.cells a ta)).alloc (.cells b tb)).alloc (.cells c tc)).heap[w.heap.size + 1]? = some (.cells b tb (0, 0)) := by
  refine ⟨?_, ?_⟩
  · simp only [World.alloc, Array.getElem?_push, Array.size_push]
    rw [if_neg (by omega), if_neg (by omega), if_pos trivial]
  · simp only [World.alloc, Array.getElem?_push, Array.size_push]
    rw [if_neg (by omega), if_pos trivial]
theorem one5_c (A : Option Addr) (q c : Nat) (l : List Sp) (k : Int) (w : World) (h : Rd w 3 (.slice A q c) q (spCells l)) (hl : l.length = q) (hq : q ≤ 100000) (h0 : 0 < q) (hk : ∀ s ∈ l, s.1 = k) (ho : Ok l) :
    Calls Tryz.prog 55 #[.slice A q c] w fun e w' => e = .returned (spanV k (sumN l) (catT l)) ∧ Ext w w' := by
  have H := Lib.hid h; have HL := Lib.hid hl; have HK := Lib.hid hk; have HO := Lib.hid ho
  obtain ⟨b, off, rfl, hb, r0, r7, r8⟩ := sp_at h HL.out h0
  have hk0 : (l[0]'(by have := HL.out; omega)).1 = k := hk _ (List.getElem_mem _)
  rw [hk0] at r0
  simp only [Nat.zero_mul, Nat.add_zero] at r0
  have i0 : (0 : Int) < (q : Int) := by omega
  have HX : Hid (∀ o, Ext w (w.alloc o)) := Lib.hid fun o => (Ext.refl w).alloc o
  have r1 := ext_cell (HX.out (.cells #[.int .i64 0, .int .i64 0, .string ⟨#[]⟩] 60)) r0
  unfold spanV
  clear r7 r8 h hl hk ho hk0
  go_enter Tryz.func55, Tryz.ntmps55
  go_wp2_with fail
  have hw0 := heap_three w #[.int .i64 0, .int .i64 0, .string ⟨#[]⟩] #[.int .i64 k, .int .i64 0, .string ⟨#[]⟩] #[.pointer none, .slice none 0 0] 60 60 105
  have HW0 := Lib.hid hw0
  have hbd := Lib.fresh_isBuilder 105 5 ((w.alloc (.cells #[.int .i64 0, .int .i64 0, .string ⟨#[]⟩] 60)).alloc (.cells #[.int .i64 k, .int .i64 0, .string ⟨#[]⟩] 60))
  rw [size_alloc, size_alloc] at hbd
  have HBD := Lib.hid hbd
  have HSI : Hid (w.heap.size + 3 ≤ (((w.alloc (.cells #[.int .i64 0, .int .i64 0, .string ⟨#[]⟩] 60)).alloc (.cells #[.int .i64 k, .int .i64 0, .string ⟨#[]⟩] 60)).alloc (.cells #[.pointer none, .slice none 0 0] 105)).heap.size) := Lib.hid (by rw [size_alloc, size_alloc, size_alloc]; omega)
  have HE0 : Hid (Ext w (((w.alloc (.cells #[.int .i64 0, .int .i64 0, .string ⟨#[]⟩] 60)).alloc (.cells #[.int .i64 k, .int .i64 0, .string ⟨#[]⟩] 60)).alloc (.cells #[.pointer none, .slice none 0 0] 105))) := Lib.hid ((((Ext.refl w).alloc _).alloc _).alloc _)
  clear hw0 hbd
  go_loopw [14] (fun z wr => ∃ j : Nat, j ≤ q ∧ z = .int .i64 j ∧ Lib.IsBuilder 105 5 (w.heap.size + 1 + 1) (w.heap.size + 1 + 1) (Lib.byteCells (bs (catT (l.take j)))) wr ∧
    wr.heap[w.heap.size + 1]? = some (.cells #[.int .i64 k, .int .i64 (sumN (l.take j)), .string ⟨#[]⟩] 60 (0, 0)) ∧ wr.heap[w.heap.size]? = some (.cells #[.int .i64 0, .int .i64 0, .string ⟨#[]⟩] 60 (0, 0)) ∧
    Ext w wr ∧ w.heap.size + 3 ≤ wr.heap.size) (fun z _ => q - (intOf z).toNat)
  case atStart => exact ⟨0, by omega, rfl, HBD.out, HW0.out.2, HW0.out.1, HE0.out, HSI.out⟩
  case round =>
    obtain ⟨j, hj, rfl, hbd, hh1, hh0, hxr, hsz⟩ := hrel
    have HBD := Lib.hid hbd; have HH1 := Lib.hid hh1; have HH0 := Lib.hid hh0
    clear hbd hh1 hh0 HW0 HE0 HSI r0 r1
    by_cases hlt : j < q
    · have hjl : j < l.length := by have := HL.out; omega
      obtain ⟨b', off', hA, hb', q0, q1, q2⟩ := sp_at (H.out.ext hxr) HL.out hlt
      injection hA with hA
      injection hA with e1 e2
      subst e1; subst e2
      have dn : decide (j < q) = true := by rw [decide_eq_true_eq]; exact hlt
      have j0 : (0 : Int) ≤ (j : Int) := by omega
      have j1 : (j : Int) < (q : Int) := by omega
      have hokt := (HO.out.take (j + 1))
      have hp := sumN_pos _ (HO.out.take j).pos
      have hpj := HO.out.pos l[j] (List.getElem_mem hjl)
      have hsn := sumN_take l j hjl
      have hct := catT_take l j hjl
      have hb1 := hokt.n
      have hb2 := hokt.t
      rw [← catT_size, hct, ba_size] at hb2
      rw [hsn] at hb1
      have HSN := Lib.hid hsn; have HCT := Lib.hid hct
      obtain ⟨a1, ha1⟩ : ∃ a1, l[j].1 = a1 := ⟨_, rfl⟩
      obtain ⟨a2, ha2⟩ : ∃ a2, l[j].2.1 = a2 := ⟨_, rfl⟩
      obtain ⟨a3, ha3⟩ : ∃ a3, l[j].2.2 = a3 := ⟨_, rfl⟩
      rw [ha1] at q0; rw [ha2] at q1 hpj hb1 HSN; rw [ha3] at q2 hb2 HCT
      generalize sumN (l.take j) = S at *
      generalize catT (l.take j) = C at *
      have hG1 : w.heap.size + 1 < wr.heap.size := by omega
      have hcs : (wr.setCell ⟨w.heap.size + 1, 1, none⟩ (.int .i64 (S + a2))).heap.size = wr.heap.size := by simp
      have y1 := Lib.cell_of_heap HH1.out 1
      have f1 := Lib.frozen_of_heap HH1.out 1
      have hs0 : (-9223372036854775808 : Int) ≤ S + a2 := by omega
      have hs1 : S + a2 ≤ (9223372036854775807 : Int) := by omega
      simp at y1
      have hN1 := heap_setCell_same _ _ 1 _ _ (Value.int .i64 (S + a2)) HH1.out
      have hN0 : (wr.setCell ⟨w.heap.size + 1, 1, none⟩ (.int .i64 (S + a2))).heap[w.heap.size]? = some (.cells #[.int .i64 0, .int .i64 0, .string ⟨#[]⟩] 60 (0, 0)) := by rw [heap_setCell_other _ _ _ _ (by simp)]; exact HH0.out
      have hX := (Ext.refl (wr.setCell ⟨w.heap.size + 1, 1, none⟩ (.int .i64 (S + a2)))).alloc (.cells #[.int .i64 a1, .int .i64 a2, .string a3] 60)
      have z1 := box_at wr _ #[.int .i64 a1, .int .i64 a2, .string a3] 60 (Ext.refl _) 1 _ rfl
      have z2 := box_at (wr.setCell ⟨w.heap.size + 1, 1, none⟩ (.int .i64 (S + a2))) _ #[.int .i64 a1, .int .i64 a2, .string a3] 60 (Ext.refl _) 2 _ rfl
      rw [hcs] at z2
      have HHN : Hid (((wr.setCell ⟨w.heap.size + 1, 1, none⟩ (.int .i64 (S + a2))).alloc (.cells #[.int .i64 a1, .int .i64 a2, .string a3] 60)).heap[w.heap.size + 1]? = some (.cells #[.int .i64 k, .int .i64 (S + a2), .string ⟨#[]⟩] 60 (0, 0))) := Lib.hid (by rw [hX.block _ (by rw [hcs]; omega)]; exact hN1)
      have HH0N : Hid (((wr.setCell ⟨w.heap.size + 1, 1, none⟩ (.int .i64 (S + a2))).alloc (.cells #[.int .i64 a1, .int .i64 a2, .string a3] 60)).heap[w.heap.size]? = some (.cells #[.int .i64 0, .int .i64 0, .string ⟨#[]⟩] 60 (0, 0))) := Lib.hid (by rw [hX.block _ (by rw [hcs]; omega)]; exact hN0)
      have HBW : Hid (Lib.IsBuilder 105 5 (w.heap.size + 1 + 1) (w.heap.size + 1 + 1) (Lib.byteCells (bs C)) ((wr.setCell ⟨w.heap.size + 1, 1, none⟩ (.int .i64 (S + a2))).alloc (.cells #[.int .i64 a1, .int .i64 a2, .string a3] 60))) :=
        Lib.hid (bld_kept HBD.out (fun g hg hl => by rw [hX.block _ (by rw [hcs]; exact hl), heap_setCell_other _ _ _ _ (by simp; omega)]))
      have HXW : Hid (Ext w ((wr.setCell ⟨w.heap.size + 1, 1, none⟩ (.int .i64 (S + a2))).alloc (.cells #[.int .i64 a1, .int .i64 a2, .string a3] 60))) := Lib.hid ((Below.setCell hxr (p := ⟨w.heap.size + 1, 1, none⟩) (by simp) _).trans (Below.mono hX (by rw [hcs]; omega)))
      have HSZ : Hid (w.heap.size + 3 ≤ ((wr.setCell ⟨w.heap.size + 1, 1, none⟩ (.int .i64 (S + a2))).alloc (.cells #[.int .i64 a1, .int .i64 a2, .string a3] 60)).heap.size) := Lib.hid (by rw [size_alloc, hcs]; omega)
      have HW := Lib.hid (fun W hW hs => wstr_c (w.heap.size + 1 + 1) (w.heap.size + 1 + 1) (Lib.byteCells (bs C)) a3 W hW (by rw [Lib.byteCells_length, bs_length]; omega) hs)
      clear ha1 ha2 ha3 hokt hsn hct hb2 hN1 hN0 hX hcs hpj hp hb1
      go_wp2_with fail
      refine (HW.out _ HBW.out (by have := HSZ.out; omega)).mono ?_; rintro e w2 ⟨⟨v, rfl⟩, hb2, hbel2⟩
      have h1 := (hbel2.block (w.heap.size + 1) (by omega)).trans HHN.out
      have h2 := (hbel2.block w.heap.size (by omega)).trans HH0N.out
      have HHH := Lib.hid (And.intro h1 h2)
      have HBB := Lib.hid hb2
      have HXX : Hid (Ext w w2) := Lib.hid (Below.trans HXW.out (Below.mono hbel2 (by omega)))
      have HSS : Hid (w.heap.size + 3 ≤ w2.heap.size) := Lib.hid (Nat.le_trans HSZ.out hbel2.size)
      clear h1 h2 hb2 hbel2
      go_wp2_with fail
      go_roundw
      case rel => exact ⟨j + 1, by omega, by go_num, by rw [HCT.out, bs_append, bcells_append]; exact HBB.out, by rw [HSN.out]; exact HHH.out.1, HHH.out.2, HXX.out, HSS.out⟩
      case measure => simp [intOf]; omega
    · obtain rfl : j = q := by omega
      have dn : decide (j < j) = false := by rw [decide_eq_false_iff_not]; exact hlt
      have hall : l.take j = l := by rw [← HL.out]; exact List.take_length
      rw [hall] at HBD HH1
      have HST : Hid (Calls Tryz.prog 81 #[.pointer (some ⟨w.heap.size + 1 + 1, 0, none⟩)] wr fun e w' => e = .returned (.string (catT l)) ∧ Below (w.heap.size + 1 + 1) wr w') :=
        Lib.hid (by
          have h := Tryz.Builder_String_any (w.heap.size + 1 + 1) (w.heap.size + 1 + 1) (bs (catT l)) wr HBD.out (by omega)
          have e : (⟨(bs (catT l)).toArray⟩ : ByteArray) = catT l := mkS_bs _
          rw [e] at h; exact h)
      obtain ⟨S, hS⟩ : ∃ S, sumN l = S := ⟨_, rfl⟩
      obtain ⟨C, hC⟩ : ∃ C, catT l = C := ⟨_, rfl⟩
      rw [hS] at HH1
      rw [hC] at HST
      have HSE := Lib.hid hS; have HCE := Lib.hid hC
      clear hS hC
      clear hlt hall hj
      go_wp2_with fail
      refine HST.out.mono ?_; rintro e w2 ⟨rfl, hbel2⟩
      have h1 := (hbel2.block (w.heap.size + 1) (by omega)).trans HH1.out
      have h2 := (hbel2.block w.heap.size (by omega)).trans HH0.out
      have HXX : Hid (Ext w w2) := Lib.hid (Below.trans hxr (Below.mono hbel2 (by omega)))
      have HH2 := Lib.hid h2
      have y2 : w2.cell? ⟨w.heap.size + 1, 2, none⟩ = some (.string ⟨#[]⟩) := by rw [Lib.cell_of_heap h1]; rfl
      have f2 := Lib.frozen_of_heap h1 2
      have hN1 := heap_setCell_same _ _ 2 _ _ (Value.string C) h1
      have hN0 : (w2.setCell ⟨w.heap.size + 1, 2, none⟩ (.string C)).heap[w.heap.size]? = some (.cells #[.int .i64 0, .int .i64 0, .string ⟨#[]⟩] 60 (0, 0)) := by rw [heap_setCell_other _ _ _ _ (by simp)]; exact h2
      have HXN : Hid (Ext w (w2.setCell ⟨w.heap.size + 1, 2, none⟩ (.string C))) := Lib.hid (Below.setCell HXX.out (p := ⟨w.heap.size + 1, 2, none⟩) (by simp) _)
      have y0 : w2.cell? ⟨w.heap.size + 1, 0, none⟩ = some (.int .i64 k) := by rw [Lib.cell_of_heap h1]; rfl
      have y1 : w2.cell? ⟨w.heap.size + 1, 1, none⟩ = some (.int .i64 S) := by rw [Lib.cell_of_heap h1]; rfl
      have x0 : w2.cell? ⟨w.heap.size, 0, none⟩ = some (.int .i64 0) := by rw [Lib.cell_of_heap h2]; rfl
      have x1 : w2.cell? ⟨w.heap.size, 1, none⟩ = some (.int .i64 0) := by rw [Lib.cell_of_heap h2]; rfl
      have x2 : w2.cell? ⟨w.heap.size, 2, none⟩ = some (.string ⟨#[]⟩) := by rw [Lib.cell_of_heap h2]; rfl
      have g0 := Lib.frozen_of_heap h2 0
      have g1 := Lib.frozen_of_heap h2 1
      have g2 := Lib.frozen_of_heap h2 2
      have HN0 := Lib.hid hN0
      clear hbel2 h1 h2 hN0 hN1
      go_wp2_with fail
      refine bodyPost_ret (results_cell_row rfl _ _ w.heap.size _ _ (0, 0) _ rfl (heap_setCell_same _ _ 2 _ _ (Value.string C) (heap_setCell_same _ _ 1 _ _ (Value.int .i64 S) (heap_setCell_same _ _ 0 _ _ (Value.int .i64 k) HN0.out))) Tryz.underlying60 rfl (by kernel_rfl)) rfl ?_
      rw [HSE.out, HCE.out]
      exact ⟨rfl, Below.setCell (Below.setCell (Below.setCell HXN.out (p := ⟨w.heap.size, 0, none⟩) (Nat.le_refl _) _) (p := ⟨w.heap.size, 1, none⟩) (Nat.le_refl _) _) (p := ⟨w.heap.size, 2, none⟩) (Nat.le_refl _) _⟩
end Go.Proofs.YtgcaphjjigpjlaaGreatDoor
namespace Go.Proofs.YtgcaphjjigpjlaaGreatDoor
open Go.RowKit
set_option maxRecDepth 100000
set_option maxHeartbeats 1000000
theorem sp_take (l : List Sp) (k : Nat) (h : k ≤ l.length) : (spCells l).take (k * 3) = spCells (l.take k) := by
  conv => lhs; rw [← List.take_append_drop k l, spCells_append]
  have : (spCells (l.take k)).length = k * 3 := by rw [spCells_length, List.length_take]; omega
  rw [List.take_append_of_le_length (by omega), List.take_of_length_le (by omega)]
theorem sp_drop (l : List Sp) (k : Nat) (h : k ≤ l.length) : (spCells l).drop (k * 3) = spCells (l.drop k) := by
  conv => lhs; rw [← List.take_append_drop k l, spCells_append]
  have : (spCells (l.take k)).length = k * 3 := by rw [spCells_length, List.length_take]; omega
  rw [List.drop_append_of_le_length (by omega), List.drop_of_length_le (by omega), List.nil_append]
theorem rd_behind {w : World} {b off n c : Nat} {l : List Sp} (h : Rd w 3 (.slice (some ⟨b, off, none⟩) n c) n (spCells l)) (hl : l.length = n) {k : Nat} (hk : k ≤ n) (hc : n ≤ c) :
    Rd w 3 (.slice (if c = k then some ⟨b, off, none⟩ else some ⟨b, off + k * 3, none⟩) (n - k) (c - k)) (n - k) (spCells (l.drop k)) := by
  split
  · rename_i e
    have e0 : n - k = 0 := by omega
    have e1 : l.drop k = [] := List.drop_of_length_le (by omega)
    rw [e0, e1]
    exact ⟨by simp [spCells], _, _, rfl, by omega, fun h => absurd h (Nat.lt_irrefl 0)⟩
  · have h := h.drop hk
    rw [sp_drop l k (by omega)] at h
    exact h
def slen : Value → Nat
  | .slice _ n _ => n
  | _ => 0
theorem of5_c (A : Option Addr) (q c : Nat) (l : List Sp) (w : World) (h : Rd w 3 (.slice A q c) q (spCells l)) (hl : l.length = q) (hq : q ≤ 100000) (ho : Ok l) :
    Calls Tryz.prog 31 #[.slice A q c] w fun e w' => ∃ v, e = .returned v ∧ Ext w w' ∧ Own w' w.heap.size 60 3 v (normL l).length (spCells (normL l)) := by
  obtain ⟨i, hi, hz0, hz1, hz2⟩ := info_parts info_sp5
  have HL := Lib.hid hl
  have hnf := norm_full l
  have hfl := full_len l
  have hof := ho.full
  have hfe : ∀ s ∈ full l, ¬ emp s := fun s hs => (full_mem hs).2
  have hmk : ∀ w' : World, (Instr.makeSlice 23 (.int .i64 (q : Int)) (.int .i64 (q : Int))).run Tryz.prog w' = .ok (.slice (some ⟨w'.heap.size, 0, none⟩) q q) (w'.alloc (.cells (madeCells (Value.agg #[.int .i64 0, .int .i64 0, .string ⟨#[]⟩]).cells (q * i.size)) 60)) :=
    fun w' => by
      have h := run_make w' 23 60 i (.agg #[.int .i64 0, .int .i64 0, .string ⟨#[]⟩]) Tryz.underlying23 hi hz0 .i64 .i64 (q : Int) (q : Int) (by omega) (by omega) (by rw [hz2]; omega) (by omega)
      rw [Int.toNat_natCast] at h
      exact h
  rw [hz1] at hmk
  have hms : (madeCells (Value.agg #[.int .i64 0, .int .i64 0, .string ⟨#[]⟩]).cells (q * 3)).size = q * 3 := size_madeCells _ _
  generalize madeCells (Value.agg #[.int .i64 0, .int .i64 0, .string ⟨#[]⟩]).cells (q * 3) = mcs at hmk hms
  have hlc : (spCells l).length = q * 3 := by rw [spCells_length, hl]
  have hm0 : Own (w.alloc (.cells mcs 60)) w.heap.size 60 3 (.slice (some ⟨w.heap.size, 0, none⟩) q q) q mcs.toList := Own.made w w.heap.size 60 3 q mcs (Nat.le_refl _) (by omega) hms
  have hcp : (Builtin.copy_ #[23, 23] 3 #[.slice (some ⟨w.heap.size, 0, none⟩) q q, .slice A q c]).run Tryz.prog (w.alloc (.cells mcs 60)) = .ok (goInt (q : Int)) ((w.alloc (.cells mcs 60)).setCells w.heap.size 0 (spCells l)) :=
    run_copy_k _ 23 23 3 60 3 w.heap.size q q A q c (spCells l) Tryz.underlying23 (by kernel_rfl) rfl (h.ext ((Ext.refl w).alloc _)) (hm0.there 0 _ (by omega)) (spCells_one l)
  have hm1 := hm0.setCells (spCells l) 0 _ _ (by omega)
  rw [List.take_zero, List.nil_append, List.drop_of_length_le (by rw [hm0.1.1]; omega), List.append_nil] at hm1
  have hb1 : Below w.heap.size w ((w.alloc (.cells mcs 60)).setCells w.heap.size 0 (spCells l)) := below_setCells5 w.heap.size (Nat.le_refl _) (spCells l) 0 _ ((Below.refl _ _).alloc (Nat.le_refl _) _)
  generalize (w.alloc (.cells mcs 60)).setCells w.heap.size 0 (spCells l) = w1 at hcp hm1 hb1
  have HDE := Lib.hid (deleteEmpty_c w.heap.size q q w.heap.size l w1 hm1 hl hq (Nat.le_refl _))
  have HMK := Lib.hid hmk; have HCP := Lib.hid hcp; have HB1 := Lib.hid hb1; have HNF := Lib.hid hnf
  have HOF := Lib.hid hof; have HFE := Lib.hid hfe
  have hfq : (full l).length ≤ q := by omega
  clear h hl hm0 hlc hms hm1 hb1 hcp hmk hnf hfl hof hfe ho
  generalize full l = f at *
  obtain ⟨m, hm⟩ : ∃ m, f.length = m := ⟨_, rfl⟩
  rw [hm] at HDE hfq
  have HM := Lib.hid hm
  clear hm
  go_enter Tryz.func31, Tryz.ntmps31
  go_wp2_with fail
  rw [HMK.out]
  simp only [Result.andThen]
  rw [Oper.upon_value]
  go_wp2_with fail
  rw [HCP.out]
  simp only [Result.andThen]
  rw [Oper.upon_value]
  go_wp2_with fail
  refine HDE.out.mono ?_; rintro e w2 ⟨v, rfl, hown, hbel⟩
  have hrd := hown.rd
  obtain ⟨A2, c2, rfl, hc2⟩ := hown.len
  have HRD := Lib.hid hrd
  have HX2 : Hid (Ext w w2) := Lib.hid (Below.trans HB1.out hbel)
  clear hown hbel hrd HDE HB1 HCP HMK
  go_wp2_with fail
  go_loopw [3, 4] (fun r o wr => ∃ (kk n : Nat) (A' : Option Addr) (c' : Nat) (S : List Sp), kk + n = m ∧ r = .slice A' n c' ∧ Rd w2 3 (.slice A' n c') n (spCells (f.drop kk)) ∧
    Own wr w2.heap.size 60 3 o S.length (spCells S) ∧ S ++ normL (f.drop kk) = normL f ∧ Ext w2 wr) (fun r _ _ => slen r)
  case atStart => exact ⟨0, m, A2, c2, [], by omega, rfl, HRD.out, Own.nil _ _ _ _ (Nat.le_refl _), rfl, Ext.refl _⟩
  case round =>
    obtain ⟨kk, n, A', c', S, hkn, rfl, hrd, hown, hnm, hxr⟩ := hrel
    have hnc : n ≤ c' := by obtain ⟨_, _, hv, hc⟩ := hrd.len; injection hv with _ _ e; omega
    have HFL : Hid ((f.drop kk).length = n) := Lib.hid (by rw [List.length_drop, HM.out]; omega)
    have HNM := Lib.hid hnm; have HRD := Lib.hid hrd; have HOWN := Lib.hid hown
    have hSl : S.length ≤ 100000 := by
      have h1 := congrArg List.length HNM.out
      have h2 := norm_len f
      rw [List.length_append] at h1
      have := HM.out
      omega
    clear hnm hrd hown
    by_cases hlt : 0 < n
    · have n0 : (0 : Int) < (n : Int) := by omega
      have HAL := Lib.hid (alike5_c A' n c' (f.drop kk) wr (HRD.out.ext hxr) HFL.out (by omega) hlt)
      go_wp2_with fail
      refine HAL.out.mono ?_; rintro e w3 ⟨x, rfl, hx3, hrun⟩
      obtain ⟨k, hk, hnr⟩ := runOf_norm _ x hrun (fun s hs => HFE.out s (List.mem_of_mem_drop hs))
      have hx1 : 1 ≤ x := hrun.1
      have hxn : x ≤ n := by have := hrun.2.1; have := HFL.out; omega
      have HR3 := Lib.hid (HRD.out.ext (hxr.trans hx3))
      have hokx : Ok ((f.drop kk).take x) := (HOF.out.drop kk).take x
      have hlx : ((f.drop kk).take x).length = x := by rw [List.length_take, HFL.out]; omega
      have hrx : Rd w3 3 (.slice A' x c') x (spCells ((f.drop kk).take x)) := by
        have h := HR3.out.take hxn
        rw [sp_take _ _ (by rw [HFL.out]; exact hxn)] at h
        exact h
      have HON := Lib.hid (one5_c A' x c' ((f.drop kk).take x) k w3 hrx hlx (by omega) (by omega) hk hokx)
      unfold spanV at HON
      have HNR : Hid ((S ++ [(k, sumN ((f.drop kk).take x), catT ((f.drop kk).take x))]) ++ normL (f.drop (kk + x)) = normL f) := Lib.hid (by
        rw [← HNM.out, hnr, List.append_assoc, List.drop_drop]; rfl)
      have HX3 := Lib.hid (Ext.trans hxr hx3)
      have HO3 := Lib.hid (HOWN.out.ext hx3)
      obtain ⟨bA, oA, rfl, _, _, _, _⟩ := sp_at HRD.out HFL.out hlt
      generalize sumN ((f.drop kk).take x) = SN at *
      generalize catT ((f.drop kk).take x) = CT at *
      have x0 : (0 : Int) ≤ (x : Int) := by omega
      have x1 : (x : Int) ≤ (c' : Int) := by omega
      have x2 : (x : Int) ≤ (n : Int) := by omega
      have x3 : (n : Int) ≤ (c' : Int) := by omega
      clear hrun hk hnr hokx hlx hrx hx3 HAL HOWN
      go_wp2_with fail
      refine HON.out.mono ?_; rintro e w4 ⟨rfl, hx4⟩
      have hX4 := Ext.trans HX3.out hx4
      have hO4 := HO3.out.ext hx4
      have hR4 := rd_behind HRD.out HFL.out hxn hnc
      rw [List.drop_drop] at hR4
      obtain ⟨AD, hAD⟩ : ∃ AD : Option Addr, (if c' = x then some ⟨bA, oA, none⟩ else some ⟨bA, oA + x * 3, none⟩) = AD := ⟨_, rfl⟩
      rw [hAD] at hR4
      obtain ⟨v', w', happ, hown', hbel'⟩ := app_new (P := Tryz.prog) 23 23 60 i _ 3 32 Tryz.underlying23 hi hz0 hz1 hz2 rfl (by omega) (by omega)
        hX4 hO4 (by omega) 1 #[.int .i64 k, .int .i64 SN, .string CT] rfl (by omega) (by simp [Value.oneCell']) 60
      have HAP := Lib.hid happ
      have HO5 : Hid (Own w' w2.heap.size 60 3 v' (S ++ [(k, SN, CT)]).length (spCells (S ++ [(k, SN, CT)]))) := Lib.hid (by rw [spCells_append, List.length_append]; exact hown')
      have HX5 := Lib.hid hbel'
      obtain ⟨av, cv, hv', _⟩ := hown'.len
      subst hv'
      have HR4 := Lib.hid hR4
      clear happ hown' hbel' hR4 hO4 hX4 hx4 HON HR3 HRD HX3 HO3
      go_wp2_with (at_builtin; refine wpList_append_run rfl rfl HAP.out rfl rfl ?_)
      go_roundw
      case rel => exact ⟨kk + x, n - x, AD, c' - x, S ++ [(k, SN, CT)], by omega, rfl, HR4.out, by have h := HO5.out; rw [List.length_append] at h ⊢; exact h, HNR.out, HX5.out⟩
      case measure => simp [slen]; omega
    · obtain rfl : n = 0 := by omega
      have HD : Hid (f.drop kk = []) := Lib.hid (List.drop_of_length_le (by have := HM.out; omega))
      have HOE : Hid (Own wr w.heap.size 60 3 u4 (normL l).length (spCells (normL l))) := Lib.hid (by
        have e := HNM.out
        rw [HD.out] at e
        have e' : S = normL l := by rw [← HNF.out, ← e]; exact (List.append_nil _).symm
        rw [← e']; exact HOWN.out.more HX2.out.size)
      have HXE : Hid (Ext w wr) := Lib.hid (HX2.out.trans hxr)
      clear hlt hSl HD
      go_wp2_with fail
      go_ret
      exact ⟨_, rfl, HXE.out, HOE.out⟩
end Go.Proofs.YtgcaphjjigpjlaaGreatDoor
