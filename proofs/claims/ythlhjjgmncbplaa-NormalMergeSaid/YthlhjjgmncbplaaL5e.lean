/- Layer 5, NormalMerge. -/
import Derived.Test.YthlhjjgmncbplaaL5a
import Derived.Test.YthlhjjgmncbplaaMr
import Derived.Test.YthlhjjgmncbplaaBf
import Derived.OpenShut
namespace Go.Proofs.Ythlhjjgmncbplaa
open Go.RowKit
set_option maxRecDepth 100000
set_option maxHeartbeats 4000000
theorem sumN_rep (n : Nat) (s : Sp) : sumN (List.replicate n s) = n * s.2.1 := by
  induction n with
  | zero => simp [sumN]
  | succ n ih =>
    have e : sumN (s :: List.replicate n s) = s.2.1 + sumN (List.replicate n s) := rfl
    rw [List.replicate_succ, e, ih, Int.natCast_add, Int.add_mul]; omega
theorem sumT_rep (n : Nat) (s : Sp) : sumT (List.replicate n s) = n * s.2.2.size := by
  induction n with
  | zero => simp [sumT]
  | succ n ih =>
    have e : sumT (s :: List.replicate n s) = s.2.2.size + sumT (List.replicate n s) := rfl
    rw [List.replicate_succ, e, ih, Nat.add_mul]; omega
def few20 (s : ByteArray) : ByteArray := s.extract 0 (min s.size 20)
theorem normalMerge_c (s : ByteArray) (z : List Int) (sz : Int) (w : World) (hs : s.size ≤ maxLen) (hz : z.length = 3) (hw : ∀ x ∈ z, (Lit.int .u8 x).wf = true) (hsz : (Lit.int .u8 sz).wf = true) :
    Calls Try.prog 6 #[.string s, .agg (z.map (Value.int .u8)).toArray, .int .u8 sz] w fun e w' => e = .returned (.bool true) ∧ Below w.heap.size w w' := by
  match z, hz with
  | [z0, z1, z2], _ =>
    obtain ⟨a0, a1⟩ := bounds_u8 (hw z0 (by simp))
    obtain ⟨b0, b1⟩ := bounds_u8 (hw z1 (by simp))
    obtain ⟨d0, d1⟩ := bounds_u8 (hw z2 (by simp))
    obtain ⟨c0, c1⟩ := bounds_u8 hsz
    obtain ⟨i, hi, hz0, hz1, hz2⟩ := info_parts info_sp5
    unfold maxLen at hs
    obtain ⟨MN, hMN⟩ : ∃ MN, MN = min s.size 20 := ⟨_, rfl⟩
    have hmi : min (s.size : Int) 20 = (MN : Int) := by omega
    have hif : (if (20 : Int) < (s.size : Int) then (20 : Int) else (s.size : Int)) = (MN : Int) := by split <;> omega
    have hmle : MN ≤ s.size := by omega
    have hmle2 : (MN : Int) ≤ (s.size : Int) := by omega
    have HFIT := Lib.hid (fun w' => fit_c (s.extract 0 MN) w' (by simp; omega))
    have hus : (mkS (encs (fitC (bs (s.extract 0 MN))))).size ≤ 80 := by
      rw [size_mkS]
      have h1 := encs_le (fitC (bs (s.extract 0 MN)))
      have h2 := fitC_length (bs (s.extract 0 MN))
      rw [bs_length] at h2
      have h3 : (s.extract 0 MN).size ≤ 20 := by simp; omega
      omega
    generalize mkS (encs (fitC (bs (s.extract 0 MN)))) = U at *
    clear hMN
    obtain ⟨x0, hx0⟩ : ∃ x0 : Nat, z0 % 8 = (x0 : Int) := ⟨(z0 % 8).toNat, by omega⟩
    obtain ⟨x1, hx1⟩ : ∃ x1 : Nat, z1 % 8 = (x1 : Int) := ⟨(z1 % 8).toNat, by omega⟩
    obtain ⟨x2, hx2⟩ : ∃ x2 : Nat, z2 % 8 = (x2 : Int) := ⟨(z2 % 8).toNat, by omega⟩
    obtain ⟨k, hk⟩ : ∃ k : Int, sz % 8 = k := ⟨_, rfl⟩
    have l0 : x0 ≤ 7 := by omega
    have l1 : x1 ≤ 7 := by omega
    have l2 : x2 ≤ 7 := by omega
    have k0 : 0 ≤ k := by omega
    have k7 : k ≤ 7 := by omega
    have p0 : 0 ≤ (x0 : Int) * k ∧ (x0 : Int) * k ≤ 49 := ⟨Int.mul_nonneg (by omega) k0, by
      have h1 : (x0 : Int) * k ≤ 7 * k := Int.mul_le_mul_of_nonneg_right (by omega) k0
      omega⟩
    have p2 : 0 ≤ (x2 : Int) * k ∧ (x2 : Int) * k ≤ 49 := ⟨Int.mul_nonneg (by omega) k0, by
      have h1 : (x2 : Int) * k ≤ 7 * k := Int.mul_le_mul_of_nonneg_right (by omega) k0
      omega⟩
    have hnorm := norm_three (1, k, ⟨#[]⟩) (2, 0, U) (3, k, ⟨#[]⟩) x0 x1 x2 k0 (by simp) k0 (by simp) (by simp) (by simp)
    rw [part_num x0 1 k k0, part_num x2 3 k k0, part_text] at hnorm
    have hok : Ok (List.replicate x0 ((1 : Int), k, (⟨#[]⟩ : ByteArray)) ++ (List.replicate x1 (2, 0, U) ++ List.replicate x2 (3, k, ⟨#[]⟩))) := by
      refine ⟨?_, ?_, ?_⟩
      · intro s hs
        rcases List.mem_append.1 hs with hs | hs
        · rw [(List.mem_replicate.1 hs).2]; exact k0
        · rcases List.mem_append.1 hs with hs | hs
          · rw [(List.mem_replicate.1 hs).2]; exact Int.le_refl _
          · rw [(List.mem_replicate.1 hs).2]; exact k0
      · rw [sumN_append, sumN_append, sumN_rep, sumN_rep, sumN_rep]; simp only; omega
      · rw [sumT_append, sumT_append, sumT_rep, sumT_rep, sumT_rep]
        have h1 : x1 * U.size ≤ 7 * 80 := Nat.mul_le_mul l1 hus
        have e0 : (⟨#[]⟩ : ByteArray).size = 0 := rfl
        simp only [e0, Nat.mul_zero]; omega
    have hisn := norm_is _ hok.pos
    have HBX : Hid (∀ (w' : World), Ext (w.alloc (.cells #[.int .u8 z0, .int .u8 z1, .int .u8 z2] 29)) w' → ∀ (q : Nat) (u : Value), (#[Value.int .u8 z0, Value.int .u8 z1, Value.int .u8 z2])[q]? = some u → w'.cell? ⟨w.heap.size, q, none⟩ = some u) :=
      Lib.hid fun w' hx q u hu => box_at _ _ _ _ hx q u hu
    have HNORM := Lib.hid hnorm; have HOK := Lib.hid hok; have HIS := Lib.hid hisn
    clear hnorm hok hisn hw hsz
    go_enter Try.func6, Try.ntmps6
    go_wp2_with fail
    refine (shown5_c _).mono ?_; rintro e w1 ⟨rfl, hxa⟩
    go_wp2_with fail
    refine (HFIT.out _).mono ?_; rintro e w2 ⟨rfl, hxb⟩
    go_wp2_with fail
    have hw3 : Ext (w.alloc (.cells #[.int .u8 z0, .int .u8 z1, .int .u8 z2] 29)) ((w2.alloc (.cells #[] 31)).alloc (.cells #[] 31)) := ((hxa.trans hxb).alloc _).alloc _
    generalize (w2.alloc (.cells #[] 31)).alloc (.cells #[] 31) = W3 at *
    have HW3 := Lib.hid hw3
    have HBW : Hid (Ext w W3) := Lib.hid (((Ext.refl w).alloc _).trans hw3)
    have HX := Lib.hid hx0; have HX1 := Lib.hid hx1; have HX2 := Lib.hid hx2; have HK := Lib.hid hk
    clear hmi hif hmle hmle2 hs c0 c1 hk hw3 hxa hxb
    go_loopw [10, 13] (fun v z wr => ∃ j : Nat, j ≤ x0 ∧ z = .int .i64 j ∧ OwnE wr W3.heap.size 31 3 v (j) (spCells (List.replicate j ((1 : Int), k, (⟨#[]⟩ : ByteArray)))) ∧ Ext W3 wr) (fun _ z _ => x0 - (intOf z).toNat)
    case atStart => exact ⟨0, by omega, rfl, OwnE.nil _ _ _ _ _, Ext.refl _⟩
    case round =>
    obtain ⟨j, hj, rfl, hown, hxr⟩ := hrel
    have q : wr.cell? ⟨w.heap.size, 0, none⟩ = some (.int .u8 z0) := HBX.out wr (HW3.out.trans hxr) 0 _ rfl
    by_cases hlt : j < x0
    · have dn : decide (j < x0) = true := by rw [decide_eq_true_eq]; exact hlt
      obtain ⟨v', w', happ, hown', hbel'⟩ := app_e (P := Try.prog) 22 22 31 i _ 3 32 Try.underlying22 hi hz0 hz1 hz2 rfl (by omega) (by omega)
        hxr hxr.size hown (by omega) 1 #[.int .i64 1, .int .i64 k, .string ⟨#[]⟩] rfl (by omega) (by omega) (by simp [Value.oneCell']) 31
      have hown2 : OwnE w' W3.heap.size 31 3 v' ((j + 1)) (spCells (List.replicate (j + 1) ((1 : Int), k, (⟨#[]⟩ : ByteArray)))) := .inr (by
        rw [List.replicate_succ', spCells_append]; exact hown')
      have HAP := Lib.hid happ
      clear happ hown'
      go_wp2_with (at_builtin; refine wpList_append_run rfl rfl HAP.out rfl rfl ?_)
      go_roundw
      case rel => exact ⟨j + 1, by omega, by go_num, hown2, hbel'⟩
      case measure => simp [intOf]; omega
    obtain rfl : x0 = j := by omega
    have dn : decide (x0 < x0) = false := by rw [decide_eq_false_iff_not]; exact hlt
    clear hlt hj
    go_wp2_with fail
    clear hx0
    go_loopw [10, 12, 14] (fun v t z wr => ∃ j : Nat, j ≤ x1 ∧ z = .int .i64 j ∧ t = .string (cat j U) ∧ OwnE wr W3.heap.size 31 3 v (x0 + j) (spCells (List.replicate x0 ((1 : Int), k, (⟨#[]⟩ : ByteArray)) ++ List.replicate j ((2 : Int), (0 : Int), U))) ∧ Ext W3 wr) (fun _ _ z _ => x1 - (intOf z).toNat)
    case atStart => exact ⟨0, by omega, rfl, rfl, by rw [Nat.add_zero, List.replicate_zero, List.append_nil]; exact hown, hxr⟩
    case round =>
    obtain ⟨j, hj, rfl, rfl, hown, hxr⟩ := hrel
    have q : wr.cell? ⟨w.heap.size, 1, none⟩ = some (.int .u8 z1) := HBX.out wr (HW3.out.trans hxr) 1 _ rfl
    by_cases hlt : j < x1
    · have dn : decide (j < x1) = true := by rw [decide_eq_true_eq]; exact hlt
      have hcs : (cat j U).size ≤ 7 * 80 := by rw [cat_size]; exact Nat.mul_le_mul (by omega) hus
      have hcc : ¬ 9223372036854775807 < (cat j U).size + U.size := by omega
      have HCAT : Hid (cat (j + 1) U = cat j U ++ U) := Lib.hid rfl
      obtain ⟨v', w', happ, hown', hbel'⟩ := app_e (P := Try.prog) 22 22 31 i _ 3 32 Try.underlying22 hi hz0 hz1 hz2 rfl (by omega) (by omega)
        hxr hxr.size hown (by omega) 1 #[.int .i64 2, .int .i64 0, .string U] rfl (by omega) (by omega) (by simp [Value.oneCell']) 31
      have hown2 : OwnE w' W3.heap.size 31 3 v' (x0 + (j + 1)) (spCells (List.replicate x0 ((1 : Int), k, (⟨#[]⟩ : ByteArray)) ++ List.replicate (j + 1) ((2 : Int), (0 : Int), U))) := .inr (by
        rw [List.replicate_succ', ← List.append_assoc, spCells_append]; exact hown')
      have HAP := Lib.hid happ
      clear happ hown'
      go_wp2_with (at_builtin; refine wpList_append_run rfl rfl HAP.out rfl rfl ?_)
      go_roundw
      case rel => exact ⟨j + 1, by omega, by go_num, by rw [HCAT.out], hown2, hbel'⟩
      case measure => simp [intOf]; omega
    obtain rfl : x1 = j := by omega
    have dn : decide (x1 < x1) = false := by rw [decide_eq_false_iff_not]; exact hlt
    clear hlt hj
    go_wp2_with fail
    clear hx1
    go_loopw [10, 15] (fun v z wr => ∃ j : Nat, j ≤ x2 ∧ z = .int .i64 j ∧ OwnE wr W3.heap.size 31 3 v (x0 + x1 + j) (spCells (List.replicate x0 ((1 : Int), k, (⟨#[]⟩ : ByteArray)) ++ List.replicate x1 ((2 : Int), (0 : Int), U) ++ List.replicate j ((3 : Int), k, (⟨#[]⟩ : ByteArray)))) ∧ Ext W3 wr) (fun _ z _ => x2 - (intOf z).toNat)
    case atStart => exact ⟨0, by omega, rfl, by rw [Nat.add_zero, List.replicate_zero, List.append_nil]; exact hown, hxr⟩
    case round =>
    obtain ⟨j, hj, rfl, hown, hxr⟩ := hrel
    have q : wr.cell? ⟨w.heap.size, 2, none⟩ = some (.int .u8 z2) := HBX.out wr (HW3.out.trans hxr) 2 _ rfl
    by_cases hlt : j < x2
    · have dn : decide (j < x2) = true := by rw [decide_eq_true_eq]; exact hlt
      obtain ⟨v', w', happ, hown', hbel'⟩ := app_e (P := Try.prog) 22 22 31 i _ 3 32 Try.underlying22 hi hz0 hz1 hz2 rfl (by omega) (by omega)
        hxr hxr.size hown (by omega) 1 #[.int .i64 3, .int .i64 k, .string ⟨#[]⟩] rfl (by omega) (by omega) (by simp [Value.oneCell']) 31
      have hown2 : OwnE w' W3.heap.size 31 3 v' (x0 + x1 + (j + 1)) (spCells (List.replicate x0 ((1 : Int), k, (⟨#[]⟩ : ByteArray)) ++ List.replicate x1 ((2 : Int), (0 : Int), U) ++ List.replicate (j + 1) ((3 : Int), k, (⟨#[]⟩ : ByteArray)))) := .inr (by
        rw [List.replicate_succ', ← List.append_assoc, spCells_append]; exact hown')
      have HAP := Lib.hid happ
      clear happ hown'
      go_wp2_with (at_builtin; refine wpList_append_run rfl rfl HAP.out rfl rfl ?_)
      go_roundw
      case rel => exact ⟨j + 1, by omega, by go_num, hown2, hbel'⟩
      case measure => simp [intOf]; omega
    obtain rfl : x2 = j := by omega
    have dn : decide (x2 < x2) = false := by rw [decide_eq_false_iff_not]; exact hlt
    clear hlt hj
    have e0 : wr.cell? ⟨w.heap.size, 0, none⟩ = some (.int .u8 z0) := HBX.out wr (HW3.out.trans hxr) 0 _ rfl
    have e2 : wr.cell? ⟨w.heap.size, 2, none⟩ = some (.int .u8 z2) := HBX.out wr (HW3.out.trans hxr) 2 _ rfl
    obtain ⟨N, hN⟩ : ∃ N, x0 + x1 + x2 = N := ⟨_, rfl⟩
    rw [hN, List.append_assoc] at hown
    obtain ⟨LL, hLL⟩ : ∃ LL, List.replicate x0 ((1 : Int), k, (⟨#[]⟩ : ByteArray)) ++ (List.replicate x1 (2, 0, U) ++ List.replicate x2 (3, k, ⟨#[]⟩)) = LL := ⟨_, rfl⟩
    have hlen : LL.length = N := by rw [← hLL]; simp; omega
    rw [hLL] at hown HNORM HOK HIS
    obtain ⟨P0, hP0⟩ : ∃ P0, (x0 : Int) * k = P0 := ⟨_, rfl⟩
    obtain ⟨P2, hP2⟩ : ∃ P2, (x2 : Int) * k = P2 := ⟨_, rfl⟩
    rw [hP0] at p0 HNORM
    rw [hP2] at p2 HNORM
    have hw0 : wrap64 ((x0 : Int) * k) = P0 := by rw [hP0]; unfold wrap64; omega
    have hw2 : wrap64 ((x2 : Int) * k) = P2 := by rw [hP2]; unfold wrap64; omega
    have hx0 := HX.out
    have htt := toList_bs (cat x1 U)
    have hbt : (bs (cat x1 U)).length = (cat x1 U).size := bs_length _
    generalize cat x1 U = T at *
    have hrd := hown.rd
    obtain ⟨A, c, rfl, _⟩ := hrd.len
    have HRD := Lib.hid hrd; have HLEN := Lib.hid hlen; have HEX := Lib.hid hxr
    have HOFL : Hid (∀ w', Ext wr w' → _) := Lib.hid fun w' hx => of5_c A N c LL w' (HRD.out.ext hx) HLEN.out (by omega) HOK.out
    have hT : (T.size = 0 ∧ T.toList.isEmpty = true) ∨ (¬ T.size = 0 ∧ T.toList.isEmpty = false) := by
      rw [htt]
      cases hb : bs T with
      | nil => exact .inl ⟨by rw [← hbt, hb]; rfl, rfl⟩
      | cons a b => exact .inr ⟨by rw [← hbt, hb]; simp, rfl⟩
    have hd0 : (decide (0 < P0) = true ∧ 0 < P0) ∨ (decide (0 < P0) = false ∧ ¬ 0 < P0) := by
      by_cases h : 0 < P0
      · exact .inl ⟨by rw [decide_eq_true_eq]; exact h, h⟩
      · exact .inr ⟨by rw [decide_eq_false_iff_not]; exact h, h⟩
    have hd2 : (decide (0 < P2) = true ∧ 0 < P2) ∨ (decide (0 < P2) = false ∧ ¬ 0 < P2) := by
      by_cases h : 0 < P2
      · exact .inl ⟨by rw [decide_eq_true_eq]; exact h, h⟩
      · exact .inr ⟨by rw [decide_eq_false_iff_not]; exact h, h⟩
    have hon : OwnE wr wr.heap.size 31 3 (.slice (some ⟨w2.heap.size + 1, 0, none⟩) 0 0) 0 (spCells []) := OwnE.nil _ _ _ _ _
    have hxx := Ext.refl wr
    clear hown hrd hlen hxr hLL hP0 hP2 htt hbt hN HX HX1 HX2
    generalize hv0 : Value.slice (some ⟨w2.heap.size + 1, 0, none⟩) 0 0 = v0 at *
    rcases hd0 with ⟨g0, g0'⟩ | ⟨g0, g0'⟩
    all_goals
      rcases hT with ⟨g1', g1⟩ | ⟨g1', g1⟩
      all_goals
        rcases hd2 with ⟨g2, g2'⟩ | ⟨g2, g2'⟩
    · rw [if_pos g0', if_pos g1', if_pos g2'] at HNORM
      simp only [List.nil_append, List.cons_append] at HNORM
      rw [HNORM.out] at HOFL HIS
      obtain ⟨n1, m1, ha1, ho1, hb1⟩ := app_e (P := Try.prog) 22 22 31 i _ 3 32 Try.underlying22 hi hz0 hz1 hz2 rfl (by omega) (by omega)
        hxx (hxx).size hon (by omega) 1 #[.int .i64 1, .int .i64 P0, .string ⟨#[]⟩] rfl (by omega) (by omega) (by simp [Value.oneCell']) 31
      have HA1 := Lib.hid ha1
      clear ha1
      have e21 : m1.cell? ⟨w.heap.size, 2, none⟩ = some (.int .u8 z2) := HBX.out m1 (HW3.out.trans (HEX.out.trans hb1)) 2 _ rfl
      obtain ⟨n2, m2, ha2, ho2, hb2⟩ := app_e (P := Try.prog) 22 22 31 i _ 3 32 Try.underlying22 hi hz0 hz1 hz2 rfl (by omega) (by omega)
        hb1 (hb1).size (.inr ho1) (by omega) 1 #[.int .i64 3, .int .i64 P2, .string ⟨#[]⟩] rfl (by omega) (by omega) (by simp [Value.oneCell']) 31
      have HA2 := Lib.hid ha2
      clear ha2
      have e22 : m2.cell? ⟨w.heap.size, 2, none⟩ = some (.int .u8 z2) := HBX.out m2 (HW3.out.trans (HEX.out.trans hb2)) 2 _ rfl
      have hrw : Rd m2 3 n2 2 (spCells ([(1, P0, ⟨#[]⟩), (3, P2, ⟨#[]⟩)] : List Sp)) := ho2.rd
      obtain ⟨aw, cw, rfl, _⟩ := hrw.len
      have HRW := Lib.hid hrw
      clear hrw ho1 ho2
      subst hv0
      go_wp2_with (at_builtin; first | (with_reducible refine wpList_append_run rfl rfl HA1.out rfl rfl ?_) | (with_reducible refine wpList_append_run rfl rfl HA2.out rfl rfl ?_))
      refine (HOFL.out _ hb2).mono ?_; rintro e w5 ⟨v5, rfl, hx5, hown5⟩
      obtain ⟨a5, c5, rfl, _⟩ := hown5.len
      have HR5 := Lib.hid hown5.rd
      clear hown5
      simp only [List.length_cons, List.length_nil, Nat.zero_add, Nat.reduceAdd] at HR5 ⊢
      go_wp2_with fail
      refine (sameR4_c _ _ _ _ _ _ w5 HR5.out (HRW.out.ext hx5) rfl (by omega)).mono ?_; rintro e w6 ⟨rfl, hx6⟩
      go_wp2_with fail
      refine (is_yes _ _ _ _ w6 (HRW.out.ext (hx5.trans hx6)) rfl (by omega) HIS.out).mono ?_; rintro e w7 ⟨rfl, hx7⟩
      go_wp2_with fail
      go_ret
      exact ⟨rfl, (HBW.out.trans HEX.out).trans ((show Ext wr _ from hb2).trans ((hx5.trans hx6).trans hx7))⟩
    · rw [if_pos g0', if_pos g1', if_neg g2'] at HNORM
      simp only [List.nil_append, List.cons_append] at HNORM
      rw [HNORM.out] at HOFL HIS
      obtain ⟨n1, m1, ha1, ho1, hb1⟩ := app_e (P := Try.prog) 22 22 31 i _ 3 32 Try.underlying22 hi hz0 hz1 hz2 rfl (by omega) (by omega)
        hxx (hxx).size hon (by omega) 1 #[.int .i64 1, .int .i64 P0, .string ⟨#[]⟩] rfl (by omega) (by omega) (by simp [Value.oneCell']) 31
      have HA1 := Lib.hid ha1
      clear ha1
      have e21 : m1.cell? ⟨w.heap.size, 2, none⟩ = some (.int .u8 z2) := HBX.out m1 (HW3.out.trans (HEX.out.trans hb1)) 2 _ rfl
      have hrw : Rd m1 3 n1 1 (spCells ([(1, P0, ⟨#[]⟩)] : List Sp)) := ho1.rd
      obtain ⟨aw, cw, rfl, _⟩ := hrw.len
      have HRW := Lib.hid hrw
      clear hrw ho1
      subst hv0
      go_wp2_with (at_builtin; first | (with_reducible refine wpList_append_run rfl rfl HA1.out rfl rfl ?_))
      refine (HOFL.out _ hb1).mono ?_; rintro e w5 ⟨v5, rfl, hx5, hown5⟩
      obtain ⟨a5, c5, rfl, _⟩ := hown5.len
      have HR5 := Lib.hid hown5.rd
      clear hown5
      simp only [List.length_cons, List.length_nil, Nat.zero_add] at HR5 ⊢
      go_wp2_with fail
      refine (sameR4_c _ _ _ _ _ _ w5 HR5.out (HRW.out.ext hx5) rfl (by omega)).mono ?_; rintro e w6 ⟨rfl, hx6⟩
      go_wp2_with fail
      refine (is_yes _ _ _ _ w6 (HRW.out.ext (hx5.trans hx6)) rfl (by omega) HIS.out).mono ?_; rintro e w7 ⟨rfl, hx7⟩
      go_wp2_with fail
      go_ret
      exact ⟨rfl, (HBW.out.trans HEX.out).trans ((show Ext wr _ from hb1).trans ((hx5.trans hx6).trans hx7))⟩
    · rw [if_pos g0', if_neg g1', if_pos g2'] at HNORM
      simp only [List.nil_append, List.cons_append] at HNORM
      rw [HNORM.out] at HOFL HIS
      obtain ⟨n1, m1, ha1, ho1, hb1⟩ := app_e (P := Try.prog) 22 22 31 i _ 3 32 Try.underlying22 hi hz0 hz1 hz2 rfl (by omega) (by omega)
        hxx (hxx).size hon (by omega) 1 #[.int .i64 1, .int .i64 P0, .string ⟨#[]⟩] rfl (by omega) (by omega) (by simp [Value.oneCell']) 31
      have HA1 := Lib.hid ha1
      clear ha1
      have e21 : m1.cell? ⟨w.heap.size, 2, none⟩ = some (.int .u8 z2) := HBX.out m1 (HW3.out.trans (HEX.out.trans hb1)) 2 _ rfl
      obtain ⟨n2, m2, ha2, ho2, hb2⟩ := app_e (P := Try.prog) 22 22 31 i _ 3 32 Try.underlying22 hi hz0 hz1 hz2 rfl (by omega) (by omega)
        hb1 (hb1).size (.inr ho1) (by omega) 1 #[.int .i64 2, .int .i64 0, .string T] rfl (by omega) (by omega) (by simp [Value.oneCell']) 31
      have HA2 := Lib.hid ha2
      clear ha2
      have e22 : m2.cell? ⟨w.heap.size, 2, none⟩ = some (.int .u8 z2) := HBX.out m2 (HW3.out.trans (HEX.out.trans hb2)) 2 _ rfl
      obtain ⟨n3, m3, ha3, ho3, hb3⟩ := app_e (P := Try.prog) 22 22 31 i _ 3 32 Try.underlying22 hi hz0 hz1 hz2 rfl (by omega) (by omega)
        hb2 (hb2).size (.inr ho2) (by omega) 1 #[.int .i64 3, .int .i64 P2, .string ⟨#[]⟩] rfl (by omega) (by omega) (by simp [Value.oneCell']) 31
      have HA3 := Lib.hid ha3
      clear ha3
      have e23 : m3.cell? ⟨w.heap.size, 2, none⟩ = some (.int .u8 z2) := HBX.out m3 (HW3.out.trans (HEX.out.trans hb3)) 2 _ rfl
      have hrw : Rd m3 3 n3 3 (spCells ([(1, P0, ⟨#[]⟩), (2, 0, T), (3, P2, ⟨#[]⟩)] : List Sp)) := ho3.rd
      obtain ⟨aw, cw, rfl, _⟩ := hrw.len
      have HRW := Lib.hid hrw
      clear hrw ho1 ho2 ho3
      subst hv0
      go_wp2_with (at_builtin; first | (with_reducible refine wpList_append_run rfl rfl HA1.out rfl rfl ?_) | (with_reducible refine wpList_append_run rfl rfl HA2.out rfl rfl ?_) | (with_reducible refine wpList_append_run rfl rfl HA3.out rfl rfl ?_))
      refine (HOFL.out _ hb3).mono ?_; rintro e w5 ⟨v5, rfl, hx5, hown5⟩
      obtain ⟨a5, c5, rfl, _⟩ := hown5.len
      have HR5 := Lib.hid hown5.rd
      clear hown5
      simp only [List.length_cons, List.length_nil, Nat.zero_add, Nat.reduceAdd] at HR5 ⊢
      go_wp2_with fail
      refine (sameR4_c _ _ _ _ _ _ w5 HR5.out (HRW.out.ext hx5) rfl (by omega)).mono ?_; rintro e w6 ⟨rfl, hx6⟩
      go_wp2_with fail
      refine (is_yes _ _ _ _ w6 (HRW.out.ext (hx5.trans hx6)) rfl (by omega) HIS.out).mono ?_; rintro e w7 ⟨rfl, hx7⟩
      go_wp2_with fail
      go_ret
      exact ⟨rfl, (HBW.out.trans HEX.out).trans ((show Ext wr _ from hb3).trans ((hx5.trans hx6).trans hx7))⟩
    · rw [if_pos g0', if_neg g1', if_neg g2'] at HNORM
      simp only [List.nil_append, List.cons_append] at HNORM
      rw [HNORM.out] at HOFL HIS
      obtain ⟨n1, m1, ha1, ho1, hb1⟩ := app_e (P := Try.prog) 22 22 31 i _ 3 32 Try.underlying22 hi hz0 hz1 hz2 rfl (by omega) (by omega)
        hxx (hxx).size hon (by omega) 1 #[.int .i64 1, .int .i64 P0, .string ⟨#[]⟩] rfl (by omega) (by omega) (by simp [Value.oneCell']) 31
      have HA1 := Lib.hid ha1
      clear ha1
      have e21 : m1.cell? ⟨w.heap.size, 2, none⟩ = some (.int .u8 z2) := HBX.out m1 (HW3.out.trans (HEX.out.trans hb1)) 2 _ rfl
      obtain ⟨n2, m2, ha2, ho2, hb2⟩ := app_e (P := Try.prog) 22 22 31 i _ 3 32 Try.underlying22 hi hz0 hz1 hz2 rfl (by omega) (by omega)
        hb1 (hb1).size (.inr ho1) (by omega) 1 #[.int .i64 2, .int .i64 0, .string T] rfl (by omega) (by omega) (by simp [Value.oneCell']) 31
      have HA2 := Lib.hid ha2
      clear ha2
      have e22 : m2.cell? ⟨w.heap.size, 2, none⟩ = some (.int .u8 z2) := HBX.out m2 (HW3.out.trans (HEX.out.trans hb2)) 2 _ rfl
      have hrw : Rd m2 3 n2 2 (spCells ([(1, P0, ⟨#[]⟩), (2, 0, T)] : List Sp)) := ho2.rd
      obtain ⟨aw, cw, rfl, _⟩ := hrw.len
      have HRW := Lib.hid hrw
      clear hrw ho1 ho2
      subst hv0
      go_wp2_with (at_builtin; first | (with_reducible refine wpList_append_run rfl rfl HA1.out rfl rfl ?_) | (with_reducible refine wpList_append_run rfl rfl HA2.out rfl rfl ?_))
      refine (HOFL.out _ hb2).mono ?_; rintro e w5 ⟨v5, rfl, hx5, hown5⟩
      obtain ⟨a5, c5, rfl, _⟩ := hown5.len
      have HR5 := Lib.hid hown5.rd
      clear hown5
      simp only [List.length_cons, List.length_nil, Nat.zero_add, Nat.reduceAdd] at HR5 ⊢
      go_wp2_with fail
      refine (sameR4_c _ _ _ _ _ _ w5 HR5.out (HRW.out.ext hx5) rfl (by omega)).mono ?_; rintro e w6 ⟨rfl, hx6⟩
      go_wp2_with fail
      refine (is_yes _ _ _ _ w6 (HRW.out.ext (hx5.trans hx6)) rfl (by omega) HIS.out).mono ?_; rintro e w7 ⟨rfl, hx7⟩
      go_wp2_with fail
      go_ret
      exact ⟨rfl, (HBW.out.trans HEX.out).trans ((show Ext wr _ from hb2).trans ((hx5.trans hx6).trans hx7))⟩
    · rw [if_neg g0', if_pos g1', if_pos g2'] at HNORM
      simp only [List.nil_append] at HNORM
      rw [HNORM.out] at HOFL HIS
      obtain ⟨n1, m1, ha1, ho1, hb1⟩ := app_e (P := Try.prog) 22 22 31 i _ 3 32 Try.underlying22 hi hz0 hz1 hz2 rfl (by omega) (by omega)
        hxx (hxx).size hon (by omega) 1 #[.int .i64 3, .int .i64 P2, .string ⟨#[]⟩] rfl (by omega) (by omega) (by simp [Value.oneCell']) 31
      have HA1 := Lib.hid ha1
      clear ha1
      have e21 : m1.cell? ⟨w.heap.size, 2, none⟩ = some (.int .u8 z2) := HBX.out m1 (HW3.out.trans (HEX.out.trans hb1)) 2 _ rfl
      have hrw : Rd m1 3 n1 1 (spCells ([(3, P2, ⟨#[]⟩)] : List Sp)) := ho1.rd
      obtain ⟨aw, cw, rfl, _⟩ := hrw.len
      have HRW := Lib.hid hrw
      clear hrw ho1
      subst hv0
      go_wp2_with (at_builtin; first | (with_reducible refine wpList_append_run rfl rfl HA1.out rfl rfl ?_))
      refine (HOFL.out _ hb1).mono ?_; rintro e w5 ⟨v5, rfl, hx5, hown5⟩
      obtain ⟨a5, c5, rfl, _⟩ := hown5.len
      have HR5 := Lib.hid hown5.rd
      clear hown5
      simp only [List.length_cons, List.length_nil, Nat.zero_add] at HR5 ⊢
      go_wp2_with fail
      refine (sameR4_c _ _ _ _ _ _ w5 HR5.out (HRW.out.ext hx5) rfl (by omega)).mono ?_; rintro e w6 ⟨rfl, hx6⟩
      go_wp2_with fail
      refine (is_yes _ _ _ _ w6 (HRW.out.ext (hx5.trans hx6)) rfl (by omega) HIS.out).mono ?_; rintro e w7 ⟨rfl, hx7⟩
      go_wp2_with fail
      go_ret
      exact ⟨rfl, (HBW.out.trans HEX.out).trans ((show Ext wr _ from hb1).trans ((hx5.trans hx6).trans hx7))⟩
    · rw [if_neg g0', if_pos g1', if_neg g2'] at HNORM
      simp only [List.nil_append] at HNORM
      rw [HNORM.out] at HOFL HIS
      have hown := hon
      have hxw : Ext wr wr := Ext.refl _
      have hrw := hown.rd
      obtain ⟨aw, cw, rfl, _⟩ := hrw.len
      have HRW := Lib.hid hrw
      clear hon hrw hown
      go_wp2_with fail
      refine (HOFL.out _ (Ext.refl _)).mono ?_; rintro e w5 ⟨v5, rfl, hx5, hown5⟩
      obtain ⟨a5, c5, rfl, _⟩ := hown5.len
      have HR5 := Lib.hid hown5.rd
      clear hown5
      simp only [List.length_nil] at HR5 ⊢
      go_wp2_with fail
      refine (sameR4_c _ _ _ _ _ _ w5 HR5.out (HRW.out.ext hx5) rfl (by omega)).mono ?_; rintro e w6 ⟨rfl, hx6⟩
      go_wp2_with fail
      refine (is_yes _ _ _ _ w6 (HRW.out.ext (hx5.trans hx6)) rfl (by omega) HIS.out).mono ?_; rintro e w7 ⟨rfl, hx7⟩
      go_wp2_with fail
      go_ret
      exact ⟨rfl, (HBW.out.trans HEX.out).trans ((Ext.refl _).trans ((hx5.trans hx6).trans hx7))⟩
    · rw [if_neg g0', if_neg g1', if_pos g2'] at HNORM
      simp only [List.nil_append, List.cons_append] at HNORM
      rw [HNORM.out] at HOFL HIS
      obtain ⟨n1, m1, ha1, ho1, hb1⟩ := app_e (P := Try.prog) 22 22 31 i _ 3 32 Try.underlying22 hi hz0 hz1 hz2 rfl (by omega) (by omega)
        hxx (hxx).size hon (by omega) 1 #[.int .i64 2, .int .i64 0, .string T] rfl (by omega) (by omega) (by simp [Value.oneCell']) 31
      have HA1 := Lib.hid ha1
      clear ha1
      have e21 : m1.cell? ⟨w.heap.size, 2, none⟩ = some (.int .u8 z2) := HBX.out m1 (HW3.out.trans (HEX.out.trans hb1)) 2 _ rfl
      obtain ⟨n2, m2, ha2, ho2, hb2⟩ := app_e (P := Try.prog) 22 22 31 i _ 3 32 Try.underlying22 hi hz0 hz1 hz2 rfl (by omega) (by omega)
        hb1 (hb1).size (.inr ho1) (by omega) 1 #[.int .i64 3, .int .i64 P2, .string ⟨#[]⟩] rfl (by omega) (by omega) (by simp [Value.oneCell']) 31
      have HA2 := Lib.hid ha2
      clear ha2
      have e22 : m2.cell? ⟨w.heap.size, 2, none⟩ = some (.int .u8 z2) := HBX.out m2 (HW3.out.trans (HEX.out.trans hb2)) 2 _ rfl
      have hrw : Rd m2 3 n2 2 (spCells ([(2, 0, T), (3, P2, ⟨#[]⟩)] : List Sp)) := ho2.rd
      obtain ⟨aw, cw, rfl, _⟩ := hrw.len
      have HRW := Lib.hid hrw
      clear hrw ho1 ho2
      subst hv0
      go_wp2_with (at_builtin; first | (with_reducible refine wpList_append_run rfl rfl HA1.out rfl rfl ?_) | (with_reducible refine wpList_append_run rfl rfl HA2.out rfl rfl ?_))
      refine (HOFL.out _ hb2).mono ?_; rintro e w5 ⟨v5, rfl, hx5, hown5⟩
      obtain ⟨a5, c5, rfl, _⟩ := hown5.len
      have HR5 := Lib.hid hown5.rd
      clear hown5
      simp only [List.length_cons, List.length_nil, Nat.zero_add, Nat.reduceAdd] at HR5 ⊢
      go_wp2_with fail
      refine (sameR4_c _ _ _ _ _ _ w5 HR5.out (HRW.out.ext hx5) rfl (by omega)).mono ?_; rintro e w6 ⟨rfl, hx6⟩
      go_wp2_with fail
      refine (is_yes _ _ _ _ w6 (HRW.out.ext (hx5.trans hx6)) rfl (by omega) HIS.out).mono ?_; rintro e w7 ⟨rfl, hx7⟩
      go_wp2_with fail
      go_ret
      exact ⟨rfl, (HBW.out.trans HEX.out).trans ((show Ext wr _ from hb2).trans ((hx5.trans hx6).trans hx7))⟩
    · rw [if_neg g0', if_neg g1', if_neg g2'] at HNORM
      simp only [List.nil_append, List.cons_append] at HNORM
      rw [HNORM.out] at HOFL HIS
      obtain ⟨n1, m1, ha1, ho1, hb1⟩ := app_e (P := Try.prog) 22 22 31 i _ 3 32 Try.underlying22 hi hz0 hz1 hz2 rfl (by omega) (by omega)
        hxx (hxx).size hon (by omega) 1 #[.int .i64 2, .int .i64 0, .string T] rfl (by omega) (by omega) (by simp [Value.oneCell']) 31
      have HA1 := Lib.hid ha1
      clear ha1
      have e21 : m1.cell? ⟨w.heap.size, 2, none⟩ = some (.int .u8 z2) := HBX.out m1 (HW3.out.trans (HEX.out.trans hb1)) 2 _ rfl
      have hrw : Rd m1 3 n1 1 (spCells ([(2, 0, T)] : List Sp)) := ho1.rd
      obtain ⟨aw, cw, rfl, _⟩ := hrw.len
      have HRW := Lib.hid hrw
      clear hrw ho1
      subst hv0
      go_wp2_with (at_builtin; first | (with_reducible refine wpList_append_run rfl rfl HA1.out rfl rfl ?_))
      refine (HOFL.out _ hb1).mono ?_; rintro e w5 ⟨v5, rfl, hx5, hown5⟩
      obtain ⟨a5, c5, rfl, _⟩ := hown5.len
      have HR5 := Lib.hid hown5.rd
      clear hown5
      simp only [List.length_cons, List.length_nil, Nat.zero_add] at HR5 ⊢
      go_wp2_with fail
      refine (sameR4_c _ _ _ _ _ _ w5 HR5.out (HRW.out.ext hx5) rfl (by omega)).mono ?_; rintro e w6 ⟨rfl, hx6⟩
      go_wp2_with fail
      refine (is_yes _ _ _ _ w6 (HRW.out.ext (hx5.trans hx6)) rfl (by omega) HIS.out).mono ?_; rintro e w7 ⟨rfl, hx7⟩
      go_wp2_with fail
      go_ret
      exact ⟨rfl, (HBW.out.trans HEX.out).trans ((show Ext wr _ from hb1).trans ((hx5.trans hx6).trans hx7))⟩
end Go.Proofs.Ythlhjjgmncbplaa
