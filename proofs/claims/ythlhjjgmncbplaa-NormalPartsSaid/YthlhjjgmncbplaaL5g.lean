/- Layer 5, NormalParts: the walk. -/
import Derived.Test.YthlhjjgmncbplaaL5f
import Derived.Test.YthlhjjgmncbplaaBg
import Derived.Deep.Cut
import Derived.Deep.RegionLaw
namespace Go.Proofs.Ythlhjjgmncbplaa
open Go.RowKit
set_option maxRecDepth 100000
set_option maxHeartbeats 4000000
attribute [local go_sem ↓] Go.wp_at_zero Go.wp_at_succ
theorem normalParts_c (A : Option Addr) (q c : Nat) (l : List Sp) (A' : Option Addr) (q' c' : Nat) (l' : List Sp) (z : List Int) (w : World) (h : Rd w 3 (.slice A q c) q (spCells l)) (hl : l.length = q) (hs : ∀ s ∈ l, s.2.2.size ≤ maxLen)
    (h' : Rd w 3 (.slice A' q' c') q' (spCells l')) (hl' : l'.length = q') (hs' : ∀ s ∈ l', s.2.2.size ≤ maxLen) (hz : z.length = 3) (hw : ∀ x ∈ z, (Lit.int .u8 x).wf = true) :
    Calls Try.prog 4 #[.slice A q c, .slice A' q' c', .agg (z.map (Value.int .u8)).toArray] w fun e w' => e = .returned (.bool true) ∧ Below w.heap.size w w' := by
  match z, hz with
  | [z0, z1, z2], _ =>
    obtain ⟨a0, a1⟩ := bounds_u8 (hw z0 (by simp))
    obtain ⟨b0, b1⟩ := bounds_u8 (hw z1 (by simp))
    obtain ⟨d0, d1⟩ := bounds_u8 (hw z2 (by simp))
    obtain ⟨i, hi, hz0, hz1, hz2⟩ := info_parts info_sp5
    obtain ⟨m, hm, hm0, hm1⟩ : ∃ m : Int, z0 % 64 = m ∧ 0 ≤ m ∧ m ≤ 63 := ⟨_, rfl, by omega, by omega⟩
    obtain ⟨m', hm', hm0', hm1'⟩ : ∃ m' : Int, z1 % 64 = m' ∧ 0 ≤ m' ∧ m' ≤ 63 := ⟨_, rfl, by omega, by omega⟩
    have HFIT : Hid (∀ w', Ext w w' → _) := Lib.hid fun w' hx => fitR4_c A q c l m w' (h.ext hx) hl hs hm0 (by omega)
    have HFIT' : Hid (∀ w', Ext w w' → _) := Lib.hid fun w' hx => fitR4_c A' q' c' l' m' w' (h'.ext hx) hl' hs' hm0' (by omega)
    have HBX : Hid (∀ (w' : World), Ext (w.alloc (.cells #[.int .u8 z0, .int .u8 z1, .int .u8 z2] 29)) w' → ∀ (q : Nat) (u : Value), (#[Value.int .u8 z0, Value.int .u8 z1, Value.int .u8 z2])[q]? = some u → w'.cell? ⟨w.heap.size, q, none⟩ = some u) :=
      Lib.hid fun w' hx q u hu => box_at _ _ _ _ hx q u hu
    go_enter Try.func4, Try.ntmps4
    go_wp2_with fail
    refine (shown5_c _).mono ?_; rintro e w1 ⟨rfl, hx1⟩
    have q0 : w1.cell? ⟨w.heap.size, 0, none⟩ = some (.int .u8 z0) := HBX.out w1 hx1 0 _ rfl
    go_wp2_with fail
    refine (HFIT.out _ (((Ext.refl w).alloc _).trans hx1)).mono ?_; rintro e w2 ⟨v2, rfl, hx2, hown2⟩
    have q1 : w2.cell? ⟨w.heap.size, 1, none⟩ = some (.int .u8 z1) := HBX.out w2 (hx1.trans hx2) 1 _ rfl
    obtain ⟨a2, c2, rfl, _⟩ := hown2.len
    go_wp2_with fail
    refine (HFIT'.out _ ((((Ext.refl w).alloc _).trans hx1).trans hx2)).mono ?_; rintro e w3 ⟨v3, rfl, hx3, hown3⟩
    obtain ⟨a3, c3, rfl, _⟩ := hown3.len
    have hlx := fitL_len l m
    have hly := fitL_len l' m'
    have hox := fit_ok l m hm0 (by omega)
    have hoy := fit_ok l' m' hm0' (by omega)
    obtain ⟨hmx, hix⟩ := fitL_all l m hm0 (by omega)
    obtain ⟨hmy, hiy⟩ := fitL_all l' m' hm0' (by omega)
    have htx := sumT_le _ 24 (fitL_text l m)
    have hty := sumT_le _ 24 (fitL_text l' m')
    generalize fitL l m = xs at *
    generalize fitL l' m' = ys at *
    have hsx : sumN xs = m := by unfold sumN; rw [(may_sum xs hmx).2, hix]
    have hsy : sumN ys = m' := by unfold sumN; rw [(may_sum ys hmy).2, hiy]
    have hoa : Ok (xs ++ ys) := ok_append xs ys hox hoy (by omega) (by omega)
    have hma : ∀ s ∈ xs ++ ys, mayS s.1 s.2.1 s.2.2 = 0 := fun s hs => (List.mem_append.1 hs).elim (hmx s) (hmy s)
    have hon : Ok (normL xs ++ normL ys) := ok_append _ _ hox.norm hoy.norm (by rw [sumN_norm, sumN_norm]; omega) (by rw [sumT_norm, sumT_norm]; omega)
    have hnp := norm_parts xs ys hox.pos hoy.pos
    obtain ⟨nx, hnx⟩ : ∃ nx, xs.length = nx := ⟨_, rfl⟩
    obtain ⟨ny, hny⟩ : ∃ ny, ys.length = ny := ⟨_, rfl⟩
    rw [hnx] at hown2 hlx ⊢
    rw [hny] at hown3 hly ⊢
    have ho0 := Own.made w3 w3.heap.size 31 3 0 #[] (Nat.le_refl _) (by omega) rfl
    have hb0 : Below w3.heap.size w3 (w3.alloc (.cells #[] 31)) := (Ext.refl w3).alloc _
    have hrx : Rd (w3.alloc (.cells #[] 31)) 3 (.slice a2 nx c2) nx (spCells xs) := hown2.rd.ext (hx3.alloc _)
    obtain ⟨v4, w4, happ4, hown4, hbel4⟩ := app_rd (P := Try.prog) 22 22 31 i _ 3 32 Try.underlying22 hi hz0 hz1 hz2 rfl (by omega) (by omega)
      hb0 ho0 (by omega) hrx (by omega) (spCells_one xs)
    obtain ⟨v5, w5, happ5, hown5, hbel5⟩ := app_rd (P := Try.prog) 22 22 31 i _ 3 32 Try.underlying22 hi hz0 hz1 hz2 rfl (by omega) (by omega)
      hbel4 hown4 (by omega) (hown3.rd.ext hbel4) (by omega) (spCells_one ys)
    have hcat : #[].toList ++ spCells xs ++ spCells ys = spCells (xs ++ ys) := by rw [spCells_append]; rfl
    rw [hcat] at hown5
    obtain ⟨a5, c5, rfl, hc5⟩ := hown5.len
    obtain ⟨N, hN⟩ : ∃ N, 0 + nx + ny = N := ⟨_, rfl⟩
    rw [hN] at hown5 happ5 hc5
    have hlall : (xs ++ ys).length = N := by rw [List.length_append]; omega
    have HRX := Lib.hid (hown2.rd.ext (hx3.trans hbel5)); have HRY := Lib.hid (hown3.rd.ext hbel5); have HRA := Lib.hid hown5.rd
    have HAP4 := Lib.hid happ4; have HAP5 := Lib.hid happ5
    have hxb5 : Ext (w.alloc (.cells #[.int .u8 z0, .int .u8 z1, .int .u8 z2] 29)) w5 := ((hx1.trans hx2).trans hx3).trans hbel5
    have q0' : w5.cell? ⟨w.heap.size, 0, none⟩ = some (.int .u8 z0) := HBX.out w5 hxb5 0 _ rfl
    have q2 : w5.cell? ⟨w.heap.size, 2, none⟩ = some (.int .u8 z2) := HBX.out w5 hxb5 2 _ rfl
    have hN26 : N ≤ 26 := by omega
    obtain ⟨k, hk⟩ : ∃ k : Nat, z2 % ((N : Int) + 1) = (k : Int) := ⟨(z2 % ((N : Int) + 1)).toNat, by have := Int.emod_nonneg z2 (show ((N : Int) + 1) ≠ 0 by omega); omega⟩
    have hkN : k ≤ N := by have := Int.emod_lt_of_pos z2 (show 0 < ((N : Int) + 1) by omega); omega
    have HXB5 := Lib.hid hxb5
    have HOX := Lib.hid hox; have HOY := Lib.hid hoy; have HOA := Lib.hid hoa; have HMA := Lib.hid hma; have HON := Lib.hid hon; have HNP := Lib.hid hnp
    have HNX := Lib.hid hnx; have HNY := Lib.hid hny; have HLA := Lib.hid hlall
    clear happ4 happ5 hcat hrx hb0 ho0 hown4 hbel4 hbel5 hown5 hown2 hown3 hx1 hx2 hx3 HFIT HFIT' h h' hs hs' hl hl' hox hoy hmx hmy hix hiy htx hty hsx hsy hoa hma hon hnp hnx hny hlall hxb5 hN q0 q1
    have i1 : (k : Int) ≤ (N : Int) := by omega
    have i0 : (0 : Int) ≤ (k : Int) := by omega
    have hrdk : Rd w5 3 (.slice a5 k c5) k (spCells ((xs ++ ys).take k)) := rd_take HRA.out HLA.out hkN
    have HA1 : Hid (∀ (W : World) (g : Nat), Ext w5 W → ∃ v' w', (Builtin.append_ #[22, 22] 22 #[.slice (some ⟨g, 0, none⟩) 0 0, .slice a5 k c5]).run Try.prog W = .ok v' w' ∧ (OwnE w' w5.heap.size 31 3 v' k (spCells ((xs ++ ys).take k)) ∧ Ext W w')) := Lib.hid fun W g hx => by
      obtain ⟨v', w', h1, h2, h3⟩ := app_erd (P := Try.prog) 22 22 31 i _ 3 32 Try.underlying22 hi hz0 hz1 hz2 rfl (by omega) (by omega)
        (a := W) (w := W) (B := W.heap.size) (Below.refl _ _) (Nat.le_refl _) (OwnE.nil W W.heap.size 31 3 g) (by omega) (hrdk.ext hx) (by omega) (spCells_one _)
      rw [Nat.zero_add, List.nil_append] at h2
      exact ⟨v', w', h1, h2.more hx.size, h3⟩
    obtain ⟨t, ht⟩ : ∃ t : Int, z0.tmod 3 = t := ⟨_, rfl⟩
    obtain ⟨c, hc⟩ : ∃ c : Int, 1 + t = c := ⟨_, rfl⟩
    have ht0 := tmod_le z0 3 (by omega)
    rw [ht] at ht0
    have hwt : IntKind.i64.wrap t = t := by rw [IntKind.wrap_i64]; omega
    have hwc : IntKind.i64.wrap c = c := by rw [IntKind.wrap_i64]; omega
    clear ht0
    have HA2 : Hid (∀ (W : World) (v : Value) (H : Nat), OwnE W w5.heap.size 31 3 v k (spCells ((xs ++ ys).take k)) → Ext w5 W → Rd W 3 (.slice (some ⟨H, 0, none⟩) 1 1) 1 [.int .i64 c, .int .i64 0, .string ⟨#[]⟩] → ∃ v' w', (Builtin.append_ #[22, 22] 22 #[v, .slice (some ⟨H, 0, none⟩) 1 1]).run Try.prog W = .ok v' w' ∧ (OwnE w' w5.heap.size 31 3 v' (k + 1) (spCells ((xs ++ ys).take k ++ [(c, 0, ⟨#[]⟩)])) ∧ Ext w5 w')) := Lib.hid fun W v H ho hx hr => by
      obtain ⟨v', w', h1, h2, h3⟩ := app_erd (P := Try.prog) 22 22 31 i _ 3 32 Try.underlying22 hi hz0 hz1 hz2 rfl (by omega) (by omega)
        hx hx.size ho (by omega) hr (by omega) (by simp [Value.oneCell'])
      rw [spCells_append]
      exact ⟨v', w', h1, h2, h3⟩
    go_wp2_with (at_builtin; first | (with_reducible refine wpList_append_run rfl rfl HAP4.out rfl rfl ?_) | (with_reducible refine wpList_append_run rfl rfl HAP5.out rfl rfl ?_))
    rw [hk]
    have i2 : (k : Int) ≤ (c5 : Int) := by omega
    have hxx := Ext.refl w5
    go_cut [12] from 42 (fun v wr => Own wr w5.heap.size 31 3 v (k + 1) (spCells ((xs ++ ys).take k ++ [(c, 0, ⟨#[]⟩)])) ∧ Ext w5 wr)
    case first =>
      go_region_held3 (fun W => Ext w5 W ∧ W.cell? ⟨w.heap.size, 0, none⟩ = some (.int .u8 z0))
        ((go_split_ands; refine ⟨?_, ?_⟩ <;> first | (exact Ext.drew ‹_›) | (exact Ext.alloc ‹_› _) | (exact Ext.trans ‹_› hxk) | (exact ext_cell hxk ‹_›) | go_keep))
        (first
        | ((refine step_append_ex (by rfl) _ _ _ (by rfl) (by rfl) (by rfl) (HA1.out _ _ ?_) ?_); (repeat (first | assumption | apply Ext.drew | apply Ext.alloc)); (rintro v' w' ⟨hown', hxk⟩))
        | ((refine step_append_ex (by rfl) _ _ _ (by rfl) (by rfl) (by rfl) (HA2.out _ _ _ ?_ ?_ ?_) ?_); (first | exact hown' | exact hown'.ext (by repeat (first | exact Ext.refl _ | apply Ext.drew | apply Ext.alloc))); (go_split_ands; (repeat (first | assumption | apply Ext.drew | apply Ext.alloc))); (first | exact rd_made3 rfl (Ext.refl _) | exact rd_made3 (size_alloc _ _) ((Ext.refl _).drew.trans hxk) | exact rd_made3 rfl (((Ext.refl _).alloc _).drew.trans hxk)); (rintro v' w' ⟨hown2, hxk⟩)))
      all_goals
        go_wp2_with fail
        go_meet
        case rel => exact ⟨hown2.own (by omega), hxk⟩
    case rest =>
      obtain ⟨hown6, hx6⟩ := hcut
      clear HA1 HA2 HAP4 HAP5
      go_upto_if 58 with fail
      go_cut [12] from 42 (fun v wr => ∃ n : Nat, n ≤ 60 ∧ (oddL (xs ++ ys) k c).length = n ∧ Own wr w5.heap.size 31 3 v n (spCells (oddL (xs ++ ys) k c)) ∧ Ext w5 wr)
      case first =>
        by_cases hlt : k < N
        · have dn : decide (k < N) = true := by rw [decide_eq_true_eq]; exact hlt
          have hkl : k < (xs ++ ys).length := by have := HLA.out; omega
          obtain ⟨b, off, rfl, hb, r0, r1, r2⟩ := sp_at (HRA.out.ext hx6) HLA.out hlt
          have hsm := HMA.out _ (List.getElem_mem hkl)
          have hodd : oddL (xs ++ ys) k c = ((xs ++ ys).take k ++ [(c, 0, ⟨#[]⟩)]) ++ ([cut1 (xs ++ ys)[k], cut2 (xs ++ ys)[k]] ++ (xs ++ ys).drop (k + 1)) := by unfold oddL; rw [dif_pos hkl]
          have hmt := may_text hsm
          unfold cut1 cut2 at hodd
          generalize (xs ++ ys)[k].1 = a1 at *
          generalize (xs ++ ys)[k].2.1 = a2 at *
          generalize (xs ++ ys)[k].2.2 = a3 at *
          obtain ⟨u6, c6, rfl, _⟩ := hown6.len
          have p2 : 0 ≤ a2 ∧ a2 ≤ 1048576 := by rcases hmt with ⟨_, h, _⟩ | ⟨_, h1, h2, _⟩ <;> omega
          obtain ⟨hf, hhf⟩ : ∃ hf, a2 / 2 = hf := ⟨_, rfl⟩
          have hq : a2.tdiv 2 = hf := by rw [Int.tdiv_eq_ediv_of_nonneg p2.1]; exact hhf
          have f0 : 0 ≤ hf := by omega
          have f1 : hf ≤ a2 := by omega
          have p3 : 0 ≤ a2 := p2.1
          have p4 : a2 ≤ 1048576 := p2.2
          obtain ⟨rm, hrm⟩ : ∃ rm, a2 - hf = rm := ⟨_, rfl⟩
          have i3 : (k : Int) < (N : Int) := by omega
          have i4 : ((k : Int) + 1) ≤ (N : Int) := by omega
          have i5 : (0 : Int) ≤ (k : Int) + 1 := by omega
          have hw1 : IntKind.i64.wrap ((k : Int) + 1) = (k : Int) + 1 := by rw [IntKind.wrap_i64]; omega
          have i6 : (N : Int) ≤ (c5 : Int) := by omega
          obtain ⟨T1, hT1⟩ : ∃ T1 : ByteArray, (if a1 = 2 then ⟨#[]⟩ else a3) = T1 := ⟨_, rfl⟩
          rw [hhf, hrm, hT1] at hodd
          have HODD := Lib.hid hodd
          have HOWN6 := Lib.hid hown6; have HX6 := Lib.hid hx6
          have hrdd : Rd w5 3 (.slice (if c5 = k + 1 then some ⟨b, off, none⟩ else some ⟨b, off + (k + 1) * 3, none⟩) (N - (k + 1)) (c5 - (k + 1))) (N - (k + 1)) (spCells ((xs ++ ys).drop (k + 1))) := rd_drop' HRA.out HLA.out (by omega) (by omega)
          obtain ⟨AD, hAD⟩ : ∃ AD : Option Addr, (if c5 = k + 1 then some ⟨b, off, none⟩ else some ⟨b, off + (k + 1) * 3, none⟩) = AD := ⟨_, rfl⟩
          rw [hAD] at hrdd
          have HB1 : Hid (∀ (W : World) (H : Nat), Ext wc W → Rd W 3 (.slice (some ⟨H, 0, none⟩) 2 2) 2 [.int .i64 a1, .int .i64 hf, .string T1, .int .i64 a1, .int .i64 rm, .string a3] → ∃ v' w', (Builtin.append_ #[22, 22] 22 #[.slice u6 (k + 1) c6, .slice (some ⟨H, 0, none⟩) 2 2]).run Try.prog W = .ok v' w' ∧ (Own w' w5.heap.size 31 3 v' (k + 1 + 2) (spCells ((xs ++ ys).take k ++ [(c, 0, ⟨#[]⟩)] ++ [(a1, hf, T1), (a1, rm, a3)])) ∧ Ext w5 w')) := Lib.hid fun W H hx hr => by
            obtain ⟨v', w', h1, h2, h3⟩ := app_rd (P := Try.prog) 22 22 31 i _ 3 32 Try.underlying22 hi hz0 hz1 hz2 rfl (by omega) (by omega)
              (HX6.out.trans hx) (HOWN6.out.ext hx) (by omega) hr (by omega) (by simp [Value.oneCell'])
            rw [spCells_append]
            exact ⟨v', w', h1, h2, h3⟩
          have HB2 : Hid (∀ (W : World) (v : Value), Own W w5.heap.size 31 3 v (k + 1 + 2) (spCells ((xs ++ ys).take k ++ [(c, 0, ⟨#[]⟩)] ++ [(a1, hf, T1), (a1, rm, a3)])) → Ext w5 W → ∃ v' w', (Builtin.append_ #[22, 22] 22 #[v, .slice AD (N - (k + 1)) (c5 - (k + 1))]).run Try.prog W = .ok v' w' ∧ ((∃ n : Nat, n ≤ 60 ∧ (oddL (xs ++ ys) k c).length = n ∧ Own w' w5.heap.size 31 3 v' n (spCells (oddL (xs ++ ys) k c))) ∧ Ext w5 w')) := Lib.hid fun W v ho hx => by
            obtain ⟨v', w', h1, h2, h3⟩ := app_rd (P := Try.prog) 22 22 31 i _ 3 32 Try.underlying22 hi hz0 hz1 hz2 rfl (by omega) (by omega)
              hx ho (by omega) (hrdd.ext hx) (by omega) (spCells_one _)
            rw [← spCells_append, List.append_assoc, ← HODD.out] at h2
            exact ⟨v', w', h1, ⟨_, by omega, by rw [HODD.out]; simp [HLA.out]; omega, h2⟩, h3⟩
          clear hodd hsm hown6
          rcases hmt with ⟨k1, n1, _⟩ | ⟨k1, _, _, t1⟩
          · subst k1
            rw [if_pos rfl] at hT1
            subst hT1
            clear hhf p2 n1
            go_wp2_with fail
            go_region_law (first
              | ((refine step_append_ex (by rfl) _ _ _ (by rfl) (by rfl) (by rfl) (HB1.out _ _ ?_ ?_) ?_); (repeat (first | exact Ext.refl _ | apply Ext.drew | apply Ext.alloc)); (first | exact rd_made6 (by simp) (Ext.refl _) | exact rd_made6 (by simp) (Ext.refl _).drew); (rintro v' w' ⟨hown7, hxk⟩))
              | ((refine step_append_ex (by rfl) _ _ _ (by rfl) (by rfl) (by rfl) (HB2.out _ _ hown7 hxk) ?_); (rintro v' w' ⟨hown8, hxj⟩))
              | fail)
            all_goals
              go_wp2_with fail
              go_meet
              case rel => exact ⟨_, hown8.choose_spec.1, hown8.choose_spec.2.1, hown8.choose_spec.2.2, hxj⟩
          · have hb : (a1 == 2) = false := by rw [beq_eq_false_iff_ne]; omega
            rw [if_neg (by omega)] at hT1
            subst hT1
            clear hhf k1 t1
            go_wp2_with fail
            go_region_law (first
              | ((refine step_append_ex (by rfl) _ _ _ (by rfl) (by rfl) (by rfl) (HB1.out _ _ ?_ ?_) ?_); (repeat (first | exact Ext.refl _ | apply Ext.drew | apply Ext.alloc)); (first | exact rd_made6 (by simp) (Ext.refl _) | exact rd_made6 (by simp) (Ext.refl _).drew); (rintro v' w' ⟨hown7, hxk⟩))
              | ((refine step_append_ex (by rfl) _ _ _ (by rfl) (by rfl) (by rfl) (HB2.out _ _ hown7 hxk) ?_); (rintro v' w' ⟨hown8, hxj⟩))
              | fail)
            all_goals
              go_wp2_with fail
              go_meet
              case rel => exact ⟨_, hown8.choose_spec.1, hown8.choose_spec.2.1, hown8.choose_spec.2.2, hxj⟩
        · have dn : decide (k < N) = false := by rw [decide_eq_false_iff_not]; exact hlt
          have hkl : ¬ k < (xs ++ ys).length := by have := HLA.out; omega
          have hodd : oddL (xs ++ ys) k c = (xs ++ ys).take k ++ [(c, 0, ⟨#[]⟩)] := by unfold oddL; rw [dif_neg hkl, List.append_nil]
          go_wp2_with fail
          go_meet
          case rel => exact ⟨k + 1, by omega, by rw [hodd, List.length_append, List.length_take, HLA.out, Nat.min_eq_left (by omega)]; rfl, by rw [hodd]; exact hown6, hx6⟩
      case rest =>
        obtain ⟨n, hn60, hlen, hown, hx7⟩ := hcut
        obtain ⟨u6, c6, rfl, _⟩ := hown.len
        have HOO := Lib.hid (odd_ok (xs ++ ys) k c HMA.out HOA.out)
        have HON1 := Lib.hid (odd_norm (xs ++ ys) k c HMA.out)
        have HROD := Lib.hid hown.rd; have HLOD := Lib.hid hlen; have HX7 := Lib.hid hx7
        have HW : Hid (∀ w', Ext w5 w' → _) := Lib.hid fun w' hx => of5_c a5 N c5 (xs ++ ys) w' (HRA.out.ext hx) HLA.out (by omega) HOA.out
        have HWO : Hid (∀ w', Ext wc w' → _) := Lib.hid fun w' hx => of5_c u6 n c6 (oddL (xs ++ ys) k c) w' (HROD.out.ext hx) HLOD.out (by omega) HOO.out
        have HPX : Hid (∀ w', Ext w5 w' → _) := Lib.hid fun w' hx => of5_c a2 nx c2 xs w' (HRX.out.ext hx) HNX.out (by omega) HOX.out
        have HPY : Hid (∀ w', Ext w5 w' → _) := Lib.hid fun w' hx => of5_c a3 ny c3 ys w' (HRY.out.ext hx) HNY.out (by omega) HOY.out
        rw [HON1.out] at HWO
        have hL40 : (normL (xs ++ ys)).length ≤ 40 := by have := norm_len (xs ++ ys); have := HLA.out; omega
        have hX40 : (normL xs).length ≤ 40 := by have := norm_len xs; have := HNX.out; omega
        have hY40 : (normL ys).length ≤ 40 := by have := norm_len ys; have := HNY.out; omega
        have HXY : Hid (∀ A k c w', (normL xs ++ normL ys).length = k → Rd w' 3 (.slice A k c) k (spCells (normL xs ++ normL ys)) → _) := Lib.hid fun A k c w' hk hr => of5_c A k c (normL xs ++ normL ys) w' hr hk (by have h := hk; rw [List.length_append] at h; omega) HON.out
        rw [HNP.out] at HXY
        clear hown hlen HOO HON1 HON HNP HMA HOA HLA HRA HLOD HROD HOX HOY HNX HNY HRX HRY
        generalize normL (xs ++ ys) = L at *
        generalize normL xs = X at *
        generalize normL ys = Y at *
        obtain ⟨nL, hnL⟩ : ∃ nL, L.length = nL := ⟨_, rfl⟩
        obtain ⟨nX, hnX⟩ : ∃ nX, X.length = nX := ⟨_, rfl⟩
        obtain ⟨nY, hnY⟩ : ∃ nY, Y.length = nY := ⟨_, rfl⟩
        rw [hnL] at HW HWO HXY hL40
        rw [hnX] at HPX hX40
        rw [hnY] at HPY hY40
        have HNL := Lib.hid hnL; have HNX := Lib.hid hnX; have HNY := Lib.hid hnY
        clear hnL hnX hnY
        go_wp2_with fail
        refine (HW.out _ hx7).mono ?_; rintro e w8 ⟨v8, rfl, hx8, hown8⟩
        obtain ⟨a8, c8, rfl, _⟩ := hown8.len
        have HR8 := Lib.hid hown8.rd
        clear hown8
        go_wp2_with fail
        refine (HWO.out _ hx8).mono ?_; rintro e w9 ⟨v9, rfl, hx9, hown9⟩
        obtain ⟨a9, c9, rfl, _⟩ := hown9.len
        have HR9 := Lib.hid hown9.rd
        clear hown9
        go_wp2_with fail
        refine (sameR4_c _ _ _ _ _ L w9 HR9.out (HR8.out.ext hx9) HNL.out (by omega)).mono ?_; rintro e wA ⟨rfl, hxA⟩
        have e7A : Ext w5 wA := ((hx7.trans hx8).trans hx9).trans hxA
        go_wp2_with fail
        refine (HPX.out _ e7A).mono ?_; rintro e wB ⟨vB, rfl, hxB, hownB⟩
        obtain ⟨aB, cB, rfl, _⟩ := hownB.len
        go_wp2_with fail
        refine (HPY.out _ (e7A.trans hxB)).mono ?_; rintro e wC ⟨vC, rfl, hxC, hownC⟩
        obtain ⟨aC, cC, rfl, _⟩ := hownC.len
        obtain ⟨vD, wD, happD, hownD, hbelD⟩ := app_rd (P := Try.prog) 22 22 31 i _ 3 32 Try.underlying22 hi hz0 hz1 hz2 rfl (by omega) (by omega)
          (hxB.trans hxC) (hownB.ext hxC) (by omega) hownC.rd (by omega) (spCells_one Y)
        rw [← spCells_append] at hownD
        obtain ⟨aD, cD, rfl, _⟩ := hownD.len
        have HRD := Lib.hid hownD.rd; have HAPD := Lib.hid happD
        have hbD : Ext wA wD := hbelD
        clear hownD happD hownB hownC hbelD
        go_wp2_with (at_builtin; first | (with_reducible refine wpList_append_g ?_ rfl HAPD.out rfl rfl ?_) | (with_reducible refine wpList_append_run rfl rfl HAPD.out rfl rfl ?_))
        refine (HXY.out _ _ _ wD (by rw [List.length_append, HNX.out, HNY.out]) HRD.out).mono ?_; rintro e wE ⟨vE, rfl, hxE, hownE⟩
        obtain ⟨aE, cE, rfl, _⟩ := hownE.len
        have HRE := Lib.hid hownE.rd
        clear hownE
        go_wp2_with fail
        refine (sameR4_c _ _ _ _ _ L wE HRE.out (HR8.out.ext (((hx9.trans hxA).trans hbD).trans hxE)) HNL.out (by omega)).mono ?_; rintro e wF ⟨rfl, hxF⟩
        go_wp2_with fail
        go_ret
        exact ⟨rfl, (((((Ext.refl w).alloc _).trans HXB5.out).trans e7A).trans (hbD.trans hxE)).trans hxF⟩
end Go.Proofs.Ythlhjjgmncbplaa
