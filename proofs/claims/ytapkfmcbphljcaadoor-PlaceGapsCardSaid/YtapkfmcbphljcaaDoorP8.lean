/- Layer 8, the program: may, Where, Least. -/
import Derived.Test.YtapkfmcbphljcaaDoorP8i
namespace Go.Proofs.YtapkfmcbphljcaaDoor
open Go.RowKit Go.Shelf
set_option maxRecDepth 100000
set_option maxHeartbeats 4000000
theorem mayIn8_c (A : Option Addr) (q c : Nat) (l : List Sp) (g : Int) (w : World) [Tab w] (h : Rd w 3 (.slice A q c) q (spCells l)) (hl : l.length = q) (hq : q ≤ 1000) (hts : ∀ s ∈ l, s.2.2.size ≤ 1000000000) (g0 : -9223372036854775808 ≤ g) (g1 : g ≤ 9223372036854775807) :
    Calls Tryd.prog 20 #[.slice A q c, .int .i64 g, .func (.func 17) #[] #[]] w fun e w' => e = .returned (.int .i64 (whereE l g)) ∧ Ext w w' := by
  have HM : Hid (∀ w', Ext w w' → _) := Lib.hid fun w' hx => have hTb := tab_ext hx; may4_c A q c l w' (h.ext hx) hl hq hts
  have HI : Hid (∀ w', Ext w w' → _) := Lib.hid fun w' hx => have hTb := tab_ext hx; in4_c A q c l w' (h.ext hx) hl hq
  by_cases hm : mayL l = 0
  · obtain ⟨hall, hi0, hi1⟩ := mayL_all hm (by omega)
    have hok : ∀ s ∈ l, OkW s := fun s hs => okW_of_may (hall s hs)
    have hwi : wrap64 (inL l) = inL l := by unfold wrap64; omega
    rw [hm] at HM
    rw [hwi] at HI
    have hE : whereE l g = if 0 ≤ g ∧ g ≤ inL l then 0 else 6 := by unfold whereE; rw [if_pos hm]
    have hIL : 0 ≤ inL l ∧ inL l ≤ 2000000000 := by omega
    clear h hl hts hm hall hok hwi hi0 hi1
    rw [hE]
    clear hE
    generalize inL l = IL at *
    rcases (by omega : (0 ≤ g ∧ g ≤ IL) ∨ g < 0 ∨ (0 ≤ g ∧ IL < g)) with ⟨hr, hr2⟩ | hr | ⟨hr, hr2⟩
    · rw [if_pos ⟨hr, hr2⟩]
      go_enter Tryd.func20, Tryd.ntmps20
      go_wp2_with fail
      refine (HM.out _ (Ext.refl _)).mono ?_; rintro e w1 ⟨rfl, hx1⟩
      go_wp2_with fail
      refine (HI.out _ hx1).mono ?_; rintro e w2 ⟨rfl, hx2⟩
      go_wp2_with fail
      go_ret
      exact ⟨rfl, hx1.trans hx2⟩
    · rw [if_neg (by omega)]
      go_enter Tryd.func20, Tryd.ntmps20
      go_wp2_with fail
      refine (HM.out _ (Ext.refl _)).mono ?_; rintro e w1 ⟨rfl, hx1⟩
      go_wp2_with fail
      go_ret
      exact ⟨rfl, hx1⟩
    · rw [if_neg (by omega)]
      go_enter Tryd.func20, Tryd.ntmps20
      go_wp2_with fail
      refine (HM.out _ (Ext.refl _)).mono ?_; rintro e w1 ⟨rfl, hx1⟩
      go_wp2_with fail
      refine (HI.out _ hx1).mono ?_; rintro e w2 ⟨rfl, hx2⟩
      go_wp2_with fail
      go_ret
      exact ⟨rfl, hx1.trans hx2⟩
  · have hE : whereE l g = mayL l := by unfold whereE; rw [if_neg hm]
    have hb1 : (mayL l != 0) = true := by rw [bne_iff_ne]; exact hm
    have hb2 : (mayL l == 0) = false := by rw [beq_eq_false_iff_ne]; exact hm
    rw [hE]
    clear h hl hts hm hE HI
    generalize mayL l = ML at *
    go_enter Tryd.func20, Tryd.ntmps20
    go_wp2_with fail
    refine (HM.out _ (Ext.refl _)).mono ?_; rintro e w1 ⟨rfl, hx1⟩
    go_wp2_with fail
    go_ret
    exact ⟨rfl, hx1⟩
theorem mayOut8_c (A : Option Addr) (q c : Nat) (l : List Sp) (g : Int) (w : World) [Tab w] (h : Rd w 3 (.slice A q c) q (spCells l)) (hl : l.length = q) (hq : q ≤ 1000) (hts : ∀ s ∈ l, s.2.2.size ≤ 1000000000) (hT : sumT l ≤ 1000000000) (g0 : -9223372036854775808 ≤ g) (g1 : g ≤ 9223372036854775807) :
    Calls Tryd.prog 20 #[.slice A q c, .int .i64 g, .func (.func 16) #[] #[]] w fun e w' => e = .returned (.int .i64 (leastE l g)) ∧ Ext w w' := by
  have HM : Hid (∀ w', Ext w w' → _) := Lib.hid fun w' hx => have hTb := tab_ext hx; may4_c A q c l w' (h.ext hx) hl hq hts
  have HI : Hid (∀ w', Ext w w' → _) := Lib.hid fun w' hx => have hTb := tab_ext hx; out4_c A q c l w' (h.ext hx) hl hq hts
  by_cases hm : mayL l = 0
  · obtain ⟨hall, hi0, hi1⟩ := mayL_all hm (by omega)
    have hok : ∀ s ∈ l, OkW s := fun s hs => okW_of_may (hall s hs)
    have hob := outL_le l hok
    have hwi : wrap64 (outL l) = outL l := by unfold wrap64; omega
    rw [hm] at HM
    rw [hwi] at HI
    have hE : leastE l g = if 0 ≤ g ∧ g ≤ outL l then 0 else 6 := by unfold leastE; rw [if_pos hm]
    have hIL : 0 ≤ outL l ∧ outL l ≤ 2000000000 := by omega
    clear h hl hts hT hm hall hok hwi hob hi0 hi1
    rw [hE]
    clear hE
    generalize outL l = IL at *
    rcases (by omega : (0 ≤ g ∧ g ≤ IL) ∨ g < 0 ∨ (0 ≤ g ∧ IL < g)) with ⟨hr, hr2⟩ | hr | ⟨hr, hr2⟩
    · rw [if_pos ⟨hr, hr2⟩]
      go_enter Tryd.func20, Tryd.ntmps20
      go_wp2_with fail
      refine (HM.out _ (Ext.refl _)).mono ?_; rintro e w1 ⟨rfl, hx1⟩
      go_wp2_with fail
      refine (HI.out _ hx1).mono ?_; rintro e w2 ⟨rfl, hx2⟩
      go_wp2_with fail
      go_ret
      exact ⟨rfl, hx1.trans hx2⟩
    · rw [if_neg (by omega)]
      go_enter Tryd.func20, Tryd.ntmps20
      go_wp2_with fail
      refine (HM.out _ (Ext.refl _)).mono ?_; rintro e w1 ⟨rfl, hx1⟩
      go_wp2_with fail
      go_ret
      exact ⟨rfl, hx1⟩
    · rw [if_neg (by omega)]
      go_enter Tryd.func20, Tryd.ntmps20
      go_wp2_with fail
      refine (HM.out _ (Ext.refl _)).mono ?_; rintro e w1 ⟨rfl, hx1⟩
      go_wp2_with fail
      refine (HI.out _ hx1).mono ?_; rintro e w2 ⟨rfl, hx2⟩
      go_wp2_with fail
      go_ret
      exact ⟨rfl, hx1.trans hx2⟩
  · have hE : leastE l g = mayL l := by unfold leastE; rw [if_neg hm]
    have hb1 : (mayL l != 0) = true := by rw [bne_iff_ne]; exact hm
    have hb2 : (mayL l == 0) = false := by rw [beq_eq_false_iff_ne]; exact hm
    rw [hE]
    clear h hl hts hT hm hE HI
    generalize mayL l = ML at *
    go_enter Tryd.func20, Tryd.ntmps20
    go_wp2_with fail
    refine (HM.out _ (Ext.refl _)).mono ?_; rintro e w1 ⟨rfl, hx1⟩
    go_wp2_with fail
    go_ret
    exact ⟨rfl, hx1⟩
attribute [local go_sem] Oper.semAt_some
theorem whereOk_c (A : Option Addr) (q c : Nat) (l : List Sp) (g : Nat) (w : World) [Tab w] (h : Rd w 3 (.slice A q c) q (spCells l)) (hl : l.length = q) (hq : q ≤ 1000) (hok : ∀ s ∈ l, OkW s) (hin : tin (tok l) ≤ 1048576) (hout : tout (tok l) ≤ 2000000000) (hts : ∀ s ∈ l, s.2.2.size ≤ 1000000000) (hg : g ≤ 1048576)
    (HM : ∀ w', Ext w w' → Calls Tryd.prog 20 #[.slice A q c, .int .i64 (g : Int), .func (.func 17) #[] #[]] w' fun e w'' => e = .returned (.int .i64 0) ∧ Ext w' w'') :
    Calls Tryd.prog 9 #[.slice A q c, .int .i64 (g : Int)] w fun e w' => e = .returned (.tuple #[.int .i64 ((whereT (tok l) g : Nat) : Int), .int .i64 0]) ∧ Ext w w' := by
  replace HM := Lib.hid HM
  have HSEQ := Lib.hid (parts_stops A q c l w h hl hq hok hin hout hts)
  have HOK := Lib.hid hok; have HL := Lib.hid hl
  have hx0 := (Ext.refl w).alloc (.cells #[.int .i64 (g : Int)] 3)
  clear h hl hok hts
  refine (callsIn_wide (n := 6)).1 ?_
  refine callsIn_of_wp_marks Tryd.func9 rfl trivial ?_ rfl
  simp only [Tryd.ntmps9, List.size_toArray, List.length_cons, List.length_nil, Nat.reduceAdd, Nat.reduceSub, Array.replicate_succ, Array.replicate_zero, List.push_toArray, List.append_toArray, List.nil_append, List.cons_append]
  gi_wp2
  refine ⟨trivial, (callsIn_wide.2 (HM.out _ hx0)).mono ?_⟩; rintro e w1 ⟨rfl, hx1⟩
  have bG := Lib.hid ((BoxV.new w 3 #[.int .i64 (g : Int)]).ext hx1)
  gi_wp2
  refine ⟨trivial, (callsIn_wide.2 (parts_c _ _ _ _)).mono ?_⟩; rintro e w2 ⟨rfl, rfl⟩
  gi_wp2
  have bW := ((BoxV.new w1 3 #[.int .i64 0])).ext ((Ext.refl _).alloc (.cells #[.slice A q c] 22))
  have bS := BoxV.new (w1.alloc (.cells #[.int .i64 0] 3)) 22 #[.slice A q c]
  rw [World.size_alloc] at bS
  have hx2 : Ext w1 ((w1.alloc (.cells #[.int .i64 0] 3)).alloc (.cells #[.slice A q c] 22)) := ((Ext.refl w1).alloc _).alloc _
  have hz2 : ((w1.alloc (.cells #[.int .i64 0] 3)).alloc (.cells #[.slice A q c] 22)).heap.size = w1.heap.size + 2 := by rw [World.size_alloc, World.size_alloc]
  have hz1 := hx1.size
  rw [World.size_alloc] at hz1
  have bG2 := bG.out.ext hx2
  have hxw := (hx0.trans hx1).trans hx2
  obtain ⟨W0, hW0⟩ : ∃ W0, (w1.alloc (.cells #[.int .i64 0] 3)).alloc (.cells #[.slice A q c] 22) = W0 := ⟨_, rfl⟩
  rw [hW0] at bW bS hx2 hz2 bG2 hxw ⊢
  clear hW0 bG hx0 hx1
  have hsq := HSEQ.out 5 (w1.heap.size + 1) w1.heap.size (by omega) W0 hxw (by omega) bS
  generalize w1.heap.size = Bw at *
  have hU : ∀ j, (ptU l g j : Nat) ≤ 4000000000 := by
    intro j
    have h1 := ptG_le l j
    have h2 := tout_le_of_take l j
    unfold ptU ptV
    split <;> omega
  replace hU := Lib.hid hU
  refine wpIn_rangeFunc_ownH rfl (by omega) (gf := 40) (lb := #[.pointer (some ⟨Bw + 1, 0, none⟩)]) rfl trivial (enters_of Tryd.func40 (by kernel_rfl) rfl)
    hsq keepC_t (keepC_b (by omega)) (Below.refl _ _) (fun _ => rfl)
    (fun pre W => ((BoxV W Bw 3 #[.int .i64 (lastU (ptU l g) pre : Nat)] ∧ BoxV W w.heap.size 3 #[.int .i64 (g : Int)]) ∧ (∀ j ∈ pre, ptT l j ≤ g)) ∧ Below w.heap.size w W)
    (fun cd pre W => ((∃ pr j, pre = pr ++ [j] ∧ cd = .exit 0 ∧ g < ptT l j ∧ (∀ i ∈ pr, ptT l i ≤ g) ∧ BoxV W Bw 3 #[.int .i64 (lastU (ptU l g) pr : Nat)])) ∧ Below w.heap.size w W)
    (OwnFrom.and (OwnFrom.and (OwnFrom.and (Go.Own.from (boxV_own _ _ _) _) (Go.Own.from (boxV_own _ _ _) _)) (ownFrom_pure _ _)) (ownFrom_below (Nat.le_refl _) (by omega)))
    (fun cd => OwnFrom.and (Go.Own.from (fun s X Y row hs hgr hrow => by
      obtain ⟨pr, j, h1, h2, h3, h4, h5⟩ := hs
      exact ⟨pr, j, h1, h2, h3, h4, boxV_own Bw _ (fun (_ : Unit) => #[.int .i64 (lastU (ptU l g) pr : Nat)]) () X Y row h5 hgr hrow⟩) _) (ownFrom_below (Nat.le_refl _) (by omega)))
    ⟨⟨⟨bW, bG2⟩, fun j hj => by cases hj⟩, hxw⟩
    (fun j a' W => ∃ Bx, Bw < Bx ∧ BoxV W Bx 49 #[.bool (ptK l j), .int .i64 (ptG l j), .int .i64 (ptT l j), .int .i64 (ptV l j)] ∧ a' = { tmps := #[.slice A q c, .int .i64 (g : Int), undef, .pointer (some ⟨w.heap.size, 0, none⟩), .int .i64 0, .int .i64 0, .int .i64 0, .pointer (some ⟨Bw, 0, none⟩), .pointer (some ⟨Bx, 0, none⟩), .slice A q c, .int .i64 (g : Int), .int .i64 0, .int .i64 0, .bool false, undef, .slice A q c, .func (.func 40) #[] #[.pointer (some ⟨Bw + 1, 0, none⟩)], ptVal l j, undef, undef, undef, undef, undef, undef, undef, undef], defers := [] })
    (fun j a' _ X Y row hs hgr hrow => by obtain ⟨Bx, h1, h2, h3⟩ := hs; exact ⟨Bx, h1, boxV_own Bx _ (fun (_ : Unit) => #[.bool (ptK l j), .int .i64 (ptG l j), .int .i64 (ptT l j), .int .i64 (ptV l j)]) () X Y row h2 hgr (fun r e => (hrow r e).2), h3⟩)
    ?assign ?body ?done ?stop
  case assign =>
    rintro lk pre j W K ⟨⟨⟨b1, b2⟩, hp⟩, hB⟩ hK
    unfold ptVal at *
    gi_wp2
    have hx : Ext W (W.alloc (.cells #[.bool (ptK l j), .int .i64 (ptG l j), .int .i64 (ptT l j), .int .i64 (ptV l j)] 49)) := (Ext.refl W).alloc _
    refine hK _ _ ((KeepsOthers.alloc _ _).from _) (KeepC.of_ext hB.size hx) ⟨⟨⟨b1.ext hx, b2.ext hx⟩, hp⟩, hB.alloc hB.size _⟩ ⟨W.heap.size, b1.lt, BoxV.new W _ _, rfl⟩
  case body =>
    rintro lk pre j a' W hl ⟨r, hr⟩ ⟨⟨⟨b1, b2⟩, hp⟩, hB⟩ ⟨Bx, hBx, bX, rfl⟩ hlt
    have c0 : W.cell? ⟨Bx, 0, none⟩ = some (.bool (ptK l j)) := bX.cell rfl
    have c1 : W.cell? ⟨Bx, 1, none⟩ = some (.int .i64 (ptG l j)) := bX.cell rfl
    have c2 : W.cell? ⟨Bx, 2, none⟩ = some (.int .i64 (ptT l j)) := bX.cell rfl
    have c3 : W.cell? ⟨Bx, 3, none⟩ = some (.int .i64 (ptV l j)) := bX.cell rfl
    have cG : W.cell? ⟨w.heap.size, 0, none⟩ = some (.int .i64 (g : Int)) := b2.cell rfl
    have hgl := ptG_le l j
    have hvl : ptV l j ≤ tout (tok l) := tout_le_of_take l j
    have htl : ptT l j ≤ tin (tok l) := tin_le_of_take l j
    by_cases hgt : g < ptT l j
    · have dn : decide (g < ptT l j) = true := by rw [decide_eq_true_eq]; exact hgt
      gi_wp2
      exact ⟨KeepsFrom.refl _ _, ⟨pre, j, rfl, rfl, hgt, hp, b1⟩, hB⟩
    · have dn : decide (g < ptT l j) = false := by rw [decide_eq_false_iff_not]; exact hgt
      have hUT := Lib.hid (upTo_c (ptK l j) (ptG l j) (ptT l j) (ptV l j) g W (by omega) (by omega) (by omega) hg)
      have hUj := hU.out j
      have hls : Hid (lastU (ptU l g) (pre ++ [j]) = ptU l g j) := Lib.hid (lastU_snoc _ _ _)
      change Hid (Calls _ _ _ _ fun e w' => e = .returned (.int .i64 ((ptU l g j : Nat) : Int)) ∧ Ext W w') at hUT
      generalize ptU l g j = u at *
      gi_wp2
      refine ⟨trivial, (CallsIn.inRound lk (callsIn_wide.2 hUT.out)).mono ?_⟩; rintro e W5 ⟨rfl, hx5⟩
      have b15 := b1.ext hx5
      have cW : W5.cell? ⟨Bw, 0, none⟩ = some (.int .i64 (lastU (ptU l g) pre : Nat)) := b15.cell rfl
      have fW := b15.frozen 0
      gi_wp2
      refine ⟨((others_ext hx5).trans (KeepsOthers.setCell _ _ _)).from _, keepC_t (KeepC.of_ext hB.size hx5) (keepC_set _ (by omega) _), ⟨⟨⟨?_, (b2.ext hx5).other (by omega) _⟩, ?_⟩, ?_⟩⟩
      · rw [hls.out]; exact boxV_set _ _ b15
      · intro i hi
        rcases List.mem_append.1 hi with hi | hi
        · exact hp i hi
        · rw [List.mem_singleton] at hi; subst hi; omega
      · exact (Below.trans hB (Below.mono hx5 hB.size)).setCell (by simp; omega) _
  case done =>
    rintro D ys W hD rfl ⟨⟨⟨b1, b2⟩, hp⟩, hB⟩ hK
    have cW : W.cell? ⟨Bw, 0, none⟩ = some (.int .i64 (lastU (ptU l g) (List.range q) : Nat)) := b1.cell rfl
    gi_wp2
    refine ⟨by simp, .inl ⟨_, _, rfl, run_takeDeferred hK, ?_⟩⟩
    refine ⟨_, results_tmp2 rfl _ _ _, ?_, hB.trans (belowK_b (w := w) (Nat.le_refl _) W D _ _ (by omega) hK rfl rfl)⟩
    have := where_all l g HOK.out (by rw [HL.out]; exact hp)
    rw [HL.out] at this
    rw [← this]
    rfl
  case stop =>
    rintro D cd pre W hD ⟨k, hk, hpre⟩ ⟨⟨pr, j, h1, rfl, h3, h4, b1⟩, hB⟩ hK
    have cW : W.cell? ⟨Bw, 0, none⟩ = some (.int .i64 (lastU (ptU l g) pr : Nat)) := b1.cell rfl
    gi_wp2
    refine ⟨by simp, .inl ⟨_, _, rfl, run_takeDeferred hK, ?_⟩⟩
    refine ⟨_, results_tmp2 rfl _ _ _, ?_, hB.trans (belowK_b (w := w) (Nat.le_refl _) W D _ _ (by omega) hK rfl rfl)⟩
    rw [h1] at hpre
    obtain ⟨rfl, hpr⟩ := range_snoc hpre
    rw [hpr] at h4 ⊢
    rw [← where_stop l g j HOK.out (by have := HL.out; omega) h4 h3]
    rfl
theorem whereP_c (A : Option Addr) (q c : Nat) (l : List Sp) (g : Int) (w : World) [Tab w] (h : Rd w 3 (.slice A q c) q (spCells l)) (hl : l.length = q) (hq : q ≤ 1000) (hts : ∀ s ∈ l, s.2.2.size ≤ 1000000000) (hT : sumT l ≤ 1000000000) (g0 : -9223372036854775808 ≤ g) (g1 : g ≤ 9223372036854775807) :
    Calls Tryd.prog 9 #[.slice A q c, .int .i64 g] w fun e w' => e = .returned (whereV l g) ∧ Ext w w' := by
  have HM : Hid (∀ w', Ext w w' → _) := Lib.hid fun w' hx => have hTb := tab_ext hx; mayIn8_c A q c l g w' (h.ext hx) hl hq hts g0 g1
  by_cases he : whereE l g = 0
  · have hm : mayL l = 0 := by
      unfold whereE at he
      by_cases hm : mayL l = 0
      · exact hm
      · rw [if_neg hm] at he; exact absurd he hm
    have hr : 0 ≤ g ∧ g ≤ inL l := by
      unfold whereE at he
      rw [if_pos hm] at he
      by_cases hr : 0 ≤ g ∧ g ≤ inL l
      · exact hr
      · rw [if_neg hr] at he; exact absurd he (by decide)
    obtain ⟨hall, hi0, hi1⟩ := mayL_all hm (by omega)
    have hok : ∀ s ∈ l, OkW s := fun s hs => okW_of_may (hall s hs)
    have htin := tin_ok l hok
    have hob := outL_le l hok
    obtain ⟨G, rfl⟩ := Int.eq_ofNat_of_zero_le hr.1
    rw [where_ok hm hr.1 hr.2, Int.toNat_natCast]
    rw [he] at HM
    exact whereOk_c A q c l G w h hl hq hok (by omega) (by omega) hts (by omega) HM.out
  · have hV : whereV l g = .tuple #[.int .i64 0, .int .i64 (whereE l g)] := by unfold whereV; rw [if_neg he]
    have hb1 : (whereE l g != 0) = true := by rw [bne_iff_ne]; exact he
    have hb2 : (whereE l g == 0) = false := by rw [beq_eq_false_iff_ne]; exact he
    rw [hV]
    have hx0 := (Ext.refl w).alloc (.cells #[.int .i64 g] 3)
    clear h hl hts hT he hV
    generalize whereE l g = E at *
    go_enter Tryd.func9, Tryd.ntmps9
    go_wp2_with fail
    refine (HM.out _ hx0).mono ?_; rintro e w1 ⟨rfl, hx1⟩
    go_wp2_with fail
    go_ret2
    exact ⟨rfl, hx0.trans hx1⟩
theorem leastOk_c (A : Option Addr) (q c : Nat) (l : List Sp) (g : Nat) (w : World) [Tab w] (h : Rd w 3 (.slice A q c) q (spCells l)) (hl : l.length = q) (hq : q ≤ 1000) (hok : ∀ s ∈ l, OkW s) (hin : tin (tok l) ≤ 1048576) (hout : tout (tok l) ≤ 2000000000) (hts : ∀ s ∈ l, s.2.2.size ≤ 1000000000) (hg : g ≤ tout (tok l))
    (HM : ∀ w', Ext w w' → Calls Tryd.prog 20 #[.slice A q c, .int .i64 (g : Int), .func (.func 16) #[] #[]] w' fun e w'' => e = .returned (.int .i64 0) ∧ Ext w' w'') :
    Calls Tryd.prog 11 #[.slice A q c, .int .i64 (g : Int)] w fun e w' => e = .returned (.tuple #[.int .i64 ((leastT (tok l) g : Nat) : Int), .int .i64 0]) ∧ Ext w w' := by
  replace HM := Lib.hid HM
  have HSEQ := Lib.hid (parts_stops A q c l w h hl hq hok hin hout hts)
  have HOK := Lib.hid hok; have HL := Lib.hid hl
  have hx0 := (((Ext.refl w).alloc (.cells #[.int .i64 (g : Int)] 3)).alloc (.cells #[.int .i64 0] 3)).alloc (.cells #[.int .i64 0] 25)
  have bG := (BoxV.new w 3 #[.int .i64 (g : Int)]).ext (((Ext.refl _).alloc (.cells #[.int .i64 0] 3)).alloc (.cells #[.int .i64 0] 25))
  have b4 := (BoxV.new (w.alloc (.cells #[.int .i64 (g : Int)] 3)) 3 #[.int .i64 0]).ext ((Ext.refl _).alloc (.cells #[.int .i64 0] 25))
  have b5 := BoxV.new ((w.alloc (.cells #[.int .i64 (g : Int)] 3)).alloc (.cells #[.int .i64 0] 3)) 25 #[.int .i64 0]
  have hz0 : (((w.alloc (.cells #[.int .i64 (g : Int)] 3)).alloc (.cells #[.int .i64 0] 3)).alloc (.cells #[.int .i64 0] 25)).heap.size = w.heap.size + 3 := by rw [World.size_alloc, World.size_alloc, World.size_alloc]
  simp only [World.size_alloc] at b4 b5
  replace bG := Lib.hid bG; replace b4 := Lib.hid b4; replace b5 := Lib.hid b5; replace hz0 := Lib.hid hz0
  clear h hl hok hts
  refine (callsIn_wide (n := 6)).1 ?_
  refine callsIn_of_wp_marks Tryd.func11 rfl trivial ?_ rfl
  simp only [Tryd.ntmps11, List.size_toArray, List.length_cons, List.length_nil, Nat.reduceAdd, Nat.reduceSub, Array.replicate_succ, Array.replicate_zero, List.push_toArray, List.append_toArray, List.nil_append, List.cons_append]
  gi_wp2
  refine ⟨trivial, (callsIn_wide.2 (HM.out _ hx0)).mono ?_⟩; rintro e w1 ⟨rfl, hx1⟩
  replace bG := Lib.hid (bG.out.ext hx1); replace b4 := Lib.hid (b4.out.ext hx1); replace b5 := Lib.hid (b5.out.ext hx1)
  gi_wp2
  refine ⟨trivial, (callsIn_wide.2 (parts_c _ _ _ _)).mono ?_⟩; rintro e w2 ⟨rfl, rfl⟩
  gi_wp2
  have hx2 : Ext w1 (w1.alloc (.cells #[.slice A q c] 22)) := (Ext.refl w1).alloc _
  have bS := BoxV.new w1 22 #[.slice A q c]
  have hz2 : (w1.alloc (.cells #[.slice A q c] 22)).heap.size = w1.heap.size + 1 := World.size_alloc _ _
  have hz1 := hx1.size
  rw [hz0.out] at hz1
  have bG2 := bG.out.ext hx2; have b42 := b4.out.ext hx2; have b52 := b5.out.ext hx2
  have hxw := (hx0.trans hx1).trans hx2
  obtain ⟨W0, hW0⟩ : ∃ W0, w1.alloc (.cells #[.slice A q c] 22) = W0 := ⟨_, rfl⟩
  rw [hW0] at bS hx2 hz2 bG2 b42 b52 hxw ⊢
  clear hW0 bG b4 b5 hx0 hx1 hz0
  have hsq := HSEQ.out 5 w1.heap.size (w.heap.size + 1) (by omega) W0 hxw (by omega) bS
  generalize w1.heap.size = Bs at *
  refine wpIn_rangeFunc_ownH rfl (by omega) (gf := 40) (lb := #[.pointer (some ⟨Bs, 0, none⟩)]) rfl trivial (enters_of Tryd.func40 (by kernel_rfl) rfl)
    hsq keepC_t (keepC_b (by omega)) (Below.refl _ _) (fun _ => rfl)
    (fun pre W => (((BoxV W (w.heap.size + 1) 3 #[.int .i64 0] ∧ BoxV W (w.heap.size + 1 + 1) 25 #[.int .i64 0]) ∧ BoxV W w.heap.size 3 #[.int .i64 (g : Int)]) ∧ (∀ j ∈ pre, ptV l j + ptG l j < g)) ∧ Below w.heap.size w W)
    (fun cd pre W => (∃ pr j, pre = pr ++ [j] ∧ cd = .ret ∧ g ≤ ptV l j + ptG l j ∧ (∀ i ∈ pr, ptV l i + ptG l i < g) ∧ BoxV W (w.heap.size + 1) 3 #[.int .i64 (ptR l g j)] ∧ BoxV W (w.heap.size + 1 + 1) 25 #[.int .i64 0]) ∧ Below w.heap.size w W)
    (OwnFrom.and (OwnFrom.and (OwnFrom.and (OwnFrom.and (Go.Own.from (boxV_own _ _ (fun _ => #[.int .i64 0])) _) (Go.Own.from (boxV_own _ _ (fun _ => #[.int .i64 0])) _)) (Go.Own.from (boxV_own _ _ (fun _ => #[.int .i64 (g : Int)])) _)) (ownFrom_pure _ _)) (ownFrom_below (Nat.le_refl _) (by omega)))
    (fun cd => OwnFrom.and (Go.Own.from (fun s X Y row hs hgr hrow => by
      obtain ⟨pr, j, h1, h2, h3, h4, h5, h6⟩ := hs
      exact ⟨pr, j, h1, h2, h3, h4, boxV_own (w.heap.size + 1) _ (fun (_ : Unit) => #[.int .i64 (ptR l g j)]) () X Y row h5 hgr hrow, boxV_own (w.heap.size + 1 + 1) _ (fun (_ : Unit) => #[.int .i64 0]) () X Y row h6 hgr hrow⟩) _) (ownFrom_below (Nat.le_refl _) (by omega)))
    ⟨⟨⟨⟨b42, b52⟩, bG2⟩, fun j hj => by cases hj⟩, hxw⟩
    (fun j a' W => ∃ Bx, BoxV W Bx 49 #[.bool (ptK l j), .int .i64 (ptG l j), .int .i64 (ptT l j), .int .i64 (ptV l j)] ∧ a' = { tmps := #[.slice A q c, .int .i64 (g : Int), undef, .pointer (some ⟨w.heap.size, 0, none⟩), .pointer (some ⟨w.heap.size + 1, 0, none⟩), .pointer (some ⟨w.heap.size + 1 + 1, 0, none⟩), .int .i64 0, .pointer (some ⟨Bx, 0, none⟩), .slice A q c, .int .i64 (g : Int), .int .i64 0, .int .i64 0, .bool false, undef, .slice A q c, .func (.func 40) #[] #[.pointer (some ⟨Bs, 0, none⟩)], ptVal l j, undef, undef, undef, undef, undef, undef, undef, undef, undef, undef], defers := [] })
    (fun j a' _ X Y row hs hgr hrow => by obtain ⟨Bx, h2, h3⟩ := hs; exact ⟨Bx, boxV_own Bx _ (fun (_ : Unit) => #[.bool (ptK l j), .int .i64 (ptG l j), .int .i64 (ptT l j), .int .i64 (ptV l j)]) () X Y row h2 hgr (fun r e => (hrow r e).2), h3⟩)
    ?assign ?body ?done ?stop
  case assign =>
    rintro lk pre j W K ⟨⟨⟨⟨b1, b2⟩, b3⟩, hp⟩, hB⟩ hK
    unfold ptVal at *
    gi_wp2
    have hx : Ext W (W.alloc (.cells #[.bool (ptK l j), .int .i64 (ptG l j), .int .i64 (ptT l j), .int .i64 (ptV l j)] 49)) := (Ext.refl W).alloc _
    exact hK _ _ ((KeepsOthers.alloc _ _).from _) (KeepC.of_ext hB.size hx) ⟨⟨⟨⟨b1.ext hx, b2.ext hx⟩, b3.ext hx⟩, hp⟩, hB.alloc hB.size _⟩ ⟨W.heap.size, BoxV.new W _ _, rfl⟩
  case body =>
    rintro lk pre j a' W hl ⟨r, hr⟩ ⟨⟨⟨⟨b1, b2⟩, b3⟩, hp⟩, hB⟩ ⟨Bx, bX, rfl⟩ hlt
    have c0 : W.cell? ⟨Bx, 0, none⟩ = some (.bool (ptK l j)) := bX.cell rfl
    have c1 : W.cell? ⟨Bx, 1, none⟩ = some (.int .i64 (ptG l j)) := bX.cell rfl
    have c2 : W.cell? ⟨Bx, 2, none⟩ = some (.int .i64 (ptT l j)) := bX.cell rfl
    have c3 : W.cell? ⟨Bx, 3, none⟩ = some (.int .i64 (ptV l j)) := bX.cell rfl
    have cG : W.cell? ⟨w.heap.size, 0, none⟩ = some (.int .i64 (g : Int)) := b3.cell rfl
    have hgl := ptG_le l j
    have hvl : ptV l j ≤ tout (tok l) := tout_le_of_take l j
    have htl : ptT l j ≤ tin (tok l) := tin_le_of_take l j
    by_cases hgt : g ≤ ptV l j + ptG l j
    · have dn : decide (g ≤ ptV l j + ptG l j) = true := by rw [decide_eq_true_eq]; exact hgt
      have hge : (g : Int) ≤ (ptV l j : Int) + (ptG l j : Int) := by omega
      have hUT := Lib.hid (reach_c (ptK l j) (ptG l j) (ptT l j) (ptV l j) g W (by omega) (by omega) (by omega))
      have hrj : Hid (ptR l g j = (if ptK l j then (ptT l j : Int) + g - ptV l j else ptT l j)) := Lib.hid rfl
      generalize (if ptK l j then (ptT l j : Int) + g - ptV l j else ptT l j) = u at *
      gi_wp2
      refine ⟨trivial, (CallsIn.inRound lk (callsIn_wide.2 hUT.out)).mono ?_⟩; rintro e W5 ⟨rfl, hx5⟩
      have b15 := b1.ext hx5
      have b25 := b2.ext hx5
      have cW : W5.cell? ⟨w.heap.size + 1, 0, none⟩ = some (.int .i64 0) := b15.cell rfl
      have fW := b15.frozen 0
      have cE : W5.cell? ⟨w.heap.size + 1 + 1, 0, none⟩ = some (.int .i64 0) := b25.cell rfl
      have fE := b25.frozen 0
      gi_wp2
      refine ⟨(((others_ext hx5).trans (KeepsOthers.setCell _ _ _)).trans (KeepsOthers.setCell _ _ _)).from _, ⟨pre, j, rfl, rfl, hgt, hp, ?_, boxV_set _ _ (b25.other (by omega) _)⟩, ?_⟩
      · rw [hrj.out]; exact (boxV_set _ _ b15).other (by omega) _
      · exact ((Below.trans hB (Below.mono hx5 hB.size)).setCell (by simp) _).setCell (by simp; omega) _
    · have hge : ¬ ((g : Int) ≤ (ptV l j : Int) + (ptG l j : Int)) := by omega
      gi_wp2
      refine ⟨KeepsFrom.refl _ _, KeepC.refl _ _ _, ⟨⟨⟨⟨b1, b2⟩, b3⟩, ?_⟩, hB⟩⟩
      intro i hi
      rcases List.mem_append.1 hi with hi | hi
      · exact hp i hi
      · rw [List.mem_singleton] at hi; subst hi; omega
  case done =>
    rintro D ys W hD rfl ⟨⟨⟨⟨b1, b2⟩, b3⟩, hp⟩, hB⟩ hK
    have cW : W.cell? ⟨w.heap.size + 1, 0, none⟩ = some (.int .i64 0) := b1.cell rfl
    have fW := b1.frozen 0
    have cE : W.cell? ⟨w.heap.size + 1 + 1, 0, none⟩ = some (.int .i64 0) := b2.cell rfl
    have fE := b2.frozen 0
    gi_wp2
    have b14 := (boxV_set W (.int .i64 0) b1).other (x := w.heap.size + 1 + 1) (by omega) (.int .i64 0)
    have b25 := boxV_set _ (.int .i64 0) (b2.other (x := w.heap.size + 1) (by omega) (.int .i64 0))
    have hK' := ((KeepsOthers.setCell W ⟨w.heap.size + 1, 0, none⟩ (.int .i64 0)).trans (KeepsOthers.setCell _ ⟨w.heap.size + 1 + 1, 0, none⟩ (.int .i64 0))).same D _ hK rfl
    have hB' := (hB.setCell (p := ⟨w.heap.size + 1, 0, none⟩) (by simp) (.int .i64 0)).setCell (p := ⟨w.heap.size + 1 + 1, 0, none⟩) (by simp; omega) (.int .i64 0)
    have hc4 := cell_kept (show World.cell? ((W.setCell ⟨w.heap.size + 1, 0, none⟩ (.int .i64 0)).setCell ⟨w.heap.size + 1 + 1, 0, none⟩ (.int .i64 0)) ⟨w.heap.size + 1, 0, none⟩ = some (.int .i64 0) from b14.cell rfl) (grownBy_putObj' _ D (.deferred none)) (fun r e => by cases e; exact ⟨_, hK', rfl⟩)
    have hc5 := cell_kept (show World.cell? ((W.setCell ⟨w.heap.size + 1, 0, none⟩ (.int .i64 0)).setCell ⟨w.heap.size + 1 + 1, 0, none⟩ (.int .i64 0)) ⟨w.heap.size + 1 + 1, 0, none⟩ = some (.int .i64 0) from b25.cell rfl) (grownBy_putObj' _ D (.deferred none)) (fun r e => by cases e; exact ⟨_, hK', rfl⟩)
    refine ⟨by simp, .inl ⟨_, _, rfl, run_takeDeferred hK', ?_⟩⟩
    refine ⟨.tuple #[.int .i64 0, .int .i64 0], ?_, ?_, hB'.trans (belowK_b (w := w) (Nat.le_refl _) _ D _ _ (by omega) hK' rfl rfl)⟩
    · simp [results, Tryd.f11, go_sem, hc4, hc5]
    · have hn := least_none l g hg (by rw [HL.out]; exact hp)
      rw [hn]; rfl
  case stop =>
    rintro D cd pre W hD ⟨k, hk, hpre⟩ ⟨⟨pr, j, h1, rfl, h3, h4, b1, b2⟩, hB⟩ hK
    gi_wp2
    have hc4 := cell_kept (show World.cell? W ⟨w.heap.size + 1, 0, none⟩ = some (.int .i64 (ptR l g j)) from b1.cell rfl) (grownBy_putObj' _ D (.deferred none)) (fun r e => by cases e; exact ⟨_, hK, rfl⟩)
    have hc5 := cell_kept (show World.cell? W ⟨w.heap.size + 1 + 1, 0, none⟩ = some (.int .i64 0) from b2.cell rfl) (grownBy_putObj' _ D (.deferred none)) (fun r e => by cases e; exact ⟨_, hK, rfl⟩)
    refine ⟨by simp, .inl ⟨_, _, rfl, run_takeDeferred hK, ?_⟩⟩
    refine ⟨.tuple #[.int .i64 (ptR l g j), .int .i64 0], ?_, ?_, hB.trans (belowK_b (w := w) (Nat.le_refl _) _ D _ _ (by omega) hK rfl rfl)⟩
    · simp [results, Tryd.f11, go_sem, hc4, hc5]
    · rw [h1] at hpre
      obtain ⟨rfl, hpr⟩ := range_snoc hpre
      rw [least_stop l g j HOK.out (by have := HL.out; omega) (fun i hi => h4 i (by rw [hpr, List.mem_range]; exact hi)) h3]
theorem leastP_c (A : Option Addr) (q c : Nat) (l : List Sp) (g : Int) (w : World) [Tab w] (h : Rd w 3 (.slice A q c) q (spCells l)) (hl : l.length = q) (hq : q ≤ 1000) (hts : ∀ s ∈ l, s.2.2.size ≤ 1000000000) (hT : sumT l ≤ 1000000000) (g0 : -9223372036854775808 ≤ g) (g1 : g ≤ 9223372036854775807) :
    Calls Tryd.prog 11 #[.slice A q c, .int .i64 g] w fun e w' => e = .returned (leastV l g) ∧ Ext w w' := by
  have HM : Hid (∀ w', Ext w w' → _) := Lib.hid fun w' hx => have hTb := tab_ext hx; mayOut8_c A q c l g w' (h.ext hx) hl hq hts hT g0 g1
  by_cases he : leastE l g = 0
  · have hm : mayL l = 0 := by
      unfold leastE at he
      by_cases hm : mayL l = 0
      · exact hm
      · rw [if_neg hm] at he; exact absurd he hm
    have hr : 0 ≤ g ∧ g ≤ outL l := by
      unfold leastE at he
      rw [if_pos hm] at he
      by_cases hr : 0 ≤ g ∧ g ≤ outL l
      · exact hr
      · rw [if_neg hr] at he; exact absurd he (by decide)
    obtain ⟨hall, hi0, hi1⟩ := mayL_all hm (by omega)
    have hok : ∀ s ∈ l, OkW s := fun s hs => okW_of_may (hall s hs)
    have htin := tin_ok l hok
    have hob := outL_le l hok
    obtain ⟨G, rfl⟩ := Int.eq_ofNat_of_zero_le hr.1
    rw [least_ok hm hr.1 hr.2, Int.toNat_natCast]
    rw [he] at HM
    exact leastOk_c A q c l G w h hl hq hok (by omega) (by omega) hts (by omega) HM.out
  · have hV : leastV l g = .tuple #[.int .i64 0, .int .i64 (leastE l g)] := by unfold leastV; rw [if_neg he]
    have hb1 : (leastE l g != 0) = true := by rw [bne_iff_ne]; exact he
    have hb2 : (leastE l g == 0) = false := by rw [beq_eq_false_iff_ne]; exact he
    have hx0 := (((Ext.refl w).alloc (.cells #[.int .i64 g] 3)).alloc (.cells #[.int .i64 0] 3)).alloc (.cells #[.int .i64 0] 25)
    have b4 := (BoxV.new (w.alloc (.cells #[.int .i64 g] 3)) 3 #[.int .i64 0]).ext ((Ext.refl _).alloc (.cells #[.int .i64 0] 25))
    have b5 := BoxV.new ((w.alloc (.cells #[.int .i64 g] 3)).alloc (.cells #[.int .i64 0] 3)) 25 #[.int .i64 0]
    simp only [World.size_alloc] at b4 b5
    replace b4 := Lib.hid b4; replace b5 := Lib.hid b5
    rw [hV]
    clear h hl hts hT he hV
    generalize leastE l g = E at *
    go_enter Tryd.func11, Tryd.ntmps11
    go_wp2_with fail
    refine (HM.out _ hx0).mono ?_; rintro e w1 ⟨rfl, hx1⟩
    have b14 := b4.out.ext hx1
    have b15 := b5.out.ext hx1
    have c4 : w1.cell? ⟨w.heap.size + 1, 0, none⟩ = some (.int .i64 0) := b14.cell rfl
    have f4 := b14.frozen 0
    have c5 : w1.cell? ⟨w.heap.size + 1 + 1, 0, none⟩ = some (.int .i64 0) := b15.cell rfl
    have f5 := b15.frozen 0
    go_wp2_with fail
    have d4 := ((boxV_set w1 (.int .i64 0) b14).other (x := w.heap.size + 1 + 1) (by omega) (.int .i64 E)).cell (i := 0) rfl
    have d5 := (boxV_set _ (.int .i64 E) (b15.other (x := w.heap.size + 1) (by omega) (.int .i64 0))).cell (i := 0) rfl
    have d4' : ((w1.setCell ⟨w.heap.size + 1, 0, none⟩ (.int .i64 0)).setCell ⟨w.heap.size + 1 + 1, 0, none⟩ (.int .i64 E)).cell? ⟨w.heap.size + 1, 0, none⟩ = some (.int .i64 0) := d4
    have d5' : ((w1.setCell ⟨w.heap.size + 1, 0, none⟩ (.int .i64 0)).setCell ⟨w.heap.size + 1 + 1, 0, none⟩ (.int .i64 E)).cell? ⟨w.heap.size + 1 + 1, 0, none⟩ = some (.int .i64 E) := d5
    have hxe := hx0.trans hx1
    refine bodyPost_ret (v := .tuple #[.int .i64 0, .int .i64 E]) (by simp [results, Tryd.f11, go_sem, d4', d5']) rfl ⟨rfl, ?_⟩
    exact (hxe.below.setCell (by simp) _).setCell (by simp; omega) _
end Go.Proofs.YtapkfmcbphljcaaDoor
