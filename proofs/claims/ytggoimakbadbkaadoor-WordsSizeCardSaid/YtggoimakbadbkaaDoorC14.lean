/- Layer 14, the reference: Put, Take. -/
import Derived.Test.YtggoimakbadbkaaDoorBv
import Derived.Test.YtggoimakbadbkaaDoorMq
import Derived.Test.YtggoimakbadbkaaDoorC2a
import Derived.Test.YtggoimakbadbkaaDoorC2b
import Derived.Test.YtggoimakbadbkaaDoorC5
import Derived.Test.YtggoimakbadbkaaDoorC6
import Derived.Test.YtggoimakbadbkaaDoorC1f
import Derived.Test.YtggoimakbadbkaaDoorBs
namespace Go.Proofs.YtggoimakbadbkaaDoor
open Go.RowKit
set_option maxRecDepth 100000
set_option maxHeartbeats 4000000
set_option linter.unusedSimpArgs false
/-- What Put tells. -/
def wordE (l : List Sp) : Int := if mayL l = 0 then (if normL l = l then 0 else 8) else mayL l
def wordB (l : List Sp) : List UInt8 := if wordE l = 0 then wordsL l else []
def WordR (w : World) (l : List Sp) (e : Ending) (w' : World) : Prop :=
  Ext w w' ∧ ∃ v, e = .returned (.tuple #[v, .int .i64 (wordE l)]) ∧ Own w' w.heap.size 5 1 v (wordB l).length (Lib.byteCells (wordB l))
theorem wordE_ok {l : List Sp} (h : wordE l = 0) : mayL l = 0 ∧ normL l = l := by
  unfold wordE at h
  by_cases hm : mayL l = 0
  · rw [if_pos hm] at h
    by_cases hn : normL l = l
    · exact ⟨hm, hn⟩
    · rw [if_neg hn] at h; exact absurd h (by decide)
  · rw [if_neg hm] at h; exact absurd h hm
theorem isN_iff {l : List Sp} (h : pos l) : isN l ↔ normL l = l := ⟨is_norm l, fun e => by rw [← e]; exact norm_is l h⟩
theorem wsL_take (l : List Sp) (j : Nat) (h : j < l.length) : wsL (l.take (j + 1)) = wsL (l.take j) ++ wS l[j] := by
  have e : l.take (j + 1) = l.take j ++ [l[j]] := by rw [List.take_add_one, List.getElem?_eq_getElem h]; rfl
  rw [e, wsL_append, wsL_cons]
  simp [wsL]
theorem putL_small (n : Nat) : (putL n).length ≤ 4 := putL_length n
theorem wS_len (s : Sp) : (wS s).length ≤ 4 + s.2.2.size := by
  unfold wS; rw [List.length_append, bs_length]; have := putL_length (headN s); omega
theorem sumT_le14 (l : List Sp) (b : Nat) (h : ∀ s ∈ l, s.2.2.size ≤ b) : sumT l ≤ l.length * b := by
  induction l with
  | nil => simp [sumT]
  | cons a t ih =>
    have h1 := h a (by simp)
    have h2 := ih fun s hs => h s (List.mem_cons_of_mem _ hs)
    rw [sumT_cons, List.length_cons, Nat.add_mul]; omega
theorem wsL_len (l : List Sp) : (wsL l).length ≤ 4 * l.length + sumT l := by
  induction l with
  | nil => simp [wsL]
  | cons s r ih => rw [wsL_cons, List.length_append, List.length_cons, sumT_cons]; have := wS_len s; omega
theorem headV (s : Sp) (h : OkW s) (ht : s.2.2.size ≤ 65536) (hn : s.2.1 ≤ 1048576) : 4 * (s.2.1 + (s.2.2.size : Int)) + s.1 = (headN s : Int) ∧ headN s < 268435456 ∧ 0 ≤ s.2.1 ∧ 0 ≤ s.1 ∧ s.1 ≤ 3 := by
  have h0 := h.nonneg
  have h1 : 0 ≤ s.1 ∧ s.1 ≤ 3 := by rcases h with ⟨k, _⟩ | ⟨k, _⟩ <;> omega
  unfold headN
  refine ⟨by omega, by omega, h0, h1.1, h1.2⟩
theorem putG14 (x : Nat) (v : Int) (hv : v = (x : Int)) (hx : x < 268435456) (w : World) : Calls Tryd.prog 26 #[.int .i64 v] w fun e w' => ∃ A n c, e = .returned (.tuple #[.slice A n c, .int .i64 0]) ∧ Ext w w' ∧ Own w' w.heap.size 5 1 (.slice A n c) n (Lib.byteCells (putL x)) ∧ (putL x).length = n := by
  refine (putRO_c v w).mono ?_
  rintro e w' ⟨hx', ⟨h, _⟩ | ⟨m, u, h1, h2, rfl, h4⟩⟩
  · omega
  · obtain rfl : m = x := by omega
    obtain ⟨A, c, rfl, _⟩ := h4.len
    exact ⟨A, _, c, rfl, hx', h4, rfl⟩
theorem wordPutR_c (A : Option Addr) (q c : Nat) (l : List Sp) (w : World) (h : RdO w A q c l) (hq : q ≤ 1000) (ht : ∀ s ∈ l, s.2.2.size ≤ 65536) :
    Calls Tryd.prog 12 #[.slice A q c] w (WordR w l) := by
  have hl := h.1
  have HM := Lib.hid (mayR4_c A q c l w h.2 hl hq fun s hs => by have := ht s hs; omega)
  have HI : Hid (∀ w', Ext w w' → _) := Lib.hid fun w' hx => isR5_c A q c l w' (h.2.ext hx) hl (by omega)
  by_cases hm : mayL l = 0
  · obtain ⟨oka, i0, i1⟩ := mayL_all hm (by omega)
    have ok : ∀ s ∈ l, OkW s := fun s hs => okW_of_may (oka s hs)
    have hpos := okW_pos l ok
    rw [hm] at HM
    by_cases hn : normL l = l
    · have hE : wordE l = 0 := by unfold wordE; rw [if_pos hm, if_pos hn]
      have hB : wordB l = wordsL l := by unfold wordB; rw [if_pos hE]
      unfold WordR
      rw [hE, hB]
      have hN := (isN_iff hpos).2 hn
      have HNI := Lib.hid hN
      have hnum : ∀ s ∈ l, s.2.1 ≤ 1048576 := fun s hs => by
        have h1 := okW_N l ok
        have h2 := le_sumN l hpos s hs
        omega
      have hsum : sumT l ≤ 65536000 := by have := sumT_le14 l 65536 ht; have : l.length * 65536 ≤ 1000 * 65536 := Nat.mul_le_mul_right _ (by omega); omega
      have HG : Hid (∀ w', Calls Tryd.prog 26 #[.int .i64 (q : Int)] w' fun e w'' => ∃ A n c, e = .returned (.tuple #[.slice A n c, .int .i64 0]) ∧ Ext w' w'' ∧ Own w'' w'.heap.size 5 1 (.slice A n c) n (Lib.byteCells (putL l.length)) ∧ (putL l.length).length = n) := Lib.hid fun w' => putG14 l.length q (by rw [hl]) (by omega) w'
      have H := Lib.hid h; have HOK := Lib.hid ok; have HT := Lib.hid ht; have HNU := Lib.hid hnum; have HL := Lib.hid hl
      obtain ⟨i, hi, hz0, hz1, hz2⟩ := info_parts info_u8b
      clear h hpos hm hn hE hB hN i0 i1 ok ht hnum hl
      go_enter Tryd.func12, Tryd.ntmps12
      go_wp2_with fail
      refine HM.out.mono ?_; rintro e w1 ⟨rfl, hx1⟩
      go_wp2_with fail
      refine (HI.out _ hx1).mono ?_; rintro e w2 ⟨b, rfl, hx2, hb⟩
      have hbt : b = true := hb.2 HNI.out
      subst hbt
      clear hb
      go_wp2_with fail
      refine (HG.out _).mono ?_; rintro e w3 ⟨a3, n3, c3, rfl, hx3, o3, hn3⟩
      have e2 := hx1.trans hx2
      have e3 : Ext w w3 := e2.trans hx3
      have O3 : Hid (Own w3 w.heap.size 5 1 (.slice a3 n3 c3) (putL l.length ++ wsL (l.take 0)).length (Lib.byteCells (putL l.length ++ wsL (l.take 0)))) := Lib.hid (by simp only [List.take_zero, wsL, List.flatMap_nil, List.append_nil]; rw [hn3]; exact o3.more e2.size)
      clear o3 hn3 hx1 hx2 hx3 e2
      go_wp2_with fail
      go_loopw [5, 7] (fun o z wr => ∃ j : Nat, j ≤ q ∧ z = .int .i64 j ∧ Own wr w.heap.size 5 1 o (putL l.length ++ wsL (l.take j)).length (Lib.byteCells (putL l.length ++ wsL (l.take j))) ∧ Ext w wr) (fun _ z _ => q - (intOf z).toNat)
      case atStart => exact ⟨0, by omega, rfl, O3.out, e3⟩
      case round =>
        clear O3
        obtain ⟨j, hj, rfl, own, hxr⟩ := hrel
        by_cases hlt : j < q
        · have hjl : j < l.length := by have := HL.out; omega
          obtain ⟨b, off, rfl, hb, q0, q1, q2⟩ := sp_at H.out.2 HL.out hlt
          have dn : decide (j < q) = true := by rw [decide_eq_true_eq]; exact hlt
          have i0 : (0 : Int) ≤ (j : Int) := by omega
          have i1 : (j : Int) < (q : Int) := by omega
          have hst := wsL_take l j hjl
          have hok := HOK.out _ (List.getElem_mem hjl)
          have htx := HT.out _ (List.getElem_mem hjl)
          obtain ⟨v1, v2, v3, v4, v5⟩ := headV _ hok htx (HNU.out _ (List.getElem_mem hjl))
          have hnu := HNU.out _ (List.getElem_mem hjl)
          have hwl := wsL_len (l.take j)
          have hw2 := sumT_append (l.take j) (l.drop j)
          rw [List.take_append_drop] at hw2
          have hw3 : (l.take j).length ≤ 1000 := by rw [List.length_take]; omega
          have hw4 := putL_small l.length
          obtain ⟨s, hs⟩ : ∃ s, l[j] = s := ⟨_, rfl⟩
          rw [hs] at q0 q1 q2 hst hok htx v1 v2 v3 v4 v5 hnu
          obtain ⟨s1, s2, s3⟩ := s
          simp only at q0 q1 q2 htx v1 v3 v4 v5 hnu
          have hpre : (putL l.length ++ wsL (l.take j)).length ≤ 100000000 := by rw [List.length_append]; omega
          have hnew : putL l.length ++ wsL (l.take (j + 1)) = (putL l.length ++ wsL (l.take j)) ++ putL (headN (s1, s2, s3)) ++ bs s3 := by
            rw [hst]; unfold wS; simp only [List.append_assoc]
          have HG2 := Lib.hid (fun w' => putG14 (headN (s1, s2, s3)) _ v1 v2 w')
          have g1 : ¬ (65536 : Int) < (s3.size : Int) := by omega
          obtain ⟨n, hnn⟩ : ∃ n : Int, s2 + (s3.size : Int) = n := ⟨_, rfl⟩
          rw [hnn] at HG2
          have hwn : IntKind.i64.wrap (s2 + (s3.size : Int)) = n := by rw [IntKind.wrap_i64]; omega
          have hn0 : 0 ≤ n := by omega
          have hn1 : n ≤ 1114112 := by omega
          have p0 := ext_cell hxr q0; have p1 := ext_cell hxr q1; have p2 := ext_cell hxr q2
          have HQ0 : Hid (∀ W, Ext w W → W.cell? ⟨b, off + j * 3, none⟩ = some (.int .i64 s1)) := Lib.hid fun W hx => ext_cell hx q0
          have HQ2 : Hid (∀ W, Ext w W → W.cell? ⟨b, off + j * 3 + 2, none⟩ = some (.string s3)) := Lib.hid fun W hx => ext_cell hx q2
          have HNW := Lib.hid hnew; have OWN := Lib.hid own; have HPL := Lib.hid (putL_length (headN (s1, s2, s3)))
          obtain ⟨PRE, hPRE⟩ : ∃ P, putL l.length ++ wsL (l.take j) = P := ⟨_, rfl⟩
          rw [hPRE] at hpre HNW OWN
          clear hst hok v1 v2 hwl hw2 hw3 hw4 hnew own hs hnn hPRE q0 q1 q2
          go_wp2_with fail
          go_quiet (fail)
          have hxd : Ext w (wr.drewN nq) := hxr.drewN nq
          obtain ⟨W1, hW1⟩ : ∃ W, wr.drewN nq = W := ⟨_, rfl⟩
          rw [hW1] at hxd ⊢
          have r0 := HQ0.out W1 hxd
          clear p0 p1 p2
          go_wp2_with fail
          refine (HG2.out W1).mono ?_; rintro e w4 ⟨ah, nh, ch, rfl, hx4, oh, hlh⟩
          have e4 : Ext w w4 := hxd.trans hx4
          have hwr := hxr.size
          have own4 : Own w4 w.heap.size 5 1 u5 PRE.length (Lib.byteCells PRE) := (OWN.out.ext (show Ext wr W1 by rw [← hW1]; exact (Ext.refl wr).drewN nq)).ext hx4
          go_wp2_with fail
          obtain ⟨wd, hwd4⟩ : ∃ W, w4.drew = W := ⟨_, rfl⟩
          have ed : Ext w4 wd := by rw [← hwd4]; exact (Ext.refl _).drew
          have own5 := own4.ext ed
          have rdh := (oh.ext ed).rd
          have f4 := HQ2.out wd (e4.trans ed)
          replace e4 := e4.trans ed
          have hwd := e4.size
          obtain ⟨v5', w5', ha5, o5', b5'⟩ := app_rd (P := Tryd.prog) 23 23 5 i _ 1 1 Tryd.underlying23 hi hz0 hz1 hz2 rfl (by omega) (by omega) (Below.refl w.heap.size wd) own5 (by omega) rdh (by have := HPL.out; omega) (byteCells_one _)
          have HA1 := Lib.hid (⟨v5', w5', ha5, o5', b5'⟩ : ∃ v' w', (Builtin.append_ #[23, 23] 23 #[u5, .slice ah nh ch]).run Tryd.prog wd = .ok v' w' ∧ (Own w' w.heap.size 5 1 v' (PRE.length + nh) (Lib.byteCells PRE ++ Lib.byteCells (putL (headN (s1, s2, s3)))) ∧ Below w.heap.size wd w'))
          have HLH := Lib.hid hlh
          have hnh : nh ≤ 4 := by have := HPL.out; omega
          clear ha5 o5' b5' own5 own4 rdh oh hlh hx4 ed HG2 HQ0
          refine region_T (fun W => W.cell? ⟨b, off + j * 3 + 2, none⟩ = some (.string s3)) 9 (by kernel_rfl) (by rw [hwd4]; exact f4) (fun hHeld => ?_)
          rw [hwd4]
          clear hwd4
          replace hHeld := f4
          refine wpAnyT_take (i := 0) (v := ?_) rfl (by kernel_rfl) (fun _ _ _ h => h) (Or.inl ⟨by rfl, ?_⟩) (by assumption) ?_
          rotate_left
          · (intro W hSw; (try dsimp only at hSw); go_simp; (try with_reducible rfl))
          try simp only [Act.put, List.getElem_toArray, List.getElem_cons_succ, List.getElem_cons_zero, List.setIfInBounds_toArray, List.set_cons_zero, List.set_cons_succ]
          refine wpAnyT_take (i := 1) (v := ?_) rfl (by kernel_rfl) (fun _ _ _ h => h) (Or.inl ⟨by rfl, ?_⟩) (by assumption) ?_
          rotate_left
          · (intro W hSw; (try dsimp only at hSw); go_simp; (try with_reducible rfl))
          try simp only [Act.put, List.getElem_toArray, List.getElem_cons_succ, List.getElem_cons_zero, List.setIfInBounds_toArray, List.set_cons_zero, List.set_cons_succ]
          refine wpAnyT_take (i := 3) (v := ?_) rfl (by kernel_rfl) (fun _ _ _ h => h) (Or.inl ⟨by rfl, ?_⟩) (by assumption) ?_
          rotate_left
          · (intro W hSw; (try dsimp only at hSw); go_simp; (try with_reducible rfl))
          try simp only [Act.put, List.getElem_toArray, List.getElem_cons_succ, List.getElem_cons_zero, List.setIfInBounds_toArray, List.set_cons_zero, List.set_cons_succ]
          refine wpAnyT_take (i := 4) (v := ?_) rfl (by kernel_rfl) (fun _ _ _ h => h) (Or.inl ⟨by rfl, ?_⟩) (by assumption) ?_
          rotate_left
          · (intro W hSw; (try dsimp only at hSw); go_simp; (try with_reducible rfl))
          try simp only [Act.put, List.getElem_toArray, List.getElem_cons_succ, List.getElem_cons_zero, List.setIfInBounds_toArray, List.set_cons_zero, List.set_cons_succ]
          refine wpAnyT_take (i := 5) (v := ?_) rfl (by kernel_rfl) (fun _ _ _ h => h) (Or.inl ⟨by rfl, ?_⟩) (by assumption) ?_
          rotate_left
          · (intro W hSw; (try dsimp only at hSw); go_simp; (try with_reducible rfl))
          try simp only [Act.put, List.getElem_toArray, List.getElem_cons_succ, List.getElem_cons_zero, List.setIfInBounds_toArray, List.set_cons_zero, List.set_cons_succ]
          refine wpAnyT_take (i := 6) (v := ?_) rfl (by kernel_rfl) (fun _ _ _ h => h) (Or.inl ⟨by rfl, ?_⟩) (by assumption) ?_
          rotate_left
          · (intro W hSw; (try dsimp only at hSw); go_simp; (try with_reducible rfl))
          try simp only [Act.put, List.getElem_toArray, List.getElem_cons_succ, List.getElem_cons_zero, List.setIfInBounds_toArray, List.set_cons_zero, List.set_cons_succ]
          refine wpAnyT_take (i := 7) (v := ?_) rfl (by kernel_rfl) (fun _ _ _ h => h) (Or.inl ⟨by rfl, ?_⟩) (by assumption) ?_
          rotate_left
          · (intro W hSw; (try dsimp only at hSw); go_simp; (try with_reducible rfl))
          try simp only [Act.put, List.getElem_toArray, List.getElem_cons_succ, List.getElem_cons_zero, List.setIfInBounds_toArray, List.set_cons_zero, List.set_cons_succ]
          refine wpAnyT_one (i := 2) rfl (by kernel_rfl) (fun K hK => ?_)
          simp only [List.getElem_toArray, List.getElem_cons_succ, List.getElem_cons_zero]
          refine step_append_ex (a := { tmps := _, defers := _ }) (v := u5) (y := .slice ah nh ch) rfl (.tmp 65) (.tmp 66) 23 rfl rfl rfl HA1.out ?_
          rintro v5 w5 ⟨o5, b5⟩
          have f5 := HQ2.out w5 (Below.trans e4 b5)
          obtain ⟨v6', w6', ha6, o6', b6'⟩ := app_str (P := Tryd.prog) 23 9 23 5 i Tryd.underlying23 Tryd.underlying9 hi hz0 hz1 hz2 b5 o5 (by omega) s3 (by omega)
          have HA2 := Lib.hid (⟨v6', w6', ha6, o6', b6'⟩ : ∃ v' w', (Builtin.append_ #[23, 9] 23 #[v5, .string s3]).run Tryd.prog w5 = .ok v' w' ∧ (Own w' w.heap.size 5 1 v' (PRE.length + nh + s3.size) (Lib.byteCells PRE ++ Lib.byteCells (putL (headN (s1, s2, s3))) ++ Lib.byteCells (bs s3)) ∧ Below w.heap.size wd w'))
          clear ha6 o6' b6'
          refine hK.out _ _ (fun _ => f5) (fun hH => ?_)
          replace hHeld := hH (by decide)
          clear hK K hH
          try simp only [Act.put, List.getElem_toArray, List.getElem_cons_succ, List.getElem_cons_zero, List.setIfInBounds_toArray, List.set_cons_zero, List.set_cons_succ]
          refine wpAnyT_one (i := 8) rfl (by kernel_rfl) (fun K hK => ?_)
          simp only [List.getElem_toArray, List.getElem_cons_succ, List.getElem_cons_zero]
          refine step_append_ex2 (a := { tmps := _, defers := _ }) (v := v5) (y := .string s3) rfl (.tmp 67) (.tmp 72) 23 9 rfl rfl rfl HA2.out ?_
          rintro v6 w6 ⟨o6, b6⟩
          have f6 := HQ2.out w6 (Below.trans e4 b6)
          refine hK.out _ _ (fun _ => f6) (fun hH => ?_)
          replace hHeld := hH (by decide)
          clear hK K hH
          try simp only [Act.put, List.getElem_toArray, List.getElem_cons_succ, List.getElem_cons_zero, List.setIfInBounds_toArray, List.set_cons_zero, List.set_cons_succ]
          refine wpAnyT_one (i := 9) rfl (by kernel_rfl) (fun K hK => ?_)
          go_simp
          refine hK.out _ _ (fun h => absurd rfl h) (fun _ => ?_)
          clear hK K hHeld
          try simp only [Act.put, List.getElem_toArray, List.getElem_cons_succ, List.getElem_cons_zero, List.setIfInBounds_toArray, List.set_cons_zero, List.set_cons_succ]
          refine wpAnyT_done (by kernel_rfl) ?_ _
          go_wp2_with fail
          go_roundw
          case rel =>
            refine ⟨j + 1, by omega, by go_num, ?_, Below.trans e4 b6⟩
            rw [HNW.out, List.length_append, List.length_append, HLH.out, bs_length, byteCells_append2, byteCells_append2]
            exact o6
          case measure => simp [intOf]; omega
        · obtain rfl : j = q := by omega
          have hall : l.take j = l := by rw [← HL.out]; exact List.take_length
          rw [hall] at own
          have OWN := Lib.hid own
          have dn : decide (j < j) = false := by rw [decide_eq_false_iff_not]; omega
          clear own hall hlt hj
          go_wp2_with fail
          go_ret2
          exact ⟨hxr, _, rfl, OWN.out⟩
    · have hE : wordE l = 8 := by unfold wordE; rw [if_pos hm, if_neg hn]
      have hB : wordB l = [] := by unfold wordB; rw [hE, if_neg (by decide)]
      unfold WordR
      rw [hE, hB]
      have HNI : Hid (¬ isN l) := Lib.hid fun h => hn ((isN_iff hpos).1 h)
      clear h hpos hm hn hE hB i0 i1 ok ht hl oka
      go_enter Tryd.func12, Tryd.ntmps12
      go_wp2_with fail
      refine HM.out.mono ?_; rintro e w1 ⟨rfl, hx1⟩
      go_wp2_with fail
      refine (HI.out _ hx1).mono ?_; rintro e w2 ⟨b, rfl, hx2, hb⟩
      have hbt : b = false := by
        rcases b with _ | _
        · rfl
        · exact absurd (hb.1 rfl) HNI.out
      subst hbt
      clear hb
      go_wp2_with fail
      go_ret2
      exact ⟨hx1.trans hx2, _, rfl, Own.nil _ _ _ _ (hx1.trans hx2).size⟩
  · have hE : wordE l = mayL l := by unfold wordE; rw [if_neg hm]
    have hB : wordB l = [] := by unfold wordB; rw [hE, if_neg hm]
    unfold WordR
    rw [hE, hB]
    have t1 : (mayL l != 0) = true := by rw [bne_iff_ne]; exact hm
    have t2 : (mayL l == 0) = false := by rw [beq_eq_false_iff_ne]; exact hm
    clear h hm hE hB ht hl HI
    generalize mayL l = E at *
    go_enter Tryd.func12, Tryd.ntmps12
    go_wp2_with fail
    refine HM.out.mono ?_; rintro e w1 ⟨rfl, hx1⟩
    go_wp2_with fail
    go_ret2
    exact ⟨hx1, _, rfl, Own.nil _ _ _ _ hx1.size⟩
/-- What Take tells. -/
def TakeR (w : World) (r : Nat × List Sp × Nat) (e : Ending) (w' : World) : Prop :=
  Ext w w' ∧ ∃ A n c, e = .returned (.tuple #[.slice A n c, .int .i64 (r.2.2 : Int), .int .i64 (r.1 : Int)]) ∧ RdO w' A n c r.2.1
def addW (ls : List Sp) (o : Nat) (q : Nat × List Sp × Nat) : Nat × List Sp × Nat := if q.1 ≠ 0 then (q.1, [], 0) else (0, ls ++ q.2.1, o + q.2.2)
theorem addW_nil (q : Nat × List Sp × Nat) (h : q.1 ≠ 0 → q = (q.1, [], 0)) : addW [] 0 q = q := by
  unfold addW
  by_cases h0 : q.1 = 0
  · rw [if_neg (by omega)]; obtain ⟨a, b, c⟩ := q; simp only at h0; subst h0; simp
  · rw [if_pos h0]; exact (h h0).symm
theorem tW_shape (m : Nat) (was : Int) (b : List UInt8) (h : (tW m was b).1 ≠ 0) : tW m was b = ((tW m was b).1, [], 0) := by
  cases m with
  | zero => exact absurd rfl h
  | succ m =>
    rw [tW] at h ⊢
    split
    · rfl
    · split
      · rfl
      · rename_i h1 h2
        rw [if_neg h1, if_neg h2] at h
        exact absurd rfl h
theorem addW_err {ls : List Sp} {o m : Nat} {was : Int} {b : List UInt8} {E : Nat} {s : Sp} {k : Nat} (h : tS was b = (E, s, k)) (hE : E ≠ 0) : addW ls o (tW (m + 1) was b) = (E, [], 0) := by
  unfold addW
  rw [tW, h, if_pos hE, if_pos hE]
theorem addW_ok {ls : List Sp} {o m : Nat} {was : Int} {b : List UInt8} {s : Sp} {k : Nat} (h : tS was b = (0, s, k)) : addW ls o (tW (m + 1) was b) = addW (ls ++ [s]) (o + k) (tW m s.1 (b.drop k)) := by
  have hs := tW_shape m s.1 (b.drop k)
  unfold addW
  rw [tW, h]
  simp only
  generalize tW m s.1 (b.drop k) = q at *
  obtain ⟨f, l, i⟩ := q
  simp only at hs ⊢
  by_cases h0 : f = 0
  · subst h0; simp [List.append_assoc, Nat.add_assoc]
  · simp [h0]
/-- What one span's bytes tell, case by case. -/
theorem tS_e {was : Int} {b : List UInt8} {H K F : Nat} (h : takeL b = (H, K, F)) (hF : F ≠ 0) : tS was b = (F, noS, 0) := by
  unfold tS; rw [h]; simp only; rw [if_pos hF]
theorem tS_8 {was : Int} {b : List UInt8} {H K : Nat} (h : takeL b = (H, K, 0)) (hc : H % 4 = 0 ∨ (if H % 4 = 2 then 65536 else 1048576) < H / 4 ∨ H / 4 = 0 ∨ ((H % 4 : Nat) : Int) = was) : tS was b = (8, noS, 0) := by
  unfold tS; rw [h]; simp only; rw [if_neg (by omega), if_pos hc]
theorem tS_7 {was : Int} {b : List UInt8} {H K : Nat} (h : takeL b = (H, K, 0)) (hc : ¬ (H % 4 = 0 ∨ (if H % 4 = 2 then 65536 else 1048576) < H / 4 ∨ H / 4 = 0 ∨ ((H % 4 : Nat) : Int) = was)) (h2 : H % 4 = 2) (hl : b.length - K < H / 4) : tS was b = (7, noS, 0) := by
  unfold tS; rw [h]; simp only; rw [if_neg (by omega), if_neg hc, if_pos h2, if_pos hl]
theorem tS_t {was : Int} {b : List UInt8} {H K : Nat} (h : takeL b = (H, K, 0)) (hc : ¬ (H % 4 = 0 ∨ (if H % 4 = 2 then 65536 else 1048576) < H / 4 ∨ H / 4 = 0 ∨ ((H % 4 : Nat) : Int) = was)) (h2 : H % 4 = 2) (hl : ¬ b.length - K < H / 4) (hd : dec ((b.drop K).take (H / 4)) = none) : tS was b = (8, noS, 0) := by
  unfold tS; rw [h]; simp only; rw [if_neg (by omega), if_neg hc, if_pos h2, if_neg hl, if_pos hd]
theorem tS_p {was : Int} {b : List UInt8} {H K : Nat} (h : takeL b = (H, K, 0)) (hc : ¬ (H % 4 = 0 ∨ (if H % 4 = 2 then 65536 else 1048576) < H / 4 ∨ H / 4 = 0 ∨ ((H % 4 : Nat) : Int) = was)) (h2 : H % 4 = 2) (hl : ¬ b.length - K < H / 4) (hd : dec ((b.drop K).take (H / 4)) ≠ none) : tS was b = (0, (2, 0, mkS ((b.drop K).take (H / 4))), K + H / 4) := by
  unfold tS; rw [h]; simp only; rw [if_neg (by omega), if_neg hc, if_pos h2, if_neg hl, if_neg hd]
theorem tS_n {was : Int} {b : List UInt8} {H K : Nat} (h : takeL b = (H, K, 0)) (hc : ¬ (H % 4 = 0 ∨ (if H % 4 = 2 then 65536 else 1048576) < H / 4 ∨ H / 4 = 0 ∨ ((H % 4 : Nat) : Int) = was)) (h2 : H % 4 ≠ 2) : tS was b = (0, (((H % 4 : Nat) : Int), ((H / 4 : Nat) : Int), ⟨#[]⟩), K) := by
  unfold tS; rw [h]; simp only; rw [if_neg (by omega), if_neg hc, if_neg h2]
theorem takeW_1 {b : List UInt8} {N K F : Nat} (h : takeL b = (N, K, F)) (hF : F ≠ 0) : takeW b = (F, [], 0) := by
  unfold takeW; rw [h]; simp only; rw [if_pos hF]
theorem takeW_2 {b : List UInt8} {N K : Nat} (h : takeL b = (N, K, 0)) (hN : 65536 < N) : takeW b = (8, [], 0) := by
  unfold takeW; rw [h]; simp only; rw [if_neg (by omega), if_pos hN]
theorem takeW_3 {b : List UInt8} {N K : Nat} (h : takeL b = (N, K, 0)) (hN : ¬ 65536 < N) {E : Nat} (hR : tW N 0 (b.drop K) = (E, [], 0)) (hE : E ≠ 0) : takeW b = (E, [], 0) := by
  unfold takeW; rw [h]; simp only; rw [if_neg (by omega), if_neg hN, hR, if_pos hE]
theorem takeW_4 {b : List UInt8} {N K : Nat} (h : takeL b = (N, K, 0)) (hN : ¬ 65536 < N) {l : List Sp} {o : Nat} (hR : tW N 0 (b.drop K) = (0, l, o)) : takeW b = if mayL l ≠ 0 then (8, [], 0) else (0, l, K + o) := by
  unfold takeW; rw [h]; simp only; rw [if_neg (by omega), if_neg hN, hR]; simp only; rw [if_neg (by omega)]
theorem takeWR2_c (A : Option Addr) (n c : Nat) (b : List UInt8) (w : World) (h : Rd w 1 (.slice A n c) n (Lib.byteCells b)) (hn : n ≤ 200000) (hm : n ≤ 1000 ∨ (takeL b).1 ≤ 1000) :
    Calls Tryd.prog 17 #[.slice A n c] w (TakeR w (takeW b)) := by
  have hbl : b.length = n := by have := h.1; simpa [Lib.byteCells] using this
  obtain ⟨⟨N, K0, F0⟩, hT0⟩ : ∃ r, takeL b = r := ⟨_, rfl⟩
  have HMM : Hid (n ≤ 1000 ∨ N ≤ 1000) := Lib.hid (by rw [hT0] at hm; exact hm)
  clear hm
  have HT : Hid (∀ w', Ext w w' → Calls Tryd.prog 35 #[.slice A n c] w' fun e w'' => e = .returned (.tuple #[.int .i64 (N : Int), .int .i64 (K0 : Int), .int .i64 (F0 : Int)]) ∧ Ext w' w'') := Lib.hid fun w' hx => by
    have h1 := takeR_c A n c b w' (h.ext hx) (by omega)
    rw [hT0] at h1; exact h1
  by_cases hF : F0 = 0
  · subst hF
    obtain ⟨t1, t2, t3, t4⟩ := take_some hT0
    by_cases hN : 65536 < N
    · rw [takeW_2 hT0 hN]
      have g1 : (65536 : Int) < (N : Int) := by omega
      clear h hbl hT0 t1 t2 t3 t4 hN
      go_enter Tryd.func17, Tryd.ntmps17
      go_wp2_with fail
      refine (HT.out _ (Ext.refl _)).mono ?_; rintro e w1 ⟨rfl, hx1⟩
      go_wp2_with fail
      refine bodyPost_ret (results_tmp3 rfl _ _ _) rfl ?_
      exact ⟨hx1, _, _, _, rfl, rfl, Rd.nil _ _⟩
    · have g1 : ¬ (65536 : Int) < (N : Int) := by omega
      obtain ⟨bb, o0, hA, _⟩ : ∃ bb o0, A = some ⟨bb, o0, none⟩ ∧ True := by
        obtain ⟨_, A', c', hv, _, h2⟩ := h
        obtain ⟨b1, off, hA, _⟩ := h2 (by omega)
        injection hv with e1
        exact ⟨b1, off, by rw [e1]; exact hA, trivial⟩
      subst hA
      obtain ⟨i, hi, hz0, hz1, hz2⟩ := info_parts info_sp5
      have hcap : n ≤ c := by obtain ⟨_, _, hv, hc⟩ := h.len; injection hv with _ _ e; omega
      obtain ⟨R, hR⟩ : ∃ R, tW N 0 (b.drop K0) = R := ⟨_, rfl⟩
      have hR0 : addW [] 0 (tW (N - 0) 0 (b.drop K0)) = R := by
        rw [addW_nil _ (tW_shape _ _ _), Nat.sub_zero]; exact hR
      have HR0 := Lib.hid hR0
      have HF3 : Hid (∀ E, R = (E, [], 0) → E ≠ 0 → takeW b = (E, [], 0)) := Lib.hid fun E hE h0 => takeW_3 hT0 hN (by rw [hR]; exact hE) h0
      have HF4 : Hid (∀ l o, R = (0, l, o) → takeW b = if mayL l ≠ 0 then (8, [], 0) else (0, l, K0 + o)) := Lib.hid fun l o hE => takeW_4 hT0 hN (by rw [hR]; exact hE)
      have H := Lib.hid h; have HBL := Lib.hid hbl
      have hK0 : K0 ≤ n := by omega
      have hN1 : N ≤ 65536 := by omega
      have HK1 : Hid (1 ≤ K0) := Lib.hid t3
      clear h hbl hT0 t1 t2 t3 t4 hN hR hR0
      go_enter Tryd.func17, Tryd.ntmps17
      go_wp2_with fail
      refine (HT.out _ (Ext.refl _)).mono ?_; rintro e w1 ⟨rfl, hx1⟩
      go_wp2_with fail
      have e1 : Ext w (w1.alloc (.cells #[] 40)) := hx1.alloc _
      have O1 : Hid (Own (w1.alloc (.cells #[] 40)) w.heap.size 40 3 (.slice (some ⟨w1.heap.size, 0, none⟩) 0 0) 0 (spCells [])) := Lib.hid (Own.made w1 w.heap.size 40 3 0 #[] hx1.size (by omega) rfl)
      clear hx1
      go_loopw [6, 8, 9, 10] (fun at_ out was iz wr => ∃ (i off : Nat) (wz : Int) (ls : List Sp), at_ = .int .i64 off ∧ was = .int .i64 wz ∧ iz = .int .i64 i ∧ i ≤ N ∧ off ≤ n ∧ i + 1 ≤ off ∧ ls.length = i ∧ 0 ≤ wz ∧ wz ≤ 3 ∧ Hid (Own wr w.heap.size 40 3 out i (spCells ls)) ∧ Hid (K0 ≤ off ∧ addW ls (off - K0) (tW (N - i) wz (b.drop off)) = R) ∧ Hid (∀ s ∈ ls, s.2.2.size ≤ 65536) ∧ Hid (Ext w wr)) (fun _ _ _ z _ => N - (intOf z).toNat)
      case atStart => exact ⟨0, K0, 0, [], rfl, rfl, rfl, by omega, hK0, by have := HK1.out; omega, rfl, by omega, by omega, O1, Lib.hid ⟨Nat.le_refl _, by rw [Nat.sub_self]; exact HR0.out⟩, Lib.hid (fun s hs => by cases hs), Lib.hid e1⟩
      case round =>
        clear O1 e1 HR0
        obtain ⟨i0, off, wz, ls, rfl, rfl, rfl, hi0, hoff, hio, hll, hw0, hw3, HO, HR, HS, HX⟩ := hrel
        by_cases hlt : i0 < N
        · have HRD := Lib.hid (bytes_behind (H.out.ext HX.out) hoff)
          obtain ⟨m, hm⟩ : ∃ m, N - i0 = m + 1 := ⟨N - i0 - 1, by omega⟩
          obtain ⟨⟨X, K, F⟩, hT⟩ : ∃ r, takeL (b.drop off) = r := ⟨_, rfl⟩
          obtain ⟨AD, hAD⟩ : ∃ AD : Option Addr, (if c = off then some ⟨bb, o0, none⟩ else some ⟨bb, o0 + off, none⟩) = AD := ⟨_, rfl⟩
          rw [hAD] at HRD
          have HTK : Hid (Calls Tryd.prog 35 #[.slice AD (n - off) (c - off)] wr fun e w'' => e = .returned (.tuple #[.int .i64 (X : Int), .int .i64 (K : Int), .int .i64 (F : Int)]) ∧ Ext wr w'') := Lib.hid (by
            have h1 := takeR_c AD (n - off) (c - off) (b.drop off) wr HRD.out (by omega)
            rw [hT] at h1; exact h1)
          have HRR := HR.out
          rw [hm] at HRR
          have dlt : (i0 : Int) < (N : Int) := by omega
          have s0 : (0 : Int) ≤ (off : Int) := by omega
          have s1 : (off : Int) ≤ (n : Int) := by omega
          clear HRD
          by_cases hF : F = 0
          · subst hF
            obtain ⟨t1, t2, t3, t4⟩ := take_some hT
            rw [List.length_drop, HBL.out] at t4
            have htl : K ≤ n - off := t4
            obtain ⟨k, hk⟩ : ∃ k, X % 4 = k := ⟨_, rfl⟩
            obtain ⟨q, hq⟩ : ∃ q, X / 4 = q := ⟨_, rfl⟩
            have d1 : (X : Int) % 4 = (k : Int) := by omega
            have d2 : (X : Int) / 4 = (q : Int) := by omega
            have d3 : (X : Int).tmod 4 = (k : Int) := by rw [Int.tmod_eq_emod_of_nonneg (by omega)]; exact d1
            have d4 : (X : Int).tdiv 4 = (q : Int) := by rw [Int.tdiv_eq_ediv_of_nonneg (by omega)]; exact d2
            obtain ⟨p, hp⟩ : ∃ p, off + K = p := ⟨_, rfl⟩
            have d5 : (off : Int) + (K : Int) = (p : Int) := by omega
            have hpn : p ≤ n := by omega
            have hk3 : k ≤ 3 := by omega
            have hqb : q ≤ 100000000 := by omega
            have HT2 := Lib.hid hT; have HP := Lib.hid hp; have HKQ := Lib.hid (And.intro hk hq); have HRR2 := Lib.hid HRR; have HTL := Lib.hid (And.intro htl t3)
            clear hT hp hk hq HRR t1 t2 t3 t4 htl
            by_cases hbad : k = 0 ∨ (if k = 2 then 65536 else 1048576) < q ∨ q = 0 ∨ ((k : Nat) : Int) = wz
            · have HE := Lib.hid (HF3.out 8 (by rw [← HRR2.out.2]; exact addW_err (tS_8 HT2.out (by rw [HKQ.out.1, HKQ.out.2]; exact hbad)) (by decide)) (by decide))
              have hcase : k = 0 ∨ (k ≠ 0 ∧ k ≠ 2 ∧ 1048576 < q) ∨ (k = 2 ∧ 65536 < q) ∨ (k ≠ 0 ∧ k ≠ 2 ∧ q ≤ 1048576 ∧ q = 0) ∨ (k = 2 ∧ q ≤ 65536 ∧ q = 0) ∨ (k ≠ 0 ∧ k ≠ 2 ∧ q ≤ 1048576 ∧ q ≠ 0 ∧ ((k : Nat) : Int) = wz) ∨ (k = 2 ∧ q ≤ 65536 ∧ q ≠ 0 ∧ ((k : Nat) : Int) = wz) := by
                by_cases h2 : k = 2
                · rw [if_pos h2] at hbad; omega
                · rw [if_neg h2] at hbad; omega
              clear hbad HT2 HP HKQ HRR2 HTL
              rcases hcase with rfl | ⟨h1, h2, h3⟩ | ⟨rfl, h3⟩ | ⟨h1, h2, h3, rfl⟩ | ⟨rfl, h3, rfl⟩ | ⟨h1, h2, h3, h4, h5⟩ | ⟨rfl, h3, h4, h5⟩
              · skip
                go_wp2_with fail
                refine HTK.out.mono ?_; rintro e w2 ⟨rfl, hx2⟩
                have e2 := HX.out.trans hx2
                go_wp2_with fail
                refine bodyPost_ret (results_tmp3 rfl _ _ _) rfl ?_
                rw [HE.out]
                exact ⟨e2.alloc _, _, _, _, rfl, rfl, Rd.nil _ _⟩
              · have b0 : ((k : Int) == 0) = false := by rw [beq_eq_false_iff_ne]; omega
                have b2 : ((k : Int) == 2) = false := by rw [beq_eq_false_iff_ne]; omega
                have g2 : (1048576 : Int) < (q : Int) := by omega
                clear h1 h2 h3
                go_wp2_with fail
                refine HTK.out.mono ?_; rintro e w2 ⟨rfl, hx2⟩
                have e2 := HX.out.trans hx2
                go_wp2_with fail
                refine bodyPost_ret (results_tmp3 rfl _ _ _) rfl ?_
                rw [HE.out]
                exact ⟨e2.alloc _, _, _, _, rfl, rfl, Rd.nil _ _⟩
              · have g2 : (65536 : Int) < (q : Int) := by omega
                clear h3
                go_wp2_with fail
                refine HTK.out.mono ?_; rintro e w2 ⟨rfl, hx2⟩
                have e2 := HX.out.trans hx2
                go_wp2_with fail
                refine bodyPost_ret (results_tmp3 rfl _ _ _) rfl ?_
                rw [HE.out]
                exact ⟨e2.alloc _, _, _, _, rfl, rfl, Rd.nil _ _⟩
              · have b0 : ((k : Int) == 0) = false := by rw [beq_eq_false_iff_ne]; omega
                have b2 : ((k : Int) == 2) = false := by rw [beq_eq_false_iff_ne]; omega
                clear h1 h2 h3
                go_wp2_with fail
                refine HTK.out.mono ?_; rintro e w2 ⟨rfl, hx2⟩
                have e2 := HX.out.trans hx2
                go_wp2_with fail
                refine bodyPost_ret (results_tmp3 rfl _ _ _) rfl ?_
                rw [HE.out]
                exact ⟨e2.alloc _, _, _, _, rfl, rfl, Rd.nil _ _⟩
              · clear h3
                go_wp2_with fail
                refine HTK.out.mono ?_; rintro e w2 ⟨rfl, hx2⟩
                have e2 := HX.out.trans hx2
                go_wp2_with fail
                refine bodyPost_ret (results_tmp3 rfl _ _ _) rfl ?_
                rw [HE.out]
                exact ⟨e2.alloc _, _, _, _, rfl, rfl, Rd.nil _ _⟩
              · have b0 : ((k : Int) == 0) = false := by rw [beq_eq_false_iff_ne]; omega
                have b2 : ((k : Int) == 2) = false := by rw [beq_eq_false_iff_ne]; omega
                have b3 : ((q : Int) == 0) = false := by rw [beq_eq_false_iff_ne]; omega
                have g2 : ¬ (1048576 : Int) < (q : Int) := by omega
                have b4 : ((k : Int) == wz) = true := by rw [beq_iff_eq]; exact h5
                clear h1 h2 h3 h4 h5
                go_wp2_with fail
                refine HTK.out.mono ?_; rintro e w2 ⟨rfl, hx2⟩
                have e2 := HX.out.trans hx2
                go_wp2_with fail
                refine bodyPost_ret (results_tmp3 rfl _ _ _) rfl ?_
                rw [HE.out]
                exact ⟨e2.alloc _, _, _, _, rfl, rfl, Rd.nil _ _⟩
              · have b3 : ((q : Int) == 0) = false := by rw [beq_eq_false_iff_ne]; omega
                have g2 : ¬ (65536 : Int) < (q : Int) := by omega
                have b4 : ((2 : Int) == wz) = true := by rw [beq_iff_eq]; exact_mod_cast h5
                clear h3 h4 h5
                go_wp2_with fail
                refine HTK.out.mono ?_; rintro e w2 ⟨rfl, hx2⟩
                have e2 := HX.out.trans hx2
                go_wp2_with fail
                refine bodyPost_ret (results_tmp3 rfl _ _ _) rfl ?_
                rw [HE.out]
                exact ⟨e2.alloc _, _, _, _, rfl, rfl, Rd.nil _ _⟩
            · simp only [not_or] at hbad
              obtain ⟨c1, c2, c3, c4⟩ := hbad
              have hnb : ¬ (X % 4 = 0 ∨ (if X % 4 = 2 then 65536 else 1048576) < X / 4 ∨ X / 4 = 0 ∨ ((X % 4 : Nat) : Int) = wz) := by rw [HKQ.out.1, HKQ.out.2]; simp only [not_or]; exact ⟨c1, c2, c3, c4⟩
              have b3 : ((q : Int) == 0) = false := by rw [beq_eq_false_iff_ne]; omega
              by_cases h2 : k = 2
              · subst h2
                rw [if_pos rfl] at c2
                have g2 : ¬ (65536 : Int) < (q : Int) := by omega
                have b4 : ((2 : Int) == wz) = false := by rw [beq_eq_false_iff_ne]; exact fun h => c4 (by rw [← h]; rfl)
                have hdl : (b.drop off).length = n - off := by rw [List.length_drop, HBL.out]
                by_cases hsh : n < p + q
                · have HE := Lib.hid (HF3.out 7 (by rw [← HRR2.out.2]; exact addW_err (tS_7 HT2.out hnb HKQ.out.1 (by rw [hdl, HKQ.out.2]; have := HP.out; omega)) (by decide)) (by decide))
                  have g5 : (n : Int) - (p : Int) < (q : Int) := by omega
                  clear HT2 HP HKQ HRR2 HTL hnb c1 c2 c3 c4 hdl hsh
                  go_wp2_with fail
                  refine HTK.out.mono ?_; rintro e w2 ⟨rfl, hx2⟩
                  have e2 := HX.out.trans hx2
                  go_wp2_with fail
                  refine bodyPost_ret (results_tmp3 rfl _ _ _) rfl ?_
                  rw [HE.out]
                  exact ⟨e2.alloc _, _, _, _, rfl, rfl, Rd.nil _ _⟩
                · have g5 : ¬ (n : Int) - (p : Int) < (q : Int) := by omega
                  obtain ⟨r, hr⟩ : ∃ r, p + q = r := ⟨_, rfl⟩
                  have d6 : (p : Int) + (q : Int) = (r : Int) := by omega
                  have hrn : r ≤ n := by omega
                  have z0 : (0 : Int) ≤ (p : Int) := by omega
                  have z1 : (p : Int) ≤ (r : Int) := by omega
                  have z2 : (r : Int) ≤ (c : Int) := by omega
                  have hrp : r - p = q := by omega
                  obtain ⟨TX, hTX⟩ : ∃ TX, ((b.drop off).drop K).take q = TX := ⟨_, rfl⟩
                  obtain ⟨AE, hAE⟩ : ∃ AE : Option Addr, (if c = p then some ⟨bb, o0, none⟩ else some ⟨bb, o0 + p, none⟩) = AE := ⟨_, rfl⟩
                  have HRT : Hid (∀ W, Ext w W → (convert 23 9 (.slice AE (r - p) (c - p))).run Tryd.prog W = .ok (.string (mkS TX)) W) := Lib.hid fun W hx => by
                    have h1 := bytes_behind (H.out.ext hx) hpn
                    rw [hAE] at h1
                    have h2 := bytes_front h1 (show q ≤ n - p by omega)
                    rw [← HP.out, ← List.drop_drop, hTX, HP.out, ← hrp] at h2
                    exact run_str (P := Tryd.prog) W 23 9 5 Tryd.underlying23 Tryd.underlying5 Tryd.underlying9 h2
                  have hlen : TX.length = q := by rw [← hTX, List.length_take, List.length_drop, List.length_drop, HBL.out]; have := HP.out; omega
                  have hsz : (mkS TX).size = q := by rw [size_mkS, hlen]
                  have HVA : Hid (∀ w', Calls Tryd.prog 36 #[.string (mkS TX)] w' fun e w'' => e = .returned (.bool (dec TX).isSome) ∧ Ext w' w'') := Lib.hid fun w' => by
                    have h1 := validR_c (mkS TX) w' (by omega)
                    rw [bs_mkS] at h1; exact h1
                  have hnl : ¬ (b.drop off).length - K < X / 4 := by rw [hdl, HKQ.out.2]; have := HP.out; omega
                  have HTX := Lib.hid hTX; have HNB := Lib.hid hnb; have HNL := Lib.hid hnl; have HSZ := Lib.hid hsz
                  clear hTX hrp hlen hnb hnl hsz hdl hsh hr c1 c2 c3 c4
                  go_wp2_with fail
                  refine HTK.out.mono ?_; rintro e w2 ⟨rfl, hx2⟩
                  have e2 := HX.out.trans hx2
                  have HCV := Lib.hid (HRT.out _ (e2.alloc (.cells #[.int .i64 2, .int .i64 (q : Int), .string ⟨#[]⟩] 40)))
                  go_wp2_with (with_reducible refine wpList_convert_run rfl rfl HCV.out rfl ?_)
                  refine (HVA.out _).mono ?_; rintro e w3 ⟨rfl, hx3⟩
                  have e3 : Ext w w3 := (e2.alloc _).trans hx3
                  have k0 : w3.cell? ⟨w2.heap.size, 0, none⟩ = some (.int .i64 2) := box_at _ _ _ _ hx3 0 _ rfl
                  have k1 : w3.cell? ⟨w2.heap.size, 1, none⟩ = some (.int .i64 0) := box_at _ _ _ _ hx3 1 _ rfl
                  have k2 : w3.cell? ⟨w2.heap.size, 2, none⟩ = some (.string (mkS TX)) := box_at _ _ _ _ hx3 2 _ rfl
                  by_cases hd : dec TX = none
                  · have hv : (dec TX).isSome = false := by rw [hd]; rfl
                    have HE := Lib.hid (HF3.out 8 (by rw [← HRR2.out.2]; exact addW_err (tS_t HT2.out HNB.out HKQ.out.1 HNL.out (by rw [HKQ.out.2, HTX.out]; exact hd)) (by decide)) (by decide))
                    rw [hv]
                    clear hd hv
                    go_wp2_with fail
                    refine bodyPost_ret (results_tmp3 rfl _ _ _) rfl ?_
                    rw [HE.out]
                    exact ⟨e3, _, _, _, rfl, rfl, Rd.nil _ _⟩
                  · have hv : (dec TX).isSome = true := by
                      rcases Option.ne_none_iff_exists'.1 hd with ⟨cs, hcs⟩
                      rw [hcs]; rfl
                    have hstep := addW_ok (ls := ls) (o := off - K0) (m := m) (tS_p HT2.out HNB.out HKQ.out.1 HNL.out (by rw [HKQ.out.2, HTX.out]; exact hd))
                    rw [HKQ.out.2, HRR2.out.2, HTX.out, List.drop_drop] at hstep
                    have HSTEP : Hid (addW (ls ++ [((2 : Int), (0 : Int), mkS TX)]) (r - K0) (tW (N - (i0 + 1)) (2 : Int) (b.drop r)) = R) := Lib.hid (by
                      have hp := HP.out; have hr2 := HRR2.out.1
                      rw [show r - K0 = off - K0 + (K + q) by omega, show r = off + (K + q) by omega, show N - (i0 + 1) = m by omega]
                      exact hstep.symm)
                    have HOK : Hid (K0 ≤ r ∧ i0 + 1 + 1 ≤ r) := Lib.hid (by have hp := HP.out; have hr2 := HRR2.out.1; have := HTL.out.2; omega)
                    have HS2 : Hid (∀ s ∈ ls ++ [((2 : Int), (0 : Int), mkS TX)], s.2.2.size ≤ 65536) := Lib.hid (by
                      intro s hs
                      rcases List.mem_append.1 hs with hs | hs
                      · exact HS.out s hs
                      · rw [List.mem_singleton] at hs; subst hs; show (mkS TX).size ≤ 65536; rw [HSZ.out]; omega)
                    have O3 := ((HO.out.ext hx2).alloc (.cells #[.int .i64 2, .int .i64 0, .string (mkS TX)] 40)).ext hx3
                    obtain ⟨v', w', happ, hown', hbel'⟩ := app_new (P := Tryd.prog) 22 22 40 i _ 3 32 Tryd.underlying22 hi hz0 hz1 hz2 rfl (by omega) (by omega)
                      (Below.refl w.heap.size w3) O3 (by omega) 1 #[.int .i64 2, .int .i64 0, .string (mkS TX)] rfl (by omega) (by simp [Value.oneCell']) 40
                    have HAP := Lib.hid happ
                    have HO4 : Hid (Own w' w.heap.size 40 3 v' (i0 + 1) (spCells (ls ++ [((2 : Int), (0 : Int), mkS TX)]))) := Lib.hid (by rw [spCells_append]; exact hown')
                    have HX4 : Hid (Ext w w') := Lib.hid (Below.trans e3 hbel')
                    rw [hv]
                    clear happ hown' hbel' O3 e2 hx2 hx3 hd hv hstep e3
                    go_wp2_with (at_builtin; refine wpList_append_run rfl rfl HAP.out rfl rfl ?_)
                    go_roundw
                    case rel => exact ⟨i0 + 1, r, 2, _, rfl, rfl, by go_num, by omega, hrn, by have := HOK.out.2; omega, by rw [List.length_append, hll]; rfl, by omega, by omega, HO4, Lib.hid ⟨HOK.out.1, HSTEP.out⟩, HS2, HX4⟩
                    case measure => simp [intOf]; omega
              · rw [if_neg h2] at c2
                have g2 : ¬ (1048576 : Int) < (q : Int) := by omega
                have b0 : ((k : Int) == 0) = false := by rw [beq_eq_false_iff_ne]; omega
                have b2 : ((k : Int) == 2) = false := by rw [beq_eq_false_iff_ne]; omega
                have b4 : ((k : Int) == wz) = false := by rw [beq_eq_false_iff_ne]; exact c4
                have hstep := addW_ok (ls := ls) (o := off - K0) (m := m) (tS_n HT2.out hnb (by rw [HKQ.out.1]; exact h2))
                rw [HKQ.out.1, HKQ.out.2, HRR2.out.2, List.drop_drop] at hstep
                have HSTEP : Hid (addW (ls ++ [((k : Int), (q : Int), (⟨#[]⟩ : ByteArray))]) (p - K0) (tW (N - (i0 + 1)) (k : Int) (b.drop p)) = R) := Lib.hid (by
                  have hp := HP.out; have hr := HRR2.out.1
                  rw [← hp, show off + K - K0 = off - K0 + K by omega, show N - (i0 + 1) = m by omega]
                  exact hstep.symm)
                have HOK : Hid (K0 ≤ p ∧ i0 + 1 + 1 ≤ p) := Lib.hid (by have hp := HP.out; have hr := HRR2.out.1; have := HTL.out.2; omega)
                have HS2 : Hid (∀ s ∈ ls ++ [((k : Int), (q : Int), (⟨#[]⟩ : ByteArray))], s.2.2.size ≤ 65536) := Lib.hid (by
                  intro s hs
                  rcases List.mem_append.1 hs with hs | hs
                  · exact HS.out s hs
                  · rw [List.mem_singleton] at hs; subst hs; show (⟨#[]⟩ : ByteArray).size ≤ 65536; decide)
                clear hstep hnb c1 c2 c3 c4 h2 HT2 HP HKQ HRR2 HTL
                go_wp2_with fail
                refine HTK.out.mono ?_; rintro e w2 ⟨rfl, hx2⟩
                have e2 := HX.out.trans hx2
                have O2 := HO.out.ext hx2
                have obx := O2.alloc (.cells #[.int .i64 (k : Int), .int .i64 (q : Int), .string ⟨#[]⟩] 40)
                obtain ⟨v', w', happ, hown', hbel'⟩ := app_new (P := Tryd.prog) 22 22 40 i _ 3 32 Tryd.underlying22 hi hz0 hz1 hz2 rfl (by omega) (by omega)
                  (Below.refl w.heap.size _) obx (by omega) 1 #[.int .i64 (k : Int), .int .i64 (q : Int), .string ⟨#[]⟩] rfl (by omega) (by simp [Value.oneCell']) 40
                rw [size_alloc] at happ
                have HAP := Lib.hid happ
                have HO4 : Hid (Own w' w.heap.size 40 3 v' (i0 + 1) (spCells (ls ++ [((k : Int), (q : Int), (⟨#[]⟩ : ByteArray))]))) := Lib.hid (by rw [spCells_append]; exact hown')
                have HX4 : Hid (Ext w w') := Lib.hid (Below.trans (e2.alloc _) hbel')
                clear happ hown' hbel' O2 obx e2 hx2
                go_wp2_with (at_builtin; refine wpList_append_run rfl rfl HAP.out rfl rfl ?_)
                go_roundw
                case rel => exact ⟨i0 + 1, p, (k : Int), _, rfl, rfl, by go_num, by omega, hpn, by have := HOK.out.2; omega, by rw [List.length_append, hll]; rfl, by omega, by omega, HO4, Lib.hid ⟨HOK.out.1, HSTEP.out⟩, HS2, HX4⟩
                case measure => simp [intOf]; omega
          · have HE := Lib.hid (HF3.out F (by rw [← HRR.2]; exact addW_err (tS_e hT hF) hF) hF)
            have f1 : ((F : Int) != 0) = true := by rw [bne_iff_ne]; omega
            have f2 : ((F : Int) == 0) = false := by rw [beq_eq_false_iff_ne]; omega
            clear hT HRR hF
            go_wp2_with fail
            refine HTK.out.mono ?_; rintro e w2 ⟨rfl, hx2⟩
            have e2 := HX.out.trans hx2
            go_wp2_with fail
            refine bodyPost_ret (results_tmp3 rfl _ _ _) rfl ?_
            rw [HE.out]
            exact ⟨e2, _, _, _, rfl, rfl, Rd.nil _ _⟩
        · obtain rfl : i0 = N := by omega
          have hRq := HR.out.2
          rw [Nat.sub_self] at hRq
          have hR2 : R = (0, ls, off - K0) := by rw [← hRq]; simp [addW, tW]
          have hTW := HF4.out _ _ hR2
          rw [show K0 + (off - K0) = off by have := HR.out.1; omega] at hTW
          obtain ⟨ao, co, rfl, _⟩ := HO.out.len
          have HMY := Lib.hid (mayR4_c ao i0 co ls wr HO.out.rd hll (by have := HMM.out; omega) fun s hs => by have := HS.out s hs; omega)
          have dlt : ¬ (i0 : Int) < (i0 : Int) := by omega
          have hrd : RdO wr ao i0 co ls := ⟨hll, HO.out.rd⟩
          have HRD := Lib.hid hrd
          by_cases hm : mayL ls = 0
          · rw [if_neg (by omega)] at hTW
            have HTW := Lib.hid hTW
            rw [hm] at HMY
            clear hTW hm hRq hR2 hrd
            go_wp2_with fail
            refine HMY.out.mono ?_; rintro e w2 ⟨rfl, hx2⟩
            go_wp2_with fail
            refine bodyPost_ret (results_tmp3 rfl _ _ _) rfl ?_
            rw [HTW.out]
            exact ⟨HX.out.trans hx2, _, _, _, rfl, HRD.out.ext hx2⟩
          · rw [if_pos hm] at hTW
            have HTW := Lib.hid hTW
            have f1 : (mayL ls != 0) = true := by rw [bne_iff_ne]; exact hm
            have f2 : (mayL ls == 0) = false := by rw [beq_eq_false_iff_ne]; exact hm
            clear hTW hm hRq hR2 hrd HS HR HRD
            generalize mayL ls = E at *
            go_wp2_with fail
            refine HMY.out.mono ?_; rintro e w2 ⟨rfl, hx2⟩
            go_wp2_with fail
            refine bodyPost_ret (results_tmp3 rfl _ _ _) rfl ?_
            rw [HTW.out]
            exact ⟨HX.out.trans hx2, _, _, _, rfl, rfl, Rd.nil _ _⟩
  · rw [takeW_1 hT0 hF]
    have f1 : ((F0 : Int) != 0) = true := by rw [bne_iff_ne]; omega
    have f2 : ((F0 : Int) == 0) = false := by rw [beq_eq_false_iff_ne]; omega
    clear h hbl hT0 hF
    go_enter Tryd.func17, Tryd.ntmps17
    go_wp2_with fail
    refine (HT.out _ (Ext.refl _)).mono ?_; rintro e w1 ⟨rfl, hx1⟩
    go_wp2_with fail
    refine bodyPost_ret (results_tmp3 rfl _ _ _) rfl ?_
    exact ⟨hx1, _, _, _, rfl, rfl, Rd.nil _ _⟩
theorem takeWR_c (A : Option Addr) (n c : Nat) (b : List UInt8) (w : World) (h : Rd w 1 (.slice A n c) n (Lib.byteCells b)) (hn : n ≤ 1000) :
    Calls Tryd.prog 17 #[.slice A n c] w (TakeR w (takeW b)) := takeWR2_c A n c b w h (by omega) (.inl hn)
end Go.Proofs.YtggoimakbadbkaaDoor
