/- Layer 14, the program: may, put, Put, most, headed, reader, Take. -/
import Derived.Laws.Rows
import Derived.Laws.ResultCell
import Derived.Test.YtggoimakbadbkaaDoorC14
import Derived.Test.YtggoimakbadbkaaDoorP2
import Derived.Test.YtggoimakbadbkaaDoorP4
import Derived.Test.YtggoimakbadbkaaDoorP5
import Derived.Test.YtggoimakbadbkaaDoorMq
import Derived.Test.YtggoimakbadbkaaDoorC2a
import Derived.Test.YtggoimakbadbkaaDoorC2b
import Derived.Test.YtggoimakbadbkaaDoorC5
import Derived.Test.YtggoimakbadbkaaDoorC6
import Derived.Test.YtggoimakbadbkaaDoorC1f
import Derived.Test.YtggoimakbadbkaaDoorBs
namespace Go.Proofs.YtggoimakbadbkaaDoor
open Go.RowKit
set_option maxRecDepth 100000
set_option maxHeartbeats 4000000
set_option linter.unusedSimpArgs false
theorem results_box_tmp2 {P : Program} {fn : Func} {p u v : Tmp} {ty : TypeId} (h : fn.results = #[.cell p ty, .tmp u, .tmp v]) (tmps : Array Value) (w : World) (g : Nat) (t : TypeId) (cs : Array Value) (fr : Nat × Nat) (d : TypeDesc)
    (hp : tmps.getD p undef = .pointer (some ⟨g, 0, none⟩)) (hg : w.heap[g]? = some (.cells cs t fr))
    (hu : P.underlying ty = some d) (hd : (match d with | .struct _ | .array _ _ => true | _ => false) = true) (hi : (P.info? ty).map (·.size) = some cs.size) :
    (results fn tmps).run P w = .ok (.tuple #[.agg cs, tmps.getD u undef, tmps.getD v undef]) w := by
  have e : (results fn tmps).run P w =
      ((asAddr (tmps.getD p undef)).run P w).andThen fun a w₁ => ((loadVar ty a).run P w₁).andThen fun x w₂ => .ok (.tuple #[x, tmps.getD u undef, tmps.getD v undef]) w₂ := by
    simp only [results, h]
    simp [Sem.run_bind, Result.andThen]
  rw [e, hp]
  simp [asAddr, run_loadVar_row w g t ty cs fr d hg hu hd hi]
/-- append of any slice onto one of the call's own: no block of another kind turns. -/
theorem app_rdo {P : Program} (t ty e : TypeId) (i : TypeInfo) (z : Value) (size bytes : Nat) (ht : P.underlying t = some (.slice e)) (hi : P.info? e = some i) (hz : i.zero = some z)
    (hsize : i.size = size) (hby : i.bytes = bytes) (hzs : z.cells.size = size) (hsz : 0 < size) (hbl : bytes ≤ 64)
    {a w : World} {B : Nat} {v : Value} {n : Nat} {xs : List Value} (hb : Below B a w) (ho : Own w B e size v n xs) (hn : n ≤ 1000000000)
    {y : Value} {m : Nat} {ys : List Value} (hr : Rd w size y m ys) (h0 : 0 < m) (hm' : m ≤ 1000000000) (h1 : ∀ u ∈ ys, u.oneCell' = true) :
    ∃ v' w', (Builtin.append_ #[t, t] ty #[v, y]).run P w = .ok v' w' ∧ Own w' B e size v' (n + m) (xs ++ ys) ∧ Below B a w' ∧ Others w w' e := by
  obtain ⟨v', w', g1, g2, g3, g4⟩ := app_erdo (P := P) t ty e i z size bytes ht hi hz hsize hby hzs hsz hbl hb ho.2 (.inr ho) hn hr hm' h1
  refine ⟨v', w', g1, ?_, g3, g4⟩
  rcases g2 with ⟨g2, _⟩ | g2
  · omega
  · exact g2
theorem app_stro {P : Program} (t u ty e : TypeId) (i : TypeInfo) (ht : P.underlying t = some (.slice e)) (hu : P.underlying u = some .string) (hi : P.info? e = some i) (hz : i.zero = some (.int .u8 0)) (hsize : i.size = 1) (hby : i.bytes = 1)
    {a w : World} {B : Nat} {v : Value} {n : Nat} {xs : List Value} (hb : Below B a w) (ho : Own w B e 1 v n xs) (hn : n ≤ 1000000000) (s : ByteArray) (hs : s.size ≤ 1000000000) :
    ∃ v' w', (Builtin.append_ #[t, u] ty #[v, .string s]).run P w = .ok v' w' ∧ Own w' B e 1 v' (n + s.size) (xs ++ Lib.byteCells (bs s)) ∧ Below B a w' ∧ Others w w' e := by
  obtain ⟨v', w', h1, h2, h3, _⟩ := Lib.run_append_own_string (P := P) w B t u ty e i ht hu hi hz hsize hby v n xs ho.1 s (by unfold maxLen; omega) (by omega) ho.2
  exact ⟨v', w', h1, ⟨h2, Nat.le_trans ho.2 h3.size⟩, below_grown hb ho h3, others_own ho h3⟩
theorem may14_c (A : Option Addr) (q c : Nat) (l : List Sp) (w : World) [Tab w] (h : RdO w A q c l) (hq : q ≤ 1000) (ht : ∀ s ∈ l, s.2.2.size ≤ 65536) :
    Calls Tryd.prog 21 #[.slice A q c] w fun e w' => e = .returned (.int .i64 (wordE l)) ∧ Ext w w' := by
  have hl := h.1
  have HM := Lib.hid (may4_c A q c l w h.2 hl hq fun s hs => by have := ht s hs; omega)
  have HI : Hid (∀ w', Ext w w' → _) := Lib.hid fun w' hx => is5_c A q c l w' (h.2.ext hx) hl (by omega)
  by_cases hm : mayL l = 0
  · obtain ⟨oka, i0, i1⟩ := mayL_all hm (by omega)
    have ok : ∀ s ∈ l, OkW s := fun s hs => okW_of_may (oka s hs)
    have hpos := okW_pos l ok
    rw [hm] at HM
    by_cases hn : normL l = l
    · have hE : wordE l = 0 := by unfold wordE; rw [if_pos hm, if_pos hn]
      rw [hE]
      have hN := (isN_iff hpos).2 hn
      have HNI := Lib.hid hN
      have H := Lib.hid h; have HT := Lib.hid ht; have HL := Lib.hid hl
      clear h hpos hm hn hE hN i0 i1 ok oka ht hl
      go_enter Tryd.func21, Tryd.ntmps21
      go_wp2_with fail
      refine HM.out.mono ?_; rintro e w1 ⟨rfl, hx1⟩
      go_wp2_with fail
      refine (HI.out _ hx1).mono ?_; rintro e w2 ⟨b, rfl, hx2, hb⟩
      have hbt : b = true := hb.2 HNI.out
      subst hbt
      clear hb
      have e2 := hx1.trans hx2
      go_wp2_with fail
      go_loopw [16] (fun z wr => ∃ j : Nat, j ≤ q ∧ z = .int .i64 j ∧ Ext w wr) (fun z _ => q - (intOf z).toNat)
      case atStart => exact ⟨0, by omega, rfl, e2⟩
      case round =>
        obtain ⟨j, hj, rfl, hxr⟩ := hrel
        by_cases hlt : j < q
        · have hjl : j < l.length := by have := HL.out; omega
          obtain ⟨b, off, rfl, hb, q0, q1, q2⟩ := sp_at (H.out.2.ext hxr) HL.out hlt
          have dn : decide (j < q) = true := by rw [decide_eq_true_eq]; exact hlt
          have htx := HT.out _ (List.getElem_mem hjl)
          have HX : Hid (∀ o, Ext wr (wr.alloc o)) := Lib.hid fun o => (Ext.refl wr).alloc o
          obtain ⟨s, hs⟩ : ∃ s, l[j] = s := ⟨_, rfl⟩
          rw [hs] at q0 q1 q2 htx
          obtain ⟨s1, s2, s3⟩ := s
          simp only at q0 q1 q2 htx
          have g1 : ¬ (65536 : Int) < (s3.size : Int) := by omega
          clear hs
          go_wp2_with fail
          go_roundw
          case rel => exact ⟨j + 1, by omega, by go_num, hxr.trans (HX.out _)⟩
          case measure => simp [intOf]; omega
        · obtain rfl : j = q := by omega
          have dn : decide (j < j) = false := by rw [decide_eq_false_iff_not]; omega
          have g2 : ¬ (65536 : Int) < (j : Int) := by omega
          clear hlt hj
          go_wp2_with fail
          go_ret
          exact ⟨rfl, hxr⟩
    · have hE : wordE l = 8 := by unfold wordE; rw [if_pos hm, if_neg hn]
      rw [hE]
      have HNI : Hid (¬ isN l) := Lib.hid fun h => hn ((isN_iff hpos).1 h)
      clear h hpos hm hn hE i0 i1 ok ht hl oka
      go_enter Tryd.func21, Tryd.ntmps21
      go_wp2_with fail
      refine HM.out.mono ?_; rintro e w1 ⟨rfl, hx1⟩
      go_wp2_with fail
      refine (HI.out _ hx1).mono ?_; rintro e w2 ⟨b, rfl, hx2, hb⟩
      have hbt : b = false := by
        rcases b with _ | _
        · rfl
        · exact absurd (hb.1 rfl) HNI.out
      subst hbt
      clear hb
      go_wp2_with fail
      go_ret
      exact ⟨rfl, hx1.trans hx2⟩
  · have hE : wordE l = mayL l := by unfold wordE; rw [if_neg hm]
    rw [hE]
    have t1 : (mayL l != 0) = true := by rw [bne_iff_ne]; exact hm
    have t2 : (mayL l == 0) = false := by rw [beq_eq_false_iff_ne]; exact hm
    clear h hm hE ht hl HI
    generalize mayL l = E at *
    go_enter Tryd.func21, Tryd.ntmps21
    go_wp2_with fail
    refine HM.out.mono ?_; rintro e w1 ⟨rfl, hx1⟩
    go_wp2_with fail
    go_ret
    exact ⟨rfl, hx1⟩
theorem putP14 (x : Nat) (v : Int) (hv : v = (x : Int)) (hx : x < 268435456) (w : World) : Calls Tryd.prog 23 #[.int .i64 v] w fun e w' => ∃ A n c, e = .returned (.tuple #[.slice A n c, .int .i64 0]) ∧ Ext w w' ∧ Own w' w.heap.size 5 1 (.slice A n c) n (Lib.byteCells (putL x)) ∧ (putL x).length = n := by
  refine (putO_c v w).mono ?_
  rintro e w' ⟨hx', ⟨h, _⟩ | ⟨m, u, h1, h2, rfl, h4⟩⟩
  · omega
  · obtain rfl : m = x := by omega
    obtain ⟨A, c, rfl, _⟩ := h4.len
    exact ⟨A, _, c, rfl, hx', h4, rfl⟩
/-- No block turns that holds neither bytes nor a slice of them. -/
def KeepT (w w' : World) : Prop := w.heap.size ≤ w'.heap.size ∧ ∀ (g : Nat) (cur : Array Value) (e1 : TypeId) (f : Nat × Nat), e1 ≠ 5 → e1 ≠ 23 → w.heap[g]? = some (.cells cur e1 f) → w'.heap[g]? = some (.cells cur e1 f)
theorem KeepT.of_ext {w w' : World} (h : Ext w w') : KeepT w w' := ⟨h.size, fun g _ _ _ _ _ hg => (h.block g (Array.getElem?_eq_some_iff.1 hg).1).trans hg⟩
theorem KeepT.of_others {w w' : World} (h : Others w w' 5) : KeepT w w' := ⟨h.1, fun g c e f h1 _ hg => h.2 g c e f h1 hg⟩
theorem KeepT.trans {a b c : World} (h : KeepT a b) (k : KeepT b c) : KeepT a c := ⟨Nat.le_trans h.1 k.1, fun g u e f h1 h2 hg => k.2 g u e f h1 h2 (h.2 g u e f h1 h2 hg)⟩
theorem KeepT.set {w : World} {y : Nat} {vs : Array Value} (hb : BxT 23 w y vs) (v : Value) : KeepT w (w.setCell ⟨y, 0, none⟩ v) := ⟨by simp, fun g c e f _ h2 hg => by
  rw [heap_setCell_other _ _ _ _ (fun hk => ?_)]
  · exact hg
  · have hb' : w.heap[g]? = some (.cells vs 23 (0, 0)) := by subst hk; exact hb
    rw [hb'] at hg
    injection hg with hg
    injection hg with _ he
    exact h2 he.symm⟩
/-- The box of the bytes, and these. -/
def ByB (B y : Nat) (w : World) (l : List UInt8) : Prop := B ≤ y ∧ ∃ v, BxT 23 w y #[v] ∧ Own w B 5 1 v l.length (Lib.byteCells l)
theorem ByB.ext {B y : Nat} {w w' : World} {l : List UInt8} (h : ByB B y w l) (hx : Ext w w') : ByB B y w' l := by
  obtain ⟨hy, v, h1, h2⟩ := h
  exact ⟨hy, v, h1.ext hx, h2.ext hx⟩
theorem put14_c (y m B : Nat) (mv : Int) (l : List UInt8) (a w : World) (hv : mv = (m : Int)) (hm : m < 268435456) (ha : Below B a w) (hb : ByB B y w l) (hp : l.length ≤ 100000000) :
    Calls Tryd.prog 22 #[.int .i64 mv, .pointer (some ⟨y, 0, none⟩)] w fun e w' => e = .returned (.tuple #[]) ∧ Below B a w' ∧ KeepT w w' ∧ ByB B y w' (l ++ putL m) := by
  have HN := Lib.hid (fun w' => putP14 m mv hv hm w')
  obtain ⟨hy, v, hb, ho⟩ := hb
  have HB := Lib.hid hb; have HO := Lib.hid ho; have HPL := Lib.hid (putL_length m); have HPP := Lib.hid (putL_pos m); have HA := Lib.hid ha
  obtain ⟨i, hi, hz0, hz1, hz2⟩ := info_parts info_u8b
  have hsz := ho.2
  clear hb ho hv ha
  go_enter Tryd.func22, Tryd.ntmps22
  go_wp2_with fail
  refine (HN.out _).mono ?_; rintro e w1 ⟨A, n, c, rfl, hx1, o1, hn⟩
  have c0 : w1.cell? ⟨y, 0, none⟩ = some v := (HB.out.ext hx1).cell rfl
  obtain ⟨v', w', ha1, o', b', oth⟩ := app_rdo (P := Tryd.prog) 23 23 5 i _ 1 1 Tryd.underlying23 hi hz0 hz1 hz2 rfl (by omega) (by omega) (Below.trans HA.out (hx1.below.mono hsz)) (HO.out.ext hx1) (by omega) o1.rd (by have := HPP.out; omega) (by have := HPL.out; omega) (byteCells_one _)
  obtain ⟨ga, gc, rfl, _⟩ := o'.len
  have HAP := Lib.hid ha1
  have hb2 : BxT 23 w' y #[v] := oth.2 y _ _ _ (by decide) (HB.out.ext hx1)
  have d0 : w'.cell? ⟨y, 0, none⟩ = some v := hb2.cell rfl
  have d1 := hb2.frozen 0
  have HB2 := Lib.hid hb2
  have HR : Hid (ByB B y (w'.setCell ⟨y, 0, none⟩ (.slice ga (l.length + n) gc)) (l ++ putL m)) := Lib.hid ⟨hy, (.slice ga (l.length + n) gc), hb2.set 0 (.slice ga (l.length + n) gc), by
    have h2 := own_cell_other (a := ⟨y, 0, none⟩) o' hb2 (by decide) (.slice ga (l.length + n) gc)
    rw [List.length_append, hn, byteCells_append2]
    exact h2⟩
  have HK : Hid (KeepT w (w'.setCell ⟨y, 0, none⟩ (.slice ga (l.length + n) gc))) := Lib.hid (((KeepT.of_ext hx1).trans (KeepT.of_others oth)).trans (KeepT.set hb2 (.slice ga (l.length + n) gc)))
  have HBE : Hid (Below B a (w'.setCell ⟨y, 0, none⟩ (.slice ga (l.length + n) gc))) := Lib.hid (b'.setCell (p := ⟨y, 0, none⟩) hy _)
  clear ha1 o' b' oth o1 hn hb2
  go_wp2_with (at_builtin; refine wpList_append_run rfl rfl HAP.out rfl rfl ?_)
  go_end0
  exact ⟨rfl, HBE.out, HK.out, HR.out⟩
theorem wordPut_c (A : Option Addr) (q c : Nat) (l : List Sp) (w : World) [Tab w] (h : RdO w A q c l) (hq : q ≤ 1000) (ht : ∀ s ∈ l, s.2.2.size ≤ 65536) :
    Calls Tryd.prog 11 #[.slice A q c] w (WordR w l) := by
  have hl := h.1
  have HM := Lib.hid (may14_c A q c l w h hq ht)
  unfold WordR
  by_cases hE : wordE l = 0
  · have hB : wordB l = wordsL l := by unfold wordB; rw [if_pos hE]
    obtain ⟨hm, hn⟩ := wordE_ok hE
    obtain ⟨oka, i0, i1⟩ := mayL_all hm (by omega)
    have ok : ∀ s ∈ l, OkW s := fun s hs => okW_of_may (oka s hs)
    have hpos := okW_pos l ok
    rw [hE] at HM
    rw [hE, hB]
    have hnum : ∀ s ∈ l, s.2.1 ≤ 1048576 := fun s hs => by
      have h1 := okW_N l ok
      have h2 := le_sumN l hpos s hs
      omega
    have hsum : sumT l ≤ 65536000 := by have := sumT_le14 l 65536 ht; have : l.length * 65536 ≤ 1000 * 65536 := Nat.mul_le_mul_right _ (by omega); omega
    have HG : Hid (∀ y W, Below w.heap.size w W → ByB w.heap.size y W [] → _) := Lib.hid fun y W hx hb => put14_c y l.length w.heap.size (q : Int) [] w W (by rw [hl]) (by omega) hx hb (by simp)
    have H := Lib.hid h; have HOK := Lib.hid ok; have HT := Lib.hid ht; have HNU := Lib.hid hnum; have HL := Lib.hid hl
    obtain ⟨i, hi, hz0, hz1, hz2⟩ := info_parts info_u8b
    clear h hpos hm hn hE hB i0 i1 ok oka ht hnum hl
    go_enter Tryd.func11, Tryd.ntmps11
    go_wp2_with fail
    refine HM.out.mono ?_; rintro e w1 ⟨rfl, hx1⟩
    have b1 := BxT.new w1 23 #[.slice none 0 0]
    have x1 := hx1.alloc (.cells #[.slice none 0 0] 23)
    have B1 : Hid (ByB w.heap.size w1.heap.size (w1.alloc (.cells #[.slice none 0 0] 23)) []) := Lib.hid ⟨hx1.size, _, b1, Own.nil _ _ _ _ x1.size⟩
    have s1 := hx1.size
    go_wp2_with fail
    obtain ⟨W1, hW1⟩ : ∃ W, w1.alloc (.cells #[.slice none 0 0] 23) = W := ⟨_, rfl⟩
    rw [hW1] at B1 x1 ⊢
    obtain ⟨y, hy⟩ : ∃ y, w1.heap.size = y := ⟨_, rfl⟩
    rw [hy] at B1 s1 ⊢
    clear b1 hW1 hy hx1
    refine (HG.out y W1 x1 B1.out).mono ?_; rintro e w3 ⟨rfl, e3, _, b3⟩
    have B3 : Hid (ByB w.heap.size y w3 (putL l.length ++ wsL (l.take 0))) := Lib.hid (by simp only [List.take_zero, wsL, List.flatMap_nil, List.append_nil]; exact b3)
    clear b3 B1 x1
    go_wp2_with fail
    go_loopw [21] (fun z wr => ∃ j : Nat, j ≤ q ∧ z = .int .i64 j ∧ ByB w.heap.size y wr (putL l.length ++ wsL (l.take j)) ∧ Ext w wr) (fun z _ => q - (intOf z).toNat)
    case atStart => exact ⟨0, by omega, rfl, B3.out, e3⟩
    case round =>
      clear B3
      obtain ⟨j, hj, rfl, byb, hxr⟩ := hrel
      by_cases hlt : j < q
      · have hjl : j < l.length := by have := HL.out; omega
        obtain ⟨b, off, rfl, hb, q0, q1, q2⟩ := sp_at (H.out.2.ext hxr) HL.out hlt
        have dn : decide (j < q) = true := by rw [decide_eq_true_eq]; exact hlt
        have hst := wsL_take l j hjl
        have hok := HOK.out _ (List.getElem_mem hjl)
        have htx := HT.out _ (List.getElem_mem hjl)
        obtain ⟨v1, v2, v3, v4, v5⟩ := headV _ hok htx (HNU.out _ (List.getElem_mem hjl))
        have hnu := HNU.out _ (List.getElem_mem hjl)
        have hwl := wsL_len (l.take j)
        have hw2 := sumT_append (l.take j) (l.drop j)
        rw [List.take_append_drop] at hw2
        have hw3 : (l.take j).length ≤ 1000 := by rw [List.length_take]; omega
        have hw4 := putL_small l.length
        obtain ⟨s, hs⟩ : ∃ s, l[j] = s := ⟨_, rfl⟩
        rw [hs] at q0 q1 q2 hst hok htx v1 v2 v3 v4 v5 hnu
        obtain ⟨s1, s2, s3⟩ := s
        simp only at q0 q1 q2 htx v1 v3 v4 v5 hnu
        have hpre : (putL l.length ++ wsL (l.take j)).length ≤ 80000000 := by rw [List.length_append]; omega
        have hnew : putL l.length ++ wsL (l.take (j + 1)) = (putL l.length ++ wsL (l.take j)) ++ putL (headN (s1, s2, s3)) ++ bs s3 := by
          rw [hst]; unfold wS; simp only [List.append_assoc]
        obtain ⟨PRE, hPRE⟩ : ∃ P, putL l.length ++ wsL (l.take j) = P := ⟨_, rfl⟩
        rw [hPRE] at hpre hnew byb
        have HG2 : Hid (∀ W, Below w.heap.size w W → ByB w.heap.size y W PRE → _) := Lib.hid (fun W hx hb => put14_c y (headN (s1, s2, s3)) w.heap.size _ PRE w W v1 v2 hx hb (by omega))
        obtain ⟨n, hnn⟩ : ∃ n : Int, s2 + (s3.size : Int) = n := ⟨_, rfl⟩
        rw [hnn] at HG2
        have hwn : IntKind.i64.wrap (s2 + (s3.size : Int)) = n := by rw [IntKind.wrap_i64]; omega
        have hn0 : 0 ≤ n := by omega
        have hn1 : n ≤ 1114112 := by omega
        obtain ⟨m4, hm4⟩ : ∃ m : Int, 4 * n = m := ⟨_, rfl⟩
        obtain ⟨m5, hm5⟩ : ∃ m : Int, m4 + s1 = m := ⟨_, rfl⟩
        have hw41 : IntKind.i64.wrap (4 * n) = m4 := by rw [IntKind.wrap_i64]; omega
        have hw51 : IntKind.i64.wrap (m4 + s1) = m5 := by rw [IntKind.wrap_i64]; omega
        rw [hm4, hm5] at HG2
        have HNW := Lib.hid hnew; have HBY := Lib.hid byb; have HPL := Lib.hid (putL_length (headN (s1, s2, s3)))
        have HX2 : Hid (Ext wr (wr.alloc (.cells #[.int .i64 s1, .int .i64 s2, .string s3] 40))) := Lib.hid ((Ext.refl wr).alloc _)
        have HB2 := Lib.hid (BxT.new wr 40 #[.int .i64 s1, .int .i64 s2, .string s3])
        clear hst hok v1 v2 hwl hw2 hw3 hw4 hnew byb hs hPRE
        go_wp2_with fail
        refine (HG2.out _ (hxr.trans HX2.out) (HBY.out.ext HX2.out)).mono ?_; rintro e w4 ⟨rfl, e4, k4, b4⟩
        have hs4 : BxT 40 w4 wr.heap.size #[.int .i64 s1, .int .i64 s2, .string s3] := k4.2 _ _ _ _ (by decide) (by decide) HB2.out
        have t2 : w4.cell? ⟨wr.heap.size, 2, none⟩ = some (.string s3) := hs4.cell rfl
        obtain ⟨hyy, v4', bb4, o4⟩ := b4
        obtain ⟨ha, hc, rfl, _⟩ := o4.len
        have t0 : w4.cell? ⟨y, 0, none⟩ = some (.slice ha (PRE ++ putL (headN (s1, s2, s3))).length hc) := bb4.cell rfl
        have hlen : (PRE ++ putL (headN (s1, s2, s3))).length ≤ 80000004 := by rw [List.length_append]; have := HPL.out; omega
        obtain ⟨v6, w6, ha6, o6, b6, oth⟩ := app_stro (P := Tryd.prog) 23 9 23 5 i Tryd.underlying23 Tryd.underlying9 hi hz0 hz1 hz2 e4 o4 (by omega) s3 (by omega)
        obtain ⟨ga, gc, rfl, _⟩ := o6.len
        have HAP := Lib.hid ha6
        have hb6 : BxT 23 w6 y _ := oth.2 y _ _ _ (by decide) bb4
        have d0 : w6.cell? ⟨y, 0, none⟩ = some (.slice ha (PRE ++ putL (headN (s1, s2, s3))).length hc) := hb6.cell rfl
        have d1 := hb6.frozen 0
        obtain ⟨LL, hLL⟩ : ∃ L, (PRE ++ putL (headN (s1, s2, s3))).length = L := ⟨_, rfl⟩
        rw [hLL] at HAP t0 d0 o6 hb6 hlen
        have HR : Hid (ByB w.heap.size y (w6.setCell ⟨y, 0, none⟩ (.slice ga (LL + s3.size) gc)) (putL l.length ++ wsL (l.take (j + 1)))) := Lib.hid ⟨hyy, _, hb6.set 0 _, by
          have h2 := own_cell_other (a := ⟨y, 0, none⟩) o6 hb6 (by decide) (.slice ga (LL + s3.size) gc)
          rw [HNW.out, List.length_append, hLL, bs_length, byteCells_append2]
          exact h2⟩
        have HBE : Hid (Below w.heap.size w (w6.setCell ⟨y, 0, none⟩ (.slice ga (LL + s3.size) gc))) := Lib.hid (b6.setCell (p := ⟨y, 0, none⟩) hyy _)
        clear ha6 o6 b6 oth hb6 bb4 o4 hs4 k4 hLL e4
        go_wp2_with (at_builtin; refine wpList_append_run2 rfl rfl HAP.out rfl rfl ?_)
        go_roundw
        case rel => exact ⟨j + 1, by omega, by go_num, HR.out, HBE.out⟩
        case measure => simp [intOf]; omega
      · obtain rfl : j = q := by omega
        have hall : l.take j = l := by rw [← HL.out]; exact List.take_length
        rw [hall] at byb
        obtain ⟨_, v, bb, bo⟩ := byb
        have c0 : wr.cell? ⟨y, 0, none⟩ = some v := bb.cell rfl
        have dn : decide (j < j) = false := by rw [decide_eq_false_iff_not]; omega
        have BO := Lib.hid bo
        clear hall hlt hj bb bo
        go_wp2_with fail
        go_ret2
        exact ⟨hxr, _, rfl, BO.out⟩
  · have hB : wordB l = [] := by unfold wordB; rw [if_neg hE]
    rw [hB]
    have t1 : (wordE l != 0) = true := by rw [bne_iff_ne]; exact hE
    have t2 : (wordE l == 0) = false := by rw [beq_eq_false_iff_ne]; exact hE
    clear h hE hB ht hl
    generalize wordE l = E at *
    go_enter Tryd.func11, Tryd.ntmps11
    go_wp2_with fail
    refine HM.out.mono ?_; rintro e w1 ⟨rfl, hx1⟩
    go_wp2_with fail
    go_ret2
    exact ⟨hx1, _, rfl, Own.nil _ _ _ _ hx1.size⟩
def mostW (k : Nat) : Int := if k = 2 then 65536 else if k = 0 then 0 else 1048576
theorem most_c (k : Nat) (hk : k ≤ 3) (w : World) : Calls Tryd.prog 45 #[.int .i64 (k : Int)] w fun e w' => e = .returned (.int .i64 (mostW k)) ∧ Ext w w' := by
  obtain rfl | rfl | rfl | rfl : k = 0 ∨ k = 1 ∨ k = 2 ∨ k = 3 := by omega
  · show Calls Tryd.prog 45 #[.int .i64 0] w fun e w' => e = .returned (.int .i64 0) ∧ Ext w w'
    go_enter Tryd.func45, Tryd.ntmps45
    go_wp2_with fail
    go_ret
    exact ⟨rfl, Ext.refl _⟩
  · show Calls Tryd.prog 45 #[.int .i64 1] w fun e w' => e = .returned (.int .i64 1048576) ∧ Ext w w'
    go_enter Tryd.func45, Tryd.ntmps45
    go_wp2_with fail
    go_ret
    exact ⟨rfl, Ext.refl _⟩
  · show Calls Tryd.prog 45 #[.int .i64 2] w fun e w' => e = .returned (.int .i64 65536) ∧ Ext w w'
    go_enter Tryd.func45, Tryd.ntmps45
    go_wp2_with fail
    go_ret
    exact ⟨rfl, Ext.refl _⟩
  · show Calls Tryd.prog 45 #[.int .i64 3] w fun e w' => e = .returned (.int .i64 1048576) ∧ Ext w w'
    go_enter Tryd.func45, Tryd.ntmps45
    go_wp2_with fail
    go_ret
    exact ⟨rfl, Ext.refl _⟩
/-- A span, how many bytes, and an error, as one value. -/
def trV (r : Nat × Sp × Nat) : Value := .tuple #[.agg #[.int .i64 r.2.1.1, .int .i64 r.2.1.2.1, .string r.2.1.2.2], .int .i64 (r.2.2 : Int), .int .i64 (r.1 : Int)]
/-- The span of a head's kind and number. -/
def hdT (k q : Nat) (b : List UInt8) : Nat × Sp × Nat :=
  if k ≠ 2 then (0, ((k : Int), (q : Int), ⟨#[]⟩), 0)
  else if b.length < q then (7, noS, 0)
  else if dec (b.take q) = none then (8, noS, 0)
  else (0, (2, 0, mkS (b.take q)), q)
theorem headed_c (k q : Nat) (A : Option Addr) (n c : Nat) (b : List UInt8) (w : World) (h : Rd w 1 (.slice A n c) n (Lib.byteCells b)) (hn : n ≤ 200000) (hk : k ≤ 3) (hq : 1 ≤ q) (hq2 : q ≤ 1048576) :
    Calls Tryd.prog 46 #[.int .i64 (k : Int), .int .i64 (q : Int), .slice A n c] w fun e w' => e = .returned (trV (hdT k q b)) ∧ Ext w w' := by
  have hbl : b.length = n := by have := h.1; simpa [Lib.byteCells] using this
  by_cases hk2 : k = 2
  · subst hk2
    unfold hdT
    rw [if_neg (by omega), hbl]
    show Calls Tryd.prog 46 #[.int .i64 2, .int .i64 (q : Int), .slice A n c] w _
    by_cases hs : n < q
    · rw [if_pos hs]
      have g5 : (n : Int) < (q : Int) := by omega
      have hz := (Ext.refl w).alloc (.cells #[.int .i64 0, .int .i64 0, .string ⟨#[]⟩] 40)
      have hb := BxT.new w 40 #[.int .i64 0, .int .i64 0, .string ⟨#[]⟩]
      clear h hbl hs
      go_enter Tryd.func46, Tryd.ntmps46
      go_wp2_with fail
      refine bodyPost_ret (results_box_tmp2 rfl _ _ w.heap.size _ _ (0, 0) _ rfl hb Tryd.underlying40 rfl (by kernel_rfl)) rfl ?_
      exact ⟨rfl, hz⟩
    · rw [if_neg hs]
      have g5 : ¬ (n : Int) < (q : Int) := by omega
      have z1 : (q : Int) ≤ (n : Int) := by omega
      have hcap : n ≤ c := by obtain ⟨_, _, hv, hc⟩ := h.len; injection hv with _ _ e; omega
      have z2 : (q : Int) ≤ (c : Int) := by omega
      obtain ⟨bb, o0, hA, _⟩ : ∃ bb o0, A = some ⟨bb, o0, none⟩ ∧ True := by
        obtain ⟨_, A', c', hv, _, h2⟩ := h
        obtain ⟨b1, off, hA, _⟩ := h2 (by omega)
        injection hv with e1
        exact ⟨b1, off, by rw [e1]; exact hA, trivial⟩
      subst hA
      obtain ⟨TX, hTX⟩ : ∃ TX, b.take q = TX := ⟨_, rfl⟩
      rw [hTX]
      have HRT : Hid (∀ W, Ext w W → (convert 23 9 (.slice (some ⟨bb, o0, none⟩) q c)).run Tryd.prog W = .ok (.string (mkS TX)) W) := Lib.hid fun W hx => by
        have h2 := bytes_front (h.ext hx) (show q ≤ n by omega)
        rw [hTX] at h2
        exact run_str (P := Tryd.prog) W 23 9 5 Tryd.underlying23 Tryd.underlying5 Tryd.underlying9 h2
      have hlen : TX.length = q := by rw [← hTX, List.length_take, hbl]; omega
      have HVA : Hid (∀ w', Calls Tryd.prog 54 #[.string (mkS TX)] w' fun e w'' => e = .returned (.bool (dec TX).isSome) ∧ Ext w' w'') := Lib.hid fun w' => by
        have h1 := valid_c (mkS TX) w' (by rw [size_mkS, hlen]; omega)
        rw [bs_mkS] at h1; exact h1
      have xz := (Ext.refl w).alloc (.cells #[.int .i64 0, .int .i64 0, .string ⟨#[]⟩] 40)
      have HBZ := Lib.hid (BxT.new w 40 #[.int .i64 0, .int .i64 0, .string ⟨#[]⟩])
      have HXZ := Lib.hid xz
      have HCV := Lib.hid (HRT.out _ xz)
      clear h hbl hs hTX hlen xz
      by_cases hd : dec TX = none
      · rw [if_pos hd]
        have hv : (dec TX).isSome = false := by rw [hd]; rfl
        rw [hv] at HVA
        clear hd hv
        go_enter Tryd.func46, Tryd.ntmps46
        go_wp2_with (with_reducible refine wpList_convert_run rfl rfl HCV.out rfl ?_)
        refine (HVA.out _).mono ?_; rintro e w1 ⟨rfl, hx1⟩
        have b1 := HBZ.out.ext hx1
        have k0 : w1.cell? ⟨w.heap.size, 0, none⟩ = some (.int .i64 0) := b1.cell rfl
        have k1 : w1.cell? ⟨w.heap.size, 1, none⟩ = some (.int .i64 0) := b1.cell rfl
        have k2 : w1.cell? ⟨w.heap.size, 2, none⟩ = some (.string ⟨#[]⟩) := b1.cell rfl
        have f0 := b1.frozen 0; have f1 := b1.frozen 1; have f2 := b1.frozen 2
        have HB1 := Lib.hid b1
        clear b1
        go_wp2_with fail
        refine bodyPost_ret (results_box_tmp2 rfl _ _ w.heap.size _ _ (0, 0) _ rfl (((HB1.out.set 0 (.int .i64 0)).set 1 (.int .i64 0)).set 2 (.string ⟨#[]⟩)) Tryd.underlying40 rfl (by kernel_rfl)) rfl ?_
        exact ⟨rfl, (((Below.setCell (HXZ.out.trans hx1) (p := ⟨w.heap.size, 0, none⟩) (Nat.le_refl _) _).setCell (p := ⟨w.heap.size, 1, none⟩) (Nat.le_refl _) _).setCell (p := ⟨w.heap.size, 2, none⟩) (Nat.le_refl _) _)⟩
      · rw [if_neg hd]
        have hv : (dec TX).isSome = true := by
          rcases Option.ne_none_iff_exists'.1 hd with ⟨cs, hcs⟩
          rw [hcs]; rfl
        rw [hv] at HVA
        clear hd hv
        go_enter Tryd.func46, Tryd.ntmps46
        go_wp2_with (with_reducible refine wpList_convert_run rfl rfl HCV.out rfl ?_)
        refine (HVA.out _).mono ?_; rintro e w1 ⟨rfl, hx1⟩
        have b1 := HBZ.out.ext hx1
        have k0 : w1.cell? ⟨w.heap.size, 0, none⟩ = some (.int .i64 0) := b1.cell rfl
        have k1 : w1.cell? ⟨w.heap.size, 1, none⟩ = some (.int .i64 0) := b1.cell rfl
        have k2 : w1.cell? ⟨w.heap.size, 2, none⟩ = some (.string ⟨#[]⟩) := b1.cell rfl
        have f0 := b1.frozen 0; have f1 := b1.frozen 1; have f2 := b1.frozen 2
        have HB1 := Lib.hid b1
        clear b1
        go_wp2_with fail
        refine bodyPost_ret (results_box_tmp2 rfl _ _ w.heap.size _ _ (0, 0) _ rfl (((HB1.out.set 0 (.int .i64 2)).set 1 (.int .i64 0)).set 2 (.string (mkS TX))) Tryd.underlying40 rfl (by kernel_rfl)) rfl ?_
        exact ⟨rfl, (((Below.setCell (HXZ.out.trans hx1) (p := ⟨w.heap.size, 0, none⟩) (Nat.le_refl _) _).setCell (p := ⟨w.heap.size, 1, none⟩) (Nat.le_refl _) _).setCell (p := ⟨w.heap.size, 2, none⟩) (Nat.le_refl _) _)⟩
  · unfold hdT
    rw [if_pos hk2]
    have b0 : ((k : Int) != 2) = true := by rw [bne_iff_ne]; omega
    have b1 : ((k : Int) == 2) = false := by rw [beq_eq_false_iff_ne]; omega
    have hz := (Ext.refl w).alloc (.cells #[.int .i64 (k : Int), .int .i64 (q : Int), .string ⟨#[]⟩] 40)
    have hb := BxT.new w 40 #[.int .i64 (k : Int), .int .i64 (q : Int), .string ⟨#[]⟩]
    clear h hbl hk2
    go_enter Tryd.func46, Tryd.ntmps46
    go_wp2_with fail
    refine bodyPost_ret (results_box_tmp2 rfl _ _ w.heap.size _ _ (0, 0) _ rfl hb Tryd.underlying40 rfl (by kernel_rfl)) rfl ?_
    exact ⟨rfl, hz⟩
theorem reader_c (A : Option Addr) (n c : Nat) (w : World) : Calls Tryd.prog 33 #[.slice A n c] w fun e w' => ∃ x y, e = .returned (.func (.func 44) #[] #[.pointer (some ⟨x, 0, none⟩), .pointer (some ⟨y, 0, none⟩)]) ∧
    w.heap.size ≤ x ∧ w.heap.size ≤ y ∧ x ≠ y ∧ Ext w w' ∧ BxT 23 w' x #[.slice A n c] ∧ BxT 3 w' y #[.int .i64 0] := by
  have h1 := (Ext.refl w).alloc (.cells #[.slice A n c] 23)
  have h2 := h1.alloc (.cells #[.int .i64 0] 3)
  have b1 := (BxT.new w 23 #[.slice A n c]).ext ((Ext.refl _).alloc (.cells #[.int .i64 0] 3))
  have b2 := BxT.new (w.alloc (.cells #[.slice A n c] 23)) 3 #[.int .i64 0]
  rw [size_alloc] at b2
  go_enter Tryd.func33, Tryd.ntmps33
  go_wp2_with fail
  go_ret
  exact ⟨w.heap.size, w.heap.size + 1, rfl, by omega, by omega, by omega, h2, b1, b2⟩
/-- What a call of the reader leaves. -/
def RdrP (x y : Nat) (w0 W : World) (n c : Nat) (b : List UInt8) (r : Nat × Sp × Nat) (e : Ending) (W' : World) : Prop :=
  e = .returned (trV r) ∧ KS W.heap.size x y W W' ∧ (r.1 = 0 → ∃ A', BxT 23 W' x #[.slice A' (n - r.2.2) (c - r.2.2)] ∧ BxT 3 W' y #[.int .i64 r.2.1.1] ∧ Rd w0 1 (.slice A' (n - r.2.2) (c - r.2.2)) (n - r.2.2) (Lib.byteCells (b.drop r.2.2)))
theorem tS_hd {was : Int} {b : List UInt8} {H K : Nat} (h : takeL b = (H, K, 0)) (hc : ¬ (H % 4 = 0 ∨ (if H % 4 = 2 then 65536 else 1048576) < H / 4 ∨ H / 4 = 0 ∨ ((H % 4 : Nat) : Int) = was)) {E : Nat} {s : Sp} {u : Nat} (hd : hdT (H % 4) (H / 4) (b.drop K) = (E, s, u)) :
    tS was b = if E ≠ 0 then (E, noS, 0) else (0, s, K + u) := by
  unfold hdT at hd
  rw [List.length_drop] at hd
  by_cases h2 : H % 4 = 2
  · rw [if_neg (by omega)] at hd
    by_cases hl : b.length - K < H / 4
    · rw [if_pos hl] at hd
      injection hd with e1 e2; injection e2 with e2 e3
      subst e1
      rw [tS_7 h hc h2 hl, if_pos (by decide)]
    · rw [if_neg hl] at hd
      by_cases hd2 : dec ((b.drop K).take (H / 4)) = none
      · rw [if_pos hd2] at hd
        injection hd with e1 e2; injection e2 with e2 e3
        subst e1
        rw [tS_t h hc h2 hl hd2, if_pos (by decide)]
      · rw [if_neg hd2] at hd
        injection hd with e1 e2; injection e2 with e2 e3
        subst e1; subst e2; subst e3
        rw [tS_p h hc h2 hl hd2, if_neg (by decide)]
  · rw [if_pos h2] at hd
    injection hd with e1 e2; injection e2 with e2 e3
    subst e1; subst e2; subst e3
    rw [tS_n h hc h2, if_neg (by decide), Nat.add_zero]
theorem hdT_some {k q : Nat} {b : List UInt8} {s : Sp} {u : Nat} (h : hdT k q b = (0, s, u)) : s.1 = (k : Int) ∧ u ≤ b.length ∧ s.2.2.size ≤ q := by
  unfold hdT at h
  by_cases h2 : k = 2
  · rw [if_neg (by omega)] at h
    by_cases hl : b.length < q
    · rw [if_pos hl] at h; injection h with e; omega
    · rw [if_neg hl] at h
      by_cases hd : dec (b.take q) = none
      · rw [if_pos hd] at h; injection h with e; omega
      · rw [if_neg hd] at h
        injection h with e1 e2; injection e2 with e2 e3
        subst e2; subst e3
        refine ⟨by rw [h2]; rfl, by omega, ?_⟩
        show (mkS _).size ≤ q
        rw [size_mkS, List.length_take]; omega
  · rw [if_pos h2] at h
    injection h with e1 e2; injection e2 with e2 e3
    subst e2; subst e3
    exact ⟨rfl, Nat.zero_le _, Nat.zero_le _⟩
theorem ks_box3 {x y : Nat} {W W' : World} (h : KS W.heap.size x y W W') (u v t : Value) :
    KS W.heap.size x y W (((W'.setCell ⟨W.heap.size, 0, none⟩ u).setCell ⟨W.heap.size, 1, none⟩ v).setCell ⟨W.heap.size, 2, none⟩ t) :=
  ((h.set ⟨W.heap.size, 0, none⟩ u (.inr (.inr (Nat.le_refl _)))).set ⟨W.heap.size, 1, none⟩ v (.inr (.inr (Nat.le_refl _)))).set ⟨W.heap.size, 2, none⟩ t (.inr (.inr (Nat.le_refl _)))
theorem rd14_c (x y : Nat) (wz : Int) (A : Option Addr) (n c : Nat) (b : List UInt8) (w0 W : World) (h0 : Rd w0 1 (.slice A n c) n (Lib.byteCells b)) (hx : Ext w0 W) (hxy : x ≠ y)
    (bx : BxT 23 W x #[.slice A n c]) (by_ : BxT 3 W y #[.int .i64 wz]) (hn : n ≤ 200000) (hw0 : 0 ≤ wz) (hw3 : wz ≤ 3) :
    Calls Tryd.prog 44 #[.pointer (some ⟨x, 0, none⟩), .pointer (some ⟨y, 0, none⟩)] W (RdrP x y w0 W n c b (tS wz b)) := by
  have hbl : b.length = n := by have := h0.1; simpa [Lib.byteCells] using this
  obtain ⟨⟨X, K, F⟩, hT⟩ : ∃ r, takeL b = r := ⟨_, rfl⟩
  have HTK : Hid (∀ W', Ext w0 W' → Calls Tryd.prog 32 #[.slice A n c] W' fun e w'' => e = .returned (.tuple #[.int .i64 (X : Int), .int .i64 (K : Int), .int .i64 (F : Int)]) ∧ Ext W' w'') := Lib.hid (fun W' hx => by
    have h1 := take_c A n c b W' (h0.ext hx) (by omega)
    rw [hT] at h1; exact h1)
  have xz := (Ext.refl W).alloc (.cells #[.int .i64 0, .int .i64 0, .string ⟨#[]⟩] 40)
  have bz := BxT.new W 40 #[.int .i64 0, .int .i64 0, .string ⟨#[]⟩]
  have c0 : (W.alloc (.cells #[.int .i64 0, .int .i64 0, .string ⟨#[]⟩] 40)).cell? ⟨x, 0, none⟩ = some (.slice A n c) := (bx.ext xz).cell rfl
  have HXZ := Lib.hid xz; have HBZ := Lib.hid bz; have HX := Lib.hid hx; have HBX := Lib.hid bx; have HBY := Lib.hid by_; have H0 := Lib.hid h0; have HBL := Lib.hid hbl
  have ltx := bx.lt; have lty := by_.lt
  clear xz bz hx bx by_ h0 hbl
  unfold RdrP
  by_cases hF : F = 0
  · subst hF
    obtain ⟨t1, t2, t3, t4⟩ := take_some hT
    rw [HBL.out] at t4
    have htl : K ≤ n := t4
    obtain ⟨k, hk⟩ : ∃ k, X % 4 = k := ⟨_, rfl⟩
    obtain ⟨q, hq⟩ : ∃ q, X / 4 = q := ⟨_, rfl⟩
    have d1 : (X : Int) % 4 = (k : Int) := by omega
    have d2 : (X : Int) / 4 = (q : Int) := by omega
    have d3 : (X : Int).tmod 4 = (k : Int) := by rw [Int.tmod_eq_emod_of_nonneg (by omega)]; exact d1
    have d4 : (X : Int).tdiv 4 = (q : Int) := by rw [Int.tdiv_eq_ediv_of_nonneg (by omega)]; exact d2
    have hk3 : k ≤ 3 := by omega
    have hqb : q ≤ 100000000 := by omega
    have HMO : Hid (∀ W, Calls Tryd.prog 45 #[.int .i64 (k : Int)] W fun e w' => e = .returned (.int .i64 (mostW k)) ∧ Ext W w') := Lib.hid fun W => most_c k hk3 W
    have hmo : mostW k = (if k = 2 then 65536 else if k = 0 then 0 else 1048576) := rfl
    have HT2 := Lib.hid hT; have HKQ := Lib.hid (And.intro hk hq); have HTL := Lib.hid (And.intro htl t3)
    clear hT hk hq t1 t2 t3 t4 htl d1 d2
    obtain ⟨M, hM⟩ : ∃ M, mostW k = M := ⟨_, rfl⟩
    rw [hM] at HMO hmo
    clear hM
    by_cases hbad : q = 0 ∨ M < (q : Int) ∨ (k : Int) = wz
    · have hE := tS_8 (was := wz) HT2.out (by
        rw [HKQ.out.1, HKQ.out.2]
        by_cases hk0 : k = 0
        · exact .inl hk0
        · rw [if_neg hk0] at hmo
          rcases hbad with h | h | h
          · exact .inr (.inr (.inl h))
          · refine .inr (.inl ?_)
            split
            · rename_i h2; rw [if_pos h2] at hmo; omega
            · rename_i h2; rw [if_neg h2] at hmo; omega
          · exact .inr (.inr (.inr h)))
      rw [hE]
      clear hE hmo
      by_cases hq0 : q = 0
      · subst hq0
        clear hbad
        have b3 : (((0 : Nat) : Int) == 0) = true := rfl
        go_enter Tryd.func44, Tryd.ntmps44
        go_wp2_with fail
        refine (HTK.out _ (HX.out.trans HXZ.out)).mono ?_; rintro e w1 ⟨rfl, hx1⟩
        have b1 := HBZ.out.ext hx1
        have k0 : w1.cell? ⟨W.heap.size, 0, none⟩ = some (.int .i64 0) := b1.cell rfl
        have k1 : w1.cell? ⟨W.heap.size, 1, none⟩ = some (.int .i64 0) := b1.cell rfl
        have k2 : w1.cell? ⟨W.heap.size, 2, none⟩ = some (.string ⟨#[]⟩) := b1.cell rfl
        have f0 := b1.frozen 0; have f1 := b1.frozen 1; have f2 := b1.frozen 2
        have HB1 := Lib.hid b1
        clear b1
        go_wp2_with fail
        refine bodyPost_ret (results_box_tmp2 rfl _ _ W.heap.size _ _ (0, 0) _ rfl (((HB1.out.set 0 (.int .i64 0)).set 1 (.int .i64 0)).set 2 (.string ⟨#[]⟩)) Tryd.underlying40 rfl (by kernel_rfl)) rfl ?_
        exact ⟨rfl, ks_box3 (KS.of_ext x y (Nat.le_refl _) (HXZ.out.trans hx1)) _ _ _, fun h => absurd h (by decide)⟩
      · have b3 : ((q : Int) == 0) = false := by rw [beq_eq_false_iff_ne]; omega
        by_cases hmq : M < (q : Int)
        · clear hbad
          go_enter Tryd.func44, Tryd.ntmps44
          go_wp2_with fail
          refine (HTK.out _ (HX.out.trans HXZ.out)).mono ?_; rintro e w1 ⟨rfl, hx1⟩
          go_wp2_with fail
          refine (HMO.out _).mono ?_; rintro e w2 ⟨rfl, hx2⟩
          have e2 := HXZ.out.trans (hx1.trans hx2)
          have cy : w2.cell? ⟨y, 0, none⟩ = some (.int .i64 wz) := (HBY.out.ext e2).cell rfl
          have b1 := (HBZ.out.ext hx1).ext hx2
          have k0 : w2.cell? ⟨W.heap.size, 0, none⟩ = some (.int .i64 0) := b1.cell rfl
          have k1 : w2.cell? ⟨W.heap.size, 1, none⟩ = some (.int .i64 0) := b1.cell rfl
          have k2 : w2.cell? ⟨W.heap.size, 2, none⟩ = some (.string ⟨#[]⟩) := b1.cell rfl
          have f0 := b1.frozen 0; have f1 := b1.frozen 1; have f2 := b1.frozen 2
          have HB1 := Lib.hid b1
          clear b1
          go_wp2_with fail
          refine bodyPost_ret (results_box_tmp2 rfl _ _ W.heap.size _ _ (0, 0) _ rfl (((HB1.out.set 0 (.int .i64 0)).set 1 (.int .i64 0)).set 2 (.string ⟨#[]⟩)) Tryd.underlying40 rfl (by kernel_rfl)) rfl ?_
          exact ⟨rfl, ks_box3 (KS.of_ext x y (Nat.le_refl _) e2) _ _ _, fun h => absurd h (by decide)⟩
        · have h3 : (k : Int) = wz := by omega
          have b4 : ((k : Int) == wz) = true := by rw [beq_iff_eq]; exact h3
          clear hbad h3
          go_enter Tryd.func44, Tryd.ntmps44
          go_wp2_with fail
          refine (HTK.out _ (HX.out.trans HXZ.out)).mono ?_; rintro e w1 ⟨rfl, hx1⟩
          go_wp2_with fail
          refine (HMO.out _).mono ?_; rintro e w2 ⟨rfl, hx2⟩
          have e2 := HXZ.out.trans (hx1.trans hx2)
          have cy : w2.cell? ⟨y, 0, none⟩ = some (.int .i64 wz) := (HBY.out.ext e2).cell rfl
          have b1 := (HBZ.out.ext hx1).ext hx2
          have k0 : w2.cell? ⟨W.heap.size, 0, none⟩ = some (.int .i64 0) := b1.cell rfl
          have k1 : w2.cell? ⟨W.heap.size, 1, none⟩ = some (.int .i64 0) := b1.cell rfl
          have k2 : w2.cell? ⟨W.heap.size, 2, none⟩ = some (.string ⟨#[]⟩) := b1.cell rfl
          have f0 := b1.frozen 0; have f1 := b1.frozen 1; have f2 := b1.frozen 2
          have HB1 := Lib.hid b1
          clear b1
          go_wp2_with fail
          refine bodyPost_ret (results_box_tmp2 rfl _ _ W.heap.size _ _ (0, 0) _ rfl (((HB1.out.set 0 (.int .i64 0)).set 1 (.int .i64 0)).set 2 (.string ⟨#[]⟩)) Tryd.underlying40 rfl (by kernel_rfl)) rfl ?_
          exact ⟨rfl, ks_box3 (KS.of_ext x y (Nat.le_refl _) e2) _ _ _, fun h => absurd h (by decide)⟩
    · have hnb : ¬ (X % 4 = 0 ∨ (if X % 4 = 2 then 65536 else 1048576) < X / 4 ∨ X / 4 = 0 ∨ ((X % 4 : Nat) : Int) = wz) := by
        rw [HKQ.out.1, HKQ.out.2]
        simp only [not_or] at hbad ⊢
        obtain ⟨c1, c2, c3⟩ := hbad
        have hk0 : k ≠ 0 := by intro h; subst h; rw [if_neg (by omega), if_pos rfl] at hmo; omega
        refine ⟨hk0, ?_, c1, c3⟩
        split
        · rename_i h2; rw [if_pos h2] at hmo; omega
        · rename_i h2; rw [if_neg h2, if_neg hk0] at hmo; omega
      have hE := fun {E s u} => tS_hd (was := wz) (E := E) (s := s) (u := u) HT2.out hnb
      rw [HKQ.out.1, HKQ.out.2] at hE
      have hq1 : 1 ≤ q := by omega
      have hq2 : q ≤ 1048576 := by
        have : ¬ M < (q : Int) := fun h => hbad (.inr (.inl h))
        have : M ≤ 1048576 := by rw [hmo]; split <;> (try split) <;> omega
        omega
      have b3 : ((q : Int) == 0) = false := by rw [beq_eq_false_iff_ne]; omega
      have g3 : ¬ M < (q : Int) := fun h => hbad (.inr (.inl h))
      have b4 : ((k : Int) == wz) = false := by rw [beq_eq_false_iff_ne]; exact fun h => hbad (.inr (.inr h))
      have hcap : n ≤ c := by obtain ⟨_, _, hv, hc⟩ := H0.out.len; injection hv with _ _ e; omega
      have hK1 := HTL.out
      obtain ⟨bb, o0, hA, _⟩ : ∃ bb o0, A = some ⟨bb, o0, none⟩ ∧ True := by
        obtain ⟨_, A', c', hv, _, h2⟩ := H0.out
        obtain ⟨b1, off, hA, _⟩ := h2 (by omega)
        injection hv with e1
        exact ⟨b1, off, by rw [e1]; exact hA, trivial⟩
      subst hA
      have hrb := bytes_behind H0.out hK1.1
      obtain ⟨AD, hAD⟩ : ∃ AD : Option Addr, (if c = K then some ⟨bb, o0, none⟩ else some ⟨bb, o0 + K, none⟩) = AD := ⟨_, rfl⟩
      rw [hAD] at hrb
      obtain ⟨⟨E, s, u⟩, hd⟩ : ∃ r, hdT k q (b.drop K) = r := ⟨_, rfl⟩
      rw [hE hd]
      have HHD : Hid (∀ W', Ext w0 W' → Calls Tryd.prog 46 #[.int .i64 (k : Int), .int .i64 (q : Int), .slice AD (n - K) (c - K)] W' fun e w'' => e = .returned (.tuple #[.agg #[.int .i64 s.1, .int .i64 s.2.1, .string s.2.2], .int .i64 (u : Int), .int .i64 (E : Int)]) ∧ Ext W' w'') := Lib.hid fun W' hx => by
        have h1 := headed_c k q AD (n - K) (c - K) (b.drop K) W' (hrb.ext hx) (by omega) hk3 hq1 hq2
        rw [hd] at h1; exact h1
      have y0 : (0 : Int) ≤ (K : Int) := by omega
      have y1 : (K : Int) ≤ (n : Int) := by omega
      have y2 : (n : Int) ≤ (c : Int) := by omega
      obtain ⟨s1, s2, s3⟩ := s
      simp only at HHD
      by_cases hE0 : E = 0
      · subst hE0
        rw [if_neg (by omega)]
        obtain ⟨r1, r2, r3⟩ := hdT_some hd
        rw [List.length_drop, HBL.out] at r2
        simp only at r1 r3
        subst r1
        obtain ⟨p, hp⟩ : ∃ p, K + u = p := ⟨_, rfl⟩
        have d5 : (K : Int) + (u : Int) = (p : Int) := by omega
        have hpn : p ≤ n := by omega
        have z1 : (p : Int) ≤ (n : Int) := by omega
        have hr2 := bytes_behind H0.out hpn
        obtain ⟨AP, hAP⟩ : ∃ AP : Option Addr, (if c = p then some ⟨bb, o0, none⟩ else some ⟨bb, o0 + p, none⟩) = AP := ⟨_, rfl⟩
        rw [hAP] at hr2
        rw [hp]
        have HR2 := Lib.hid hr2
        clear hE hbad hnb hrb hd hr2 hp r2 r3 hK1 hmo
        go_enter Tryd.func44, Tryd.ntmps44
        go_wp2_with fail
        refine (HTK.out _ (HX.out.trans HXZ.out)).mono ?_; rintro e w1 ⟨rfl, hx1⟩
        go_wp2_with fail
        refine (HMO.out _).mono ?_; rintro e w2 ⟨rfl, hx2⟩
        have e2 := HXZ.out.trans (hx1.trans hx2)
        have cy : w2.cell? ⟨y, 0, none⟩ = some (.int .i64 wz) := (HBY.out.ext e2).cell rfl
        have cx : w2.cell? ⟨x, 0, none⟩ = some (.slice (some ⟨bb, o0, none⟩) n c) := (HBX.out.ext e2).cell rfl
        go_wp2_with fail
        refine (HHD.out _ (HX.out.trans e2)).mono ?_; rintro e w4 ⟨rfl, hx4⟩
        have e24 := (hx1.trans hx2).trans hx4
        have x5 := (Ext.refl w4).alloc (.cells #[.int .i64 (k : Int), .int .i64 s2, .string s3] 40)
        have n1 := e24.size; rw [size_alloc] at n1
        have HE5 := Lib.hid ((HXZ.out.trans e24).trans x5)
        have HS5 := Lib.hid (BxT.new w4 40 #[.int .i64 (k : Int), .int .i64 s2, .string s3])
        have HB5 := Lib.hid ((HBZ.out.ext e24).ext x5)
        have HX5 := Lib.hid ((HBX.out.ext (HXZ.out.trans e24)).ext x5)
        have HY5 := Lib.hid ((HBY.out.ext (HXZ.out.trans e24)).ext x5)
        have t1 : (w4.alloc (.cells #[.int .i64 (k : Int), .int .i64 s2, .string s3] 40)).cell? ⟨x, 0, none⟩ = some (.slice (some ⟨bb, o0, none⟩) n c) := HX5.out.cell rfl
        have t2 := HX5.out.frozen 0
        have t3 : ((w4.alloc (.cells #[.int .i64 (k : Int), .int .i64 s2, .string s3] 40)).setCell ⟨x, 0, none⟩ (.slice AP (n - p) (c - p))).cell? ⟨y, 0, none⟩ = some (.int .i64 wz) := (HY5.out.other ⟨x, 0, none⟩ (Ne.symm hxy) _).cell rfl
        have t4 := (HY5.out.other ⟨x, 0, none⟩ (Ne.symm hxy) (.slice AP (n - p) (c - p))).frozen 0
        have hrx : W.heap.size ≠ x := by omega
        have hry : W.heap.size ≠ y := by omega
        have b6 := (HB5.out.other ⟨x, 0, none⟩ hrx (.slice AP (n - p) (c - p))).other ⟨y, 0, none⟩ hry (.int .i64 (k : Int))
        have k0 := b6.cell (i := 0) (u := .int .i64 0) rfl
        have k1 := b6.cell (i := 1) (u := .int .i64 0) rfl
        have k2 := b6.cell (i := 2) (u := .string ⟨#[]⟩) rfl
        have f0 := b6.frozen 0; have g1 := b6.frozen 1; have g2 := b6.frozen 2
        have HB6 := Lib.hid b6
        have HKS := Lib.hid (ks_box3 (((KS.of_ext x y (Nat.le_refl _) HE5.out).set ⟨x, 0, none⟩ (.slice AP (n - p) (c - p)) (.inl rfl)).set ⟨y, 0, none⟩ (.int .i64 (k : Int)) (.inr (.inl rfl))) (.int .i64 (k : Int)) (.int .i64 s2) (.string s3))
        have HXF := Lib.hid (((((HX5.out.set 0 (.slice AP (n - p) (c - p))).other ⟨y, 0, none⟩ hxy (.int .i64 (k : Int))).other ⟨W.heap.size, 0, none⟩ hrx.symm (.int .i64 (k : Int))).other ⟨W.heap.size, 1, none⟩ hrx.symm (.int .i64 s2)).other ⟨W.heap.size, 2, none⟩ hrx.symm (.string s3))
        have HYF := Lib.hid (((((HY5.out.other ⟨x, 0, none⟩ (Ne.symm hxy) (.slice AP (n - p) (c - p))).set 0 (.int .i64 (k : Int))).other ⟨W.heap.size, 0, none⟩ hry.symm (.int .i64 (k : Int))).other ⟨W.heap.size, 1, none⟩ hry.symm (.int .i64 s2)).other ⟨W.heap.size, 2, none⟩ hry.symm (.string s3))
        clear b6
        go_wp2_with fail
        refine bodyPost_ret (results_box_tmp2 rfl _ _ W.heap.size _ _ (0, 0) _ rfl (((HB6.out.set 0 (.int .i64 (k : Int))).set 1 (.int .i64 s2)).set 2 (.string s3)) Tryd.underlying40 rfl (by kernel_rfl)) rfl ?_
        exact ⟨rfl, HKS.out, fun _ => ⟨AP, HXF.out, HYF.out, HR2.out⟩⟩
      · rw [if_pos hE0]
        have f1 : ((E : Int) != 0) = true := by rw [bne_iff_ne]; omega
        have f2 : ((E : Int) == 0) = false := by rw [beq_eq_false_iff_ne]; omega
        clear hE hbad hnb hrb hd hK1 hmo
        go_enter Tryd.func44, Tryd.ntmps44
        go_wp2_with fail
        refine (HTK.out _ (HX.out.trans HXZ.out)).mono ?_; rintro e w1 ⟨rfl, hx1⟩
        go_wp2_with fail
        refine (HMO.out _).mono ?_; rintro e w2 ⟨rfl, hx2⟩
        have e2 := HXZ.out.trans (hx1.trans hx2)
        have cy : w2.cell? ⟨y, 0, none⟩ = some (.int .i64 wz) := (HBY.out.ext e2).cell rfl
        have cx : w2.cell? ⟨x, 0, none⟩ = some (.slice (some ⟨bb, o0, none⟩) n c) := (HBX.out.ext e2).cell rfl
        go_wp2_with fail
        refine (HHD.out _ (HX.out.trans e2)).mono ?_; rintro e w4 ⟨rfl, hx4⟩
        have e4 := e2.trans hx4
        have e5 := e4.alloc (.cells #[.int .i64 s1, .int .i64 s2, .string s3] 40)
        have b1 := (((HBZ.out.ext hx1).ext hx2).ext hx4).ext ((Ext.refl _).alloc (.cells #[.int .i64 s1, .int .i64 s2, .string s3] 40))
        have k0 : (w4.alloc (.cells #[.int .i64 s1, .int .i64 s2, .string s3] 40)).cell? ⟨W.heap.size, 0, none⟩ = some (.int .i64 0) := b1.cell rfl
        have k1 : (w4.alloc (.cells #[.int .i64 s1, .int .i64 s2, .string s3] 40)).cell? ⟨W.heap.size, 1, none⟩ = some (.int .i64 0) := b1.cell rfl
        have k2 : (w4.alloc (.cells #[.int .i64 s1, .int .i64 s2, .string s3] 40)).cell? ⟨W.heap.size, 2, none⟩ = some (.string ⟨#[]⟩) := b1.cell rfl
        have f0 := b1.frozen 0; have g1 := b1.frozen 1; have g2 := b1.frozen 2
        have HB1 := Lib.hid b1
        clear b1
        go_wp2_with fail
        refine bodyPost_ret (results_box_tmp2 rfl _ _ W.heap.size _ _ (0, 0) _ rfl (((HB1.out.set 0 (.int .i64 0)).set 1 (.int .i64 0)).set 2 (.string ⟨#[]⟩)) Tryd.underlying40 rfl (by kernel_rfl)) rfl ?_
        exact ⟨rfl, ks_box3 (KS.of_ext x y (Nat.le_refl _) e5) _ _ _, fun h => absurd h hE0⟩
  · rw [tS_e hT hF]
    have f1 : ((F : Int) != 0) = true := by rw [bne_iff_ne]; omega
    have f2 : ((F : Int) == 0) = false := by rw [beq_eq_false_iff_ne]; omega
    clear hT
    go_enter Tryd.func44, Tryd.ntmps44
    go_wp2_with fail
    refine (HTK.out _ (HX.out.trans HXZ.out)).mono ?_; rintro e w1 ⟨rfl, hx1⟩
    have b1 := HBZ.out.ext hx1
    have k0 : w1.cell? ⟨W.heap.size, 0, none⟩ = some (.int .i64 0) := b1.cell rfl
    have k1 : w1.cell? ⟨W.heap.size, 1, none⟩ = some (.int .i64 0) := b1.cell rfl
    have k2 : w1.cell? ⟨W.heap.size, 2, none⟩ = some (.string ⟨#[]⟩) := b1.cell rfl
    have f0 := b1.frozen 0; have f1 := b1.frozen 1; have f2 := b1.frozen 2
    have HB1 := Lib.hid b1
    clear b1
    go_wp2_with fail
    refine bodyPost_ret (results_box_tmp2 rfl _ _ W.heap.size _ _ (0, 0) _ rfl (((HB1.out.set 0 (.int .i64 0)).set 1 (.int .i64 0)).set 2 (.string ⟨#[]⟩)) Tryd.underlying40 rfl (by kernel_rfl)) rfl ?_
    exact ⟨rfl, ks_box3 (KS.of_ext x y (Nat.le_refl _) (HXZ.out.trans hx1)) _ _ _, fun h => absurd h hF⟩
theorem own_ks14 {W W' : World} {x y B : Nat} {t1 t2 e : TypeId} {size n : Nat} {v : Value} {xs : List Value} {vs1 vs2 : Array Value} (ho : Own W B e size v n xs) (hk : KS W.heap.size x y W W') (h1 : BxT t1 W x vs1) (d1 : t1 ≠ e) (h2 : BxT t2 W y vs2) (d2 : t2 ≠ e) : Own W' B e size v n xs := by
  refine ⟨⟨ho.1.1, ?_⟩, Nat.le_trans ho.2 hk.size⟩
  rcases ho.1.2 with h | ⟨g, cap, cur, hv, hg, hh, r⟩
  · exact .inl h
  · refine .inr ⟨g, cap, cur, hv, hg, ?_, r⟩
    rw [hk.block g (Array.getElem?_eq_some_iff.1 hh).1 (fun hx => ?_) (fun hy => ?_)]
    · exact hh
    · rw [hx, show W.heap[x]? = _ from h1] at hh
      injection hh with hh; injection hh with _ he; exact d1 he
    · rw [hy, show W.heap[y]? = _ from h2] at hh
      injection hh with hh; injection hh with _ he; exact d2 he
theorem takeWP2_c (A : Option Addr) (n c : Nat) (b : List UInt8) (w : World) [Tab w] (h : Rd w 1 (.slice A n c) n (Lib.byteCells b)) (hn : n ≤ 200000) (hm : n ≤ 1000 ∨ (takeL b).1 ≤ 1000) :
    Calls Tryd.prog 15 #[.slice A n c] w (TakeR w (takeW b)) := by
  have hbl : b.length = n := by have := h.1; simpa [Lib.byteCells] using this
  obtain ⟨⟨N, K0, F0⟩, hT0⟩ : ∃ r, takeL b = r := ⟨_, rfl⟩
  have HMM : Hid (n ≤ 1000 ∨ N ≤ 1000) := Lib.hid (by rw [hT0] at hm; exact hm)
  clear hm
  have HT : Hid (∀ w', Ext w w' → Calls Tryd.prog 32 #[.slice A n c] w' fun e w'' => e = .returned (.tuple #[.int .i64 (N : Int), .int .i64 (K0 : Int), .int .i64 (F0 : Int)]) ∧ Ext w' w'') := Lib.hid fun w' hx => by
    have h1 := take_c A n c b w' (h.ext hx) (by omega)
    rw [hT0] at h1; exact h1
  by_cases hF : F0 = 0
  · subst hF
    obtain ⟨t1, t2, t3, t4⟩ := take_some hT0
    by_cases hN : 65536 < N
    · rw [takeW_2 hT0 hN]
      have g1 : (65536 : Int) < (N : Int) := by omega
      clear h hbl hT0 t1 t2 t3 t4 hN
      go_enter Tryd.func15, Tryd.ntmps15
      go_wp2_with fail
      refine (HT.out _ (Ext.refl _)).mono ?_; rintro e w1 ⟨rfl, hx1⟩
      go_wp2_with fail
      refine bodyPost_ret (results_tmp3 rfl _ _ _) rfl ?_
      exact ⟨hx1, _, _, _, rfl, rfl, Rd.nil _ _⟩
    · have g1 : ¬ (65536 : Int) < (N : Int) := by omega
      obtain ⟨bb, o0, hA, _⟩ : ∃ bb o0, A = some ⟨bb, o0, none⟩ ∧ True := by
        obtain ⟨_, A', c', hv, _, h2⟩ := h
        obtain ⟨b1, off, hA, _⟩ := h2 (by omega)
        injection hv with e1
        exact ⟨b1, off, by rw [e1]; exact hA, trivial⟩
      subst hA
      obtain ⟨i, hi, hz0, hz1, hz2⟩ := info_parts info_sp5
      have hcap : n ≤ c := by obtain ⟨_, _, hv, hc⟩ := h.len; injection hv with _ _ e; omega
      obtain ⟨R, hR⟩ : ∃ R, tW N 0 (b.drop K0) = R := ⟨_, rfl⟩
      have hR0 : addW [] 0 (tW (N - 0) 0 (b.drop K0)) = R := by
        rw [addW_nil _ (tW_shape _ _ _), Nat.sub_zero]; exact hR
      have HR0 := Lib.hid hR0
      have HF3 : Hid (∀ E, R = (E, [], 0) → E ≠ 0 → takeW b = (E, [], 0)) := Lib.hid fun E hE h0 => takeW_3 hT0 hN (by rw [hR]; exact hE) h0
      have HF4 : Hid (∀ l o, R = (0, l, o) → takeW b = if mayL l ≠ 0 then (8, [], 0) else (0, l, K0 + o)) := Lib.hid fun l o hE => takeW_4 hT0 hN (by rw [hR]; exact hE)
      have H := Lib.hid h; have HBL := Lib.hid hbl
      have hK0 : K0 ≤ n := by omega
      have hN1 : N ≤ 65536 := by omega
      have HK1 : Hid (1 ≤ K0) := Lib.hid t3
      have hrb := bytes_behind h hK0
      obtain ⟨AD, hAD⟩ : ∃ AD : Option Addr, (if c = K0 then some ⟨bb, o0, none⟩ else some ⟨bb, o0 + K0, none⟩) = AD := ⟨_, rfl⟩
      rw [hAD] at hrb
      have HRB := Lib.hid hrb
      have y0 : (0 : Int) ≤ (K0 : Int) := by omega
      have y1 : (K0 : Int) ≤ (n : Int) := by omega
      have y2 : (n : Int) ≤ (c : Int) := by omega
      have HRC := Lib.hid (fun w' => reader_c AD (n - K0) (c - K0) w')
      clear h hbl hT0 t1 t2 t3 t4 hN hR hR0 hrb
      go_enter Tryd.func15, Tryd.ntmps15
      go_wp2_with fail
      refine (HT.out _ (Ext.refl _)).mono ?_; rintro e w1 ⟨rfl, hx1⟩
      go_wp2_with fail
      refine (HRC.out _).mono ?_; rintro e w2 ⟨x, y, rfl, hx0, hy0, hxy, hx2, bx, bY⟩
      have e2 := hx1.trans hx2
      have hx3 := Nat.le_trans hx1.size hx0
      have hy3 := Nat.le_trans hx1.size hy0
      have O2 : Hid (Own w2 w.heap.size 40 3 (.slice none 0 0) 0 (spCells [])) := Lib.hid (Own.nil _ _ _ _ e2.size)
      have BX2 := Lib.hid bx; have BY2 := Lib.hid bY
      clear hx1 hx2 hx0 hy0 bx bY
      go_wp2_with fail
      go_loopw [2, 3, 28] (fun out at_ iz wr => ∃ (i off : Nat) (wz : Int) (ls : List Sp) (AA : Option Addr), at_ = .int .i64 off ∧ iz = .int .i64 i ∧ i ≤ N ∧ off ≤ n ∧ i + 1 ≤ off ∧ ls.length = i ∧ 0 ≤ wz ∧ wz ≤ 3 ∧ Hid (Own wr w.heap.size 40 3 out i (spCells ls)) ∧ Hid (K0 ≤ off ∧ addW ls (off - K0) (tW (N - i) wz (b.drop off)) = R) ∧ Hid (∀ s ∈ ls, s.2.2.size ≤ 65536) ∧ Hid (Ext w wr) ∧
        Hid (BxT 23 wr x #[.slice AA (n - off) (c - off)] ∧ BxT 3 wr y #[.int .i64 wz] ∧ Rd w 1 (.slice AA (n - off) (c - off)) (n - off) (Lib.byteCells (b.drop off)))) (fun _ _ z _ => N - (intOf z).toNat)
      case atStart => exact ⟨0, K0, 0, [], AD, rfl, rfl, by omega, hK0, by have := HK1.out; omega, rfl, by omega, by omega, O2, Lib.hid ⟨Nat.le_refl _, by rw [Nat.sub_self]; exact HR0.out⟩, Lib.hid (fun s hs => by cases hs), Lib.hid e2, Lib.hid ⟨BX2.out, BY2.out, HRB.out⟩⟩
      case round =>
        clear O2 e2 HR0 BX2 BY2 HRB
        obtain ⟨i0, off, wz, ls, AA, rfl, rfl, hi0, hoff, hio, hll, hw0, hw3, HO, HR, HS, HX, HBB⟩ := hrel
        by_cases hlt : i0 < N
        · obtain ⟨⟨E, s, k⟩, hTS⟩ : ∃ r, tS wz (b.drop off) = r := ⟨_, rfl⟩
          obtain ⟨s1, s2, s3⟩ := s
          have HRD : Hid (Calls Tryd.prog 44 #[.pointer (some ⟨x, 0, none⟩), .pointer (some ⟨y, 0, none⟩)] wr fun e w' => e = .returned (.tuple #[.agg #[.int .i64 s1, .int .i64 s2, .string s3], .int .i64 (k : Int), .int .i64 (E : Int)]) ∧ KS wr.heap.size x y wr w' ∧
              (E = 0 → ∃ A', BxT 23 w' x #[.slice A' (n - off - k) (c - off - k)] ∧ BxT 3 w' y #[.int .i64 s1] ∧ Rd w 1 (.slice A' (n - off - k) (c - off - k)) (n - off - k) (Lib.byteCells ((b.drop off).drop k)))) := Lib.hid (by
            have h1 := rd14_c x y wz AA (n - off) (c - off) (b.drop off) w wr HBB.out.2.2 HX.out hxy HBB.out.1 HBB.out.2.1 (by omega) hw0 hw3
            rw [hTS] at h1; exact h1)
          obtain ⟨m, hm⟩ : ∃ m, N - i0 = m + 1 := ⟨N - i0 - 1, by omega⟩
          have HRR := HR.out
          rw [hm] at HRR
          have HRR2 := Lib.hid HRR
          have HTS := Lib.hid hTS
          have dlt : (i0 : Int) < (N : Int) := by omega
          clear HRR hTS
          by_cases hE : E = 0
          · subst hE
            obtain ⟨a1, a2, a3, a4, a5⟩ := tS_some HTS.out
            rw [List.length_drop, HBL.out] at a5
            have ak : 0 ≤ s1 ∧ s1 ≤ 3 := by rcases a1.ok with ⟨k1, _⟩ | ⟨k1, _⟩ <;> (simp only at k1; omega)
            have atx : s3.size ≤ 65536 := a1.txt
            obtain ⟨r, hr⟩ : ∃ r, off + k = r := ⟨_, rfl⟩
            have d6 : (off : Int) + (k : Int) = (r : Int) := by omega
            have hrn : r ≤ n := by omega
            have hir : i0 + 1 + 1 ≤ r := by omega
            have HSTEP : Hid (K0 ≤ r ∧ addW (ls ++ [(s1, s2, s3)]) (r - K0) (tW (N - (i0 + 1)) s1 (b.drop r)) = R) := Lib.hid (by
              have hstep := addW_ok (ls := ls) (o := off - K0) (m := m) HTS.out
              rw [HRR2.out.2, List.drop_drop] at hstep
              have := HRR2.out.1
              refine ⟨by omega, ?_⟩
              rw [show r - K0 = off - K0 + k by omega, ← hr, show N - (i0 + 1) = m by omega]
              exact hstep.symm)
            have HS2 : Hid (∀ s ∈ ls ++ [((s1 : Int), (s2 : Int), s3)], s.2.2.size ≤ 65536) := Lib.hid (by
              intro s hs
              rcases List.mem_append.1 hs with hs | hs
              · exact HS.out s hs
              · rw [List.mem_singleton] at hs; subst hs; exact atx)
            have hn1 : n - off - k = n - r := by omega
            have hc1 : c - off - k = c - r := by omega
            have hd1 : (b.drop off).drop k = b.drop r := by rw [List.drop_drop, hr]
            rw [hn1, hc1, hd1] at HRD
            clear a1 a2 a3 a4 a5 hr hn1 hc1 hd1 hm
            go_wp2_with fail
            refine HRD.out.mono ?_; rintro e w3 ⟨rfl, hk3, hok⟩
            obtain ⟨A3, bx3, by3, rd3⟩ := hok (by first | trivial | rfl)
            have e3 : Ext w w3 := Below.trans HX.out (hk3.below HX.out.size hx3 hy3)
            have O3 := own_ks14 HO.out hk3 HBB.out.1 (by decide) HBB.out.2.1 (by decide)
            have e4 := e3.alloc (.cells #[.int .i64 s1, .int .i64 s2, .string s3] 40)
            have x4 := (Ext.refl w3).alloc (.cells #[.int .i64 s1, .int .i64 s2, .string s3] 40)
            obtain ⟨v', w', happ, hown', hbel', oth⟩ := app_newo (P := Tryd.prog) 22 22 40 i _ 3 32 Tryd.underlying22 hi hz0 hz1 hz2 rfl (by omega) (by omega)
              e4 (O3.alloc (.cells #[.int .i64 s1, .int .i64 s2, .string s3] 40)) (by omega) 1 #[.int .i64 s1, .int .i64 s2, .string s3] rfl (by omega) (by simp [Value.oneCell']) 40
            rw [size_alloc] at happ
            have HAP := Lib.hid happ
            have HO4 : Hid (Own w' w.heap.size 40 3 v' (i0 + 1) (spCells (ls ++ [(s1, s2, s3)]))) := Lib.hid (by rw [spCells_append]; exact hown')
            have HX4 : Hid (Ext w w') := Lib.hid hbel'
            have HBB4 : Hid (BxT 23 w' x #[.slice A3 (n - r) (c - r)] ∧ BxT 3 w' y #[.int .i64 s1] ∧ Rd w 1 (.slice A3 (n - r) (c - r)) (n - r) (Lib.byteCells (b.drop r))) := Lib.hid ⟨oth.2 x _ _ _ (by decide) (bx3.ext x4), oth.2 y _ _ _ (by decide) (by3.ext x4), rd3⟩
            clear happ hown' hbel' oth O3 e4 x4 e3 hk3 hok bx3 by3 rd3
            go_wp2_with (at_builtin; refine wpList_append_run rfl rfl HAP.out rfl rfl ?_)
            go_roundw
            case rel => exact ⟨i0 + 1, r, s1, _, A3, rfl, by go_num, by omega, hrn, hir, by rw [List.length_append, hll]; rfl, ak.1, ak.2, HO4, HSTEP, HS2, HX4, HBB4⟩
            case measure => simp [intOf]; omega
          · have HE := Lib.hid (HF3.out E (by rw [← HRR2.out.2]; exact addW_err HTS.out hE) hE)
            have f1 : ((E : Int) != 0) = true := by rw [bne_iff_ne]; omega
            have f2 : ((E : Int) == 0) = false := by rw [beq_eq_false_iff_ne]; omega
            clear hm
            go_wp2_with fail
            refine HRD.out.mono ?_; rintro e w3 ⟨rfl, hk3, _⟩
            have e3 : Ext w w3 := Below.trans HX.out (hk3.below HX.out.size hx3 hy3)
            go_wp2_with fail
            refine bodyPost_ret (results_tmp3 rfl _ _ _) rfl ?_
            rw [HE.out]
            exact ⟨e3.alloc _, _, _, _, rfl, rfl, Rd.nil _ _⟩
        · obtain rfl : i0 = N := by omega
          have hRq := HR.out.2
          rw [Nat.sub_self] at hRq
          have hR2 : R = (0, ls, off - K0) := by rw [← hRq]; simp [addW, tW]
          have hTW := HF4.out _ _ hR2
          rw [show K0 + (off - K0) = off by have := HR.out.1; omega] at hTW
          obtain ⟨ao, co, rfl, _⟩ := HO.out.len
          have hTb := tab_ext HX.out
          have HMY := Lib.hid (may4_c ao i0 co ls wr HO.out.rd hll (by have := HMM.out; omega) fun s hs => by have := HS.out s hs; omega)
          have dlt : ¬ (i0 : Int) < (i0 : Int) := by omega
          have hrd : RdO wr ao i0 co ls := ⟨hll, HO.out.rd⟩
          have HRD := Lib.hid hrd
          by_cases hm : mayL ls = 0
          · rw [if_neg (by omega)] at hTW
            have HTW := Lib.hid hTW
            rw [hm] at HMY
            clear hTW hm hRq hR2 hrd
            go_wp2_with fail
            refine HMY.out.mono ?_; rintro e w2 ⟨rfl, hx2⟩
            go_wp2_with fail
            refine bodyPost_ret (results_tmp3 rfl _ _ _) rfl ?_
            rw [HTW.out]
            exact ⟨HX.out.trans hx2, _, _, _, rfl, HRD.out.ext hx2⟩
          · rw [if_pos hm] at hTW
            have HTW := Lib.hid hTW
            have f1 : (mayL ls != 0) = true := by rw [bne_iff_ne]; exact hm
            have f2 : (mayL ls == 0) = false := by rw [beq_eq_false_iff_ne]; exact hm
            clear hTW hm hRq hR2 hrd HS HR HRD
            generalize mayL ls = E at *
            go_wp2_with fail
            refine HMY.out.mono ?_; rintro e w2 ⟨rfl, hx2⟩
            go_wp2_with fail
            refine bodyPost_ret (results_tmp3 rfl _ _ _) rfl ?_
            rw [HTW.out]
            exact ⟨HX.out.trans hx2, _, _, _, rfl, rfl, Rd.nil _ _⟩
  · rw [takeW_1 hT0 hF]
    have f1 : ((F0 : Int) != 0) = true := by rw [bne_iff_ne]; omega
    have f2 : ((F0 : Int) == 0) = false := by rw [beq_eq_false_iff_ne]; omega
    clear h hbl hT0 hF
    go_enter Tryd.func15, Tryd.ntmps15
    go_wp2_with fail
    refine (HT.out _ (Ext.refl _)).mono ?_; rintro e w1 ⟨rfl, hx1⟩
    go_wp2_with fail
    refine bodyPost_ret (results_tmp3 rfl _ _ _) rfl ?_
    exact ⟨hx1, _, _, _, rfl, rfl, Rd.nil _ _⟩
theorem takeWP_c (A : Option Addr) (n c : Nat) (b : List UInt8) (w : World) [Tab w] (h : Rd w 1 (.slice A n c) n (Lib.byteCells b)) (hn : n ≤ 1000) :
    Calls Tryd.prog 15 #[.slice A n c] w (TakeR w (takeW b)) := takeWP2_c A n c b w h (by omega) (.inl hn)
end Go.Proofs.YtggoimakbadbkaaDoor
