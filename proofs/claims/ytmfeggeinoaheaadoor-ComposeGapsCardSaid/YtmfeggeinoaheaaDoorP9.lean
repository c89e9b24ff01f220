/- Layer 9, the program: may, restOf, both, Of. -/
import Derived.Test.YtmfeggeinoaheaaDoorP9a
import Derived.Test.YtmfeggeinoaheaaDoorC9b
import Derived.Test.YtmfeggeinoaheaaDoorP4
import Derived.Test.YtmfeggeinoaheaaDoorP5
namespace Go.Proofs.YtmfeggeinoaheaaDoor
open Go.RowKit
set_option maxRecDepth 100000
set_option maxHeartbeats 4000000
set_option linter.unusedSimpArgs false
theorem rdO_new {w : World} {A : Option Addr} {n c : Nat} {l : List Sp} (h : RdO w A n c l) : Awy w.heap.size n A := by
  intro hn b off hA
  obtain ⟨_, _, A', c', hv, _, h2⟩ := h
  obtain ⟨b', off', hA', hb', _⟩ := h2 hn
  injection hv with e1 e2 e3
  subst e1
  rw [hA] at hA'
  injection hA' with hA'
  injection hA' with e4 e5
  omega
theorem rdO_awy {w : World} {A : Option Addr} {n c y : Nat} {l : List Sp} (h : RdO w A n c l) (hy : w.heap.size ≤ y) : Awy y n A := by
  intro hn b off hA
  obtain ⟨_, _, A', c', hv, _, h2⟩ := h
  obtain ⟨b', off', hA', hb', _⟩ := h2 hn
  injection hv with e1 e2 e3
  subst e1
  rw [hA] at hA'
  injection hA' with hA'
  injection hA' with e4 e5
  omega
theorem own_awy {w : World} {B : Nat} {e : TypeId} {size : Nat} {a : Option Addr} {n c m : Nat} {xs : List Value} (h : Own w B e size (.slice a n c) m xs) {z : Nat} (hz : z < B) : Awy z n a := by
  intro hn b off hA
  subst hA
  rcases h.1.2 with ⟨h, _⟩ | ⟨g, cap, cur, hv, hg, _⟩
  · cases h
  · injection hv with e1 e2 e3
    injection e1 with e1
    injection e1 with e1 e2
    omega
theorem KS.of_below {n : Nat} (x y : Nat) {A B : World} (h : Below n A B) : KS n x y A B := ⟨h.os, h.tape, h.output, h.size, fun k hk _ _ => h.block k hk⟩
theorem own_ks {w w' : World} {B x : Nat} {e : TypeId} {size : Nat} {v : Value} {n : Nat} {xs : List Value} (h : Own w B e size v n xs) (hk : KS w.heap.size x x w w') (hx : x < B) : Own w' B e size v n xs :=
  ⟨ownsRow_kept h.1 fun k h1 h2 => hk.block k h2 (by omega) (by omega), Nat.le_trans h.2 hk.size⟩
theorem BxT.at_ {t : TypeId} {W W' : World} {n B : Nat} {v : Array Value} (h : BxT t W B v) (hk : Below n W W') (hn : B < n) : BxT t W' B v := (hk.block B hn).trans h
theorem may9_c (A : Option Addr) (q c : Nat) (a : List Sp) (B : Option Addr) (q' c' : Nat) (b : List Sp) (w : World) [Tab w] (h : RdO w A q c a) (h' : RdO w B q' c' b) (hq : q ≤ 1000) (hq' : q' ≤ 1000)
    (hta : ∀ s ∈ a, s.2.2.size ≤ 1000000000) (htb : ∀ s ∈ b, s.2.2.size ≤ 1000000000) (hT : sumT a + sumT b ≤ 900000000) :
    Calls Tryd.prog 18 #[.slice A q c, .slice B q' c'] w fun e w' => e = .returned (.int .i64 (compE a b)) ∧ Ext w w' := by
  have hla := h.1; have hlb := h'.1
  have HMA : Hid (∀ w', Ext w w' → _) := Lib.hid fun w' hx => have hTb := tab_ext hx; may4_c A q c a w' (h.2.ext hx) h.1 hq hta
  have HMB : Hid (∀ w', Ext w w' → _) := Lib.hid fun w' hx => have hTb := tab_ext hx; may4_c B q' c' b w' (h'.2.ext hx) h'.1 hq' htb
  have HOA : Hid (∀ w', Ext w w' → _) := Lib.hid fun w' hx => have hTb := tab_ext hx; out4_c A q c a w' (h.2.ext hx) h.1 hq hta
  have HIB : Hid (∀ w', Ext w w' → _) := Lib.hid fun w' hx => have hTb := tab_ext hx; in4_c B q' c' b w' (h'.2.ext hx) h'.1 hq'
  by_cases hma : mayL a = 0
  · by_cases hmb : mayL b = 0
    · obtain ⟨alla, ai0, ai1⟩ := mayL_all hma (by omega)
      obtain ⟨allb, bi0, bi1⟩ := mayL_all hmb (by omega)
      have hob := outL_le a fun s hs => okW_of_may (alla s hs)
      have hwo : wrap64 (outL a) = outL a := by unfold wrap64; omega
      have hwi : wrap64 (inL b) = inL b := by unfold wrap64; omega
      rw [hma] at HMA; rw [hmb] at HMB; rw [hwo] at HOA; rw [hwi] at HIB
      obtain ⟨E, hE⟩ : ∃ E, compE a b = E := ⟨_, rfl⟩
      rw [hE]
      have hcase : (outL a = inL b ∧ E = 0 ∧ (outL a != inL b) = false) ∨ (outL a ≠ inL b ∧ E = 5 ∧ (outL a != inL b) = true) := by
        rw [← hE]; unfold compE; rw [if_pos hma, if_pos hmb]
        by_cases hf : outL a = inL b
        · exact .inl ⟨hf, if_pos hf, by rw [hf]; simp⟩
        · exact .inr ⟨hf, if_neg hf, by rw [bne_iff_ne]; exact hf⟩
      clear h h' hta htb hT hma hmb alla allb hob hwo hwi hE
      generalize inL b = IB at *
      generalize outL a = OA at *
      rcases hcase with ⟨hf, rfl, hbq⟩ | ⟨hf, rfl, hbq⟩
      · subst hf
        go_enter Tryd.func18, Tryd.ntmps18
        go_wp2_with fail
        refine (HMA.out _ (Ext.refl _)).mono ?_; rintro e w1 ⟨rfl, hx1⟩
        go_wp2_with fail
        refine (HMB.out _ hx1).mono ?_; rintro e w2 ⟨rfl, hx2⟩
        go_wp2_with fail
        refine (HOA.out _ (hx1.trans hx2)).mono ?_; rintro e w3 ⟨rfl, hx3⟩
        go_wp2_with fail
        refine (HIB.out _ ((hx1.trans hx2).trans hx3)).mono ?_; rintro e w4 ⟨rfl, hx4⟩
        go_wp2_with fail
        go_ret
        exact ⟨rfl, ((hx1.trans hx2).trans hx3).trans hx4⟩
      · have hb2 : (OA == IB) = false := by rw [beq_eq_false_iff_ne]; exact hf
        go_enter Tryd.func18, Tryd.ntmps18
        go_wp2_with fail
        refine (HMA.out _ (Ext.refl _)).mono ?_; rintro e w1 ⟨rfl, hx1⟩
        go_wp2_with fail
        refine (HMB.out _ hx1).mono ?_; rintro e w2 ⟨rfl, hx2⟩
        go_wp2_with fail
        refine (HOA.out _ (hx1.trans hx2)).mono ?_; rintro e w3 ⟨rfl, hx3⟩
        go_wp2_with fail
        refine (HIB.out _ ((hx1.trans hx2).trans hx3)).mono ?_; rintro e w4 ⟨rfl, hx4⟩
        go_wp2_with fail
        go_ret
        exact ⟨rfl, ((hx1.trans hx2).trans hx3).trans hx4⟩
    · have hE : compE a b = mayL b := by unfold compE; rw [if_pos hma, if_neg hmb]
      rw [hma] at HMA
      have hb : (mayL b != 0) = true := by rw [bne_iff_ne]; exact hmb
      have hb2 : (mayL b == 0) = false := by rw [beq_eq_false_iff_ne]; exact hmb
      rw [hE]
      clear h h' hta htb hT hma hmb hE
      generalize mayL b = MB at *
      go_enter Tryd.func18, Tryd.ntmps18
      go_wp2_with fail
      refine (HMA.out _ (Ext.refl _)).mono ?_; rintro e w1 ⟨rfl, hx1⟩
      go_wp2_with fail
      refine (HMB.out _ hx1).mono ?_; rintro e w2 ⟨rfl, hx2⟩
      go_wp2_with fail
      go_ret
      exact ⟨rfl, hx1.trans hx2⟩
  · have hE : compE a b = mayL a := by unfold compE; rw [if_neg hma]
    have hb : (mayL a != 0) = true := by rw [bne_iff_ne]; exact hma
    have hb2 : (mayL a == 0) = false := by rw [beq_eq_false_iff_ne]; exact hma
    rw [hE]
    clear h h' hta htb hT hma hE
    generalize mayL a = MA at *
    go_enter Tryd.func18, Tryd.ntmps18
    go_wp2_with fail
    refine (HMA.out _ (Ext.refl _)).mono ?_; rintro e w1 ⟨rfl, hx1⟩
    go_wp2_with fail
    go_ret
    exact ⟨rfl, hx1⟩
theorem restOf_c (A : Option Addr) (q c : Nat) (l : List Sp) (w : World) (h : RdO w A q c l) (hq : q ≤ 1000) (ho : Ok l) :
    Calls Tryd.prog 21 #[.slice A q c] w fun e w' => Ext w w' ∧ ∃ x A' q' c', e = .returned (.pointer (some ⟨x, 0, none⟩)) ∧ w.heap.size ≤ x ∧
      RBox w' x (rstV (hdS (normL l)) (.slice A' q' c')) ∧ RdO w' A' q' c' (normL l).tail ∧ Awy x q' A' ∧ ∀ z, z < w.heap.size → Awy z q' A' := by
  have HN : Hid (∀ w', Ext w w' → _) := Lib.hid fun w' hx => of5_c A q c l w' (h.2.ext hx) h.1 (by omega) ho
  clear h ho
  go_enter Tryd.func21, Tryd.ntmps21
  go_wp2_with fail
  refine (HN.out _ (Ext.refl _)).mono ?_; rintro e w1 ⟨v, rfl, hx1, o1⟩
  obtain ⟨a1, n1, c1, rfl, r1⟩ := rdO_own o1
  have hE := (Ext.refl w1).alloc (.cells #[.int .i64 0, .int .i64 0, .string ⟨#[]⟩, .slice a1 n1 c1] 84)
  have hR := BxT.new w1 84 (rstV (0, 0, ⟨#[]⟩) (.slice a1 n1 c1))
  have hA : Awy w1.heap.size n1 a1 := rdO_new r1
  have hB : ∀ z, z < w.heap.size → Awy z n1 a1 := fun z hz => own_awy o1 hz
  clear o1
  go_wp2_with fail
  refine (step_c w1.heap.size (0, 0, ⟨#[]⟩) a1 n1 c1 (normL l) _ hR (r1.ext hE) hA).mono ?_
  rintro e w2 ⟨⟨v, rfl⟩, hk, A', q', c', g1, g2, g3⟩
  have hx2 : Ext w w2 := Below.trans (hx1.trans hE) (hk.below (hx1.trans hE).size hx1.size hx1.size)
  have hr2 := rdO_ks (g2 _ (r1.ext hE)) (g3 _ hA) (g3 _ hA) hk
  go_wp2_with fail
  go_ret
  exact ⟨hx2, w1.heap.size, A', q', c', rfl, hx1.size, g1, hr2, g3 _ hA, fun z hz => g3 z (hB z hz)⟩
/-- How many spans a box has left, by its cells. -/
def leftN (x : Nat) (w : World) : Nat :=
  (match w.cell? ⟨x, 0, none⟩ with | some (.int _ k) => (if k = 0 then 0 else 1) | _ => 0) + (match w.cell? ⟨x, 3, none⟩ with | some (.slice _ n _) => n | _ => 0)
theorem leftN_eq {x n c : Nat} {w : World} {l : List Sp} {A : Option Addr} (h : RBox w x (rstV (hdS l) (.slice A n c))) (hn : l.tail.length = n) (hk : ∀ s ∈ l, OkW s) : leftN x w = l.length := by
  have c0 : w.cell? ⟨x, 0, none⟩ = some (.int .i64 (hdS l).1) := h.cell rfl
  have c3 : w.cell? ⟨x, 3, none⟩ = some (.slice A n c) := h.cell rfl
  unfold leftN
  rw [c0, c3]
  cases l with
  | nil => simp only [List.tail_nil, List.length_nil] at hn; subst hn; rfl
  | cons s r =>
    have hs : s.1 ≠ 0 := by
      rcases hk s (List.mem_cons_self ..) with ⟨k1, _⟩ | ⟨k1, _⟩ <;> omega
    have e : (hdS (s :: r)).1 = s.1 := rfl
    simp only [List.tail_cons] at hn
    rw [e]
    simp only [if_neg hs, List.length_cons]
    omega
/-- Put and dropped again: an empty span is put in its place. -/
theorem comp_stepE {TT : List Tok} {s u : Sp} {xs ys os : List Sp} {n : Nat} (h : Row3 1000000000 900000000 2000 (s :: xs) (u :: ys) os) (htt : tok os ++ compT (tok (s :: xs)) (tok (u :: ys)) = TT) (hsid : tout (tok (s :: xs)) = tin (tok (u :: ys))) (ks : s.1 ≠ 3) (ku : u.1 ≠ 2) (hn : n = min (tokS s).length (tokS u).length) (m : Sp)
    (hm : m = if u.1 = 1 then cutA s n else if s.1 = 2 then (2, 0, ⟨#[]⟩) else cutA u n) :
    Row3 1000000000 900000000 2000 (left s n xs) (left u n ys) (os ++ [m]) ∧ tok (os ++ [m]) ++ compT (tok (left s n xs)) (tok (left u n ys)) = TT ∧ tout (tok (left s n xs)) = tin (tok (left u n ys)) ∧
      (left s n xs).length + (left u n ys).length < (s :: xs).length + (u :: ys).length := by
  have hs := (h.x s (List.mem_cons_self ..)).1
  have hlt := (h.both hn [] (.inl rfl)).2
  obtain ⟨h1, h2, h3⟩ := comp_step h htt hsid ks ku hn
  have k12 : s.1 = 1 ∨ s.1 = 2 := by
    rcases hs with ⟨k1, _⟩ | ⟨k1, _⟩ <;> omega
  by_cases hu1 : u.1 = 1
  · rw [if_pos hu1] at h1 h2 hm
    subst hm
    exact ⟨h1, h2, h3, hlt⟩
  · rw [if_neg hu1] at h1 h2 hm
    rcases k12 with k | k
    · rw [if_pos k] at h1 h2
      rw [if_neg (by omega)] at hm
      subst hm
      exact ⟨h1, h2, h3, hlt⟩
    · rw [if_neg (by omega)] at h1 h2
      rw [if_pos k] at hm
      subst hm
      have hE : OkW (2, 0, (⟨#[]⟩ : ByteArray)) := .inl ⟨rfl, rfl, [], rfl⟩
      have hT : tokS (2, 0, (⟨#[]⟩ : ByteArray)) = [] := tokS_emp _ ⟨rfl, rfl⟩
      rw [List.append_nil] at h1 h2
      have hl := h.l
      refine ⟨⟨h1.x, h1.y, fun v hv => ?_, ?_, ?_, ?_⟩, ?_, h3, hlt⟩
      · rcases List.mem_append.1 hv with hv | hv
        · exact h1.o v hv
        · rw [List.mem_singleton] at hv; subst hv; exact hE
      · have := h1.n; rw [sumN_append, sumN_one]; simp only; omega
      · have := h1.t; rw [sumT_append, sumT_sing]; have e : (⟨#[]⟩ : ByteArray).size = 0 := rfl; simp only; omega
      · simp only [List.length_append, List.length_cons, List.length_nil] at *; omega
      · rw [tok_append, tok_cons, tok_nil, hT, List.append_nil, List.append_nil]; exact h2
theorem both_c (x y : Nat) (xs0 ys0 : List Sp) (A : Option Addr) (q c : Nat) (B : Option Addr) (q' c' : Nat) (w : World)
    (hbx : RBox w x (rstV (hdS xs0) (.slice A q c))) (hby : RBox w y (rstV (hdS ys0) (.slice B q' c'))) (hrx : RdO w A q c xs0.tail) (hry : RdO w B q' c' ys0.tail)
    (hxx : Awy x q A) (hxy : Awy y q A) (hyx : Awy x q' B) (hyy : Awy y q' B) (hne : x ≠ y) (hrow : Row3 1000000000 900000000 2000 xs0 ys0 []) (hsid : tout (tok xs0) = tin (tok ys0)) :
    Calls Tryd.prog 20 #[.pointer (some ⟨x, 0, none⟩), .pointer (some ⟨y, 0, none⟩)] w fun e w' => KS w.heap.size x y w w' ∧ ∃ v os, e = .returned v ∧
      Own w' w.heap.size 45 3 v os.length (spCells os) ∧ Row3 1000000000 900000000 2000 [] [] os ∧ tok os = compT (tok xs0) (tok ys0) := by
  obtain ⟨i, hi, hz0, hz1, hz2⟩ := info_parts info_sp5
  obtain ⟨TT, hTT⟩ : ∃ TT, compT (tok xs0) (tok ys0) = TT := ⟨_, rfl⟩
  rw [hTT]
  have hlx := hbx.lt; have hly := hby.lt
  have HBX := Lib.hid hbx; have HBY := Lib.hid hby; have HRX := Lib.hid hrx; have HRY := Lib.hid hry
  have HWX := Lib.hid (And.intro hxx hxy); have HWY := Lib.hid (And.intro hyx hyy)
  have HROW := Lib.hid hrow; have HSID := Lib.hid hsid
  have HTT : Hid (tok [] ++ compT (tok xs0) (tok ys0) = TT) := Lib.hid (by rw [tok_nil, List.nil_append]; exact hTT)
  clear hbx hby hrx hry hxx hxy hyx hyy hrow hsid hTT
  go_enter Tryd.func20, Tryd.ntmps20
  go_wp2_with fail
  go_step3
  go_wp2_with fail
  go_step3
  go_wp2_with fail
  go_loopw [5] (fun v wr => ∃ (xs ys os : List Sp) (ax ay : Option Addr) (nx cx ny cy : Nat),
      Hid (RBox wr x (rstV (hdS xs) (.slice ax nx cx)) ∧ RBox wr y (rstV (hdS ys) (.slice ay ny cy)) ∧ RdO w ax nx cx xs.tail ∧ RdO w ay ny cy ys.tail ∧ (Awy x nx ax ∧ Awy y nx ax) ∧ (Awy x ny ay ∧ Awy y ny ay)) ∧
      Hid (Own wr w.heap.size 45 3 v os.length (spCells os)) ∧ Hid (Row3 1000000000 900000000 2000 xs ys os) ∧ Hid (tok os ++ compT (tok xs) (tok ys) = TT) ∧ Hid (tout (tok xs) = tin (tok ys)) ∧ Hid (KS w.heap.size x y w wr))
    (fun _ wr => leftN x wr + leftN y wr)
  case atStart => exact ⟨xs0, ys0, [], A, B, q, c, q', c', Lib.hid ⟨HBX.out, HBY.out, HRX.out, HRY.out, HWX.out, HWY.out⟩, Lib.hid (Own.nil w _ _ _ (Nat.le_refl _)), HROW, HTT, HSID, Lib.hid (KS.refl _ _ _ _)⟩
  case round =>
    obtain ⟨xs, ys, os, ax, ay, nx, cx, ny, cy, HB, HO, HRW, HT, HS, HK⟩ := hrel
    clear HBX HBY HRX HRY HWX HWY HROW HSID HTT
    obtain ⟨bx, by', rx, ry, wx, wy⟩ := HB.out
    have hkx : ∀ s ∈ xs, OkW s := fun s hs => (HRW.out.x s hs).1
    have hky : ∀ s ∈ ys, OkW s := fun s hs => (HRW.out.y s hs).1
    have hmx := leftN_eq bx rx.1 hkx
    have hmy := leftN_eq by' ry.1 hky
    rw [hmx, hmy]
    rcases compC xs ys HRW.out.x HRW.out.y HS.out with ⟨rfl, rfl⟩ | ⟨b1, b2, b3, ys, rfl, hk⟩ | ⟨a1, a2, a3, xs, rfl, hk, hnp⟩ | ⟨a1, a2, a3, xs, b1, b2, b3, ys, rfl, rfl, hka, hkb⟩
    · have x0 : wr.cell? ⟨x, 0, none⟩ = some (.int .i64 0) := bx.cell rfl
      have y0 : wr.cell? ⟨y, 0, none⟩ = some (.int .i64 0) := by'.cell rfl
      clear hkx hky hmx hmy
      go_wp2_with fail
      rw [Exit.noGoto_ret]
      go_ret
      refine ⟨HK.out, _, os, rfl, HO.out, HRW.out, ?_⟩
      have h := HT.out
      rw [tok_nil, compT, List.append_nil] at h
      exact h
    · subst hk
      have huo := (HRW.out.y _ (List.mem_cons_self ..)).1
      have HW := Lib.hid (whole_c y (2, b2, b3) ay ny cy ys wr by' (rdO_ks ry wy.1 wy.2 HK.out) wy.2)
      have HROW2 := Lib.hid HRW.out.putY
      have HTT2 : Hid (tok (os ++ [(2, b2, b3)]) ++ compT (tok xs) (tok ys) = TT) := Lib.hid (by rw [comp_putY xs ys os _ huo rfl]; exact HT.out)
      have HSID2 : Hid (tout (tok xs) = tin (tok ys)) := Lib.hid (by have h1 := HS.out; rw [tok_cons, tin_append, (sides _ huo).1, if_pos rfl] at h1; omega)
      have y0 : wr.cell? ⟨y, 0, none⟩ = some (.int .i64 2) := by'.cell rfl
      have hlo : os.length ≤ 2000 := by have := HRW.out.l; omega
      have HLT := Lib.hid hmx; have HLU := Lib.hid hmy
      clear hmx hmy hkx hky
      have hkk := HK.out.size
      have BX1 := Lib.hid bx; have BY1 := Lib.hid by'; have RX1 := Lib.hid rx; have RY1 := Lib.hid ry; have WX1 := Lib.hid wx; have WY1 := Lib.hid wy
      clear bx by' rx ry wx wy
      go_wp2_with fail
      refine HW.out.mono ?_; rintro e w1 ⟨rfl, hk1, A', q'', c'', g1, g2, g3⟩
      have ho1 := own_ks HO.out hk1 hly
      have G1 := Lib.hid g1; have G2 := Lib.hid g2; have G3 := Lib.hid g3; have K1 := Lib.hid hk1
      clear g1 g2 g3 hk1
      obtain ⟨v', w2, happ, hown', hbel', -, -, -⟩ := app_newg (P := Tryd.prog) 22 22 45 i _ 3 32 Tryd.underlying22 hi hz0 hz1 hz2 rfl (by omega) (by omega)
        ho1 (by omega) 1 #[.int .i64 2, .int .i64 b2, .string b3] rfl (by omega) (by simp [Value.oneCell']) 45
      have HAP := Lib.hid happ
      have HO2 : Hid (Own w2 w.heap.size 45 3 v' (os ++ [(2, b2, b3)]).length (spCells (os ++ [(2, b2, b3)]))) := Lib.hid (by rw [spCells_append, List.length_append]; exact hown')
      have hk2 : Below w.heap.size w1 w2 := hbel' (Below.refl _ _)
      have K2 := Lib.hid hk2
      clear ho1 happ hown' hbel' hk2
      go_wp2_with (at_builtin; refine wpList_append_run rfl rfl HAP.out rfl rfl ?_)
      go_roundw
      case rel =>
        have hkk2 : KS w.heap.size x y wr w1 := (K1.out.mono hkk).right
        exact ⟨xs, ys, os ++ [(2, b2, b3)], ax, A', nx, cx, q'', c'', Lib.hid ⟨BxT.at_ (BxT.ks BX1.out K1.out BX1.out.lt hne hne) K2.out hlx, BxT.at_ G1.out K2.out hly, RX1.out, G2.out _ RY1.out, WX1.out, ⟨G3.out x WY1.out.1, G3.out y WY1.out.2⟩⟩, HO2, HROW2, HTT2, HSID2, Lib.hid ((HK.out.trans hkk2).trans (KS.of_below x y K2.out))⟩
      case measure =>
        have e1 := leftN_eq (x := x) (w := w2) (l := xs) (BxT.at_ (BxT.ks BX1.out K1.out BX1.out.lt hne hne) K2.out hlx) RX1.out.1 fun s hs => (HROW2.out.x s hs).1
        have e2 := leftN_eq (x := y) (w := w2) (l := ys) (BxT.at_ G1.out K2.out hly) (G2.out _ RY1.out).1 fun s hs => (HROW2.out.y s hs).1
        have e3 := HLT.out; have e4 := HLU.out
        simp only [List.length_cons] at e3 e4
        simp only [List.length_cons]; omega
    · subst hk
      have huo := (HRW.out.x _ (List.mem_cons_self ..)).1
      have HW := Lib.hid (whole_c x (3, a2, a3) ax nx cx xs wr bx (rdO_ks rx wx.1 wx.2 HK.out) wx.1)
      have HROW2 := Lib.hid HRW.out.putX
      have HTT2 : Hid (tok (os ++ [(3, a2, a3)]) ++ compT (tok xs) (tok ys) = TT) := Lib.hid (by rw [comp_dropX xs ys os _ huo rfl (noIns_tok ys HRW.out.y hnp)]; exact HT.out)
      have HSID2 : Hid (tout (tok xs) = tin (tok ys)) := Lib.hid (by have h1 := HS.out; rw [tok_cons, tout_append, (sides _ huo).2, if_pos rfl] at h1; omega)
      obtain ⟨kb, hkb, hkb2⟩ : ∃ kb, (hdS ys).1 = kb ∧ (kb == 2) = false := by
        refine ⟨_, rfl, ?_⟩
        rw [beq_eq_false_iff_ne]
        rcases ys with _ | ⟨u, r⟩
        · show (0 : Int) ≠ 2; decide
        · exact hnp u r rfl
      have y0 : wr.cell? ⟨y, 0, none⟩ = some (.int .i64 kb) := by rw [← hkb]; exact by'.cell rfl
      have x0 : wr.cell? ⟨x, 0, none⟩ = some (.int .i64 3) := bx.cell rfl
      clear hnp hkb
      have hlo : os.length ≤ 2000 := by have := HRW.out.l; omega
      have HLT := Lib.hid hmx; have HLU := Lib.hid hmy
      clear hmx hmy hkx hky
      have hkk := HK.out.size
      have BX1 := Lib.hid bx; have BY1 := Lib.hid by'; have RX1 := Lib.hid rx; have RY1 := Lib.hid ry; have WX1 := Lib.hid wx; have WY1 := Lib.hid wy
      clear bx by' rx ry wx wy
      go_wp2_with fail
      refine HW.out.mono ?_; rintro e w1 ⟨rfl, hk1, A', q'', c'', g1, g2, g3⟩
      have ho1 := own_ks HO.out hk1 hlx
      have G1 := Lib.hid g1; have G2 := Lib.hid g2; have G3 := Lib.hid g3; have K1 := Lib.hid hk1
      clear g1 g2 g3 hk1
      obtain ⟨v', w2, happ, hown', hbel', -, -, -⟩ := app_newg (P := Tryd.prog) 22 22 45 i _ 3 32 Tryd.underlying22 hi hz0 hz1 hz2 rfl (by omega) (by omega)
        ho1 (by omega) 1 #[.int .i64 3, .int .i64 a2, .string a3] rfl (by omega) (by simp [Value.oneCell']) 45
      have HAP := Lib.hid happ
      have HO2 : Hid (Own w2 w.heap.size 45 3 v' (os ++ [(3, a2, a3)]).length (spCells (os ++ [(3, a2, a3)]))) := Lib.hid (by rw [spCells_append, List.length_append]; exact hown')
      have hk2 : Below w.heap.size w1 w2 := hbel' (Below.refl _ _)
      have K2 := Lib.hid hk2
      clear ho1 happ hown' hbel' hk2
      go_wp2_with (at_builtin; refine wpList_append_run rfl rfl HAP.out rfl rfl ?_)
      go_roundw
      case rel =>
        have hkk2 : KS w.heap.size x y wr w1 := (K1.out.mono hkk).left
        exact ⟨xs, ys, os ++ [(3, a2, a3)], A', ay, q'', c'', ny, cy, Lib.hid ⟨BxT.at_ G1.out K2.out hlx, BxT.at_ (BxT.ks BY1.out K1.out BY1.out.lt (Ne.symm hne) (Ne.symm hne)) K2.out hly, G2.out _ RX1.out, RY1.out, ⟨G3.out x WX1.out.1, G3.out y WX1.out.2⟩, WY1.out⟩, HO2, HROW2, HTT2, HSID2, Lib.hid ((HK.out.trans hkk2).trans (KS.of_below x y K2.out))⟩
      case measure =>
        have e1 := leftN_eq (x := x) (w := w2) (l := xs) (BxT.at_ G1.out K2.out hlx) (G2.out _ RX1.out).1 fun s hs => (HROW2.out.x s hs).1
        have e2 := leftN_eq (x := y) (w := w2) (l := ys) (BxT.at_ (BxT.ks BY1.out K1.out BY1.out.lt (Ne.symm hne) (Ne.symm hne)) K2.out hly) RY1.out.1 fun s hs => (HROW2.out.y s hs).1
        have e3 := HLT.out; have e4 := HLU.out
        simp only [List.length_cons] at e3 e4
        simp only [List.length_cons]; omega
    · have hso := (HRW.out.x _ (List.mem_cons_self ..)).1
      have huo := (HRW.out.y _ (List.mem_cons_self ..)).1
      obtain ⟨n1, n2, n3⟩ := HRW.out.pops
      have hbn := HRW.out.n
      have hbt := HRW.out.t
      have hx0 := hso.nonneg
      have hy0 := huo.nonneg
      have hxn0 := sumN_pos xs fun s hs => (HRW.out.x s (List.mem_cons_of_mem _ hs)).1.nonneg
      have hyn0 := sumN_pos ys fun s hs => (HRW.out.y s (List.mem_cons_of_mem _ hs)).1.nonneg
      rw [sumN_cons, sumN_cons] at hbn
      rw [sumT_cons, sumT_cons] at hbt
      simp only at hbn hbt hx0 hy0 hka hkb
      obtain ⟨N2, rfl⟩ := Int.eq_ofNat_of_zero_le hy0
      have hN2 : (tokS (b1, (N2 : Int), b3)).length = N2 := by rw [tokS_num _ _ _ hkb, List.length_replicate, Int.toNat_natCast]
      obtain ⟨M, hM⟩ : ∃ M, M = min N2 (tokS (a1, a2, a3)).length := ⟨_, rfl⟩
      obtain ⟨mm, hmm⟩ : ∃ mm : Sp, mm = if b1 = 1 then cutA (a1, a2, a3) M else if a1 = 2 then (2, 0, ⟨#[]⟩) else cutA (b1, (N2 : Int), b3) M := ⟨_, rfl⟩
      obtain ⟨hr2, ht2, hs2, hlt2⟩ := comp_stepE HRW.out HT.out HS.out hka hkb (n := M) (by rw [hN2]; omega) mm hmm
      have HP := Lib.hid (piece_c x (a1, a2, a3) N2 M ax nx cx xs wr bx (rdO_ks rx wx.1 wx.2 HK.out) wx.1 hso (by simp only; omega) (by simp only; omega) (by omega) hM)
      have HPY := Lib.hid (fun w1 h1 h2 => piece_c y (b1, (N2 : Int), b3) M M ay ny cy ys w1 h1 h2 wy.2 huo (by simp only; omega) (by simp only; omega) (by omega) (by rw [hN2]; omega))
      have HME := Lib.hid (fun W => meet_c (cutA (a1, a2, a3) M) (cutA (b1, (N2 : Int), b3) M) W)
      have hval : (if (cutA (b1, (N2 : Int), b3) M).1 = 1 then Value.agg #[.int .i64 (cutA (a1, a2, a3) M).1, .int .i64 (cutA (a1, a2, a3) M).2.1, .string (cutA (a1, a2, a3) M).2.2] else if (cutA (a1, a2, a3) M).1 = 2 then .agg #[.int .i64 2, .int .i64 0, .string ⟨#[]⟩] else .agg #[.int .i64 (cutA (b1, (N2 : Int), b3) M).1, .int .i64 (cutA (b1, (N2 : Int), b3) M).2.1, .string (cutA (b1, (N2 : Int), b3) M).2.2]) = .agg #[.int .i64 mm.1, .int .i64 mm.2.1, .string mm.2.2] := by
        rw [hmm]
        simp only [cutA_kind]
        split <;> (try split) <;> first | rfl | simp only [cutA_kind]
      rw [hval] at HME
      have HROW2 := Lib.hid hr2; have HTT2 := Lib.hid ht2; have HSID2 := Lib.hid hs2
      obtain ⟨PA, hPA⟩ : ∃ PA, cutA (a1, a2, a3) M = PA := ⟨_, rfl⟩
      obtain ⟨PB, hPB⟩ : ∃ PB, cutA (b1, (N2 : Int), b3) M = PB := ⟨_, rfl⟩
      obtain ⟨XL, hXL⟩ : ∃ XL, left (a1, a2, a3) M xs = XL := ⟨_, rfl⟩
      obtain ⟨YL, hYL⟩ : ∃ YL, left (b1, (N2 : Int), b3) M ys = YL := ⟨_, rfl⟩
      rw [hPA] at HP HME; rw [hPB] at HPY HME
      rw [hXL] at HP HROW2 HTT2 HSID2 hlt2; rw [hYL] at HPY HROW2 HTT2 HSID2 hlt2
      have y0 : wr.cell? ⟨y, 0, none⟩ = some (.int .i64 b1) := by'.cell rfl
      have y1 : wr.cell? ⟨y, 1, none⟩ = some (.int .i64 (N2 : Int)) := by'.cell rfl
      have x0 : wr.cell? ⟨x, 0, none⟩ = some (.int .i64 a1) := bx.cell rfl
      have t2 : (b1 == 2) = false := by rw [beq_eq_false_iff_ne]; exact hkb
      have t3 : (a1 == 3) = false := by rw [beq_eq_false_iff_ne]; exact hka
      have t0 : (b1 == 0) = false := by rw [beq_eq_false_iff_ne]; rcases huo with ⟨k1, _⟩ | ⟨k1, _⟩ <;> simp only at k1 <;> omega
      have ta : (a1 == 0) = false := by rw [beq_eq_false_iff_ne]; rcases hso with ⟨k1, _⟩ | ⟨k1, _⟩ <;> simp only at k1 <;> omega
      have hlo : os.length ≤ 2000 := by have := HRW.out.l; omega
      have HLT := Lib.hid hlt2
      have hkk := HK.out.size
      have BX1 := Lib.hid bx; have BY1 := Lib.hid by'; have RX1 := Lib.hid rx; have RY1 := Lib.hid ry; have WX1 := Lib.hid wx; have WY1 := Lib.hid wy
      have hmb : M ≤ 2000000000 := by omega
      clear hmx hmy hkx hky bx by' rx ry wx wy hr2 ht2 hs2 hlt2 hval hPA hPB hXL hYL hmm hM hso huo n1 n2 n3 hbn hbt hx0 hy0 hxn0 hyn0 hka hkb hN2
      go_wp2_with fail
      refine HP.out.mono ?_; rintro e w1 ⟨rfl, hk1, A', q'', c'', g1, g2, g3⟩
      have K1 : Hid (KS w.heap.size x y w w1) := Lib.hid (HK.out.trans (hk1.mono hkk).left)
      have BY2 := Lib.hid (BxT.ks BY1.out hk1 BY1.out.lt (Ne.symm hne) (Ne.symm hne))
      have HO1 := Lib.hid (own_ks HO.out hk1 hlx)
      have G1 := Lib.hid g1; have G2 := Lib.hid g2; have G3 := Lib.hid g3
      clear g1 g2 g3 hk1
      go_wp2_with fail
      have hE1 := (Ext.refl w1).alloc (.cells #[.int .i64 PA.1, .int .i64 PA.2.1, .string PA.2.2] 45)
      have hG := BxT.new w1 45 #[.int .i64 PA.1, .int .i64 PA.2.1, .string PA.2.2]
      have hz1 : (w1.alloc (.cells #[.int .i64 PA.1, .int .i64 PA.2.1, .string PA.2.2] 45)).heap.size = w1.heap.size + 1 := size_alloc _ _
      obtain ⟨W1, hW1⟩ : ∃ W1, w1.alloc (.cells #[.int .i64 PA.1, .int .i64 PA.2.1, .string PA.2.2] 45) = W1 := ⟨_, rfl⟩
      rw [hW1] at hE1 hG hz1 ⊢
      have hk11 := K1.out.size
      have KW1 := K1.out.ext hE1 (Nat.le_refl _)
      refine (HPY.out W1 (BY2.out.ext hE1) (rdO_ks RY1.out WY1.out.1 WY1.out.2 KW1)).mono ?_; rintro e w2 ⟨rfl, hk2, B', r'', d'', j1, j2, j3⟩
      have KW2 : Hid (KS w.heap.size x y w w2) := Lib.hid (KW1.trans (hk2.mono (by omega)).right)
      have HG := Lib.hid (BxT.ks hG hk2 hG.lt (by omega) (by omega))
      have HBX2 := Lib.hid (BxT.ks (BxT.ext G1.out hE1) hk2 (Nat.lt_of_lt_of_le G1.out.lt hE1.size) hne hne)
      have HO3 := Lib.hid (own_ks (HO1.out.ext hE1) hk2 hly)
      have J1 := Lib.hid j1; have J2 := Lib.hid j2; have J3 := Lib.hid j3
      have hE2 := (Ext.refl w2).alloc (.cells #[.int .i64 PB.1, .int .i64 PB.2.1, .string PB.2.2] 45)
      have k0 : w2.cell? ⟨w1.heap.size, 0, none⟩ = some (.int .i64 PA.1) := HG.out.cell rfl; have k1 : w2.cell? ⟨w1.heap.size, 1, none⟩ = some (.int .i64 PA.2.1) := HG.out.cell rfl; have k2 : w2.cell? ⟨w1.heap.size, 2, none⟩ = some (.string PA.2.2) := HG.out.cell rfl
      have l0 := ext_cell hE2 k0; have l1 := ext_cell hE2 k1; have l2 := ext_cell hE2 k2
      have HE2 := Lib.hid hE2
      clear hE1 hG hz1 hW1 KW1 hk2 j1 j2 j3 hE2 y0 y1 x0
      go_wp2_with fail
      refine (HME.out _).mono ?_; rintro e w3 ⟨rfl, hx3⟩
      have hx23 := HE2.out.trans hx3
      have HX23 := Lib.hid hx23
      have ho1 := HO3.out.ext hx23
      obtain ⟨m1, m2, m3⟩ := mm
      have HK3 : Hid (KS w.heap.size x y w w3) := Lib.hid (KW2.out.ext hx23 (Nat.le_refl _))
      clear hx3 hx23 k0 k1 k2 l0 l1 l2
      obtain ⟨v', w4, happ, hown', hbel', -, -, -⟩ := app_newg (P := Tryd.prog) 22 22 45 i _ 3 32 Tryd.underlying22 hi hz0 hz1 hz2 rfl (by omega) (by omega)
        ho1 (by omega) 1 #[.int .i64 m1, .int .i64 m2, .string m3] rfl (by omega) (by simp [Value.oneCell']) 45
      have HAP := Lib.hid happ
      have HO2 : Hid (Own w4 w.heap.size 45 3 v' (os ++ [(m1, m2, m3)]).length (spCells (os ++ [(m1, m2, m3)]))) := Lib.hid (by rw [spCells_append, List.length_append]; exact hown')
      have hk2 : Below w.heap.size w3 w4 := hbel' (Below.refl _ _)
      have K2 := Lib.hid hk2
      clear ho1 happ hown' hbel' hk2
      go_wp2_with (at_builtin; refine wpList_append_run rfl rfl HAP.out rfl rfl ?_)
      go_roundw
      case rel =>
        exact ⟨XL, YL, os ++ [(m1, m2, m3)], A', B', q'', c'', r'', d'', Lib.hid ⟨BxT.at_ (BxT.ext HBX2.out HX23.out) K2.out hlx, BxT.at_ (BxT.ext J1.out HX23.out) K2.out hly, G2.out _ RX1.out, J2.out _ RY1.out, ⟨G3.out x WX1.out.1, G3.out y WX1.out.2⟩, ⟨J3.out x WY1.out.1, J3.out y WY1.out.2⟩⟩, HO2, HROW2, HTT2, HSID2, Lib.hid (HK3.out.trans (KS.of_below x y K2.out))⟩
      case measure =>
        have e1 := leftN_eq (x := x) (w := w4) (l := XL) (BxT.at_ (BxT.ext HBX2.out HX23.out) K2.out hlx) (G2.out _ RX1.out).1 fun s hs => (HROW2.out.x s hs).1
        have e2 := leftN_eq (x := y) (w := w4) (l := YL) (BxT.at_ (BxT.ext J1.out HX23.out) K2.out hly) (J2.out _ RY1.out).1 fun s hs => (HROW2.out.y s hs).1
        have e3 := HLT.out
        omega
theorem compW9_c (A : Option Addr) (q c : Nat) (a : List Sp) (B : Option Addr) (q' c' : Nat) (b : List Sp) (w : World) [Tab w] (h : RdO w A q c a) (h' : RdO w B q' c' b) (hq : q ≤ 1000) (hq' : q' ≤ 1000)
    (hta : ∀ s ∈ a, s.2.2.size ≤ 1000000000) (htb : ∀ s ∈ b, s.2.2.size ≤ 1000000000) (hT : sumT a + sumT b ≤ 900000000) (hma : mayL a = 0) (hmb : mayL b = 0) (hf : outL a = inL b) :
    Calls Tryd.prog 7 #[.slice A q c, .slice B q' c'] w fun e w' => Ext w w' ∧ ∃ A n c, e = .returned (.tuple #[.slice A n c, .int .i64 0]) ∧ RdO w' A n c (compL a b) := by
  obtain ⟨alla, ai0, ai1⟩ := mayL_all hma (by have := h.1; omega)
  obtain ⟨allb, bi0, bi1⟩ := mayL_all hmb (by have := h'.1; omega)
  have oka : ∀ s ∈ a, OkW s := fun s hs => okW_of_may (alla s hs)
  have okb : ∀ s ∈ b, OkW s := fun s hs => okW_of_may (allb s hs)
  have hob := outL_le a oka
  have hna : sumN a = inL a := (may_sum a alla).2
  have hnb : sumN b = inL b := (may_sum b allb).2
  have Oka : Ok a := ⟨(may_sum a alla).1, by omega, by omega⟩
  have Okb : Ok b := ⟨(may_sum b allb).1, by omega, by omega⟩
  have HM := Lib.hid (may9_c A q c a B q' c' b w h h' hq hq' hta htb hT)
  have hE : compE a b = 0 := by unfold compE; rw [if_pos hma, if_pos hmb, if_pos hf]
  rw [hE] at HM
  have HRA : Hid (∀ w', Ext w w' → _) := Lib.hid fun w' hx => restOf_c A q c a w' (h.ext hx) hq Oka
  have HRB : Hid (∀ w', Ext w w' → _) := Lib.hid fun w' hx => restOf_c B q' c' b w' (h'.ext hx) hq' Okb
  have hnx := norm_okW a oka
  have hny := norm_okW b okb
  have hix := isN_ne _ (norm_is a Oka.pos)
  have hiy := isN_ne _ (norm_is b Okb.pos)
  have hlx := norm_len a
  have hly := norm_len b
  have hti := (tin_ok b okb).1
  have hto := (tin_ok a oka).2
  have h1 := h.1
  have h1' := h'.1
  have hrow : Row3 1000000000 900000000 2000 (normL a) (normL b) [] := by
    have Z : sumN ([] : List Sp) = 0 ∧ sumT ([] : List Sp) = 0 := ⟨rfl, rfl⟩
    refine ⟨fun s hs => ⟨hnx.1 s hs, hix s hs⟩, fun s hs => ⟨hny.1 s hs, hiy s hs⟩, fun s hs => (by cases hs), ?_, ?_, ?_⟩
    · rw [sumN_norm, sumN_norm]; omega
    · rw [sumT_norm, sumT_norm]; omega
    · simp only [List.length_nil]; omega
  have hsid : tout (tok (normL a)) = tin (tok (normL b)) := by rw [hnx.2, hny.2]; omega
  have hcl : spT (compT (tok (normL a)) (tok (normL b))) = compL a b := by rw [hnx.2, hny.2]; rfl
  have HROW := Lib.hid hrow; have HSID := Lib.hid hsid; have HCL := Lib.hid hcl
  clear h h' hta htb hT hma hmb hf alla allb oka okb hob hna hnb Oka Okb hnx hny hix hiy hlx hly hti hto hrow hsid hcl h1 h1' hE ai0 ai1 bi0 bi1
  generalize compL a b = CL at *
  generalize normL a = X0 at *
  generalize normL b = Y0 at *
  go_enter Tryd.func7, Tryd.ntmps7
  go_wp2_with fail
  refine HM.out.mono ?_; rintro e w1 ⟨rfl, hx1⟩
  go_wp2_with fail
  refine (HRA.out _ hx1).mono ?_; rintro e w2 ⟨hx2, x, ax, nx, cx, rfl, hxs, bx, rx, wxx, wxz⟩
  have hx12 := hx1.trans hx2
  have hlx := bx.lt
  go_wp2_with fail
  refine (HRB.out _ hx12).mono ?_; rintro e w3 ⟨hx3, y, ay, ny, cy, rfl, hys, by', ry, wyy, wyz⟩
  have hx13 := hx12.trans hx3
  have hs12 := hx1.size
  have hs2 := hx12.size
  have HBO := Lib.hid (both_c x y X0 Y0 ax nx cx ay ny cy w3 (BxT.ext bx hx3) by' (rx.ext hx3) ry wxx (rdO_awy rx hys) (wyz x hlx) wyy (by omega) HROW.out HSID.out)
  have HX13 := Lib.hid hx13
  clear bx rx wxx wxz by' ry wyy wyz hx2 hx3 hx12 hx13 hx1
  go_wp2_with fail
  refine HBO.out.mono ?_; rintro e w4 ⟨hk4, v, os, rfl, ho, hr, ht⟩
  have hx14 : Ext w w4 := Below.trans HX13.out (hk4.below (by have := HX13.out.size; omega) (by omega) (by omega))
  have hok := okW_pos os hr.o
  have Z : sumN ([] : List Sp) = 0 ∧ sumT ([] : List Sp) = 0 := ⟨rfl, rfl⟩
  have hOk : Ok os := ⟨hok, by have := hr.n; omega, by have := hr.t; omega⟩
  have hres : normL os = CL := by rw [norm_tok os hr.o, ht]; exact HCL.out
  obtain ⟨ao, co, rfl, hoc⟩ := ho.len
  have HOF := Lib.hid (of5_c ao os.length co os w4 ho.rd rfl (by have := hr.l; simp only [List.length_nil] at this; omega) hOk)
  rw [hres] at HOF
  have HX := Lib.hid hx14
  clear hok hOk hres ho hx14 hr ht hk4 hoc
  go_wp2_with fail
  refine HOF.out.mono ?_; rintro e w7 ⟨v7, rfl, hx7, o7⟩
  obtain ⟨a7, n7, c7, rfl, r7⟩ := rdO_own o7
  go_wp2_with fail
  go_ret2
  exact ⟨HX.out.trans hx7, _, _, _, rfl, r7⟩
theorem comp9_c (A : Option Addr) (q c : Nat) (a : List Sp) (B : Option Addr) (q' c' : Nat) (b : List Sp) (w : World) [Tab w] (h : RdO w A q c a) (h' : RdO w B q' c' b) (hq : q ≤ 1000) (hq' : q' ≤ 1000)
    (hta : ∀ s ∈ a, s.2.2.size ≤ 1000000000) (htb : ∀ s ∈ b, s.2.2.size ≤ 1000000000) (hT : sumT a + sumT b ≤ 900000000) :
    Calls Tryd.prog 7 #[.slice A q c, .slice B q' c'] w (OpR w (compE a b) (compL a b)) := by
  by_cases hE : compE a b = 0
  · have hall : mayL a = 0 ∧ mayL b = 0 ∧ outL a = inL b := by
      unfold compE at hE
      by_cases hma : mayL a = 0
      · rw [if_pos hma] at hE
        by_cases hmb : mayL b = 0
        · rw [if_pos hmb] at hE
          by_cases hf : outL a = inL b
          · exact ⟨hma, hmb, hf⟩
          · rw [if_neg hf] at hE; exact absurd hE (by decide)
        · rw [if_neg hmb] at hE; exact absurd hE hmb
      · rw [if_neg hma] at hE; exact absurd hE hma
    refine (compW9_c A q c a B q' c' b w h h' hq hq' hta htb hT hall.1 hall.2.1 hall.2.2).mono ?_
    rintro e w' ⟨hx, A', n', c'', rfl, hr⟩
    refine ⟨hx, A', n', c'', by rw [hE], ?_⟩
    rw [hE, if_pos rfl]; exact hr
  · have HM := Lib.hid (may9_c A q c a B q' c' b w h h' hq hq' hta htb hT)
    have HN := Lib.hid hE
    have hb : (compE a b != 0) = true := by rw [bne_iff_ne]; exact hE
    have hb2 : (compE a b == 0) = false := by rw [beq_eq_false_iff_ne]; exact hE
    clear h h' hta htb hT hE
    generalize compE a b = EE at *
    generalize compL a b = CL at *
    go_enter Tryd.func7, Tryd.ntmps7
    go_wp2_with fail
    refine HM.out.mono ?_; rintro e w1 ⟨rfl, hx1⟩
    go_wp2_with fail
    go_ret2
    refine ⟨hx1, none, 0, 0, rfl, ?_⟩
    rw [if_neg HN.out]; exact ⟨rfl, Rd.nil _ _⟩
end Go.Proofs.YtmfeggeinoaheaaDoor
