/- Layer 9, the reference: Of. -/
import Derived.Test.YtfjiookndleaeaaDoorC9
import Derived.Test.YtfjiookndleaeaaDoorBs
import Derived.Test.YtfjiookndleaeaaDoorMd
namespace Go.Proofs.YtfjiookndleaeaaDoor
open Go.RowKit
set_option maxRecDepth 100000
set_option maxHeartbeats 6000000
set_option linter.unusedSimpArgs false
theorem off_old {w : World} {A : Option Addr} {n c : Nat} {l : List Sp} (h : RdO w A n c l) : Off n A (.slice (some ⟨w.heap.size, 0, none⟩) 0 0) := by
  intro hn b off hA hb
  obtain ⟨_, _, A', c', hv, _, h2⟩ := h
  obtain ⟨b', off', hA', hb', _⟩ := h2 hn
  injection hv with e1 e2 e3
  subst e1
  rw [hA] at hA'
  injection hA' with hA'
  injection hA' with e4 e5
  simp [Value.ownBlock] at hb
  omega
/-- Whose turn it is. -/
theorem compC (xs ys : List Sp) (hx : ∀ s ∈ xs, OkW s ∧ ¬ emp s) (hy : ∀ s ∈ ys, OkW s ∧ ¬ emp s) (h : tout (tok xs) = tin (tok ys)) :
    (xs = [] ∧ ys = []) ∨ (∃ b1 b2 b3 r, ys = (b1, b2, b3) :: r ∧ b1 = 2) ∨ (∃ a1 a2 a3 r, xs = (a1, a2, a3) :: r ∧ a1 = 3 ∧ ∀ s q, ys = s :: q → s.1 ≠ 2) ∨
      (∃ a1 a2 a3 r b1 b2 b3 q, xs = (a1, a2, a3) :: r ∧ ys = (b1, b2, b3) :: q ∧ a1 ≠ 3 ∧ b1 ≠ 2) := by
  rcases ys with _ | ⟨⟨b1, b2, b3⟩, q⟩
  · rcases xs with _ | ⟨⟨a1, a2, a3⟩, r⟩
    · exact .inl ⟨rfl, rfl⟩
    · right; right; left
      refine ⟨a1, a2, a3, r, rfl, ?_, fun s q hs => by cases hs⟩
      obtain ⟨h1, h2⟩ := hx _ (List.mem_cons_self ..)
      have h3 := tokS_pos _ h1 h2
      rw [tok_cons, tout_append, (sides _ h1).2, tok_nil] at h
      by_cases hk : a1 = 3
      · exact hk
      · exfalso
        rw [if_neg hk] at h
        have : tin ([] : List Tok) = 0 := rfl
        omega
  · by_cases hb : b1 = 2
    · right; left; exact ⟨b1, b2, b3, q, rfl, hb⟩
    · rcases xs with _ | ⟨⟨a1, a2, a3⟩, r⟩
      · exfalso
        obtain ⟨h1, h2⟩ := hy _ (List.mem_cons_self ..)
        have h3 := tokS_pos _ h1 h2
        rw [tok_cons, tin_append, (sides _ h1).1, if_neg hb] at h
        have : tout (tok ([] : List Sp)) = 0 := rfl
        omega
      · by_cases ha : a1 = 3
        · right; right; left
          exact ⟨a1, a2, a3, r, rfl, ha, fun s q' hs => by injection hs with e1 e2; subst e1; exact hb⟩
        · right; right; right
          exact ⟨a1, a2, a3, r, b1, b2, b3, q, rfl, rfl, ha, hb⟩
theorem three_ways (p q : Prop) : p ∨ (¬ p ∧ q) ∨ (¬ p ∧ ¬ q) := by
  by_cases h : p
  · exact .inl h
  · by_cases h2 : q
    · exact .inr (.inl ⟨h, h2⟩)
    · exact .inr (.inr ⟨h, h2⟩)
theorem comp_step {K1 : Int} {K2 K3 : Nat} {TT : List Tok} {s u : Sp} {xs ys os : List Sp} {n : Nat} (h : Row3 K1 K2 K3 (s :: xs) (u :: ys) os) (htt : tok os ++ compT (tok (s :: xs)) (tok (u :: ys)) = TT) (hsid : tout (tok (s :: xs)) = tin (tok (u :: ys))) (ks : s.1 ≠ 3) (ku : u.1 ≠ 2) (hn : n = min (tokS s).length (tokS u).length) :
    Row3 K1 K2 K3 (left s n xs) (left u n ys) (os ++ (if u.1 = 1 then [cutA s n] else if s.1 = 1 then [cutA u n] else [])) ∧ tok (os ++ (if u.1 = 1 then [cutA s n] else if s.1 = 1 then [cutA u n] else [])) ++ compT (tok (left s n xs)) (tok (left u n ys)) = TT ∧ tout (tok (left s n xs)) = tin (tok (left u n ys)) := by
  have hs := (h.x s (List.mem_cons_self ..)).1
  have hu := (h.y u (List.mem_cons_self ..)).1
  have hp : (if u.1 = 1 then [cutA s n] else if s.1 = 1 then [cutA u n] else []) = [] ∨ (if u.1 = 1 then [cutA s n] else if s.1 = 1 then [cutA u n] else []) = [cutA s n] ∨ (if u.1 = 1 then [cutA s n] else if s.1 = 1 then [cutA u n] else []) = [cutA u n] := by
    by_cases h1 : u.1 = 1
    · rw [if_pos h1]; exact .inr (.inl rfl)
    · rw [if_neg h1]
      by_cases h2 : s.1 = 1
      · rw [if_pos h2]; exact .inr (.inr rfl)
      · rw [if_neg h2]; exact .inl rfl
  refine ⟨(h.both hn _ hp).1, ?_, ?_⟩
  · rw [comp_both xs ys os s u n hs hu ks ku (by omega) (by omega)]; exact htt
  · have d1 := (drop_tok s hs n (by omega)).2
    have d2 := (drop_tok u hu n (by omega)).1
    have s1 := (sides s hs).2
    have s2 := (sides u hu).1
    rw [if_neg ks] at d1 s1
    rw [if_neg ku] at d2 s2
    rw [tok_cons, tok_cons, tout_append, tin_append] at hsid
    rw [left_tok s n xs hs (by omega), left_tok u n ys hu (by omega), tout_append, tin_append]
    omega
def OpR (w : World) (E : Int) (L : List Sp) (e : Ending) (w' : World) : Prop :=
  Ext w w' ∧ ∃ A n c, e = .returned (.tuple #[.slice A n c, .int .i64 E]) ∧ RdO w' A n c (if E = 0 then L else [])
theorem compW_c (A : Option Addr) (q c : Nat) (a : List Sp) (B : Option Addr) (q' c' : Nat) (b : List Sp) (w : World) (h : Rd w 3 (.slice A q c) q (spCells a)) (hl : a.length = q) (h' : Rd w 3 (.slice B q' c') q' (spCells b)) (hl' : b.length = q') (hq : q ≤ 1000) (hq' : q' ≤ 1000)
    (hta : ∀ s ∈ a, s.2.2.size ≤ 1000000000) (htb : ∀ s ∈ b, s.2.2.size ≤ 1000000000) (hT : sumT a + sumT b ≤ 900000000) (hma : mayL a = 0) (hmb : mayL b = 0) (hf : outL a = inL b) :
    Calls Tryd.prog 67 #[.slice A q c, .slice B q' c'] w fun e w' => Ext w w' ∧ ∃ A n c, e = .returned (.tuple #[.slice A n c, .int .i64 0]) ∧ RdO w' A n c (spT (compT (tok a) (tok b))) := by
  obtain ⟨i, hi, hz0, hz1, hz2⟩ := info_parts info_sp5
  obtain ⟨alla, ai0, ai1⟩ := mayL_all hma (by omega)
  obtain ⟨allb, bi0, bi1⟩ := mayL_all hmb (by omega)
  have oka : ∀ s ∈ a, OkW s := fun s hs => okW_of_may (alla s hs)
  have okb : ∀ s ∈ b, OkW s := fun s hs => okW_of_may (allb s hs)
  have hob := outL_le a oka
  have hna : sumN a = inL a := (may_sum a alla).2
  have hnb : sumN b = inL b := (may_sum b allb).2
  have Oka : Ok a := ⟨(may_sum a alla).1, by omega, by omega⟩
  have Okb : Ok b := ⟨(may_sum b allb).1, by omega, by omega⟩
  have hwo : wrap64 (outL a) = inL b := by unfold wrap64; omega
  have hwi : wrap64 (inL b) = inL b := by unfold wrap64; omega
  have HMA : Hid (∀ w', Ext w w' → _) := Lib.hid fun w' hx => mayR4_c A q c a w' (h.ext hx) hl hq hta
  have HMB : Hid (∀ w', Ext w w' → _) := Lib.hid fun w' hx => mayR4_c B q' c' b w' (h'.ext hx) hl' hq' htb
  have HOA : Hid (∀ w', Ext w w' → _) := Lib.hid fun w' hx => outR4_c A q c a w' (h.ext hx) hl hq hta
  have HIB : Hid (∀ w', Ext w w' → _) := Lib.hid fun w' hx => inR4_c B q' c' b w' (h'.ext hx) hl' hq'
  rw [hma] at HMA
  rw [hmb] at HMB
  rw [hwo] at HOA
  rw [hwi] at HIB
  have HNA : Hid (∀ w', Ext w w' → _) := Lib.hid fun w' hx => ofR5_c A q c a w' (h.ext hx) hl (by omega) Oka
  have HNB : Hid (∀ w', Ext w w' → _) := Lib.hid fun w' hx => ofR5_c B q' c' b w' (h'.ext hx) hl' (by omega) Okb
  have hnx := norm_okW a oka
  have hny := norm_okW b okb
  have hix := isN_ne _ (norm_is a Oka.pos)
  have hiy := isN_ne _ (norm_is b Okb.pos)
  have hlx := norm_len a
  have hly := norm_len b
  have hti := (tin_ok b okb).1
  have hto := (tin_ok a oka).2
  have hrow : Row3 1000000000 900000000 2000 (normL a) (normL b) [] := by
    have Z : sumN ([] : List Sp) = 0 ∧ sumT ([] : List Sp) = 0 := ⟨rfl, rfl⟩
    refine ⟨fun s hs => ⟨hnx.1 s hs, hix s hs⟩, fun s hs => ⟨hny.1 s hs, hiy s hs⟩, fun s hs => (by cases hs), ?_, ?_, ?_⟩
    · rw [sumN_norm, sumN_norm]; omega
    · rw [sumT_norm, sumT_norm]; omega
    · simp only [List.length_nil]; omega
  have hsid : tout (tok (normL a)) = tin (tok (normL b)) := by rw [hnx.2, hny.2]; omega
  have htt : tok [] ++ compT (tok (normL a)) (tok (normL b)) = compT (tok a) (tok b) := by rw [hnx.2, hny.2, tok_nil, List.nil_append]
  have HROW := Lib.hid hrow; have HSID := Lib.hid hsid; have HTT := Lib.hid htt
  clear h hl h' hl' hta htb hT hma hmb hf alla allb oka okb hob hna hnb Oka Okb hwo hwi hnx hny hix hiy hlx hly hti hto hrow hsid htt
  generalize inL b = IB at *
  generalize normL a = X0 at *
  generalize normL b = Y0 at *
  obtain ⟨TT, hTT⟩ : ∃ TT, compT (tok a) (tok b) = TT := ⟨_, rfl⟩
  rw [hTT] at HTT ⊢
  clear hTT
  go_enter Tryd.func67, Tryd.ntmps67
  go_wp2_with fail
  refine (HMA.out _ (Ext.refl _)).mono ?_; rintro e w1 ⟨rfl, hx1⟩
  go_wp2_with fail
  refine (HMB.out _ hx1).mono ?_; rintro e w2 ⟨rfl, hx2⟩
  have e2 := hx1.trans hx2
  clear hx1 hx2
  go_wp2_with fail
  refine (HOA.out _ e2).mono ?_; rintro e w3 ⟨rfl, hx3⟩
  have e3 := e2.trans hx3
  clear hx3 e2
  go_wp2_with fail
  refine (HIB.out _ e3).mono ?_; rintro e w4 ⟨rfl, hx4⟩
  have e4 := e3.trans hx4
  clear hx4 e3
  go_wp2_with fail
  refine (HNA.out _ e4).mono ?_; rintro e w5 ⟨v5, rfl, hx5, o5⟩
  obtain ⟨aX, nX, cX, rfl, rX⟩ := rdO_own o5
  have e5 := e4.trans hx5
  clear hx5 e4 o5
  go_wp2_with fail
  refine (HNB.out _ e5).mono ?_; rintro e w6 ⟨v6, rfl, hx6, o6⟩
  obtain ⟨aY, nY, cY, rfl, rY⟩ := rdO_own o6
  have RX := Lib.hid (rX.ext hx6)
  have RY := Lib.hid rY
  have e6 := e5.trans hx6
  have HE6 := Lib.hid e6
  clear hx6 e5 o6 rX rY e6
  have hrel0 : Own (w6.alloc (.cells #[] 48)) w6.heap.size 48 3 (.slice (some ⟨w6.heap.size, 0, none⟩) 0 0) 0 (spCells []) ∧ Below w6.heap.size w6 (w6.alloc (.cells #[] 48)) :=
    ⟨Own.made w6 w6.heap.size 48 3 0 #[] (Nat.le_refl _) (by omega) rfl, (Below.refl _ _).alloc (Nat.le_refl _) _⟩
  have HR0 := Lib.hid hrel0
  clear hrel0
  go_wp2_with fail
  have hv0 : (Value.slice (some ⟨w6.heap.size, 0, none⟩) 0 0).ownBlock = some w6.heap.size := rfl
  have HOX0 : Hid (Off nX aX (.slice (some ⟨w6.heap.size, 0, none⟩) 0 0) ∧ Off nY aY (.slice (some ⟨w6.heap.size, 0, none⟩) 0 0)) := Lib.hid ⟨off_old RX.out, off_old RY.out⟩
  clear hv0
  go_loopw [8, 9, 10] (fun vx vy vo wr => ∃ (xs ys os : List Sp) (ax ay : Option Addr) (nx ny cx cy : Nat), vx = .slice ax nx cx ∧ vy = .slice ay ny cy ∧ RdO wr ax nx cx xs ∧ RdO wr ay ny cy ys ∧ Own wr w6.heap.size 48 3 vo os.length (spCells os) ∧
    (Off nx ax vo ∧ Off ny ay vo) ∧ Row3 1000000000 900000000 2000 xs ys os ∧ tok os ++ compT (tok xs) (tok ys) = TT ∧ tout (tok xs) = tin (tok ys) ∧ Below w6.heap.size w6 wr) (fun vx vy _ _ => slen vx + slen vy)
  case atStart => exact ⟨X0, Y0, [], aX, aY, nX, nY, cX, cY, rfl, rfl, RX.out.ext HR0.out.2, RY.out.ext HR0.out.2, HR0.out.1, HOX0.out, HROW.out, HTT.out, HSID.out, HR0.out.2⟩
  case round =>
    obtain ⟨xs, ys, os, ax, ay, nx, ny, cx, cy, rfl, rfl, rx, ry, ho, ⟨ofx, ofy⟩, hrow, htt, hsid, hxr⟩ := hrel
    have HROW := Lib.hid hrow; have HTT := Lib.hid htt; have HSID := Lib.hid hsid
    clear hrow htt hsid RX RY HNA HNB HIB HOA HMA HMB HR0 HOX0
    have hco := HROW.out.l
    rcases compC xs ys HROW.out.x HROW.out.y HSID.out with ⟨rfl, rfl⟩ | ⟨b1, b2, b3, ys, rfl, hk⟩ | ⟨a1, a2, a3, xs, rfl, hk, hnp⟩ | ⟨a1, a2, a3, xs, b1, b2, b3, ys, rfl, rfl, hka, hkb⟩
    · have hnx := rx.1
      have hny := ry.1
      simp only [List.length_nil] at hnx hny
      subst hnx; subst hny
      have hok := okW_pos os HROW.out.o
      have hOk : Ok os := ⟨hok, by have := HROW.out.n; have e : sumN ([] : List Sp) = 0 := rfl; omega, by have := HROW.out.t; have e : sumT ([] : List Sp) = 0 := rfl; omega⟩
      have hres : normL os = spT TT := by rw [← HTT.out, norm_tok os HROW.out.o, tok_nil, compT, List.append_nil]
      obtain ⟨Z, hZ⟩ : ∃ Z, spT TT = Z := ⟨_, rfl⟩
      rw [hZ] at hres
      have HZ := Lib.hid hZ
      obtain ⟨ao, co, rfl, hoc⟩ := ho.len
      have HOF := Lib.hid (ofR5_c ao os.length co os wr ho.rd rfl (by simp only [List.length_nil] at hco; omega) hOk)
      rw [hres] at HOF
      have HX := Lib.hid hxr
      clear hok hOk hres hZ ho rx ry ofx ofy hxr
      go_wp2_with fail
      refine HOF.out.mono ?_; rintro e w7 ⟨v7, rfl, hx7, o7⟩
      obtain ⟨a7, n7, c7, rfl, r7⟩ := rdO_own o7
      go_wp2_with fail
      go_ret2
      rw [HZ.out]
      exact ⟨HE6.out.trans (Ext.trans HX.out hx7), _, _, _, rfl, r7⟩
    · subst hk
      have hyl := ry.1
      simp only [List.length_cons] at hyl hco
      obtain ⟨m, hm⟩ : ∃ m, ys.length = m := ⟨_, rfl⟩
      rw [hm] at hyl hco
      subst hyl
      clear hm
      obtain ⟨bY, oY, rfl, hbY, q0, q1, q2⟩ := sp_at ry.2 ry.1 (show 0 < m + 1 by omega)
      simp only [List.getElem_cons_zero, Nat.zero_mul, Nat.add_zero] at q0 q1 q2
      have hcY : m + 1 ≤ cy := by obtain ⟨_, _, hv, hc⟩ := ry.2.len; injection hv with _ _ e; omega
      have huo := (HROW.out.y _ (List.mem_cons_self ..)).1
      have HROW2 := Lib.hid HROW.out.putY
      have HTT2 : Hid (tok (os ++ [(2, b2, b3)]) ++ compT (tok xs) (tok ys) = TT) := Lib.hid (by rw [comp_putY xs ys os _ huo rfl]; exact HTT.out)
      have HSID2 : Hid (tout (tok xs) = tin (tok ys)) := Lib.hid (by have h1 := HSID.out; rw [tok_cons, tin_append, (sides _ huo).1, if_pos rfl] at h1; omega)
      obtain ⟨v', w', happ, hown', hbel', hkp, hsz', hwh⟩ := app_newg (P := Tryd.prog) 22 22 48 i _ 3 32 Tryd.underlying22 hi hz0 hz1 hz2 rfl (by omega) (by omega)
        ho (by omega) 1 #[.int .i64 2, .int .i64 b2, .string b3] rfl (by omega) (by simp [Value.oneCell']) 48
      have HAP := Lib.hid happ
      have HO2 : Hid (Own w' w6.heap.size 48 3 v' (os ++ [(2, b2, b3)]).length (spCells (os ++ [(2, b2, b3)]))) := Lib.hid (by rw [spCells_append, List.length_append]; exact hown')
      have HX2 := Lib.hid (ofx.rd rx hkp hsz')
      have HY2 := Lib.hid (rdO_behind (ofy.rd ry hkp hsz'))
      have HOX := Lib.hid (ofx.next rx hwh)
      have HOY := Lib.hid ((ofy.next ry hwh).behind (c := cy) (k := 1) (by omega))
      have HB2 := Lib.hid (hbel' hxr)
      obtain ⟨AD, hAD⟩ : ∃ AD : Option Addr, (if cy = 1 then some ⟨bY, oY, none⟩ else some ⟨bY, oY + 1 * 3, none⟩) = AD := ⟨_, rfl⟩
      rw [hAD] at HY2 HOY
      simp only [Nat.one_mul] at hAD
      have hnx := rx.1
      have hl1 : os.length + 1 ≤ 2000 := by omega
      have y0 : (1 : Int) ≤ (m : Int) + 1 := by omega
      have y1 : (m : Int) + 1 ≤ (cy : Int) := by omega
      have y2 : (0 : Int) < (m : Int) + 1 := by omega
      clear happ hown' hbel' hkp hsz' hwh ho rx ry ofx ofy hxr huo
      rcases Nat.eq_zero_or_pos nx with hz | hz
      · subst hz
        go_wp2_with (at_builtin; refine wpList_append_run rfl rfl HAP.out rfl rfl ?_)
        go_roundw
        case rel => exact ⟨xs, ys, os ++ [(2, b2, b3)], ax, AD, 0, m, cx, cy - 1, rfl, rfl, HX2.out, HY2.out, HO2.out, ⟨HOX.out, HOY.out⟩, HROW2.out, HTT2.out, HSID2.out, HB2.out⟩
        case measure => simp [slen]; try omega
      · have x0 : (0 : Int) < (nx : Int) := by omega
        have x1 : decide (0 < nx) = true := by rw [decide_eq_true_eq]; exact hz
        go_wp2_with (at_builtin; refine wpList_append_run rfl rfl HAP.out rfl rfl ?_)
        go_roundw
        case rel => exact ⟨xs, ys, os ++ [(2, b2, b3)], ax, AD, nx, m, cx, cy - 1, rfl, rfl, HX2.out, HY2.out, HO2.out, ⟨HOX.out, HOY.out⟩, HROW2.out, HTT2.out, HSID2.out, HB2.out⟩
        case measure => simp [slen]; try omega
    · subst hk
      have hxl := rx.1
      simp only [List.length_cons] at hxl hco
      obtain ⟨m, hm⟩ : ∃ m, xs.length = m := ⟨_, rfl⟩
      rw [hm] at hxl hco
      subst hxl
      clear hm
      obtain ⟨bX, oX, rfl, hbX, p0, p1, p2⟩ := sp_at rx.2 rx.1 (show 0 < m + 1 by omega)
      simp only [List.getElem_cons_zero, Nat.zero_mul, Nat.add_zero] at p0 p1 p2
      have hcX : m + 1 ≤ cx := by obtain ⟨_, _, hv, hc⟩ := rx.2.len; injection hv with _ _ e; omega
      have huo := (HROW.out.x _ (List.mem_cons_self ..)).1
      have HROW2 := Lib.hid HROW.out.putX
      have HTT2 : Hid (tok (os ++ [(3, a2, a3)]) ++ compT (tok xs) (tok ys) = TT) := Lib.hid (by rw [comp_dropX xs ys os _ huo rfl (noIns_tok ys HROW.out.y hnp)]; exact HTT.out)
      have HSID2 : Hid (tout (tok xs) = tin (tok ys)) := Lib.hid (by have h1 := HSID.out; rw [tok_cons, tout_append, (sides _ huo).2, if_pos rfl] at h1; omega)
      obtain ⟨v', w', happ, hown', hbel', hkp, hsz', hwh⟩ := app_newg (P := Tryd.prog) 22 22 48 i _ 3 32 Tryd.underlying22 hi hz0 hz1 hz2 rfl (by omega) (by omega)
        ho (by omega) 1 #[.int .i64 3, .int .i64 a2, .string a3] rfl (by omega) (by simp [Value.oneCell']) 48
      have HAP := Lib.hid happ
      have HO2 : Hid (Own w' w6.heap.size 48 3 v' (os ++ [(3, a2, a3)]).length (spCells (os ++ [(3, a2, a3)]))) := Lib.hid (by rw [spCells_append, List.length_append]; exact hown')
      have HY2 := Lib.hid (ofy.rd ry hkp hsz')
      have HX2 := Lib.hid (rdO_behind (ofx.rd rx hkp hsz'))
      have HOY := Lib.hid (ofy.next ry hwh)
      have HOX := Lib.hid ((ofx.next rx hwh).behind (c := cx) (k := 1) (by omega))
      have HB2 := Lib.hid (hbel' hxr)
      obtain ⟨AD, hAD⟩ : ∃ AD : Option Addr, (if cx = 1 then some ⟨bX, oX, none⟩ else some ⟨bX, oX + 1 * 3, none⟩) = AD := ⟨_, rfl⟩
      rw [hAD] at HX2 HOX
      simp only [Nat.one_mul] at hAD
      have hl1 : os.length + 1 ≤ 2000 := by omega
      have y0 : (1 : Int) ≤ (m : Int) + 1 := by omega
      have y1 : (m : Int) + 1 ≤ (cx : Int) := by omega
      have y2 : (0 : Int) < (m : Int) + 1 := by omega
      have hny := ry.1
      rcases ys with _ | ⟨⟨b1, b2, b3⟩, ys⟩
      · simp only [List.length_nil] at hny
        subst hny
        clear happ hown' hbel' hkp hsz' hwh ho rx ry ofx ofy hxr huo hnp
        go_wp2_with (at_builtin; refine wpList_append_run rfl rfl HAP.out rfl rfl ?_)
        go_roundw
        case rel => exact ⟨xs, [], os ++ [(3, a2, a3)], AD, ay, m, 0, cx - 1, cy, rfl, rfl, HX2.out, HY2.out, HO2.out, ⟨HOX.out, HOY.out⟩, HROW2.out, HTT2.out, HSID2.out, HB2.out⟩
        case measure => simp [slen]; try omega
      · have hb := hnp _ _ rfl
        simp only at hb
        have hbk : (b1 == 2) = false := by rw [beq_eq_false_iff_ne]; exact hb
        simp only [List.length_cons] at hny
        obtain ⟨k, hk⟩ : ∃ k, ys.length = k := ⟨_, rfl⟩
        rw [hk] at hny
        subst hny
        clear hk
        obtain ⟨bY, oY, rfl, hbY, q0, q1, q2⟩ := sp_at ry.2 ry.1 (show 0 < k + 1 by omega)
        simp only [List.getElem_cons_zero, Nat.zero_mul, Nat.add_zero] at q0 q1 q2
        have y3 : (0 : Int) < (k : Int) + 1 := by omega
        clear happ hown' hbel' hkp hsz' hwh ho rx ry ofx ofy hxr huo hnp hb
        go_wp2_with (at_builtin; refine wpList_append_run rfl rfl HAP.out rfl rfl ?_)
        go_roundw
        case rel => exact ⟨xs, (b1, b2, b3) :: ys, os ++ [(3, a2, a3)], AD, _, m, k + 1, cx - 1, cy, rfl, rfl, HX2.out, HY2.out, HO2.out, ⟨HOX.out, HOY.out⟩, HROW2.out, HTT2.out, HSID2.out, HB2.out⟩
        case measure => simp [slen]; try omega
    · have hxl := rx.1
      have hyl := ry.1
      simp only [List.length_cons] at hxl hyl hco
      obtain ⟨m, hm⟩ : ∃ m, xs.length = m := ⟨_, rfl⟩
      obtain ⟨k, hk⟩ : ∃ k, ys.length = k := ⟨_, rfl⟩
      rw [hm] at hxl hco
      rw [hk] at hyl hco
      subst hxl; subst hyl
      clear hm hk
      obtain ⟨bX, oX, rfl, hbX, p0, p1, p2⟩ := sp_at rx.2 rx.1 (show 0 < m + 1 by omega)
      obtain ⟨bY, oY, rfl, hbY, q0, q1, q2⟩ := sp_at ry.2 ry.1 (show 0 < k + 1 by omega)
      simp only [List.getElem_cons_zero, Nat.zero_mul, Nat.add_zero] at p0 p1 p2 q0 q1 q2
      have hcX : m + 1 ≤ cx := by obtain ⟨_, _, hv, hc⟩ := rx.2.len; injection hv with _ _ e; omega
      have hcY : k + 1 ≤ cy := by obtain ⟨_, _, hv, hc⟩ := ry.2.len; injection hv with _ _ e; omega
      have hso := (HROW.out.x _ (List.mem_cons_self ..)).1
      have huo := (HROW.out.y _ (List.mem_cons_self ..)).1
      obtain ⟨n1, n2, n3⟩ := HROW.out.pops
      have hbn := HROW.out.n
      have hbt := HROW.out.t
      have hx0 := hso.nonneg
      have hy0 := huo.nonneg
      have hxn0 := sumN_pos xs fun s hs => (HROW.out.x s (List.mem_cons_of_mem _ hs)).1.nonneg
      have hyn0 := sumN_pos ys fun s hs => (HROW.out.y s (List.mem_cons_of_mem _ hs)).1.nonneg
      rw [sumN_cons, sumN_cons] at hbn
      rw [sumT_cons, sumT_cons] at hbt
      simp only at hbn hbt hx0 hy0 hka hkb
      have HS1 := Lib.hid (fun w' => sizeR_c a1 a2 a3 w' hso (by omega) (by omega))
      have HS2 := Lib.hid (fun w' => sizeR_c b1 b2 b3 w' huo (by omega) (by omega))
      have hst := fun n hn => comp_step (n := n) HROW.out HTT.out HSID.out hka hkb hn
      have hF1 := fun n w' hn => firstR_c a1 a2 a3 n w' hso (by omega) (by omega) hn
      have hF2 := fun n w' hn => firstR_c b1 b2 b3 n w' huo (by omega) (by omega) hn
      have hcB1 := fun n hn => cutB_ok (a1, a2, a3) n hso hn
      have hcB2 := fun n hn => cutB_ok (b1, b2, b3) n huo hn
      have hsm1 := fun n hn => cut_sum (a1, a2, a3) n hso hn
      have hsm2 := fun n hn => cut_sum (b1, b2, b3) n huo hn
      have hA1 := fun n hn => (cutA_ok (a1, a2, a3) n hso hn).1.nonneg
      have hA2 := fun n hn => (cutA_ok (b1, b2, b3) n huo hn).1.nonneg
      obtain ⟨L1, hL1⟩ : ∃ L1, (tokS (a1, a2, a3)).length = L1 := ⟨_, rfl⟩
      obtain ⟨L2, hL2⟩ : ∃ L2, (tokS (b1, b2, b3)).length = L2 := ⟨_, rfl⟩
      rw [hL1] at HS1 hF1 hcB1 hsm1 hA1
      rw [hL2] at HS2 hF2 hcB2 hsm2 hA2
      rw [hL1, hL2] at hst
      have hl1 : os.length + 1 ≤ 2000 := by omega
      unfold spanV at HS1 HS2
      have hlt0 := fun b h => (ho.1.lt b h).2
      have HO := Lib.hid ho; have RX := Lib.hid rx; have RY := Lib.hid ry; have OFX := Lib.hid ofx; have OFY := Lib.hid ofy; have HBR := Lib.hid hxr; have HLT := Lib.hid hlt0
      clear ho rx ry ofx ofy hxr hlt0
      have hrr := Ext.refl wr
      rcases Nat.lt_trichotomy L1 L2 with hc | hc | hc
      · have hmn : (L1 : Int) ≤ (L2 : Int) := by omega
        have hmin : min (L1 : Int) (L2 : Int) = (L1 : Int) := by omega
        have hn1 : L1 ≤ L1 := by omega
        have hn2 : L1 ≤ L2 := by omega
        obtain ⟨HROW2, HTT2, HSID2⟩ := hst L1 (by omega)
        have hf1 := fun w' => hF1 L1 w' hn1; have hf2 := fun w' => hF2 L1 w' hn2
        have hb1 := hcB1 L1 hn1; have hb2 := hcB2 L1 hn2
        have hs1 := hsm1 L1 hn1; have hs2 := hsm2 L1 hn2; have ha1 := hA1 L1 hn1; have ha2 := hA2 L1 hn2
        obtain ⟨px2, hp2⟩ : ∃ x, (cutA (a1, a2, a3) L1).2.1 = x := ⟨_, rfl⟩
        obtain ⟨px3, hp3⟩ : ∃ x, (cutA (a1, a2, a3) L1).2.2 = x := ⟨_, rfl⟩
        have eP : cutA (a1, a2, a3) L1 = (a1, px2, px3) := Prod.ext (cutA_kind (a1, a2, a3) L1) (Prod.ext hp2 hp3)
        clear hp2 hp3
        obtain ⟨ax2, ha2⟩ : ∃ x, (cutB (a1, a2, a3) L1).2.1 = x := ⟨_, rfl⟩
        obtain ⟨ax3, ha3⟩ : ∃ x, (cutB (a1, a2, a3) L1).2.2 = x := ⟨_, rfl⟩
        have eA : cutB (a1, a2, a3) L1 = (a1, ax2, ax3) := Prod.ext (cutB_kind (a1, a2, a3) L1) (Prod.ext ha2 ha3)
        clear ha2 ha3
        obtain ⟨qx2, hq2⟩ : ∃ x, (cutA (b1, b2, b3) L1).2.1 = x := ⟨_, rfl⟩
        obtain ⟨qx3, hq3⟩ : ∃ x, (cutA (b1, b2, b3) L1).2.2 = x := ⟨_, rfl⟩
        have eQ : cutA (b1, b2, b3) L1 = (b1, qx2, qx3) := Prod.ext (cutA_kind (b1, b2, b3) L1) (Prod.ext hq2 hq3)
        clear hq2 hq3
        obtain ⟨bx2, hb2⟩ : ∃ x, (cutB (b1, b2, b3) L1).2.1 = x := ⟨_, rfl⟩
        obtain ⟨bx3, hb3⟩ : ∃ x, (cutB (b1, b2, b3) L1).2.2 = x := ⟨_, rfl⟩
        have eB : cutB (b1, b2, b3) L1 = (b1, bx2, bx3) := Prod.ext (cutB_kind (b1, b2, b3) L1) (Prod.ext hb2 hb3)
        clear hb2 hb3
        rw [eP] at hs1 ha1 hf1; rw [eA] at hs1 hb1 hf1; rw [eQ] at hs2 ha2 hf2; rw [eB] at hs2 hb2 hf2
        unfold spanV at hf1 hf2
        simp only at hf1 hf2 hs1 hs2 ha1 ha2
        have hb1n := hb1.1.nonneg; have hb2n := hb2.1.nonneg
        simp only at hb1n hb2n
        have HF1 := Lib.hid hf1; have HF2 := Lib.hid hf2
        have HT1 := Lib.hid (fun w' => sizeR_c a1 ax2 ax3 w' hb1.1 (by omega) (by omega)); have HT2 := Lib.hid (fun w' => sizeR_c b1 bx2 bx3 w' hb2.1 (by omega) (by omega))
        rw [hb1.2, List.length_drop, hL1] at HT1; rw [hb2.2, List.length_drop, hL2] at HT2
        unfold spanV at HT1 HT2
        rw [show ((L1 - L1 : Nat) : Int) = 0 by omega] at HT1
        obtain ⟨D2, hD2⟩ : ∃ x : Int, ((L2 - L1 : Nat) : Int) = x := ⟨_, rfl⟩
        have hd2 : (D2 == 0) = false := by rw [beq_eq_false_iff_ne]; omega
        rw [hD2] at HT2
        clear hD2
        obtain ⟨X', hX'⟩ : ∃ X', left (a1, a2, a3) L1 xs = X' := ⟨_, rfl⟩
        obtain ⟨Y', hY'⟩ : ∃ Y', left (b1, b2, b3) L1 ys = Y' := ⟨_, rfl⟩
        rw [hX', hY'] at HROW2 HTT2 HSID2
        simp only at HROW2 HTT2
        unfold left at hX' hY'
        rw [hL1, eA] at hX'; rw [hL2, eB] at hY'
        rw [if_pos rfl] at hX'; rw [if_neg (by omega)] at hY'
        rw [eP, eQ] at HROW2 HTT2
        subst hX'; subst hY'
        replace HROW2 := Lib.hid HROW2; replace HTT2 := Lib.hid HTT2; replace HSID2 := Lib.hid HSID2
        clear hst hF1 hF2 hcB1 hcB2 hsm1 hsm2 hA1 hA2 hf1 hf2 eP eA eQ eB hL1 hL2 hb1 hb2 HROW HTT HSID hs1 hs2 ha1 ha2 hb1n hb2n
        have ka : (a1 == 3) = false := by rw [beq_eq_false_iff_ne]; exact hka
        have kb : (b1 == 2) = false := by rw [beq_eq_false_iff_ne]; exact hkb
        have y2 : (0 : Int) < (k : Int) + 1 := by omega
        have x2 : (0 : Int) < (m : Int) + 1 := by omega
        go_wp2_with fail
        go_region_held3 (fun W => Ext wr W ∧ W.cell? ⟨bX, oX, none⟩ = some (.int .i64 a1) ∧ W.cell? ⟨bX, oX + 1, none⟩ = some (.int .i64 a2) ∧ W.cell? ⟨bX, oX + 2, none⟩ = some (.string a3) ∧ W.cell? ⟨bY, oY, none⟩ = some (.int .i64 b1) ∧ W.cell? ⟨bY, oY + 1, none⟩ = some (.int .i64 b2) ∧ W.cell? ⟨bY, oY + 2, none⟩ = some (.string b3))
          ((go_split_ands; refine ⟨?_, ?_, ?_, ?_, ?_, ?_, ?_⟩ <;> first | (exact Ext.drew ‹_›) | (exact Ext.trans ‹_› hxk) | (exact ext_cell hxk ‹_›) | go_keep))
          (first
          | (go_at_call_of 94 a3; go_split_ands; refine (HS1.out _).mono ?_; rintro e w' ⟨rfl, hxk⟩)
          | (go_at_call_of 94 b3; go_split_ands; refine (HS2.out _).mono ?_; rintro e w' ⟨rfl, hxk⟩)
          | fail)
        go_split_ands
        have e1 : Ext wr w' := by assumption
        have r0 := ext_cell e1 p0; have r1 := ext_cell e1 p1; have r2 := ext_cell e1 p2
        clear hmin
        go_wp2_with fail
        refine (HF1.out _).mono ?_; rintro e w7 ⟨rfl, hx7⟩
        have e7 := e1.trans hx7
        have z0 := ext_cell e7 q0; have z1 := ext_cell e7 q1; have z2 := ext_cell e7 q2
        have hbp := BoxG.made w7 #[.int .i64 a1, .int .i64 px2, .string px3] 48
        have hba := BoxG.made (w7.alloc (.cells #[.int .i64 a1, .int .i64 px2, .string px3] 48)) #[.int .i64 a1, .int .i64 ax2, .string ax3] 48
        rw [size_alloc] at hba
        have HBP := Lib.hid hbp; have HBA := Lib.hid hba
        have E7 : Hid (Ext wr ((w7.alloc (.cells #[.int .i64 a1, .int .i64 px2, .string px3] 48)).alloc (.cells #[.int .i64 a1, .int .i64 ax2, .string ax3] 48))) := Lib.hid ((e7.alloc _).alloc _)
        have u0 := ext_cell E7.out q0; have u1 := ext_cell E7.out q1; have u2 := ext_cell E7.out q2
        clear hbp hba r0 r1 r2
        go_wp2_with fail
        refine (HF2.out _).mono ?_; rintro e w8 ⟨rfl, hx8⟩
        have hsz8 := hx8.size
        rw [size_alloc, size_alloc] at hsz8
        obtain ⟨G, hG⟩ : ∃ x, w7.heap.size = x := ⟨_, rfl⟩
        obtain ⟨H, hH⟩ : ∃ x, w8.heap.size = x := ⟨_, rfl⟩
        have HBP8 : Hid (BoxG w8 w7.heap.size #[.int .i64 a1, .int .i64 px2, .string px3]) := Lib.hid (HBP.out.ext (((Ext.refl _).alloc _).trans hx8))
        have HBA8 : Hid (BoxG w8 (w7.heap.size + 1) #[.int .i64 a1, .int .i64 ax2, .string ax3]) := Lib.hid (HBA.out.ext hx8)
        rw [hG] at HBP8 HBA8 hsz8 ⊢
        rw [hH] at hsz8
        have hsz7 : wr.heap.size ≤ G := by rw [← hG]; exact e7.size
        have c0 := HBP8.out.2 0 _ rfl; have c1 := HBP8.out.2 1 _ rfl; have c2 := HBP8.out.2 2 _ rfl
        have E8 := Lib.hid (E7.out.trans hx8)
        have hbq := BoxG.made w8 #[.int .i64 b1, .int .i64 qx2, .string qx3] 48
        have hbb := BoxG.made (w8.alloc (.cells #[.int .i64 b1, .int .i64 qx2, .string qx3] 48)) #[.int .i64 b1, .int .i64 bx2, .string bx3] 48
        rw [size_alloc, hH] at hbb
        have HBB := Lib.hid hbb
        have E9 : Hid (Ext wr ((w8.alloc (.cells #[.int .i64 b1, .int .i64 qx2, .string qx3] 48)).alloc (.cells #[.int .i64 b1, .int .i64 bx2, .string bx3] 48))) := Lib.hid ((E8.out.alloc _).alloc _)
        have HBA9 : Hid (BoxG ((w8.alloc (.cells #[.int .i64 b1, .int .i64 qx2, .string qx3] 48)).alloc (.cells #[.int .i64 b1, .int .i64 bx2, .string bx3] 48)) (G + 1) #[.int .i64 a1, .int .i64 ax2, .string ax3]) := Lib.hid (HBA8.out.ext (((Ext.refl _).alloc _).alloc _))
        have HBP9 : Hid (BoxG ((w8.alloc (.cells #[.int .i64 b1, .int .i64 qx2, .string qx3] 48)).alloc (.cells #[.int .i64 b1, .int .i64 bx2, .string bx3] 48)) G #[.int .i64 a1, .int .i64 px2, .string px3]) := Lib.hid (HBP8.out.ext (((Ext.refl _).alloc _).alloc _))
        have d0 := HBP9.out.2 0 _ rfl; have d1 := HBP9.out.2 1 _ rfl; have d2 := HBP9.out.2 2 _ rfl
        clear hbq hbb z0 z1 z2 u0 u1 u2 hx7 hx8 E7 HBP HBA e7 hG
        have HH := Lib.hid hH
        rcases three_ways (b1 = 1) (a1 = 1) with hk1 | ⟨hk1, hk2⟩ | ⟨hk1, hk2⟩
        · have kk : (b1 == 1) = true := by rw [beq_iff_eq]; exact hk1
          have hr2 := HROW2.out; have ht2 := HTT2.out
          rw [if_pos hk1] at hr2 ht2
          have HR := Lib.hid hr2; have HT := Lib.hid ht2
          clear hr2 ht2
          clear HROW2 HTT2 hk1
          obtain ⟨vn, w10, happ, hown', hbel', hkp, hsz', hwh⟩ := app_newg (P := Tryd.prog) 22 22 48 i _ 3 32 Tryd.underlying22 hi hz0 hz1 hz2 rfl (by omega) (by omega)
            (HO.out.ext E9.out) (by omega) 1 #[.int .i64 a1, .int .i64 px2, .string px3] rfl (by omega) (by simp [Value.oneCell']) 48
          rw [size_alloc, size_alloc, HH.out] at happ
          have HAP := Lib.hid happ
          have HOn : Hid (Own w10 w6.heap.size 48 3 vn (os ++ [(a1, px2, px3)]).length (spCells (os ++ [(a1, px2, px3)]))) := Lib.hid (by rw [spCells_append, List.length_append]; exact hown')
          have hx9 := RX.out.ext E9.out; have hy9 := RY.out.ext E9.out
          have RXn := Lib.hid (OFX.out.rd hx9 hkp hsz'); have RYn := Lib.hid (OFY.out.rd hy9 hkp hsz')
          have OXn := Lib.hid (OFX.out.next hx9 hwh); have OYn := Lib.hid (OFY.out.next hy9 hwh)
          have HBn := Lib.hid (hbel' (Below.trans HBR.out (Below.mono E9.out HBR.out.size)))
          have BAn := Lib.hid (HBA9.out.kept (fun h => by have := HLT.out _ h; omega) hkp hsz'); have BBn := Lib.hid (HBB.out.kept (fun h => by have := HLT.out _ h; omega) hkp hsz')
          clear happ hown' hbel' hkp hsz' hwh hx9 hy9
          go_wp2_with (at_builtin; refine wpList_append_run rfl rfl HAP.out rfl rfl ?_)
          have x3 : (1 : Int) ≤ (m : Int) + 1 := by omega
          have x4 : (m : Int) + 1 ≤ (cx : Int) := by omega
          have y3 : (1 : Int) ≤ (k : Int) + 1 := by omega
          have y4 : (k : Int) + 1 ≤ (cy : Int) := by omega
          obtain ⟨AX, hAX⟩ : ∃ x : Option Addr, (if cx = 1 then some ⟨bX, oX, none⟩ else some ⟨bX, oX + 1 * 3, none⟩) = x := ⟨_, rfl⟩
          have hrbX := rdO_behind RXn.out
          rw [hAX] at hrbX
          simp only [Nat.one_mul] at hAX
          have HRBX := Lib.hid hrbX
          clear hrbX
          have HAPX : Hid (∀ W, Ext w10 W → ∃ v' w', (Builtin.append_ #[22, 22] 22 #[.slice (some ⟨W.heap.size, 0, none⟩) 1 1, .slice AX m (cx - 1)]).run Tryd.prog (W.alloc (.cells #[.int .i64 a1, .int .i64 ax2, .string ax3] 48)) = .ok v' w' ∧ ((∃ aR cR, v' = .slice aR (m + 1) cR ∧ RdO w' aR (m + 1) cR ((a1, ax2, ax3) :: xs) ∧ Off (m + 1) aR vn) ∧ Ext W w')) := Lib.hid fun W hx =>
            app_rest Tryd.underlying22 hi hz0 hz1 hz2 rfl HRBX.out (by omega) HOn.out hx
          refine region_T (fun W => Ext w10 W ∧ W.cell? ⟨G + 1, 0, none⟩ = some (.int .i64 a1) ∧ W.cell? ⟨G + 1, 1, none⟩ = some (.int .i64 ax2) ∧ W.cell? ⟨G + 1, 2, none⟩ = some (.string ax3)) 5 (by kernel_rfl) (⟨(Ext.refl _).drew, (BAn.out.ext (Ext.refl _).drew).2 0 _ rfl, (BAn.out.ext (Ext.refl _).drew).2 1 _ rfl, (BAn.out.ext (Ext.refl _).drew).2 2 _ rfl⟩) (fun hHeld => ?_)
          obtain ⟨Wd, hWd⟩ : ∃ x, w10.drew = x := ⟨_, rfl⟩
          rw [hWd] at hHeld ⊢
          have hdx : Ext w10 Wd := by rw [← hWd]; exact (Ext.refl _).drew
          have HS0 := Lib.hid hHeld
          clear hWd
          refine wpAnyT_take (i := 0) (v := ?_) rfl (by kernel_rfl) (fun _ _ _ h => h) (Or.inl ⟨by rfl, ?_⟩) (by assumption) ?_
          rotate_left
          · (intro W hSw; (try dsimp only at hSw); go_simp; (try with_reducible rfl))
          try simp only [Act.put, List.setIfInBounds_toArray, List.set_cons_zero, List.set_cons_succ]
          refine wpAnyT_take (i := 2) (v := ?_) rfl (by kernel_rfl) (fun _ _ _ h => h) (Or.inl ⟨by rfl, ?_⟩) (by assumption) ?_
          rotate_left
          · (intro W hSw; (try dsimp only at hSw); go_simp; (try with_reducible rfl))
          try simp only [Act.put, List.setIfInBounds_toArray, List.set_cons_zero, List.set_cons_succ]
          refine wpAnyT_take (i := 3) (v := ?_) rfl (by kernel_rfl) (fun _ _ _ h => h) (Or.inl ⟨by rfl, ?_⟩) (by assumption) ?_
          rotate_left
          · (intro W hSw; (try dsimp only at hSw); go_simp; (try with_reducible rfl))
          try simp only [Act.put, List.setIfInBounds_toArray, List.set_cons_zero, List.set_cons_succ]
          refine wpAnyT_one (i := 1) rfl (by kernel_rfl) (fun K hK => ?_)
          go_simp
          refine hK.out _ _ (fun _ => ⟨hdx.alloc _, ext_cell ((Ext.refl _).alloc _) HS0.out.2.1, ext_cell ((Ext.refl _).alloc _) HS0.out.2.2.1, ext_cell ((Ext.refl _).alloc _) HS0.out.2.2.2⟩) (fun hH => ?_)
          replace hHeld := hH (by decide)
          clear hK K hH
          try simp only [Act.put, List.setIfInBounds_toArray, List.set_cons_zero, List.set_cons_succ]
          refine wpAnyT_one (i := 4) rfl (by kernel_rfl) (fun K hK => ?_)
          (refine step_append_ex (by rfl) _ _ _ (by rfl) (by rfl) (by rfl) (HAPX.out Wd hdx) ?_)
          rintro v' w11 ⟨⟨aRX, cRX, rfl, rRX, oRX⟩, hxk⟩
          refine hK.out _ _ (fun _ => ⟨hdx.trans hxk, ext_cell hxk HS0.out.2.1, ext_cell hxk HS0.out.2.2.1, ext_cell hxk HS0.out.2.2.2⟩) (fun hH => ?_)
          replace hHeld := hH (by decide)
          clear hK K hH
          try simp only [Act.put, List.setIfInBounds_toArray, List.set_cons_zero, List.set_cons_succ]
          refine wpAnyT_one (i := 5) rfl (by kernel_rfl) (fun K hK => ?_)
          go_simp
          refine hK.out _ _ (fun h => absurd rfl h) (fun _ => ?_)
          clear hK K hHeld
          try simp only [Act.put, List.setIfInBounds_toArray, List.set_cons_zero, List.set_cons_succ]
          refine wpAnyT_done (by kernel_rfl) ?_ _
          have EX := hdx.trans hxk
          clear hdx hxk HS0 HAPX HRBX
          have HO11 := Lib.hid (HOn.out.ext EX); have RY11 := Lib.hid (RYn.out.ext EX); have BA11 := Lib.hid (BAn.out.ext EX); have BB11 := Lib.hid (BBn.out.ext EX); have HB11 := Lib.hid (Below.trans HBn.out (Below.mono EX HBn.out.size)); have RX11 := Lib.hid rRX; have OX11 := Lib.hid oRX
          clear HOn RYn RXn BAn BBn HBn OXn rRX oRX EX
          go_wp2_with fail
          obtain ⟨AY, hAY⟩ : ∃ x : Option Addr, (if cy = 1 then some ⟨bY, oY, none⟩ else some ⟨bY, oY + 1 * 3, none⟩) = x := ⟨_, rfl⟩
          have hrbY := rdO_behind RY11.out
          rw [hAY] at hrbY
          simp only [Nat.one_mul] at hAY
          have HRBY := Lib.hid hrbY
          clear hrbY
          have HAPY : Hid (∀ W, Ext w11 W → ∃ v' w', (Builtin.append_ #[22, 22] 22 #[.slice (some ⟨W.heap.size, 0, none⟩) 1 1, .slice AY k (cy - 1)]).run Tryd.prog (W.alloc (.cells #[.int .i64 b1, .int .i64 bx2, .string bx3] 48)) = .ok v' w' ∧ ((∃ aR cR, v' = .slice aR (k + 1) cR ∧ RdO w' aR (k + 1) cR ((b1, bx2, bx3) :: ys) ∧ Off (k + 1) aR vn) ∧ Ext W w')) := Lib.hid fun W hx =>
            app_rest Tryd.underlying22 hi hz0 hz1 hz2 rfl HRBY.out (by omega) HO11.out hx
          refine region_T (fun W => Ext w11 W ∧ W.cell? ⟨H + 1, 0, none⟩ = some (.int .i64 b1) ∧ W.cell? ⟨H + 1, 1, none⟩ = some (.int .i64 bx2) ∧ W.cell? ⟨H + 1, 2, none⟩ = some (.string bx3)) 5 (by kernel_rfl) (⟨(Ext.refl _).drew, (BB11.out.ext (Ext.refl _).drew).2 0 _ rfl, (BB11.out.ext (Ext.refl _).drew).2 1 _ rfl, (BB11.out.ext (Ext.refl _).drew).2 2 _ rfl⟩) (fun hHeld => ?_)
          obtain ⟨Wd, hWd⟩ : ∃ x, w11.drew = x := ⟨_, rfl⟩
          rw [hWd] at hHeld ⊢
          have hdx : Ext w11 Wd := by rw [← hWd]; exact (Ext.refl _).drew
          have HS0 := Lib.hid hHeld
          clear hWd
          refine wpAnyT_take (i := 0) (v := ?_) rfl (by kernel_rfl) (fun _ _ _ h => h) (Or.inl ⟨by rfl, ?_⟩) (by assumption) ?_
          rotate_left
          · (intro W hSw; (try dsimp only at hSw); go_simp; (try with_reducible rfl))
          try simp only [Act.put, List.setIfInBounds_toArray, List.set_cons_zero, List.set_cons_succ]
          refine wpAnyT_take (i := 2) (v := ?_) rfl (by kernel_rfl) (fun _ _ _ h => h) (Or.inl ⟨by rfl, ?_⟩) (by assumption) ?_
          rotate_left
          · (intro W hSw; (try dsimp only at hSw); go_simp; (try with_reducible rfl))
          try simp only [Act.put, List.setIfInBounds_toArray, List.set_cons_zero, List.set_cons_succ]
          refine wpAnyT_take (i := 3) (v := ?_) rfl (by kernel_rfl) (fun _ _ _ h => h) (Or.inl ⟨by rfl, ?_⟩) (by assumption) ?_
          rotate_left
          · (intro W hSw; (try dsimp only at hSw); go_simp; (try with_reducible rfl))
          try simp only [Act.put, List.setIfInBounds_toArray, List.set_cons_zero, List.set_cons_succ]
          refine wpAnyT_one (i := 1) rfl (by kernel_rfl) (fun K hK => ?_)
          go_simp
          refine hK.out _ _ (fun _ => ⟨hdx.alloc _, ext_cell ((Ext.refl _).alloc _) HS0.out.2.1, ext_cell ((Ext.refl _).alloc _) HS0.out.2.2.1, ext_cell ((Ext.refl _).alloc _) HS0.out.2.2.2⟩) (fun hH => ?_)
          replace hHeld := hH (by decide)
          clear hK K hH
          try simp only [Act.put, List.setIfInBounds_toArray, List.set_cons_zero, List.set_cons_succ]
          refine wpAnyT_one (i := 4) rfl (by kernel_rfl) (fun K hK => ?_)
          (refine step_append_ex (by rfl) _ _ _ (by rfl) (by rfl) (by rfl) (HAPY.out Wd hdx) ?_)
          rintro v' w12 ⟨⟨aRY, cRY, rfl, rRY, oRY⟩, hxk⟩
          refine hK.out _ _ (fun _ => ⟨hdx.trans hxk, ext_cell hxk HS0.out.2.1, ext_cell hxk HS0.out.2.2.1, ext_cell hxk HS0.out.2.2.2⟩) (fun hH => ?_)
          replace hHeld := hH (by decide)
          clear hK K hH
          try simp only [Act.put, List.setIfInBounds_toArray, List.set_cons_zero, List.set_cons_succ]
          refine wpAnyT_one (i := 5) rfl (by kernel_rfl) (fun K hK => ?_)
          go_simp
          refine hK.out _ _ (fun h => absurd rfl h) (fun _ => ?_)
          clear hK K hHeld
          try simp only [Act.put, List.setIfInBounds_toArray, List.set_cons_zero, List.set_cons_succ]
          refine wpAnyT_done (by kernel_rfl) ?_ _
          have EY := hdx.trans hxk
          clear hdx hxk HS0 HAPY HRBY
          have HO12 := Lib.hid (HO11.out.ext EY); have RX12 := Lib.hid (RX11.out.ext EY); have BA12 := Lib.hid (BA11.out.ext EY); have BB12 := Lib.hid (BB11.out.ext EY); have HB12 := Lib.hid (Below.trans HB11.out (Below.mono EY HB11.out.size)); have RY12 := Lib.hid rRY; have OY12 := Lib.hid oRY
          clear HO11 RX11 RY11 BA11 BB11 HB11 OYn rRY oRY EY
          have k0 := BA12.out.2 0 _ rfl; have k1 := BA12.out.2 1 _ rfl; have k2 := BA12.out.2 2 _ rfl
          obtain ⟨gX, fX, hgX, _, _, _, _⟩ := sp_at RX12.out.2 RX12.out.1 (Nat.succ_pos _)
          subst hgX
          have hcX : m + 1 ≤ cRX := by obtain ⟨_, _, hv, hc⟩ := RX12.out.2.len; injection hv with _ _ e; omega
          obtain ⟨DX, hDX⟩ : ∃ x : Option Addr, (if cRX = 1 then some ⟨gX, fX, none⟩ else some ⟨gX, fX + 1 * 3, none⟩) = x := ⟨_, rfl⟩
          have rdX := rdO_behind RX12.out; have odX := Off.behind (c := cRX) (k := 1) OX11.out (Nat.succ_pos _)
          rw [hDX] at rdX odX
          simp only [Nat.one_mul] at hDX
          have x5X : (m : Int) + 1 ≤ (cRX : Int) := by omega
          have RDX := Lib.hid rdX; have ODX := Lib.hid odX
          clear rdX odX hcX
          go_wp2_with fail
          refine (HT1.out _).mono ?_; rintro e w13 ⟨rfl, hx13⟩
          have j0 := ext_cell hx13 (BB12.out.2 0 _ rfl); have j1 := ext_cell hx13 (BB12.out.2 1 _ rfl); have j2 := ext_cell hx13 (BB12.out.2 2 _ rfl)
          go_wp2_with fail
          refine (HT2.out _).mono ?_; rintro e w14 ⟨rfl, hx14⟩
          have E14 := Lib.hid (hx13.trans hx14)
          clear hx13 hx14 k0 k1 k2 j0 j1 j2
          go_wp2_with fail
          go_roundw
          case rel => exact ⟨xs, ((b1, bx2, bx3) :: ys), os ++ [(a1, px2, px3)], DX, aRY, m, k + 1, cRX - 1, cRY, rfl, rfl, RDX.out.ext E14.out, RY12.out.ext E14.out, HO12.out.ext E14.out, ⟨ODX.out, OY12.out⟩, HR.out, HT.out, HSID2.out, Below.trans HB12.out (Below.mono E14.out HB12.out.size)⟩
          case measure => simp [slen]; try omega
        · have kk : (b1 == 1) = false := by rw [beq_eq_false_iff_ne]; exact hk1
          have kl : (a1 == 1) = true := by rw [beq_iff_eq]; exact hk2
          have hr2 := HROW2.out; have ht2 := HTT2.out
          rw [if_neg hk1, if_pos hk2] at hr2 ht2
          have HR := Lib.hid hr2; have HT := Lib.hid ht2
          clear hr2 ht2
          clear HROW2 HTT2 hk1 hk2
          obtain ⟨vn, w10, happ, hown', hbel', hkp, hsz', hwh⟩ := app_newg (P := Tryd.prog) 22 22 48 i _ 3 32 Tryd.underlying22 hi hz0 hz1 hz2 rfl (by omega) (by omega)
            (HO.out.ext E9.out) (by omega) 1 #[.int .i64 b1, .int .i64 qx2, .string qx3] rfl (by omega) (by simp [Value.oneCell']) 48
          rw [size_alloc, size_alloc, HH.out] at happ
          have HAP := Lib.hid happ
          have HOn : Hid (Own w10 w6.heap.size 48 3 vn (os ++ [(b1, qx2, qx3)]).length (spCells (os ++ [(b1, qx2, qx3)]))) := Lib.hid (by rw [spCells_append, List.length_append]; exact hown')
          have hx9 := RX.out.ext E9.out; have hy9 := RY.out.ext E9.out
          have RXn := Lib.hid (OFX.out.rd hx9 hkp hsz'); have RYn := Lib.hid (OFY.out.rd hy9 hkp hsz')
          have OXn := Lib.hid (OFX.out.next hx9 hwh); have OYn := Lib.hid (OFY.out.next hy9 hwh)
          have HBn := Lib.hid (hbel' (Below.trans HBR.out (Below.mono E9.out HBR.out.size)))
          have BAn := Lib.hid (HBA9.out.kept (fun h => by have := HLT.out _ h; omega) hkp hsz'); have BBn := Lib.hid (HBB.out.kept (fun h => by have := HLT.out _ h; omega) hkp hsz')
          clear happ hown' hbel' hkp hsz' hwh hx9 hy9
          go_wp2_with (at_builtin; refine wpList_append_run rfl rfl HAP.out rfl rfl ?_)
          have x3 : (1 : Int) ≤ (m : Int) + 1 := by omega
          have x4 : (m : Int) + 1 ≤ (cx : Int) := by omega
          have y3 : (1 : Int) ≤ (k : Int) + 1 := by omega
          have y4 : (k : Int) + 1 ≤ (cy : Int) := by omega
          obtain ⟨AX, hAX⟩ : ∃ x : Option Addr, (if cx = 1 then some ⟨bX, oX, none⟩ else some ⟨bX, oX + 1 * 3, none⟩) = x := ⟨_, rfl⟩
          have hrbX := rdO_behind RXn.out
          rw [hAX] at hrbX
          simp only [Nat.one_mul] at hAX
          have HRBX := Lib.hid hrbX
          clear hrbX
          have HAPX : Hid (∀ W, Ext w10 W → ∃ v' w', (Builtin.append_ #[22, 22] 22 #[.slice (some ⟨W.heap.size, 0, none⟩) 1 1, .slice AX m (cx - 1)]).run Tryd.prog (W.alloc (.cells #[.int .i64 a1, .int .i64 ax2, .string ax3] 48)) = .ok v' w' ∧ ((∃ aR cR, v' = .slice aR (m + 1) cR ∧ RdO w' aR (m + 1) cR ((a1, ax2, ax3) :: xs) ∧ Off (m + 1) aR vn) ∧ Ext W w')) := Lib.hid fun W hx =>
            app_rest Tryd.underlying22 hi hz0 hz1 hz2 rfl HRBX.out (by omega) HOn.out hx
          refine region_T (fun W => Ext w10 W ∧ W.cell? ⟨G + 1, 0, none⟩ = some (.int .i64 a1) ∧ W.cell? ⟨G + 1, 1, none⟩ = some (.int .i64 ax2) ∧ W.cell? ⟨G + 1, 2, none⟩ = some (.string ax3)) 5 (by kernel_rfl) (⟨(Ext.refl _).drew, (BAn.out.ext (Ext.refl _).drew).2 0 _ rfl, (BAn.out.ext (Ext.refl _).drew).2 1 _ rfl, (BAn.out.ext (Ext.refl _).drew).2 2 _ rfl⟩) (fun hHeld => ?_)
          obtain ⟨Wd, hWd⟩ : ∃ x, w10.drew = x := ⟨_, rfl⟩
          rw [hWd] at hHeld ⊢
          have hdx : Ext w10 Wd := by rw [← hWd]; exact (Ext.refl _).drew
          have HS0 := Lib.hid hHeld
          clear hWd
          refine wpAnyT_take (i := 0) (v := ?_) rfl (by kernel_rfl) (fun _ _ _ h => h) (Or.inl ⟨by rfl, ?_⟩) (by assumption) ?_
          rotate_left
          · (intro W hSw; (try dsimp only at hSw); go_simp; (try with_reducible rfl))
          try simp only [Act.put, List.setIfInBounds_toArray, List.set_cons_zero, List.set_cons_succ]
          refine wpAnyT_take (i := 2) (v := ?_) rfl (by kernel_rfl) (fun _ _ _ h => h) (Or.inl ⟨by rfl, ?_⟩) (by assumption) ?_
          rotate_left
          · (intro W hSw; (try dsimp only at hSw); go_simp; (try with_reducible rfl))
          try simp only [Act.put, List.setIfInBounds_toArray, List.set_cons_zero, List.set_cons_succ]
          refine wpAnyT_take (i := 3) (v := ?_) rfl (by kernel_rfl) (fun _ _ _ h => h) (Or.inl ⟨by rfl, ?_⟩) (by assumption) ?_
          rotate_left
          · (intro W hSw; (try dsimp only at hSw); go_simp; (try with_reducible rfl))
          try simp only [Act.put, List.setIfInBounds_toArray, List.set_cons_zero, List.set_cons_succ]
          refine wpAnyT_one (i := 1) rfl (by kernel_rfl) (fun K hK => ?_)
          go_simp
          refine hK.out _ _ (fun _ => ⟨hdx.alloc _, ext_cell ((Ext.refl _).alloc _) HS0.out.2.1, ext_cell ((Ext.refl _).alloc _) HS0.out.2.2.1, ext_cell ((Ext.refl _).alloc _) HS0.out.2.2.2⟩) (fun hH => ?_)
          replace hHeld := hH (by decide)
          clear hK K hH
          try simp only [Act.put, List.setIfInBounds_toArray, List.set_cons_zero, List.set_cons_succ]
          refine wpAnyT_one (i := 4) rfl (by kernel_rfl) (fun K hK => ?_)
          (refine step_append_ex (by rfl) _ _ _ (by rfl) (by rfl) (by rfl) (HAPX.out Wd hdx) ?_)
          rintro v' w11 ⟨⟨aRX, cRX, rfl, rRX, oRX⟩, hxk⟩
          refine hK.out _ _ (fun _ => ⟨hdx.trans hxk, ext_cell hxk HS0.out.2.1, ext_cell hxk HS0.out.2.2.1, ext_cell hxk HS0.out.2.2.2⟩) (fun hH => ?_)
          replace hHeld := hH (by decide)
          clear hK K hH
          try simp only [Act.put, List.setIfInBounds_toArray, List.set_cons_zero, List.set_cons_succ]
          refine wpAnyT_one (i := 5) rfl (by kernel_rfl) (fun K hK => ?_)
          go_simp
          refine hK.out _ _ (fun h => absurd rfl h) (fun _ => ?_)
          clear hK K hHeld
          try simp only [Act.put, List.setIfInBounds_toArray, List.set_cons_zero, List.set_cons_succ]
          refine wpAnyT_done (by kernel_rfl) ?_ _
          have EX := hdx.trans hxk
          clear hdx hxk HS0 HAPX HRBX
          have HO11 := Lib.hid (HOn.out.ext EX); have RY11 := Lib.hid (RYn.out.ext EX); have BA11 := Lib.hid (BAn.out.ext EX); have BB11 := Lib.hid (BBn.out.ext EX); have HB11 := Lib.hid (Below.trans HBn.out (Below.mono EX HBn.out.size)); have RX11 := Lib.hid rRX; have OX11 := Lib.hid oRX
          clear HOn RYn RXn BAn BBn HBn OXn rRX oRX EX
          go_wp2_with fail
          obtain ⟨AY, hAY⟩ : ∃ x : Option Addr, (if cy = 1 then some ⟨bY, oY, none⟩ else some ⟨bY, oY + 1 * 3, none⟩) = x := ⟨_, rfl⟩
          have hrbY := rdO_behind RY11.out
          rw [hAY] at hrbY
          simp only [Nat.one_mul] at hAY
          have HRBY := Lib.hid hrbY
          clear hrbY
          have HAPY : Hid (∀ W, Ext w11 W → ∃ v' w', (Builtin.append_ #[22, 22] 22 #[.slice (some ⟨W.heap.size, 0, none⟩) 1 1, .slice AY k (cy - 1)]).run Tryd.prog (W.alloc (.cells #[.int .i64 b1, .int .i64 bx2, .string bx3] 48)) = .ok v' w' ∧ ((∃ aR cR, v' = .slice aR (k + 1) cR ∧ RdO w' aR (k + 1) cR ((b1, bx2, bx3) :: ys) ∧ Off (k + 1) aR vn) ∧ Ext W w')) := Lib.hid fun W hx =>
            app_rest Tryd.underlying22 hi hz0 hz1 hz2 rfl HRBY.out (by omega) HO11.out hx
          refine region_T (fun W => Ext w11 W ∧ W.cell? ⟨H + 1, 0, none⟩ = some (.int .i64 b1) ∧ W.cell? ⟨H + 1, 1, none⟩ = some (.int .i64 bx2) ∧ W.cell? ⟨H + 1, 2, none⟩ = some (.string bx3)) 5 (by kernel_rfl) (⟨(Ext.refl _).drew, (BB11.out.ext (Ext.refl _).drew).2 0 _ rfl, (BB11.out.ext (Ext.refl _).drew).2 1 _ rfl, (BB11.out.ext (Ext.refl _).drew).2 2 _ rfl⟩) (fun hHeld => ?_)
          obtain ⟨Wd, hWd⟩ : ∃ x, w11.drew = x := ⟨_, rfl⟩
          rw [hWd] at hHeld ⊢
          have hdx : Ext w11 Wd := by rw [← hWd]; exact (Ext.refl _).drew
          have HS0 := Lib.hid hHeld
          clear hWd
          refine wpAnyT_take (i := 0) (v := ?_) rfl (by kernel_rfl) (fun _ _ _ h => h) (Or.inl ⟨by rfl, ?_⟩) (by assumption) ?_
          rotate_left
          · (intro W hSw; (try dsimp only at hSw); go_simp; (try with_reducible rfl))
          try simp only [Act.put, List.setIfInBounds_toArray, List.set_cons_zero, List.set_cons_succ]
          refine wpAnyT_take (i := 2) (v := ?_) rfl (by kernel_rfl) (fun _ _ _ h => h) (Or.inl ⟨by rfl, ?_⟩) (by assumption) ?_
          rotate_left
          · (intro W hSw; (try dsimp only at hSw); go_simp; (try with_reducible rfl))
          try simp only [Act.put, List.setIfInBounds_toArray, List.set_cons_zero, List.set_cons_succ]
          refine wpAnyT_take (i := 3) (v := ?_) rfl (by kernel_rfl) (fun _ _ _ h => h) (Or.inl ⟨by rfl, ?_⟩) (by assumption) ?_
          rotate_left
          · (intro W hSw; (try dsimp only at hSw); go_simp; (try with_reducible rfl))
          try simp only [Act.put, List.setIfInBounds_toArray, List.set_cons_zero, List.set_cons_succ]
          refine wpAnyT_one (i := 1) rfl (by kernel_rfl) (fun K hK => ?_)
          go_simp
          refine hK.out _ _ (fun _ => ⟨hdx.alloc _, ext_cell ((Ext.refl _).alloc _) HS0.out.2.1, ext_cell ((Ext.refl _).alloc _) HS0.out.2.2.1, ext_cell ((Ext.refl _).alloc _) HS0.out.2.2.2⟩) (fun hH => ?_)
          replace hHeld := hH (by decide)
          clear hK K hH
          try simp only [Act.put, List.setIfInBounds_toArray, List.set_cons_zero, List.set_cons_succ]
          refine wpAnyT_one (i := 4) rfl (by kernel_rfl) (fun K hK => ?_)
          (refine step_append_ex (by rfl) _ _ _ (by rfl) (by rfl) (by rfl) (HAPY.out Wd hdx) ?_)
          rintro v' w12 ⟨⟨aRY, cRY, rfl, rRY, oRY⟩, hxk⟩
          refine hK.out _ _ (fun _ => ⟨hdx.trans hxk, ext_cell hxk HS0.out.2.1, ext_cell hxk HS0.out.2.2.1, ext_cell hxk HS0.out.2.2.2⟩) (fun hH => ?_)
          replace hHeld := hH (by decide)
          clear hK K hH
          try simp only [Act.put, List.setIfInBounds_toArray, List.set_cons_zero, List.set_cons_succ]
          refine wpAnyT_one (i := 5) rfl (by kernel_rfl) (fun K hK => ?_)
          go_simp
          refine hK.out _ _ (fun h => absurd rfl h) (fun _ => ?_)
          clear hK K hHeld
          try simp only [Act.put, List.setIfInBounds_toArray, List.set_cons_zero, List.set_cons_succ]
          refine wpAnyT_done (by kernel_rfl) ?_ _
          have EY := hdx.trans hxk
          clear hdx hxk HS0 HAPY HRBY
          have HO12 := Lib.hid (HO11.out.ext EY); have RX12 := Lib.hid (RX11.out.ext EY); have BA12 := Lib.hid (BA11.out.ext EY); have BB12 := Lib.hid (BB11.out.ext EY); have HB12 := Lib.hid (Below.trans HB11.out (Below.mono EY HB11.out.size)); have RY12 := Lib.hid rRY; have OY12 := Lib.hid oRY
          clear HO11 RX11 RY11 BA11 BB11 HB11 OYn rRY oRY EY
          have k0 := BA12.out.2 0 _ rfl; have k1 := BA12.out.2 1 _ rfl; have k2 := BA12.out.2 2 _ rfl
          obtain ⟨gX, fX, hgX, _, _, _, _⟩ := sp_at RX12.out.2 RX12.out.1 (Nat.succ_pos _)
          subst hgX
          have hcX : m + 1 ≤ cRX := by obtain ⟨_, _, hv, hc⟩ := RX12.out.2.len; injection hv with _ _ e; omega
          obtain ⟨DX, hDX⟩ : ∃ x : Option Addr, (if cRX = 1 then some ⟨gX, fX, none⟩ else some ⟨gX, fX + 1 * 3, none⟩) = x := ⟨_, rfl⟩
          have rdX := rdO_behind RX12.out; have odX := Off.behind (c := cRX) (k := 1) OX11.out (Nat.succ_pos _)
          rw [hDX] at rdX odX
          simp only [Nat.one_mul] at hDX
          have x5X : (m : Int) + 1 ≤ (cRX : Int) := by omega
          have RDX := Lib.hid rdX; have ODX := Lib.hid odX
          clear rdX odX hcX
          go_wp2_with fail
          refine (HT1.out _).mono ?_; rintro e w13 ⟨rfl, hx13⟩
          have j0 := ext_cell hx13 (BB12.out.2 0 _ rfl); have j1 := ext_cell hx13 (BB12.out.2 1 _ rfl); have j2 := ext_cell hx13 (BB12.out.2 2 _ rfl)
          go_wp2_with fail
          refine (HT2.out _).mono ?_; rintro e w14 ⟨rfl, hx14⟩
          have E14 := Lib.hid (hx13.trans hx14)
          clear hx13 hx14 k0 k1 k2 j0 j1 j2
          go_wp2_with fail
          go_roundw
          case rel => exact ⟨xs, ((b1, bx2, bx3) :: ys), os ++ [(b1, qx2, qx3)], DX, aRY, m, k + 1, cRX - 1, cRY, rfl, rfl, RDX.out.ext E14.out, RY12.out.ext E14.out, HO12.out.ext E14.out, ⟨ODX.out, OY12.out⟩, HR.out, HT.out, HSID2.out, Below.trans HB12.out (Below.mono E14.out HB12.out.size)⟩
          case measure => simp [slen]; try omega
        · have kk : (b1 == 1) = false := by rw [beq_eq_false_iff_ne]; exact hk1
          have kl : (a1 == 1) = false := by rw [beq_eq_false_iff_ne]; exact hk2
          have hr2 := HROW2.out; have ht2 := HTT2.out
          rw [if_neg hk1, if_neg hk2, List.append_nil] at hr2 ht2
          have HR := Lib.hid hr2; have HT := Lib.hid ht2
          clear hr2 ht2
          clear HROW2 HTT2 hk1 hk2
          go_wp2_with fail
          obtain ⟨w10, hw10⟩ : ∃ x, ((w8.alloc (.cells #[.int .i64 b1, .int .i64 qx2, .string qx3] 48)).alloc (.cells #[.int .i64 b1, .int .i64 bx2, .string bx3] 48)) = x := ⟨_, rfl⟩
          rw [hw10] at E9 HBA9 HBB ⊢
          have HOn := Lib.hid (HO.out.ext E9.out); have RXn := Lib.hid (RX.out.ext E9.out); have RYn := Lib.hid (RY.out.ext E9.out)
          have OXn := OFX; have OYn := OFY; have BAn := HBA9; have BBn := HBB
          have HBn := Lib.hid (Below.trans HBR.out (Below.mono E9.out HBR.out.size))
          clear hw10
          have x3 : (1 : Int) ≤ (m : Int) + 1 := by omega
          have x4 : (m : Int) + 1 ≤ (cx : Int) := by omega
          have y3 : (1 : Int) ≤ (k : Int) + 1 := by omega
          have y4 : (k : Int) + 1 ≤ (cy : Int) := by omega
          obtain ⟨AX, hAX⟩ : ∃ x : Option Addr, (if cx = 1 then some ⟨bX, oX, none⟩ else some ⟨bX, oX + 1 * 3, none⟩) = x := ⟨_, rfl⟩
          have hrbX := rdO_behind RXn.out
          rw [hAX] at hrbX
          simp only [Nat.one_mul] at hAX
          have HRBX := Lib.hid hrbX
          clear hrbX
          have HAPX : Hid (∀ W, Ext w10 W → ∃ v' w', (Builtin.append_ #[22, 22] 22 #[.slice (some ⟨W.heap.size, 0, none⟩) 1 1, .slice AX m (cx - 1)]).run Tryd.prog (W.alloc (.cells #[.int .i64 a1, .int .i64 ax2, .string ax3] 48)) = .ok v' w' ∧ ((∃ aR cR, v' = .slice aR (m + 1) cR ∧ RdO w' aR (m + 1) cR ((a1, ax2, ax3) :: xs) ∧ Off (m + 1) aR u10) ∧ Ext W w')) := Lib.hid fun W hx =>
            app_rest Tryd.underlying22 hi hz0 hz1 hz2 rfl HRBX.out (by omega) HOn.out hx
          refine region_T (fun W => Ext w10 W ∧ W.cell? ⟨G + 1, 0, none⟩ = some (.int .i64 a1) ∧ W.cell? ⟨G + 1, 1, none⟩ = some (.int .i64 ax2) ∧ W.cell? ⟨G + 1, 2, none⟩ = some (.string ax3)) 5 (by kernel_rfl) (⟨(Ext.refl _).drew, (BAn.out.ext (Ext.refl _).drew).2 0 _ rfl, (BAn.out.ext (Ext.refl _).drew).2 1 _ rfl, (BAn.out.ext (Ext.refl _).drew).2 2 _ rfl⟩) (fun hHeld => ?_)
          obtain ⟨Wd, hWd⟩ : ∃ x, w10.drew = x := ⟨_, rfl⟩
          rw [hWd] at hHeld ⊢
          have hdx : Ext w10 Wd := by rw [← hWd]; exact (Ext.refl _).drew
          have HS0 := Lib.hid hHeld
          clear hWd
          refine wpAnyT_take (i := 0) (v := ?_) rfl (by kernel_rfl) (fun _ _ _ h => h) (Or.inl ⟨by rfl, ?_⟩) (by assumption) ?_
          rotate_left
          · (intro W hSw; (try dsimp only at hSw); go_simp; (try with_reducible rfl))
          try simp only [Act.put, List.setIfInBounds_toArray, List.set_cons_zero, List.set_cons_succ]
          refine wpAnyT_take (i := 2) (v := ?_) rfl (by kernel_rfl) (fun _ _ _ h => h) (Or.inl ⟨by rfl, ?_⟩) (by assumption) ?_
          rotate_left
          · (intro W hSw; (try dsimp only at hSw); go_simp; (try with_reducible rfl))
          try simp only [Act.put, List.setIfInBounds_toArray, List.set_cons_zero, List.set_cons_succ]
          refine wpAnyT_take (i := 3) (v := ?_) rfl (by kernel_rfl) (fun _ _ _ h => h) (Or.inl ⟨by rfl, ?_⟩) (by assumption) ?_
          rotate_left
          · (intro W hSw; (try dsimp only at hSw); go_simp; (try with_reducible rfl))
          try simp only [Act.put, List.setIfInBounds_toArray, List.set_cons_zero, List.set_cons_succ]
          refine wpAnyT_one (i := 1) rfl (by kernel_rfl) (fun K hK => ?_)
          go_simp
          refine hK.out _ _ (fun _ => ⟨hdx.alloc _, ext_cell ((Ext.refl _).alloc _) HS0.out.2.1, ext_cell ((Ext.refl _).alloc _) HS0.out.2.2.1, ext_cell ((Ext.refl _).alloc _) HS0.out.2.2.2⟩) (fun hH => ?_)
          replace hHeld := hH (by decide)
          clear hK K hH
          try simp only [Act.put, List.setIfInBounds_toArray, List.set_cons_zero, List.set_cons_succ]
          refine wpAnyT_one (i := 4) rfl (by kernel_rfl) (fun K hK => ?_)
          (refine step_append_ex (by rfl) _ _ _ (by rfl) (by rfl) (by rfl) (HAPX.out Wd hdx) ?_)
          rintro v' w11 ⟨⟨aRX, cRX, rfl, rRX, oRX⟩, hxk⟩
          refine hK.out _ _ (fun _ => ⟨hdx.trans hxk, ext_cell hxk HS0.out.2.1, ext_cell hxk HS0.out.2.2.1, ext_cell hxk HS0.out.2.2.2⟩) (fun hH => ?_)
          replace hHeld := hH (by decide)
          clear hK K hH
          try simp only [Act.put, List.setIfInBounds_toArray, List.set_cons_zero, List.set_cons_succ]
          refine wpAnyT_one (i := 5) rfl (by kernel_rfl) (fun K hK => ?_)
          go_simp
          refine hK.out _ _ (fun h => absurd rfl h) (fun _ => ?_)
          clear hK K hHeld
          try simp only [Act.put, List.setIfInBounds_toArray, List.set_cons_zero, List.set_cons_succ]
          refine wpAnyT_done (by kernel_rfl) ?_ _
          have EX := hdx.trans hxk
          clear hdx hxk HS0 HAPX HRBX
          have HO11 := Lib.hid (HOn.out.ext EX); have RY11 := Lib.hid (RYn.out.ext EX); have BA11 := Lib.hid (BAn.out.ext EX); have BB11 := Lib.hid (BBn.out.ext EX); have HB11 := Lib.hid (Below.trans HBn.out (Below.mono EX HBn.out.size)); have RX11 := Lib.hid rRX; have OX11 := Lib.hid oRX
          clear HOn RYn RXn BAn BBn HBn OXn rRX oRX EX
          go_wp2_with fail
          obtain ⟨AY, hAY⟩ : ∃ x : Option Addr, (if cy = 1 then some ⟨bY, oY, none⟩ else some ⟨bY, oY + 1 * 3, none⟩) = x := ⟨_, rfl⟩
          have hrbY := rdO_behind RY11.out
          rw [hAY] at hrbY
          simp only [Nat.one_mul] at hAY
          have HRBY := Lib.hid hrbY
          clear hrbY
          have HAPY : Hid (∀ W, Ext w11 W → ∃ v' w', (Builtin.append_ #[22, 22] 22 #[.slice (some ⟨W.heap.size, 0, none⟩) 1 1, .slice AY k (cy - 1)]).run Tryd.prog (W.alloc (.cells #[.int .i64 b1, .int .i64 bx2, .string bx3] 48)) = .ok v' w' ∧ ((∃ aR cR, v' = .slice aR (k + 1) cR ∧ RdO w' aR (k + 1) cR ((b1, bx2, bx3) :: ys) ∧ Off (k + 1) aR u10) ∧ Ext W w')) := Lib.hid fun W hx =>
            app_rest Tryd.underlying22 hi hz0 hz1 hz2 rfl HRBY.out (by omega) HO11.out hx
          refine region_T (fun W => Ext w11 W ∧ W.cell? ⟨H + 1, 0, none⟩ = some (.int .i64 b1) ∧ W.cell? ⟨H + 1, 1, none⟩ = some (.int .i64 bx2) ∧ W.cell? ⟨H + 1, 2, none⟩ = some (.string bx3)) 5 (by kernel_rfl) (⟨(Ext.refl _).drew, (BB11.out.ext (Ext.refl _).drew).2 0 _ rfl, (BB11.out.ext (Ext.refl _).drew).2 1 _ rfl, (BB11.out.ext (Ext.refl _).drew).2 2 _ rfl⟩) (fun hHeld => ?_)
          obtain ⟨Wd, hWd⟩ : ∃ x, w11.drew = x := ⟨_, rfl⟩
          rw [hWd] at hHeld ⊢
          have hdx : Ext w11 Wd := by rw [← hWd]; exact (Ext.refl _).drew
          have HS0 := Lib.hid hHeld
          clear hWd
          refine wpAnyT_take (i := 0) (v := ?_) rfl (by kernel_rfl) (fun _ _ _ h => h) (Or.inl ⟨by rfl, ?_⟩) (by assumption) ?_
          rotate_left
          · (intro W hSw; (try dsimp only at hSw); go_simp; (try with_reducible rfl))
          try simp only [Act.put, List.setIfInBounds_toArray, List.set_cons_zero, List.set_cons_succ]
          refine wpAnyT_take (i := 2) (v := ?_) rfl (by kernel_rfl) (fun _ _ _ h => h) (Or.inl ⟨by rfl, ?_⟩) (by assumption) ?_
          rotate_left
          · (intro W hSw; (try dsimp only at hSw); go_simp; (try with_reducible rfl))
          try simp only [Act.put, List.setIfInBounds_toArray, List.set_cons_zero, List.set_cons_succ]
          refine wpAnyT_take (i := 3) (v := ?_) rfl (by kernel_rfl) (fun _ _ _ h => h) (Or.inl ⟨by rfl, ?_⟩) (by assumption) ?_
          rotate_left
          · (intro W hSw; (try dsimp only at hSw); go_simp; (try with_reducible rfl))
          try simp only [Act.put, List.setIfInBounds_toArray, List.set_cons_zero, List.set_cons_succ]
          refine wpAnyT_one (i := 1) rfl (by kernel_rfl) (fun K hK => ?_)
          go_simp
          refine hK.out _ _ (fun _ => ⟨hdx.alloc _, ext_cell ((Ext.refl _).alloc _) HS0.out.2.1, ext_cell ((Ext.refl _).alloc _) HS0.out.2.2.1, ext_cell ((Ext.refl _).alloc _) HS0.out.2.2.2⟩) (fun hH => ?_)
          replace hHeld := hH (by decide)
          clear hK K hH
          try simp only [Act.put, List.setIfInBounds_toArray, List.set_cons_zero, List.set_cons_succ]
          refine wpAnyT_one (i := 4) rfl (by kernel_rfl) (fun K hK => ?_)
          (refine step_append_ex (by rfl) _ _ _ (by rfl) (by rfl) (by rfl) (HAPY.out Wd hdx) ?_)
          rintro v' w12 ⟨⟨aRY, cRY, rfl, rRY, oRY⟩, hxk⟩
          refine hK.out _ _ (fun _ => ⟨hdx.trans hxk, ext_cell hxk HS0.out.2.1, ext_cell hxk HS0.out.2.2.1, ext_cell hxk HS0.out.2.2.2⟩) (fun hH => ?_)
          replace hHeld := hH (by decide)
          clear hK K hH
          try simp only [Act.put, List.setIfInBounds_toArray, List.set_cons_zero, List.set_cons_succ]
          refine wpAnyT_one (i := 5) rfl (by kernel_rfl) (fun K hK => ?_)
          go_simp
          refine hK.out _ _ (fun h => absurd rfl h) (fun _ => ?_)
          clear hK K hHeld
          try simp only [Act.put, List.setIfInBounds_toArray, List.set_cons_zero, List.set_cons_succ]
          refine wpAnyT_done (by kernel_rfl) ?_ _
          have EY := hdx.trans hxk
          clear hdx hxk HS0 HAPY HRBY
          have HO12 := Lib.hid (HO11.out.ext EY); have RX12 := Lib.hid (RX11.out.ext EY); have BA12 := Lib.hid (BA11.out.ext EY); have BB12 := Lib.hid (BB11.out.ext EY); have HB12 := Lib.hid (Below.trans HB11.out (Below.mono EY HB11.out.size)); have RY12 := Lib.hid rRY; have OY12 := Lib.hid oRY
          clear HO11 RX11 RY11 BA11 BB11 HB11 OYn rRY oRY EY
          have k0 := BA12.out.2 0 _ rfl; have k1 := BA12.out.2 1 _ rfl; have k2 := BA12.out.2 2 _ rfl
          obtain ⟨gX, fX, hgX, _, _, _, _⟩ := sp_at RX12.out.2 RX12.out.1 (Nat.succ_pos _)
          subst hgX
          have hcX : m + 1 ≤ cRX := by obtain ⟨_, _, hv, hc⟩ := RX12.out.2.len; injection hv with _ _ e; omega
          obtain ⟨DX, hDX⟩ : ∃ x : Option Addr, (if cRX = 1 then some ⟨gX, fX, none⟩ else some ⟨gX, fX + 1 * 3, none⟩) = x := ⟨_, rfl⟩
          have rdX := rdO_behind RX12.out; have odX := Off.behind (c := cRX) (k := 1) OX11.out (Nat.succ_pos _)
          rw [hDX] at rdX odX
          simp only [Nat.one_mul] at hDX
          have x5X : (m : Int) + 1 ≤ (cRX : Int) := by omega
          have RDX := Lib.hid rdX; have ODX := Lib.hid odX
          clear rdX odX hcX
          go_wp2_with fail
          refine (HT1.out _).mono ?_; rintro e w13 ⟨rfl, hx13⟩
          have j0 := ext_cell hx13 (BB12.out.2 0 _ rfl); have j1 := ext_cell hx13 (BB12.out.2 1 _ rfl); have j2 := ext_cell hx13 (BB12.out.2 2 _ rfl)
          go_wp2_with fail
          refine (HT2.out _).mono ?_; rintro e w14 ⟨rfl, hx14⟩
          have E14 := Lib.hid (hx13.trans hx14)
          clear hx13 hx14 k0 k1 k2 j0 j1 j2
          go_wp2_with fail
          go_roundw
          case rel => exact ⟨xs, ((b1, bx2, bx3) :: ys), os, DX, aRY, m, k + 1, cRX - 1, cRY, rfl, rfl, RDX.out.ext E14.out, RY12.out.ext E14.out, HO12.out.ext E14.out, ⟨ODX.out, OY12.out⟩, HR.out, HT.out, HSID2.out, Below.trans HB12.out (Below.mono E14.out HB12.out.size)⟩
          case measure => simp [slen]; try omega
      · subst hc
        have hmn : (L1 : Int) ≤ (L1 : Int) := by omega
        have hmin : min (L1 : Int) (L1 : Int) = (L1 : Int) := by omega
        have hn1 : L1 ≤ L1 := by omega
        have hn2 : L1 ≤ L1 := by omega
        obtain ⟨HROW2, HTT2, HSID2⟩ := hst L1 (by omega)
        have hf1 := fun w' => hF1 L1 w' hn1; have hf2 := fun w' => hF2 L1 w' hn2
        have hb1 := hcB1 L1 hn1; have hb2 := hcB2 L1 hn2
        have hs1 := hsm1 L1 hn1; have hs2 := hsm2 L1 hn2; have ha1 := hA1 L1 hn1; have ha2 := hA2 L1 hn2
        obtain ⟨px2, hp2⟩ : ∃ x, (cutA (a1, a2, a3) L1).2.1 = x := ⟨_, rfl⟩
        obtain ⟨px3, hp3⟩ : ∃ x, (cutA (a1, a2, a3) L1).2.2 = x := ⟨_, rfl⟩
        have eP : cutA (a1, a2, a3) L1 = (a1, px2, px3) := Prod.ext (cutA_kind (a1, a2, a3) L1) (Prod.ext hp2 hp3)
        clear hp2 hp3
        obtain ⟨ax2, ha2⟩ : ∃ x, (cutB (a1, a2, a3) L1).2.1 = x := ⟨_, rfl⟩
        obtain ⟨ax3, ha3⟩ : ∃ x, (cutB (a1, a2, a3) L1).2.2 = x := ⟨_, rfl⟩
        have eA : cutB (a1, a2, a3) L1 = (a1, ax2, ax3) := Prod.ext (cutB_kind (a1, a2, a3) L1) (Prod.ext ha2 ha3)
        clear ha2 ha3
        obtain ⟨qx2, hq2⟩ : ∃ x, (cutA (b1, b2, b3) L1).2.1 = x := ⟨_, rfl⟩
        obtain ⟨qx3, hq3⟩ : ∃ x, (cutA (b1, b2, b3) L1).2.2 = x := ⟨_, rfl⟩
        have eQ : cutA (b1, b2, b3) L1 = (b1, qx2, qx3) := Prod.ext (cutA_kind (b1, b2, b3) L1) (Prod.ext hq2 hq3)
        clear hq2 hq3
        obtain ⟨bx2, hb2⟩ : ∃ x, (cutB (b1, b2, b3) L1).2.1 = x := ⟨_, rfl⟩
        obtain ⟨bx3, hb3⟩ : ∃ x, (cutB (b1, b2, b3) L1).2.2 = x := ⟨_, rfl⟩
        have eB : cutB (b1, b2, b3) L1 = (b1, bx2, bx3) := Prod.ext (cutB_kind (b1, b2, b3) L1) (Prod.ext hb2 hb3)
        clear hb2 hb3
        rw [eP] at hs1 ha1 hf1; rw [eA] at hs1 hb1 hf1; rw [eQ] at hs2 ha2 hf2; rw [eB] at hs2 hb2 hf2
        unfold spanV at hf1 hf2
        simp only at hf1 hf2 hs1 hs2 ha1 ha2
        have hb1n := hb1.1.nonneg; have hb2n := hb2.1.nonneg
        simp only at hb1n hb2n
        have HF1 := Lib.hid hf1; have HF2 := Lib.hid hf2
        have HT1 := Lib.hid (fun w' => sizeR_c a1 ax2 ax3 w' hb1.1 (by omega) (by omega)); have HT2 := Lib.hid (fun w' => sizeR_c b1 bx2 bx3 w' hb2.1 (by omega) (by omega))
        rw [hb1.2, List.length_drop, hL1] at HT1; rw [hb2.2, List.length_drop, hL2] at HT2
        unfold spanV at HT1 HT2
        rw [show ((L1 - L1 : Nat) : Int) = 0 by omega] at HT1 HT2
        obtain ⟨X', hX'⟩ : ∃ X', left (a1, a2, a3) L1 xs = X' := ⟨_, rfl⟩
        obtain ⟨Y', hY'⟩ : ∃ Y', left (b1, b2, b3) L1 ys = Y' := ⟨_, rfl⟩
        rw [hX', hY'] at HROW2 HTT2 HSID2
        simp only at HROW2 HTT2
        unfold left at hX' hY'
        rw [hL1, eA] at hX'; rw [hL2, eB] at hY'
        rw [if_pos rfl] at hX'; rw [if_pos rfl] at hY'
        rw [eP, eQ] at HROW2 HTT2
        subst hX'; subst hY'
        replace HROW2 := Lib.hid HROW2; replace HTT2 := Lib.hid HTT2; replace HSID2 := Lib.hid HSID2
        clear hst hF1 hF2 hcB1 hcB2 hsm1 hsm2 hA1 hA2 hf1 hf2 eP eA eQ eB hL1 hL2 hb1 hb2 HROW HTT HSID hs1 hs2 ha1 ha2 hb1n hb2n
        have ka : (a1 == 3) = false := by rw [beq_eq_false_iff_ne]; exact hka
        have kb : (b1 == 2) = false := by rw [beq_eq_false_iff_ne]; exact hkb
        have y2 : (0 : Int) < (k : Int) + 1 := by omega
        have x2 : (0 : Int) < (m : Int) + 1 := by omega
        go_wp2_with fail
        go_region_held3 (fun W => Ext wr W ∧ W.cell? ⟨bX, oX, none⟩ = some (.int .i64 a1) ∧ W.cell? ⟨bX, oX + 1, none⟩ = some (.int .i64 a2) ∧ W.cell? ⟨bX, oX + 2, none⟩ = some (.string a3) ∧ W.cell? ⟨bY, oY, none⟩ = some (.int .i64 b1) ∧ W.cell? ⟨bY, oY + 1, none⟩ = some (.int .i64 b2) ∧ W.cell? ⟨bY, oY + 2, none⟩ = some (.string b3))
          ((go_split_ands; refine ⟨?_, ?_, ?_, ?_, ?_, ?_, ?_⟩ <;> first | (exact Ext.drew ‹_›) | (exact Ext.trans ‹_› hxk) | (exact ext_cell hxk ‹_›) | go_keep))
          (first
          | (go_at_call_of 94 a3; go_split_ands; refine (HS1.out _).mono ?_; rintro e w' ⟨rfl, hxk⟩)
          | (go_at_call_of 94 b3; go_split_ands; refine (HS2.out _).mono ?_; rintro e w' ⟨rfl, hxk⟩)
          | fail)
        go_split_ands
        have e1 : Ext wr w' := by assumption
        have r0 := ext_cell e1 p0; have r1 := ext_cell e1 p1; have r2 := ext_cell e1 p2
        clear hmin
        go_wp2_with fail
        refine (HF1.out _).mono ?_; rintro e w7 ⟨rfl, hx7⟩
        have e7 := e1.trans hx7
        have z0 := ext_cell e7 q0; have z1 := ext_cell e7 q1; have z2 := ext_cell e7 q2
        have hbp := BoxG.made w7 #[.int .i64 a1, .int .i64 px2, .string px3] 48
        have hba := BoxG.made (w7.alloc (.cells #[.int .i64 a1, .int .i64 px2, .string px3] 48)) #[.int .i64 a1, .int .i64 ax2, .string ax3] 48
        rw [size_alloc] at hba
        have HBP := Lib.hid hbp; have HBA := Lib.hid hba
        have E7 : Hid (Ext wr ((w7.alloc (.cells #[.int .i64 a1, .int .i64 px2, .string px3] 48)).alloc (.cells #[.int .i64 a1, .int .i64 ax2, .string ax3] 48))) := Lib.hid ((e7.alloc _).alloc _)
        have u0 := ext_cell E7.out q0; have u1 := ext_cell E7.out q1; have u2 := ext_cell E7.out q2
        clear hbp hba r0 r1 r2
        go_wp2_with fail
        refine (HF2.out _).mono ?_; rintro e w8 ⟨rfl, hx8⟩
        have hsz8 := hx8.size
        rw [size_alloc, size_alloc] at hsz8
        obtain ⟨G, hG⟩ : ∃ x, w7.heap.size = x := ⟨_, rfl⟩
        obtain ⟨H, hH⟩ : ∃ x, w8.heap.size = x := ⟨_, rfl⟩
        have HBP8 : Hid (BoxG w8 w7.heap.size #[.int .i64 a1, .int .i64 px2, .string px3]) := Lib.hid (HBP.out.ext (((Ext.refl _).alloc _).trans hx8))
        have HBA8 : Hid (BoxG w8 (w7.heap.size + 1) #[.int .i64 a1, .int .i64 ax2, .string ax3]) := Lib.hid (HBA.out.ext hx8)
        rw [hG] at HBP8 HBA8 hsz8 ⊢
        rw [hH] at hsz8
        have hsz7 : wr.heap.size ≤ G := by rw [← hG]; exact e7.size
        have c0 := HBP8.out.2 0 _ rfl; have c1 := HBP8.out.2 1 _ rfl; have c2 := HBP8.out.2 2 _ rfl
        have E8 := Lib.hid (E7.out.trans hx8)
        have hbq := BoxG.made w8 #[.int .i64 b1, .int .i64 qx2, .string qx3] 48
        have hbb := BoxG.made (w8.alloc (.cells #[.int .i64 b1, .int .i64 qx2, .string qx3] 48)) #[.int .i64 b1, .int .i64 bx2, .string bx3] 48
        rw [size_alloc, hH] at hbb
        have HBB := Lib.hid hbb
        have E9 : Hid (Ext wr ((w8.alloc (.cells #[.int .i64 b1, .int .i64 qx2, .string qx3] 48)).alloc (.cells #[.int .i64 b1, .int .i64 bx2, .string bx3] 48))) := Lib.hid ((E8.out.alloc _).alloc _)
        have HBA9 : Hid (BoxG ((w8.alloc (.cells #[.int .i64 b1, .int .i64 qx2, .string qx3] 48)).alloc (.cells #[.int .i64 b1, .int .i64 bx2, .string bx3] 48)) (G + 1) #[.int .i64 a1, .int .i64 ax2, .string ax3]) := Lib.hid (HBA8.out.ext (((Ext.refl _).alloc _).alloc _))
        have HBP9 : Hid (BoxG ((w8.alloc (.cells #[.int .i64 b1, .int .i64 qx2, .string qx3] 48)).alloc (.cells #[.int .i64 b1, .int .i64 bx2, .string bx3] 48)) G #[.int .i64 a1, .int .i64 px2, .string px3]) := Lib.hid (HBP8.out.ext (((Ext.refl _).alloc _).alloc _))
        have d0 := HBP9.out.2 0 _ rfl; have d1 := HBP9.out.2 1 _ rfl; have d2 := HBP9.out.2 2 _ rfl
        clear hbq hbb z0 z1 z2 u0 u1 u2 hx7 hx8 E7 HBP HBA e7 hG
        have HH := Lib.hid hH
        rcases three_ways (b1 = 1) (a1 = 1) with hk1 | ⟨hk1, hk2⟩ | ⟨hk1, hk2⟩
        · have kk : (b1 == 1) = true := by rw [beq_iff_eq]; exact hk1
          have hr2 := HROW2.out; have ht2 := HTT2.out
          rw [if_pos hk1] at hr2 ht2
          have HR := Lib.hid hr2; have HT := Lib.hid ht2
          clear hr2 ht2
          clear HROW2 HTT2 hk1
          obtain ⟨vn, w10, happ, hown', hbel', hkp, hsz', hwh⟩ := app_newg (P := Tryd.prog) 22 22 48 i _ 3 32 Tryd.underlying22 hi hz0 hz1 hz2 rfl (by omega) (by omega)
            (HO.out.ext E9.out) (by omega) 1 #[.int .i64 a1, .int .i64 px2, .string px3] rfl (by omega) (by simp [Value.oneCell']) 48
          rw [size_alloc, size_alloc, HH.out] at happ
          have HAP := Lib.hid happ
          have HOn : Hid (Own w10 w6.heap.size 48 3 vn (os ++ [(a1, px2, px3)]).length (spCells (os ++ [(a1, px2, px3)]))) := Lib.hid (by rw [spCells_append, List.length_append]; exact hown')
          have hx9 := RX.out.ext E9.out; have hy9 := RY.out.ext E9.out
          have RXn := Lib.hid (OFX.out.rd hx9 hkp hsz'); have RYn := Lib.hid (OFY.out.rd hy9 hkp hsz')
          have OXn := Lib.hid (OFX.out.next hx9 hwh); have OYn := Lib.hid (OFY.out.next hy9 hwh)
          have HBn := Lib.hid (hbel' (Below.trans HBR.out (Below.mono E9.out HBR.out.size)))
          have BAn := Lib.hid (HBA9.out.kept (fun h => by have := HLT.out _ h; omega) hkp hsz'); have BBn := Lib.hid (HBB.out.kept (fun h => by have := HLT.out _ h; omega) hkp hsz')
          clear happ hown' hbel' hkp hsz' hwh hx9 hy9
          go_wp2_with (at_builtin; refine wpList_append_run rfl rfl HAP.out rfl rfl ?_)
          have x3 : (1 : Int) ≤ (m : Int) + 1 := by omega
          have x4 : (m : Int) + 1 ≤ (cx : Int) := by omega
          have y3 : (1 : Int) ≤ (k : Int) + 1 := by omega
          have y4 : (k : Int) + 1 ≤ (cy : Int) := by omega
          obtain ⟨AX, hAX⟩ : ∃ x : Option Addr, (if cx = 1 then some ⟨bX, oX, none⟩ else some ⟨bX, oX + 1 * 3, none⟩) = x := ⟨_, rfl⟩
          have hrbX := rdO_behind RXn.out
          rw [hAX] at hrbX
          simp only [Nat.one_mul] at hAX
          have HRBX := Lib.hid hrbX
          clear hrbX
          have HAPX : Hid (∀ W, Ext w10 W → ∃ v' w', (Builtin.append_ #[22, 22] 22 #[.slice (some ⟨W.heap.size, 0, none⟩) 1 1, .slice AX m (cx - 1)]).run Tryd.prog (W.alloc (.cells #[.int .i64 a1, .int .i64 ax2, .string ax3] 48)) = .ok v' w' ∧ ((∃ aR cR, v' = .slice aR (m + 1) cR ∧ RdO w' aR (m + 1) cR ((a1, ax2, ax3) :: xs) ∧ Off (m + 1) aR vn) ∧ Ext W w')) := Lib.hid fun W hx =>
            app_rest Tryd.underlying22 hi hz0 hz1 hz2 rfl HRBX.out (by omega) HOn.out hx
          refine region_T (fun W => Ext w10 W ∧ W.cell? ⟨G + 1, 0, none⟩ = some (.int .i64 a1) ∧ W.cell? ⟨G + 1, 1, none⟩ = some (.int .i64 ax2) ∧ W.cell? ⟨G + 1, 2, none⟩ = some (.string ax3)) 5 (by kernel_rfl) (⟨(Ext.refl _).drew, (BAn.out.ext (Ext.refl _).drew).2 0 _ rfl, (BAn.out.ext (Ext.refl _).drew).2 1 _ rfl, (BAn.out.ext (Ext.refl _).drew).2 2 _ rfl⟩) (fun hHeld => ?_)
          obtain ⟨Wd, hWd⟩ : ∃ x, w10.drew = x := ⟨_, rfl⟩
          rw [hWd] at hHeld ⊢
          have hdx : Ext w10 Wd := by rw [← hWd]; exact (Ext.refl _).drew
          have HS0 := Lib.hid hHeld
          clear hWd
          refine wpAnyT_take (i := 0) (v := ?_) rfl (by kernel_rfl) (fun _ _ _ h => h) (Or.inl ⟨by rfl, ?_⟩) (by assumption) ?_
          rotate_left
          · (intro W hSw; (try dsimp only at hSw); go_simp; (try with_reducible rfl))
          try simp only [Act.put, List.setIfInBounds_toArray, List.set_cons_zero, List.set_cons_succ]
          refine wpAnyT_take (i := 2) (v := ?_) rfl (by kernel_rfl) (fun _ _ _ h => h) (Or.inl ⟨by rfl, ?_⟩) (by assumption) ?_
          rotate_left
          · (intro W hSw; (try dsimp only at hSw); go_simp; (try with_reducible rfl))
          try simp only [Act.put, List.setIfInBounds_toArray, List.set_cons_zero, List.set_cons_succ]
          refine wpAnyT_take (i := 3) (v := ?_) rfl (by kernel_rfl) (fun _ _ _ h => h) (Or.inl ⟨by rfl, ?_⟩) (by assumption) ?_
          rotate_left
          · (intro W hSw; (try dsimp only at hSw); go_simp; (try with_reducible rfl))
          try simp only [Act.put, List.setIfInBounds_toArray, List.set_cons_zero, List.set_cons_succ]
          refine wpAnyT_one (i := 1) rfl (by kernel_rfl) (fun K hK => ?_)
          go_simp
          refine hK.out _ _ (fun _ => ⟨hdx.alloc _, ext_cell ((Ext.refl _).alloc _) HS0.out.2.1, ext_cell ((Ext.refl _).alloc _) HS0.out.2.2.1, ext_cell ((Ext.refl _).alloc _) HS0.out.2.2.2⟩) (fun hH => ?_)
          replace hHeld := hH (by decide)
          clear hK K hH
          try simp only [Act.put, List.setIfInBounds_toArray, List.set_cons_zero, List.set_cons_succ]
          refine wpAnyT_one (i := 4) rfl (by kernel_rfl) (fun K hK => ?_)
          (refine step_append_ex (by rfl) _ _ _ (by rfl) (by rfl) (by rfl) (HAPX.out Wd hdx) ?_)
          rintro v' w11 ⟨⟨aRX, cRX, rfl, rRX, oRX⟩, hxk⟩
          refine hK.out _ _ (fun _ => ⟨hdx.trans hxk, ext_cell hxk HS0.out.2.1, ext_cell hxk HS0.out.2.2.1, ext_cell hxk HS0.out.2.2.2⟩) (fun hH => ?_)
          replace hHeld := hH (by decide)
          clear hK K hH
          try simp only [Act.put, List.setIfInBounds_toArray, List.set_cons_zero, List.set_cons_succ]
          refine wpAnyT_one (i := 5) rfl (by kernel_rfl) (fun K hK => ?_)
          go_simp
          refine hK.out _ _ (fun h => absurd rfl h) (fun _ => ?_)
          clear hK K hHeld
          try simp only [Act.put, List.setIfInBounds_toArray, List.set_cons_zero, List.set_cons_succ]
          refine wpAnyT_done (by kernel_rfl) ?_ _
          have EX := hdx.trans hxk
          clear hdx hxk HS0 HAPX HRBX
          have HO11 := Lib.hid (HOn.out.ext EX); have RY11 := Lib.hid (RYn.out.ext EX); have BA11 := Lib.hid (BAn.out.ext EX); have BB11 := Lib.hid (BBn.out.ext EX); have HB11 := Lib.hid (Below.trans HBn.out (Below.mono EX HBn.out.size)); have RX11 := Lib.hid rRX; have OX11 := Lib.hid oRX
          clear HOn RYn RXn BAn BBn HBn OXn rRX oRX EX
          go_wp2_with fail
          obtain ⟨AY, hAY⟩ : ∃ x : Option Addr, (if cy = 1 then some ⟨bY, oY, none⟩ else some ⟨bY, oY + 1 * 3, none⟩) = x := ⟨_, rfl⟩
          have hrbY := rdO_behind RY11.out
          rw [hAY] at hrbY
          simp only [Nat.one_mul] at hAY
          have HRBY := Lib.hid hrbY
          clear hrbY
          have HAPY : Hid (∀ W, Ext w11 W → ∃ v' w', (Builtin.append_ #[22, 22] 22 #[.slice (some ⟨W.heap.size, 0, none⟩) 1 1, .slice AY k (cy - 1)]).run Tryd.prog (W.alloc (.cells #[.int .i64 b1, .int .i64 bx2, .string bx3] 48)) = .ok v' w' ∧ ((∃ aR cR, v' = .slice aR (k + 1) cR ∧ RdO w' aR (k + 1) cR ((b1, bx2, bx3) :: ys) ∧ Off (k + 1) aR vn) ∧ Ext W w')) := Lib.hid fun W hx =>
            app_rest Tryd.underlying22 hi hz0 hz1 hz2 rfl HRBY.out (by omega) HO11.out hx
          refine region_T (fun W => Ext w11 W ∧ W.cell? ⟨H + 1, 0, none⟩ = some (.int .i64 b1) ∧ W.cell? ⟨H + 1, 1, none⟩ = some (.int .i64 bx2) ∧ W.cell? ⟨H + 1, 2, none⟩ = some (.string bx3)) 5 (by kernel_rfl) (⟨(Ext.refl _).drew, (BB11.out.ext (Ext.refl _).drew).2 0 _ rfl, (BB11.out.ext (Ext.refl _).drew).2 1 _ rfl, (BB11.out.ext (Ext.refl _).drew).2 2 _ rfl⟩) (fun hHeld => ?_)
          obtain ⟨Wd, hWd⟩ : ∃ x, w11.drew = x := ⟨_, rfl⟩
          rw [hWd] at hHeld ⊢
          have hdx : Ext w11 Wd := by rw [← hWd]; exact (Ext.refl _).drew
          have HS0 := Lib.hid hHeld
          clear hWd
          refine wpAnyT_take (i := 0) (v := ?_) rfl (by kernel_rfl) (fun _ _ _ h => h) (Or.inl ⟨by rfl, ?_⟩) (by assumption) ?_
          rotate_left
          · (intro W hSw; (try dsimp only at hSw); go_simp; (try with_reducible rfl))
          try simp only [Act.put, List.setIfInBounds_toArray, List.set_cons_zero, List.set_cons_succ]
          refine wpAnyT_take (i := 2) (v := ?_) rfl (by kernel_rfl) (fun _ _ _ h => h) (Or.inl ⟨by rfl, ?_⟩) (by assumption) ?_
          rotate_left
          · (intro W hSw; (try dsimp only at hSw); go_simp; (try with_reducible rfl))
          try simp only [Act.put, List.setIfInBounds_toArray, List.set_cons_zero, List.set_cons_succ]
          refine wpAnyT_take (i := 3) (v := ?_) rfl (by kernel_rfl) (fun _ _ _ h => h) (Or.inl ⟨by rfl, ?_⟩) (by assumption) ?_
          rotate_left
          · (intro W hSw; (try dsimp only at hSw); go_simp; (try with_reducible rfl))
          try simp only [Act.put, List.setIfInBounds_toArray, List.set_cons_zero, List.set_cons_succ]
          refine wpAnyT_one (i := 1) rfl (by kernel_rfl) (fun K hK => ?_)
          go_simp
          refine hK.out _ _ (fun _ => ⟨hdx.alloc _, ext_cell ((Ext.refl _).alloc _) HS0.out.2.1, ext_cell ((Ext.refl _).alloc _) HS0.out.2.2.1, ext_cell ((Ext.refl _).alloc _) HS0.out.2.2.2⟩) (fun hH => ?_)
          replace hHeld := hH (by decide)
          clear hK K hH
          try simp only [Act.put, List.setIfInBounds_toArray, List.set_cons_zero, List.set_cons_succ]
          refine wpAnyT_one (i := 4) rfl (by kernel_rfl) (fun K hK => ?_)
          (refine step_append_ex (by rfl) _ _ _ (by rfl) (by rfl) (by rfl) (HAPY.out Wd hdx) ?_)
          rintro v' w12 ⟨⟨aRY, cRY, rfl, rRY, oRY⟩, hxk⟩
          refine hK.out _ _ (fun _ => ⟨hdx.trans hxk, ext_cell hxk HS0.out.2.1, ext_cell hxk HS0.out.2.2.1, ext_cell hxk HS0.out.2.2.2⟩) (fun hH => ?_)
          replace hHeld := hH (by decide)
          clear hK K hH
          try simp only [Act.put, List.setIfInBounds_toArray, List.set_cons_zero, List.set_cons_succ]
          refine wpAnyT_one (i := 5) rfl (by kernel_rfl) (fun K hK => ?_)
          go_simp
          refine hK.out _ _ (fun h => absurd rfl h) (fun _ => ?_)
          clear hK K hHeld
          try simp only [Act.put, List.setIfInBounds_toArray, List.set_cons_zero, List.set_cons_succ]
          refine wpAnyT_done (by kernel_rfl) ?_ _
          have EY := hdx.trans hxk
          clear hdx hxk HS0 HAPY HRBY
          have HO12 := Lib.hid (HO11.out.ext EY); have RX12 := Lib.hid (RX11.out.ext EY); have BA12 := Lib.hid (BA11.out.ext EY); have BB12 := Lib.hid (BB11.out.ext EY); have HB12 := Lib.hid (Below.trans HB11.out (Below.mono EY HB11.out.size)); have RY12 := Lib.hid rRY; have OY12 := Lib.hid oRY
          clear HO11 RX11 RY11 BA11 BB11 HB11 OYn rRY oRY EY
          have k0 := BA12.out.2 0 _ rfl; have k1 := BA12.out.2 1 _ rfl; have k2 := BA12.out.2 2 _ rfl
          obtain ⟨gX, fX, hgX, _, _, _, _⟩ := sp_at RX12.out.2 RX12.out.1 (Nat.succ_pos _)
          subst hgX
          have hcX : m + 1 ≤ cRX := by obtain ⟨_, _, hv, hc⟩ := RX12.out.2.len; injection hv with _ _ e; omega
          obtain ⟨DX, hDX⟩ : ∃ x : Option Addr, (if cRX = 1 then some ⟨gX, fX, none⟩ else some ⟨gX, fX + 1 * 3, none⟩) = x := ⟨_, rfl⟩
          have rdX := rdO_behind RX12.out; have odX := Off.behind (c := cRX) (k := 1) OX11.out (Nat.succ_pos _)
          rw [hDX] at rdX odX
          simp only [Nat.one_mul] at hDX
          have x5X : (m : Int) + 1 ≤ (cRX : Int) := by omega
          have RDX := Lib.hid rdX; have ODX := Lib.hid odX
          clear rdX odX hcX
          obtain ⟨gY, fY, hgY, _, _, _, _⟩ := sp_at RY12.out.2 RY12.out.1 (Nat.succ_pos _)
          subst hgY
          have hcY : k + 1 ≤ cRY := by obtain ⟨_, _, hv, hc⟩ := RY12.out.2.len; injection hv with _ _ e; omega
          obtain ⟨DY, hDY⟩ : ∃ x : Option Addr, (if cRY = 1 then some ⟨gY, fY, none⟩ else some ⟨gY, fY + 1 * 3, none⟩) = x := ⟨_, rfl⟩
          have rdY := rdO_behind RY12.out; have odY := Off.behind (c := cRY) (k := 1) OY12.out (Nat.succ_pos _)
          rw [hDY] at rdY odY
          simp only [Nat.one_mul] at hDY
          have x5Y : (k : Int) + 1 ≤ (cRY : Int) := by omega
          have RDY := Lib.hid rdY; have ODY := Lib.hid odY
          clear rdY odY hcY
          go_wp2_with fail
          refine (HT1.out _).mono ?_; rintro e w13 ⟨rfl, hx13⟩
          have j0 := ext_cell hx13 (BB12.out.2 0 _ rfl); have j1 := ext_cell hx13 (BB12.out.2 1 _ rfl); have j2 := ext_cell hx13 (BB12.out.2 2 _ rfl)
          go_wp2_with fail
          refine (HT2.out _).mono ?_; rintro e w14 ⟨rfl, hx14⟩
          have E14 := Lib.hid (hx13.trans hx14)
          clear hx13 hx14 k0 k1 k2 j0 j1 j2
          go_wp2_with fail
          go_roundw
          case rel => exact ⟨xs, ys, os ++ [(a1, px2, px3)], DX, DY, m, k, cRX - 1, cRY - 1, rfl, rfl, RDX.out.ext E14.out, RDY.out.ext E14.out, HO12.out.ext E14.out, ⟨ODX.out, ODY.out⟩, HR.out, HT.out, HSID2.out, Below.trans HB12.out (Below.mono E14.out HB12.out.size)⟩
          case measure => simp [slen]; try omega
        · have kk : (b1 == 1) = false := by rw [beq_eq_false_iff_ne]; exact hk1
          have kl : (a1 == 1) = true := by rw [beq_iff_eq]; exact hk2
          have hr2 := HROW2.out; have ht2 := HTT2.out
          rw [if_neg hk1, if_pos hk2] at hr2 ht2
          have HR := Lib.hid hr2; have HT := Lib.hid ht2
          clear hr2 ht2
          clear HROW2 HTT2 hk1 hk2
          obtain ⟨vn, w10, happ, hown', hbel', hkp, hsz', hwh⟩ := app_newg (P := Tryd.prog) 22 22 48 i _ 3 32 Tryd.underlying22 hi hz0 hz1 hz2 rfl (by omega) (by omega)
            (HO.out.ext E9.out) (by omega) 1 #[.int .i64 b1, .int .i64 qx2, .string qx3] rfl (by omega) (by simp [Value.oneCell']) 48
          rw [size_alloc, size_alloc, HH.out] at happ
          have HAP := Lib.hid happ
          have HOn : Hid (Own w10 w6.heap.size 48 3 vn (os ++ [(b1, qx2, qx3)]).length (spCells (os ++ [(b1, qx2, qx3)]))) := Lib.hid (by rw [spCells_append, List.length_append]; exact hown')
          have hx9 := RX.out.ext E9.out; have hy9 := RY.out.ext E9.out
          have RXn := Lib.hid (OFX.out.rd hx9 hkp hsz'); have RYn := Lib.hid (OFY.out.rd hy9 hkp hsz')
          have OXn := Lib.hid (OFX.out.next hx9 hwh); have OYn := Lib.hid (OFY.out.next hy9 hwh)
          have HBn := Lib.hid (hbel' (Below.trans HBR.out (Below.mono E9.out HBR.out.size)))
          have BAn := Lib.hid (HBA9.out.kept (fun h => by have := HLT.out _ h; omega) hkp hsz'); have BBn := Lib.hid (HBB.out.kept (fun h => by have := HLT.out _ h; omega) hkp hsz')
          clear happ hown' hbel' hkp hsz' hwh hx9 hy9
          go_wp2_with (at_builtin; refine wpList_append_run rfl rfl HAP.out rfl rfl ?_)
          have x3 : (1 : Int) ≤ (m : Int) + 1 := by omega
          have x4 : (m : Int) + 1 ≤ (cx : Int) := by omega
          have y3 : (1 : Int) ≤ (k : Int) + 1 := by omega
          have y4 : (k : Int) + 1 ≤ (cy : Int) := by omega
          obtain ⟨AX, hAX⟩ : ∃ x : Option Addr, (if cx = 1 then some ⟨bX, oX, none⟩ else some ⟨bX, oX + 1 * 3, none⟩) = x := ⟨_, rfl⟩
          have hrbX := rdO_behind RXn.out
          rw [hAX] at hrbX
          simp only [Nat.one_mul] at hAX
          have HRBX := Lib.hid hrbX
          clear hrbX
          have HAPX : Hid (∀ W, Ext w10 W → ∃ v' w', (Builtin.append_ #[22, 22] 22 #[.slice (some ⟨W.heap.size, 0, none⟩) 1 1, .slice AX m (cx - 1)]).run Tryd.prog (W.alloc (.cells #[.int .i64 a1, .int .i64 ax2, .string ax3] 48)) = .ok v' w' ∧ ((∃ aR cR, v' = .slice aR (m + 1) cR ∧ RdO w' aR (m + 1) cR ((a1, ax2, ax3) :: xs) ∧ Off (m + 1) aR vn) ∧ Ext W w')) := Lib.hid fun W hx =>
            app_rest Tryd.underlying22 hi hz0 hz1 hz2 rfl HRBX.out (by omega) HOn.out hx
          refine region_T (fun W => Ext w10 W ∧ W.cell? ⟨G + 1, 0, none⟩ = some (.int .i64 a1) ∧ W.cell? ⟨G + 1, 1, none⟩ = some (.int .i64 ax2) ∧ W.cell? ⟨G + 1, 2, none⟩ = some (.string ax3)) 5 (by kernel_rfl) (⟨(Ext.refl _).drew, (BAn.out.ext (Ext.refl _).drew).2 0 _ rfl, (BAn.out.ext (Ext.refl _).drew).2 1 _ rfl, (BAn.out.ext (Ext.refl _).drew).2 2 _ rfl⟩) (fun hHeld => ?_)
          obtain ⟨Wd, hWd⟩ : ∃ x, w10.drew = x := ⟨_, rfl⟩
          rw [hWd] at hHeld ⊢
          have hdx : Ext w10 Wd := by rw [← hWd]; exact (Ext.refl _).drew
          have HS0 := Lib.hid hHeld
          clear hWd
          refine wpAnyT_take (i := 0) (v := ?_) rfl (by kernel_rfl) (fun _ _ _ h => h) (Or.inl ⟨by rfl, ?_⟩) (by assumption) ?_
          rotate_left
          · (intro W hSw; (try dsimp only at hSw); go_simp; (try with_reducible rfl))
          try simp only [Act.put, List.setIfInBounds_toArray, List.set_cons_zero, List.set_cons_succ]
          refine wpAnyT_take (i := 2) (v := ?_) rfl (by kernel_rfl) (fun _ _ _ h => h) (Or.inl ⟨by rfl, ?_⟩) (by assumption) ?_
          rotate_left
          · (intro W hSw; (try dsimp only at hSw); go_simp; (try with_reducible rfl))
          try simp only [Act.put, List.setIfInBounds_toArray, List.set_cons_zero, List.set_cons_succ]
          refine wpAnyT_take (i := 3) (v := ?_) rfl (by kernel_rfl) (fun _ _ _ h => h) (Or.inl ⟨by rfl, ?_⟩) (by assumption) ?_
          rotate_left
          · (intro W hSw; (try dsimp only at hSw); go_simp; (try with_reducible rfl))
          try simp only [Act.put, List.setIfInBounds_toArray, List.set_cons_zero, List.set_cons_succ]
          refine wpAnyT_one (i := 1) rfl (by kernel_rfl) (fun K hK => ?_)
          go_simp
          refine hK.out _ _ (fun _ => ⟨hdx.alloc _, ext_cell ((Ext.refl _).alloc _) HS0.out.2.1, ext_cell ((Ext.refl _).alloc _) HS0.out.2.2.1, ext_cell ((Ext.refl _).alloc _) HS0.out.2.2.2⟩) (fun hH => ?_)
          replace hHeld := hH (by decide)
          clear hK K hH
          try simp only [Act.put, List.setIfInBounds_toArray, List.set_cons_zero, List.set_cons_succ]
          refine wpAnyT_one (i := 4) rfl (by kernel_rfl) (fun K hK => ?_)
          (refine step_append_ex (by rfl) _ _ _ (by rfl) (by rfl) (by rfl) (HAPX.out Wd hdx) ?_)
          rintro v' w11 ⟨⟨aRX, cRX, rfl, rRX, oRX⟩, hxk⟩
          refine hK.out _ _ (fun _ => ⟨hdx.trans hxk, ext_cell hxk HS0.out.2.1, ext_cell hxk HS0.out.2.2.1, ext_cell hxk HS0.out.2.2.2⟩) (fun hH => ?_)
          replace hHeld := hH (by decide)
          clear hK K hH
          try simp only [Act.put, List.setIfInBounds_toArray, List.set_cons_zero, List.set_cons_succ]
          refine wpAnyT_one (i := 5) rfl (by kernel_rfl) (fun K hK => ?_)
          go_simp
          refine hK.out _ _ (fun h => absurd rfl h) (fun _ => ?_)
          clear hK K hHeld
          try simp only [Act.put, List.setIfInBounds_toArray, List.set_cons_zero, List.set_cons_succ]
          refine wpAnyT_done (by kernel_rfl) ?_ _
          have EX := hdx.trans hxk
          clear hdx hxk HS0 HAPX HRBX
          have HO11 := Lib.hid (HOn.out.ext EX); have RY11 := Lib.hid (RYn.out.ext EX); have BA11 := Lib.hid (BAn.out.ext EX); have BB11 := Lib.hid (BBn.out.ext EX); have HB11 := Lib.hid (Below.trans HBn.out (Below.mono EX HBn.out.size)); have RX11 := Lib.hid rRX; have OX11 := Lib.hid oRX
          clear HOn RYn RXn BAn BBn HBn OXn rRX oRX EX
          go_wp2_with fail
          obtain ⟨AY, hAY⟩ : ∃ x : Option Addr, (if cy = 1 then some ⟨bY, oY, none⟩ else some ⟨bY, oY + 1 * 3, none⟩) = x := ⟨_, rfl⟩
          have hrbY := rdO_behind RY11.out
          rw [hAY] at hrbY
          simp only [Nat.one_mul] at hAY
          have HRBY := Lib.hid hrbY
          clear hrbY
          have HAPY : Hid (∀ W, Ext w11 W → ∃ v' w', (Builtin.append_ #[22, 22] 22 #[.slice (some ⟨W.heap.size, 0, none⟩) 1 1, .slice AY k (cy - 1)]).run Tryd.prog (W.alloc (.cells #[.int .i64 b1, .int .i64 bx2, .string bx3] 48)) = .ok v' w' ∧ ((∃ aR cR, v' = .slice aR (k + 1) cR ∧ RdO w' aR (k + 1) cR ((b1, bx2, bx3) :: ys) ∧ Off (k + 1) aR vn) ∧ Ext W w')) := Lib.hid fun W hx =>
            app_rest Tryd.underlying22 hi hz0 hz1 hz2 rfl HRBY.out (by omega) HO11.out hx
          refine region_T (fun W => Ext w11 W ∧ W.cell? ⟨H + 1, 0, none⟩ = some (.int .i64 b1) ∧ W.cell? ⟨H + 1, 1, none⟩ = some (.int .i64 bx2) ∧ W.cell? ⟨H + 1, 2, none⟩ = some (.string bx3)) 5 (by kernel_rfl) (⟨(Ext.refl _).drew, (BB11.out.ext (Ext.refl _).drew).2 0 _ rfl, (BB11.out.ext (Ext.refl _).drew).2 1 _ rfl, (BB11.out.ext (Ext.refl _).drew).2 2 _ rfl⟩) (fun hHeld => ?_)
          obtain ⟨Wd, hWd⟩ : ∃ x, w11.drew = x := ⟨_, rfl⟩
          rw [hWd] at hHeld ⊢
          have hdx : Ext w11 Wd := by rw [← hWd]; exact (Ext.refl _).drew
          have HS0 := Lib.hid hHeld
          clear hWd
          refine wpAnyT_take (i := 0) (v := ?_) rfl (by kernel_rfl) (fun _ _ _ h => h) (Or.inl ⟨by rfl, ?_⟩) (by assumption) ?_
          rotate_left
          · (intro W hSw; (try dsimp only at hSw); go_simp; (try with_reducible rfl))
          try simp only [Act.put, List.setIfInBounds_toArray, List.set_cons_zero, List.set_cons_succ]
          refine wpAnyT_take (i := 2) (v := ?_) rfl (by kernel_rfl) (fun _ _ _ h => h) (Or.inl ⟨by rfl, ?_⟩) (by assumption) ?_
          rotate_left
          · (intro W hSw; (try dsimp only at hSw); go_simp; (try with_reducible rfl))
          try simp only [Act.put, List.setIfInBounds_toArray, List.set_cons_zero, List.set_cons_succ]
          refine wpAnyT_take (i := 3) (v := ?_) rfl (by kernel_rfl) (fun _ _ _ h => h) (Or.inl ⟨by rfl, ?_⟩) (by assumption) ?_
          rotate_left
          · (intro W hSw; (try dsimp only at hSw); go_simp; (try with_reducible rfl))
          try simp only [Act.put, List.setIfInBounds_toArray, List.set_cons_zero, List.set_cons_succ]
          refine wpAnyT_one (i := 1) rfl (by kernel_rfl) (fun K hK => ?_)
          go_simp
          refine hK.out _ _ (fun _ => ⟨hdx.alloc _, ext_cell ((Ext.refl _).alloc _) HS0.out.2.1, ext_cell ((Ext.refl _).alloc _) HS0.out.2.2.1, ext_cell ((Ext.refl _).alloc _) HS0.out.2.2.2⟩) (fun hH => ?_)
          replace hHeld := hH (by decide)
          clear hK K hH
          try simp only [Act.put, List.setIfInBounds_toArray, List.set_cons_zero, List.set_cons_succ]
          refine wpAnyT_one (i := 4) rfl (by kernel_rfl) (fun K hK => ?_)
          (refine step_append_ex (by rfl) _ _ _ (by rfl) (by rfl) (by rfl) (HAPY.out Wd hdx) ?_)
          rintro v' w12 ⟨⟨aRY, cRY, rfl, rRY, oRY⟩, hxk⟩
          refine hK.out _ _ (fun _ => ⟨hdx.trans hxk, ext_cell hxk HS0.out.2.1, ext_cell hxk HS0.out.2.2.1, ext_cell hxk HS0.out.2.2.2⟩) (fun hH => ?_)
          replace hHeld := hH (by decide)
          clear hK K hH
          try simp only [Act.put, List.setIfInBounds_toArray, List.set_cons_zero, List.set_cons_succ]
          refine wpAnyT_one (i := 5) rfl (by kernel_rfl) (fun K hK => ?_)
          go_simp
          refine hK.out _ _ (fun h => absurd rfl h) (fun _ => ?_)
          clear hK K hHeld
          try simp only [Act.put, List.setIfInBounds_toArray, List.set_cons_zero, List.set_cons_succ]
          refine wpAnyT_done (by kernel_rfl) ?_ _
          have EY := hdx.trans hxk
          clear hdx hxk HS0 HAPY HRBY
          have HO12 := Lib.hid (HO11.out.ext EY); have RX12 := Lib.hid (RX11.out.ext EY); have BA12 := Lib.hid (BA11.out.ext EY); have BB12 := Lib.hid (BB11.out.ext EY); have HB12 := Lib.hid (Below.trans HB11.out (Below.mono EY HB11.out.size)); have RY12 := Lib.hid rRY; have OY12 := Lib.hid oRY
          clear HO11 RX11 RY11 BA11 BB11 HB11 OYn rRY oRY EY
          have k0 := BA12.out.2 0 _ rfl; have k1 := BA12.out.2 1 _ rfl; have k2 := BA12.out.2 2 _ rfl
          obtain ⟨gX, fX, hgX, _, _, _, _⟩ := sp_at RX12.out.2 RX12.out.1 (Nat.succ_pos _)
          subst hgX
          have hcX : m + 1 ≤ cRX := by obtain ⟨_, _, hv, hc⟩ := RX12.out.2.len; injection hv with _ _ e; omega
          obtain ⟨DX, hDX⟩ : ∃ x : Option Addr, (if cRX = 1 then some ⟨gX, fX, none⟩ else some ⟨gX, fX + 1 * 3, none⟩) = x := ⟨_, rfl⟩
          have rdX := rdO_behind RX12.out; have odX := Off.behind (c := cRX) (k := 1) OX11.out (Nat.succ_pos _)
          rw [hDX] at rdX odX
          simp only [Nat.one_mul] at hDX
          have x5X : (m : Int) + 1 ≤ (cRX : Int) := by omega
          have RDX := Lib.hid rdX; have ODX := Lib.hid odX
          clear rdX odX hcX
          obtain ⟨gY, fY, hgY, _, _, _, _⟩ := sp_at RY12.out.2 RY12.out.1 (Nat.succ_pos _)
          subst hgY
          have hcY : k + 1 ≤ cRY := by obtain ⟨_, _, hv, hc⟩ := RY12.out.2.len; injection hv with _ _ e; omega
          obtain ⟨DY, hDY⟩ : ∃ x : Option Addr, (if cRY = 1 then some ⟨gY, fY, none⟩ else some ⟨gY, fY + 1 * 3, none⟩) = x := ⟨_, rfl⟩
          have rdY := rdO_behind RY12.out; have odY := Off.behind (c := cRY) (k := 1) OY12.out (Nat.succ_pos _)
          rw [hDY] at rdY odY
          simp only [Nat.one_mul] at hDY
          have x5Y : (k : Int) + 1 ≤ (cRY : Int) := by omega
          have RDY := Lib.hid rdY; have ODY := Lib.hid odY
          clear rdY odY hcY
          go_wp2_with fail
          refine (HT1.out _).mono ?_; rintro e w13 ⟨rfl, hx13⟩
          have j0 := ext_cell hx13 (BB12.out.2 0 _ rfl); have j1 := ext_cell hx13 (BB12.out.2 1 _ rfl); have j2 := ext_cell hx13 (BB12.out.2 2 _ rfl)
          go_wp2_with fail
          refine (HT2.out _).mono ?_; rintro e w14 ⟨rfl, hx14⟩
          have E14 := Lib.hid (hx13.trans hx14)
          clear hx13 hx14 k0 k1 k2 j0 j1 j2
          go_wp2_with fail
          go_roundw
          case rel => exact ⟨xs, ys, os ++ [(b1, qx2, qx3)], DX, DY, m, k, cRX - 1, cRY - 1, rfl, rfl, RDX.out.ext E14.out, RDY.out.ext E14.out, HO12.out.ext E14.out, ⟨ODX.out, ODY.out⟩, HR.out, HT.out, HSID2.out, Below.trans HB12.out (Below.mono E14.out HB12.out.size)⟩
          case measure => simp [slen]; try omega
        · have kk : (b1 == 1) = false := by rw [beq_eq_false_iff_ne]; exact hk1
          have kl : (a1 == 1) = false := by rw [beq_eq_false_iff_ne]; exact hk2
          have hr2 := HROW2.out; have ht2 := HTT2.out
          rw [if_neg hk1, if_neg hk2, List.append_nil] at hr2 ht2
          have HR := Lib.hid hr2; have HT := Lib.hid ht2
          clear hr2 ht2
          clear HROW2 HTT2 hk1 hk2
          go_wp2_with fail
          obtain ⟨w10, hw10⟩ : ∃ x, ((w8.alloc (.cells #[.int .i64 b1, .int .i64 qx2, .string qx3] 48)).alloc (.cells #[.int .i64 b1, .int .i64 bx2, .string bx3] 48)) = x := ⟨_, rfl⟩
          rw [hw10] at E9 HBA9 HBB ⊢
          have HOn := Lib.hid (HO.out.ext E9.out); have RXn := Lib.hid (RX.out.ext E9.out); have RYn := Lib.hid (RY.out.ext E9.out)
          have OXn := OFX; have OYn := OFY; have BAn := HBA9; have BBn := HBB
          have HBn := Lib.hid (Below.trans HBR.out (Below.mono E9.out HBR.out.size))
          clear hw10
          have x3 : (1 : Int) ≤ (m : Int) + 1 := by omega
          have x4 : (m : Int) + 1 ≤ (cx : Int) := by omega
          have y3 : (1 : Int) ≤ (k : Int) + 1 := by omega
          have y4 : (k : Int) + 1 ≤ (cy : Int) := by omega
          obtain ⟨AX, hAX⟩ : ∃ x : Option Addr, (if cx = 1 then some ⟨bX, oX, none⟩ else some ⟨bX, oX + 1 * 3, none⟩) = x := ⟨_, rfl⟩
          have hrbX := rdO_behind RXn.out
          rw [hAX] at hrbX
          simp only [Nat.one_mul] at hAX
          have HRBX := Lib.hid hrbX
          clear hrbX
          have HAPX : Hid (∀ W, Ext w10 W → ∃ v' w', (Builtin.append_ #[22, 22] 22 #[.slice (some ⟨W.heap.size, 0, none⟩) 1 1, .slice AX m (cx - 1)]).run Tryd.prog (W.alloc (.cells #[.int .i64 a1, .int .i64 ax2, .string ax3] 48)) = .ok v' w' ∧ ((∃ aR cR, v' = .slice aR (m + 1) cR ∧ RdO w' aR (m + 1) cR ((a1, ax2, ax3) :: xs) ∧ Off (m + 1) aR u10) ∧ Ext W w')) := Lib.hid fun W hx =>
            app_rest Tryd.underlying22 hi hz0 hz1 hz2 rfl HRBX.out (by omega) HOn.out hx
          refine region_T (fun W => Ext w10 W ∧ W.cell? ⟨G + 1, 0, none⟩ = some (.int .i64 a1) ∧ W.cell? ⟨G + 1, 1, none⟩ = some (.int .i64 ax2) ∧ W.cell? ⟨G + 1, 2, none⟩ = some (.string ax3)) 5 (by kernel_rfl) (⟨(Ext.refl _).drew, (BAn.out.ext (Ext.refl _).drew).2 0 _ rfl, (BAn.out.ext (Ext.refl _).drew).2 1 _ rfl, (BAn.out.ext (Ext.refl _).drew).2 2 _ rfl⟩) (fun hHeld => ?_)
          obtain ⟨Wd, hWd⟩ : ∃ x, w10.drew = x := ⟨_, rfl⟩
          rw [hWd] at hHeld ⊢
          have hdx : Ext w10 Wd := by rw [← hWd]; exact (Ext.refl _).drew
          have HS0 := Lib.hid hHeld
          clear hWd
          refine wpAnyT_take (i := 0) (v := ?_) rfl (by kernel_rfl) (fun _ _ _ h => h) (Or.inl ⟨by rfl, ?_⟩) (by assumption) ?_
          rotate_left
          · (intro W hSw; (try dsimp only at hSw); go_simp; (try with_reducible rfl))
          try simp only [Act.put, List.setIfInBounds_toArray, List.set_cons_zero, List.set_cons_succ]
          refine wpAnyT_take (i := 2) (v := ?_) rfl (by kernel_rfl) (fun _ _ _ h => h) (Or.inl ⟨by rfl, ?_⟩) (by assumption) ?_
          rotate_left
          · (intro W hSw; (try dsimp only at hSw); go_simp; (try with_reducible rfl))
          try simp only [Act.put, List.setIfInBounds_toArray, List.set_cons_zero, List.set_cons_succ]
          refine wpAnyT_take (i := 3) (v := ?_) rfl (by kernel_rfl) (fun _ _ _ h => h) (Or.inl ⟨by rfl, ?_⟩) (by assumption) ?_
          rotate_left
          · (intro W hSw; (try dsimp only at hSw); go_simp; (try with_reducible rfl))
          try simp only [Act.put, List.setIfInBounds_toArray, List.set_cons_zero, List.set_cons_succ]
          refine wpAnyT_one (i := 1) rfl (by kernel_rfl) (fun K hK => ?_)
          go_simp
          refine hK.out _ _ (fun _ => ⟨hdx.alloc _, ext_cell ((Ext.refl _).alloc _) HS0.out.2.1, ext_cell ((Ext.refl _).alloc _) HS0.out.2.2.1, ext_cell ((Ext.refl _).alloc _) HS0.out.2.2.2⟩) (fun hH => ?_)
          replace hHeld := hH (by decide)
          clear hK K hH
          try simp only [Act.put, List.setIfInBounds_toArray, List.set_cons_zero, List.set_cons_succ]
          refine wpAnyT_one (i := 4) rfl (by kernel_rfl) (fun K hK => ?_)
          (refine step_append_ex (by rfl) _ _ _ (by rfl) (by rfl) (by rfl) (HAPX.out Wd hdx) ?_)
          rintro v' w11 ⟨⟨aRX, cRX, rfl, rRX, oRX⟩, hxk⟩
          refine hK.out _ _ (fun _ => ⟨hdx.trans hxk, ext_cell hxk HS0.out.2.1, ext_cell hxk HS0.out.2.2.1, ext_cell hxk HS0.out.2.2.2⟩) (fun hH => ?_)
          replace hHeld := hH (by decide)
          clear hK K hH
          try simp only [Act.put, List.setIfInBounds_toArray, List.set_cons_zero, List.set_cons_succ]
          refine wpAnyT_one (i := 5) rfl (by kernel_rfl) (fun K hK => ?_)
          go_simp
          refine hK.out _ _ (fun h => absurd rfl h) (fun _ => ?_)
          clear hK K hHeld
          try simp only [Act.put, List.setIfInBounds_toArray, List.set_cons_zero, List.set_cons_succ]
          refine wpAnyT_done (by kernel_rfl) ?_ _
          have EX := hdx.trans hxk
          clear hdx hxk HS0 HAPX HRBX
          have HO11 := Lib.hid (HOn.out.ext EX); have RY11 := Lib.hid (RYn.out.ext EX); have BA11 := Lib.hid (BAn.out.ext EX); have BB11 := Lib.hid (BBn.out.ext EX); have HB11 := Lib.hid (Below.trans HBn.out (Below.mono EX HBn.out.size)); have RX11 := Lib.hid rRX; have OX11 := Lib.hid oRX
          clear HOn RYn RXn BAn BBn HBn OXn rRX oRX EX
          go_wp2_with fail
          obtain ⟨AY, hAY⟩ : ∃ x : Option Addr, (if cy = 1 then some ⟨bY, oY, none⟩ else some ⟨bY, oY + 1 * 3, none⟩) = x := ⟨_, rfl⟩
          have hrbY := rdO_behind RY11.out
          rw [hAY] at hrbY
          simp only [Nat.one_mul] at hAY
          have HRBY := Lib.hid hrbY
          clear hrbY
          have HAPY : Hid (∀ W, Ext w11 W → ∃ v' w', (Builtin.append_ #[22, 22] 22 #[.slice (some ⟨W.heap.size, 0, none⟩) 1 1, .slice AY k (cy - 1)]).run Tryd.prog (W.alloc (.cells #[.int .i64 b1, .int .i64 bx2, .string bx3] 48)) = .ok v' w' ∧ ((∃ aR cR, v' = .slice aR (k + 1) cR ∧ RdO w' aR (k + 1) cR ((b1, bx2, bx3) :: ys) ∧ Off (k + 1) aR u10) ∧ Ext W w')) := Lib.hid fun W hx =>
            app_rest Tryd.underlying22 hi hz0 hz1 hz2 rfl HRBY.out (by omega) HO11.out hx
          refine region_T (fun W => Ext w11 W ∧ W.cell? ⟨H + 1, 0, none⟩ = some (.int .i64 b1) ∧ W.cell? ⟨H + 1, 1, none⟩ = some (.int .i64 bx2) ∧ W.cell? ⟨H + 1, 2, none⟩ = some (.string bx3)) 5 (by kernel_rfl) (⟨(Ext.refl _).drew, (BB11.out.ext (Ext.refl _).drew).2 0 _ rfl, (BB11.out.ext (Ext.refl _).drew).2 1 _ rfl, (BB11.out.ext (Ext.refl _).drew).2 2 _ rfl⟩) (fun hHeld => ?_)
          obtain ⟨Wd, hWd⟩ : ∃ x, w11.drew = x := ⟨_, rfl⟩
          rw [hWd] at hHeld ⊢
          have hdx : Ext w11 Wd := by rw [← hWd]; exact (Ext.refl _).drew
          have HS0 := Lib.hid hHeld
          clear hWd
          refine wpAnyT_take (i := 0) (v := ?_) rfl (by kernel_rfl) (fun _ _ _ h => h) (Or.inl ⟨by rfl, ?_⟩) (by assumption) ?_
          rotate_left
          · (intro W hSw; (try dsimp only at hSw); go_simp; (try with_reducible rfl))
          try simp only [Act.put, List.setIfInBounds_toArray, List.set_cons_zero, List.set_cons_succ]
          refine wpAnyT_take (i := 2) (v := ?_) rfl (by kernel_rfl) (fun _ _ _ h => h) (Or.inl ⟨by rfl, ?_⟩) (by assumption) ?_
          rotate_left
          · (intro W hSw; (try dsimp only at hSw); go_simp; (try with_reducible rfl))
          try simp only [Act.put, List.setIfInBounds_toArray, List.set_cons_zero, List.set_cons_succ]
          refine wpAnyT_take (i := 3) (v := ?_) rfl (by kernel_rfl) (fun _ _ _ h => h) (Or.inl ⟨by rfl, ?_⟩) (by assumption) ?_
          rotate_left
          · (intro W hSw; (try dsimp only at hSw); go_simp; (try with_reducible rfl))
          try simp only [Act.put, List.setIfInBounds_toArray, List.set_cons_zero, List.set_cons_succ]
          refine wpAnyT_one (i := 1) rfl (by kernel_rfl) (fun K hK => ?_)
          go_simp
          refine hK.out _ _ (fun _ => ⟨hdx.alloc _, ext_cell ((Ext.refl _).alloc _) HS0.out.2.1, ext_cell ((Ext.refl _).alloc _) HS0.out.2.2.1, ext_cell ((Ext.refl _).alloc _) HS0.out.2.2.2⟩) (fun hH => ?_)
          replace hHeld := hH (by decide)
          clear hK K hH
          try simp only [Act.put, List.setIfInBounds_toArray, List.set_cons_zero, List.set_cons_succ]
          refine wpAnyT_one (i := 4) rfl (by kernel_rfl) (fun K hK => ?_)
          (refine step_append_ex (by rfl) _ _ _ (by rfl) (by rfl) (by rfl) (HAPY.out Wd hdx) ?_)
          rintro v' w12 ⟨⟨aRY, cRY, rfl, rRY, oRY⟩, hxk⟩
          refine hK.out _ _ (fun _ => ⟨hdx.trans hxk, ext_cell hxk HS0.out.2.1, ext_cell hxk HS0.out.2.2.1, ext_cell hxk HS0.out.2.2.2⟩) (fun hH => ?_)
          replace hHeld := hH (by decide)
          clear hK K hH
          try simp only [Act.put, List.setIfInBounds_toArray, List.set_cons_zero, List.set_cons_succ]
          refine wpAnyT_one (i := 5) rfl (by kernel_rfl) (fun K hK => ?_)
          go_simp
          refine hK.out _ _ (fun h => absurd rfl h) (fun _ => ?_)
          clear hK K hHeld
          try simp only [Act.put, List.setIfInBounds_toArray, List.set_cons_zero, List.set_cons_succ]
          refine wpAnyT_done (by kernel_rfl) ?_ _
          have EY := hdx.trans hxk
          clear hdx hxk HS0 HAPY HRBY
          have HO12 := Lib.hid (HO11.out.ext EY); have RX12 := Lib.hid (RX11.out.ext EY); have BA12 := Lib.hid (BA11.out.ext EY); have BB12 := Lib.hid (BB11.out.ext EY); have HB12 := Lib.hid (Below.trans HB11.out (Below.mono EY HB11.out.size)); have RY12 := Lib.hid rRY; have OY12 := Lib.hid oRY
          clear HO11 RX11 RY11 BA11 BB11 HB11 OYn rRY oRY EY
          have k0 := BA12.out.2 0 _ rfl; have k1 := BA12.out.2 1 _ rfl; have k2 := BA12.out.2 2 _ rfl
          obtain ⟨gX, fX, hgX, _, _, _, _⟩ := sp_at RX12.out.2 RX12.out.1 (Nat.succ_pos _)
          subst hgX
          have hcX : m + 1 ≤ cRX := by obtain ⟨_, _, hv, hc⟩ := RX12.out.2.len; injection hv with _ _ e; omega
          obtain ⟨DX, hDX⟩ : ∃ x : Option Addr, (if cRX = 1 then some ⟨gX, fX, none⟩ else some ⟨gX, fX + 1 * 3, none⟩) = x := ⟨_, rfl⟩
          have rdX := rdO_behind RX12.out; have odX := Off.behind (c := cRX) (k := 1) OX11.out (Nat.succ_pos _)
          rw [hDX] at rdX odX
          simp only [Nat.one_mul] at hDX
          have x5X : (m : Int) + 1 ≤ (cRX : Int) := by omega
          have RDX := Lib.hid rdX; have ODX := Lib.hid odX
          clear rdX odX hcX
          obtain ⟨gY, fY, hgY, _, _, _, _⟩ := sp_at RY12.out.2 RY12.out.1 (Nat.succ_pos _)
          subst hgY
          have hcY : k + 1 ≤ cRY := by obtain ⟨_, _, hv, hc⟩ := RY12.out.2.len; injection hv with _ _ e; omega
          obtain ⟨DY, hDY⟩ : ∃ x : Option Addr, (if cRY = 1 then some ⟨gY, fY, none⟩ else some ⟨gY, fY + 1 * 3, none⟩) = x := ⟨_, rfl⟩
          have rdY := rdO_behind RY12.out; have odY := Off.behind (c := cRY) (k := 1) OY12.out (Nat.succ_pos _)
          rw [hDY] at rdY odY
          simp only [Nat.one_mul] at hDY
          have x5Y : (k : Int) + 1 ≤ (cRY : Int) := by omega
          have RDY := Lib.hid rdY; have ODY := Lib.hid odY
          clear rdY odY hcY
          go_wp2_with fail
          refine (HT1.out _).mono ?_; rintro e w13 ⟨rfl, hx13⟩
          have j0 := ext_cell hx13 (BB12.out.2 0 _ rfl); have j1 := ext_cell hx13 (BB12.out.2 1 _ rfl); have j2 := ext_cell hx13 (BB12.out.2 2 _ rfl)
          go_wp2_with fail
          refine (HT2.out _).mono ?_; rintro e w14 ⟨rfl, hx14⟩
          have E14 := Lib.hid (hx13.trans hx14)
          clear hx13 hx14 k0 k1 k2 j0 j1 j2
          go_wp2_with fail
          go_roundw
          case rel => exact ⟨xs, ys, os, DX, DY, m, k, cRX - 1, cRY - 1, rfl, rfl, RDX.out.ext E14.out, RDY.out.ext E14.out, HO12.out.ext E14.out, ⟨ODX.out, ODY.out⟩, HR.out, HT.out, HSID2.out, Below.trans HB12.out (Below.mono E14.out HB12.out.size)⟩
          case measure => simp [slen]; try omega
      · have hmn : ¬ ((L1 : Int) ≤ (L2 : Int)) := by omega
        have hmn2 : (L2 : Int) ≤ (L1 : Int) := by omega
        have hmin : min (L1 : Int) (L2 : Int) = (L2 : Int) := by omega
        have hn1 : L2 ≤ L1 := by omega
        have hn2 : L2 ≤ L2 := by omega
        obtain ⟨HROW2, HTT2, HSID2⟩ := hst L2 (by omega)
        have hf1 := fun w' => hF1 L2 w' hn1; have hf2 := fun w' => hF2 L2 w' hn2
        have hb1 := hcB1 L2 hn1; have hb2 := hcB2 L2 hn2
        have hs1 := hsm1 L2 hn1; have hs2 := hsm2 L2 hn2; have ha1 := hA1 L2 hn1; have ha2 := hA2 L2 hn2
        obtain ⟨px2, hp2⟩ : ∃ x, (cutA (a1, a2, a3) L2).2.1 = x := ⟨_, rfl⟩
        obtain ⟨px3, hp3⟩ : ∃ x, (cutA (a1, a2, a3) L2).2.2 = x := ⟨_, rfl⟩
        have eP : cutA (a1, a2, a3) L2 = (a1, px2, px3) := Prod.ext (cutA_kind (a1, a2, a3) L2) (Prod.ext hp2 hp3)
        clear hp2 hp3
        obtain ⟨ax2, ha2⟩ : ∃ x, (cutB (a1, a2, a3) L2).2.1 = x := ⟨_, rfl⟩
        obtain ⟨ax3, ha3⟩ : ∃ x, (cutB (a1, a2, a3) L2).2.2 = x := ⟨_, rfl⟩
        have eA : cutB (a1, a2, a3) L2 = (a1, ax2, ax3) := Prod.ext (cutB_kind (a1, a2, a3) L2) (Prod.ext ha2 ha3)
        clear ha2 ha3
        obtain ⟨qx2, hq2⟩ : ∃ x, (cutA (b1, b2, b3) L2).2.1 = x := ⟨_, rfl⟩
        obtain ⟨qx3, hq3⟩ : ∃ x, (cutA (b1, b2, b3) L2).2.2 = x := ⟨_, rfl⟩
        have eQ : cutA (b1, b2, b3) L2 = (b1, qx2, qx3) := Prod.ext (cutA_kind (b1, b2, b3) L2) (Prod.ext hq2 hq3)
        clear hq2 hq3
        obtain ⟨bx2, hb2⟩ : ∃ x, (cutB (b1, b2, b3) L2).2.1 = x := ⟨_, rfl⟩
        obtain ⟨bx3, hb3⟩ : ∃ x, (cutB (b1, b2, b3) L2).2.2 = x := ⟨_, rfl⟩
        have eB : cutB (b1, b2, b3) L2 = (b1, bx2, bx3) := Prod.ext (cutB_kind (b1, b2, b3) L2) (Prod.ext hb2 hb3)
        clear hb2 hb3
        rw [eP] at hs1 ha1 hf1; rw [eA] at hs1 hb1 hf1; rw [eQ] at hs2 ha2 hf2; rw [eB] at hs2 hb2 hf2
        unfold spanV at hf1 hf2
        simp only at hf1 hf2 hs1 hs2 ha1 ha2
        have hb1n := hb1.1.nonneg; have hb2n := hb2.1.nonneg
        simp only at hb1n hb2n
        have HF1 := Lib.hid hf1; have HF2 := Lib.hid hf2
        have HT1 := Lib.hid (fun w' => sizeR_c a1 ax2 ax3 w' hb1.1 (by omega) (by omega)); have HT2 := Lib.hid (fun w' => sizeR_c b1 bx2 bx3 w' hb2.1 (by omega) (by omega))
        rw [hb1.2, List.length_drop, hL1] at HT1; rw [hb2.2, List.length_drop, hL2] at HT2
        unfold spanV at HT1 HT2
        rw [show ((L2 - L2 : Nat) : Int) = 0 by omega] at HT2
        obtain ⟨D2, hD2⟩ : ∃ x : Int, ((L1 - L2 : Nat) : Int) = x := ⟨_, rfl⟩
        have hd2 : (D2 == 0) = false := by rw [beq_eq_false_iff_ne]; omega
        rw [hD2] at HT1
        clear hD2
        obtain ⟨X', hX'⟩ : ∃ X', left (a1, a2, a3) L2 xs = X' := ⟨_, rfl⟩
        obtain ⟨Y', hY'⟩ : ∃ Y', left (b1, b2, b3) L2 ys = Y' := ⟨_, rfl⟩
        rw [hX', hY'] at HROW2 HTT2 HSID2
        simp only at HROW2 HTT2
        unfold left at hX' hY'
        rw [hL1, eA] at hX'; rw [hL2, eB] at hY'
        rw [if_neg (by omega)] at hX'; rw [if_pos rfl] at hY'
        rw [eP, eQ] at HROW2 HTT2
        subst hX'; subst hY'
        replace HROW2 := Lib.hid HROW2; replace HTT2 := Lib.hid HTT2; replace HSID2 := Lib.hid HSID2
        clear hst hF1 hF2 hcB1 hcB2 hsm1 hsm2 hA1 hA2 hf1 hf2 eP eA eQ eB hL1 hL2 hb1 hb2 HROW HTT HSID hs1 hs2 ha1 ha2 hb1n hb2n
        have ka : (a1 == 3) = false := by rw [beq_eq_false_iff_ne]; exact hka
        have kb : (b1 == 2) = false := by rw [beq_eq_false_iff_ne]; exact hkb
        have y2 : (0 : Int) < (k : Int) + 1 := by omega
        have x2 : (0 : Int) < (m : Int) + 1 := by omega
        go_wp2_with fail
        go_region_held3 (fun W => Ext wr W ∧ W.cell? ⟨bX, oX, none⟩ = some (.int .i64 a1) ∧ W.cell? ⟨bX, oX + 1, none⟩ = some (.int .i64 a2) ∧ W.cell? ⟨bX, oX + 2, none⟩ = some (.string a3) ∧ W.cell? ⟨bY, oY, none⟩ = some (.int .i64 b1) ∧ W.cell? ⟨bY, oY + 1, none⟩ = some (.int .i64 b2) ∧ W.cell? ⟨bY, oY + 2, none⟩ = some (.string b3))
          ((go_split_ands; refine ⟨?_, ?_, ?_, ?_, ?_, ?_, ?_⟩ <;> first | (exact Ext.drew ‹_›) | (exact Ext.trans ‹_› hxk) | (exact ext_cell hxk ‹_›) | go_keep))
          (first
          | (go_at_call_of 94 a3; go_split_ands; refine (HS1.out _).mono ?_; rintro e w' ⟨rfl, hxk⟩)
          | (go_at_call_of 94 b3; go_split_ands; refine (HS2.out _).mono ?_; rintro e w' ⟨rfl, hxk⟩)
          | fail)
        go_split_ands
        have e1 : Ext wr w' := by assumption
        have r0 := ext_cell e1 p0; have r1 := ext_cell e1 p1; have r2 := ext_cell e1 p2
        clear hmin
        go_wp2_with fail
        refine (HF1.out _).mono ?_; rintro e w7 ⟨rfl, hx7⟩
        have e7 := e1.trans hx7
        have z0 := ext_cell e7 q0; have z1 := ext_cell e7 q1; have z2 := ext_cell e7 q2
        have hbp := BoxG.made w7 #[.int .i64 a1, .int .i64 px2, .string px3] 48
        have hba := BoxG.made (w7.alloc (.cells #[.int .i64 a1, .int .i64 px2, .string px3] 48)) #[.int .i64 a1, .int .i64 ax2, .string ax3] 48
        rw [size_alloc] at hba
        have HBP := Lib.hid hbp; have HBA := Lib.hid hba
        have E7 : Hid (Ext wr ((w7.alloc (.cells #[.int .i64 a1, .int .i64 px2, .string px3] 48)).alloc (.cells #[.int .i64 a1, .int .i64 ax2, .string ax3] 48))) := Lib.hid ((e7.alloc _).alloc _)
        have u0 := ext_cell E7.out q0; have u1 := ext_cell E7.out q1; have u2 := ext_cell E7.out q2
        clear hbp hba r0 r1 r2
        go_wp2_with fail
        refine (HF2.out _).mono ?_; rintro e w8 ⟨rfl, hx8⟩
        have hsz8 := hx8.size
        rw [size_alloc, size_alloc] at hsz8
        obtain ⟨G, hG⟩ : ∃ x, w7.heap.size = x := ⟨_, rfl⟩
        obtain ⟨H, hH⟩ : ∃ x, w8.heap.size = x := ⟨_, rfl⟩
        have HBP8 : Hid (BoxG w8 w7.heap.size #[.int .i64 a1, .int .i64 px2, .string px3]) := Lib.hid (HBP.out.ext (((Ext.refl _).alloc _).trans hx8))
        have HBA8 : Hid (BoxG w8 (w7.heap.size + 1) #[.int .i64 a1, .int .i64 ax2, .string ax3]) := Lib.hid (HBA.out.ext hx8)
        rw [hG] at HBP8 HBA8 hsz8 ⊢
        rw [hH] at hsz8
        have hsz7 : wr.heap.size ≤ G := by rw [← hG]; exact e7.size
        have c0 := HBP8.out.2 0 _ rfl; have c1 := HBP8.out.2 1 _ rfl; have c2 := HBP8.out.2 2 _ rfl
        have E8 := Lib.hid (E7.out.trans hx8)
        have hbq := BoxG.made w8 #[.int .i64 b1, .int .i64 qx2, .string qx3] 48
        have hbb := BoxG.made (w8.alloc (.cells #[.int .i64 b1, .int .i64 qx2, .string qx3] 48)) #[.int .i64 b1, .int .i64 bx2, .string bx3] 48
        rw [size_alloc, hH] at hbb
        have HBB := Lib.hid hbb
        have E9 : Hid (Ext wr ((w8.alloc (.cells #[.int .i64 b1, .int .i64 qx2, .string qx3] 48)).alloc (.cells #[.int .i64 b1, .int .i64 bx2, .string bx3] 48))) := Lib.hid ((E8.out.alloc _).alloc _)
        have HBA9 : Hid (BoxG ((w8.alloc (.cells #[.int .i64 b1, .int .i64 qx2, .string qx3] 48)).alloc (.cells #[.int .i64 b1, .int .i64 bx2, .string bx3] 48)) (G + 1) #[.int .i64 a1, .int .i64 ax2, .string ax3]) := Lib.hid (HBA8.out.ext (((Ext.refl _).alloc _).alloc _))
        have HBP9 : Hid (BoxG ((w8.alloc (.cells #[.int .i64 b1, .int .i64 qx2, .string qx3] 48)).alloc (.cells #[.int .i64 b1, .int .i64 bx2, .string bx3] 48)) G #[.int .i64 a1, .int .i64 px2, .string px3]) := Lib.hid (HBP8.out.ext (((Ext.refl _).alloc _).alloc _))
        have d0 := HBP9.out.2 0 _ rfl; have d1 := HBP9.out.2 1 _ rfl; have d2 := HBP9.out.2 2 _ rfl
        clear hbq hbb z0 z1 z2 u0 u1 u2 hx7 hx8 E7 HBP HBA e7 hG
        have HH := Lib.hid hH
        rcases three_ways (b1 = 1) (a1 = 1) with hk1 | ⟨hk1, hk2⟩ | ⟨hk1, hk2⟩
        · have kk : (b1 == 1) = true := by rw [beq_iff_eq]; exact hk1
          have hr2 := HROW2.out; have ht2 := HTT2.out
          rw [if_pos hk1] at hr2 ht2
          have HR := Lib.hid hr2; have HT := Lib.hid ht2
          clear hr2 ht2
          clear HROW2 HTT2 hk1
          obtain ⟨vn, w10, happ, hown', hbel', hkp, hsz', hwh⟩ := app_newg (P := Tryd.prog) 22 22 48 i _ 3 32 Tryd.underlying22 hi hz0 hz1 hz2 rfl (by omega) (by omega)
            (HO.out.ext E9.out) (by omega) 1 #[.int .i64 a1, .int .i64 px2, .string px3] rfl (by omega) (by simp [Value.oneCell']) 48
          rw [size_alloc, size_alloc, HH.out] at happ
          have HAP := Lib.hid happ
          have HOn : Hid (Own w10 w6.heap.size 48 3 vn (os ++ [(a1, px2, px3)]).length (spCells (os ++ [(a1, px2, px3)]))) := Lib.hid (by rw [spCells_append, List.length_append]; exact hown')
          have hx9 := RX.out.ext E9.out; have hy9 := RY.out.ext E9.out
          have RXn := Lib.hid (OFX.out.rd hx9 hkp hsz'); have RYn := Lib.hid (OFY.out.rd hy9 hkp hsz')
          have OXn := Lib.hid (OFX.out.next hx9 hwh); have OYn := Lib.hid (OFY.out.next hy9 hwh)
          have HBn := Lib.hid (hbel' (Below.trans HBR.out (Below.mono E9.out HBR.out.size)))
          have BAn := Lib.hid (HBA9.out.kept (fun h => by have := HLT.out _ h; omega) hkp hsz'); have BBn := Lib.hid (HBB.out.kept (fun h => by have := HLT.out _ h; omega) hkp hsz')
          clear happ hown' hbel' hkp hsz' hwh hx9 hy9
          go_wp2_with (at_builtin; refine wpList_append_run rfl rfl HAP.out rfl rfl ?_)
          have x3 : (1 : Int) ≤ (m : Int) + 1 := by omega
          have x4 : (m : Int) + 1 ≤ (cx : Int) := by omega
          have y3 : (1 : Int) ≤ (k : Int) + 1 := by omega
          have y4 : (k : Int) + 1 ≤ (cy : Int) := by omega
          obtain ⟨AX, hAX⟩ : ∃ x : Option Addr, (if cx = 1 then some ⟨bX, oX, none⟩ else some ⟨bX, oX + 1 * 3, none⟩) = x := ⟨_, rfl⟩
          have hrbX := rdO_behind RXn.out
          rw [hAX] at hrbX
          simp only [Nat.one_mul] at hAX
          have HRBX := Lib.hid hrbX
          clear hrbX
          have HAPX : Hid (∀ W, Ext w10 W → ∃ v' w', (Builtin.append_ #[22, 22] 22 #[.slice (some ⟨W.heap.size, 0, none⟩) 1 1, .slice AX m (cx - 1)]).run Tryd.prog (W.alloc (.cells #[.int .i64 a1, .int .i64 ax2, .string ax3] 48)) = .ok v' w' ∧ ((∃ aR cR, v' = .slice aR (m + 1) cR ∧ RdO w' aR (m + 1) cR ((a1, ax2, ax3) :: xs) ∧ Off (m + 1) aR vn) ∧ Ext W w')) := Lib.hid fun W hx =>
            app_rest Tryd.underlying22 hi hz0 hz1 hz2 rfl HRBX.out (by omega) HOn.out hx
          refine region_T (fun W => Ext w10 W ∧ W.cell? ⟨G + 1, 0, none⟩ = some (.int .i64 a1) ∧ W.cell? ⟨G + 1, 1, none⟩ = some (.int .i64 ax2) ∧ W.cell? ⟨G + 1, 2, none⟩ = some (.string ax3)) 5 (by kernel_rfl) (⟨(Ext.refl _).drew, (BAn.out.ext (Ext.refl _).drew).2 0 _ rfl, (BAn.out.ext (Ext.refl _).drew).2 1 _ rfl, (BAn.out.ext (Ext.refl _).drew).2 2 _ rfl⟩) (fun hHeld => ?_)
          obtain ⟨Wd, hWd⟩ : ∃ x, w10.drew = x := ⟨_, rfl⟩
          rw [hWd] at hHeld ⊢
          have hdx : Ext w10 Wd := by rw [← hWd]; exact (Ext.refl _).drew
          have HS0 := Lib.hid hHeld
          clear hWd
          refine wpAnyT_take (i := 0) (v := ?_) rfl (by kernel_rfl) (fun _ _ _ h => h) (Or.inl ⟨by rfl, ?_⟩) (by assumption) ?_
          rotate_left
          · (intro W hSw; (try dsimp only at hSw); go_simp; (try with_reducible rfl))
          try simp only [Act.put, List.setIfInBounds_toArray, List.set_cons_zero, List.set_cons_succ]
          refine wpAnyT_take (i := 2) (v := ?_) rfl (by kernel_rfl) (fun _ _ _ h => h) (Or.inl ⟨by rfl, ?_⟩) (by assumption) ?_
          rotate_left
          · (intro W hSw; (try dsimp only at hSw); go_simp; (try with_reducible rfl))
          try simp only [Act.put, List.setIfInBounds_toArray, List.set_cons_zero, List.set_cons_succ]
          refine wpAnyT_take (i := 3) (v := ?_) rfl (by kernel_rfl) (fun _ _ _ h => h) (Or.inl ⟨by rfl, ?_⟩) (by assumption) ?_
          rotate_left
          · (intro W hSw; (try dsimp only at hSw); go_simp; (try with_reducible rfl))
          try simp only [Act.put, List.setIfInBounds_toArray, List.set_cons_zero, List.set_cons_succ]
          refine wpAnyT_one (i := 1) rfl (by kernel_rfl) (fun K hK => ?_)
          go_simp
          refine hK.out _ _ (fun _ => ⟨hdx.alloc _, ext_cell ((Ext.refl _).alloc _) HS0.out.2.1, ext_cell ((Ext.refl _).alloc _) HS0.out.2.2.1, ext_cell ((Ext.refl _).alloc _) HS0.out.2.2.2⟩) (fun hH => ?_)
          replace hHeld := hH (by decide)
          clear hK K hH
          try simp only [Act.put, List.setIfInBounds_toArray, List.set_cons_zero, List.set_cons_succ]
          refine wpAnyT_one (i := 4) rfl (by kernel_rfl) (fun K hK => ?_)
          (refine step_append_ex (by rfl) _ _ _ (by rfl) (by rfl) (by rfl) (HAPX.out Wd hdx) ?_)
          rintro v' w11 ⟨⟨aRX, cRX, rfl, rRX, oRX⟩, hxk⟩
          refine hK.out _ _ (fun _ => ⟨hdx.trans hxk, ext_cell hxk HS0.out.2.1, ext_cell hxk HS0.out.2.2.1, ext_cell hxk HS0.out.2.2.2⟩) (fun hH => ?_)
          replace hHeld := hH (by decide)
          clear hK K hH
          try simp only [Act.put, List.setIfInBounds_toArray, List.set_cons_zero, List.set_cons_succ]
          refine wpAnyT_one (i := 5) rfl (by kernel_rfl) (fun K hK => ?_)
          go_simp
          refine hK.out _ _ (fun h => absurd rfl h) (fun _ => ?_)
          clear hK K hHeld
          try simp only [Act.put, List.setIfInBounds_toArray, List.set_cons_zero, List.set_cons_succ]
          refine wpAnyT_done (by kernel_rfl) ?_ _
          have EX := hdx.trans hxk
          clear hdx hxk HS0 HAPX HRBX
          have HO11 := Lib.hid (HOn.out.ext EX); have RY11 := Lib.hid (RYn.out.ext EX); have BA11 := Lib.hid (BAn.out.ext EX); have BB11 := Lib.hid (BBn.out.ext EX); have HB11 := Lib.hid (Below.trans HBn.out (Below.mono EX HBn.out.size)); have RX11 := Lib.hid rRX; have OX11 := Lib.hid oRX
          clear HOn RYn RXn BAn BBn HBn OXn rRX oRX EX
          go_wp2_with fail
          obtain ⟨AY, hAY⟩ : ∃ x : Option Addr, (if cy = 1 then some ⟨bY, oY, none⟩ else some ⟨bY, oY + 1 * 3, none⟩) = x := ⟨_, rfl⟩
          have hrbY := rdO_behind RY11.out
          rw [hAY] at hrbY
          simp only [Nat.one_mul] at hAY
          have HRBY := Lib.hid hrbY
          clear hrbY
          have HAPY : Hid (∀ W, Ext w11 W → ∃ v' w', (Builtin.append_ #[22, 22] 22 #[.slice (some ⟨W.heap.size, 0, none⟩) 1 1, .slice AY k (cy - 1)]).run Tryd.prog (W.alloc (.cells #[.int .i64 b1, .int .i64 bx2, .string bx3] 48)) = .ok v' w' ∧ ((∃ aR cR, v' = .slice aR (k + 1) cR ∧ RdO w' aR (k + 1) cR ((b1, bx2, bx3) :: ys) ∧ Off (k + 1) aR vn) ∧ Ext W w')) := Lib.hid fun W hx =>
            app_rest Tryd.underlying22 hi hz0 hz1 hz2 rfl HRBY.out (by omega) HO11.out hx
          refine region_T (fun W => Ext w11 W ∧ W.cell? ⟨H + 1, 0, none⟩ = some (.int .i64 b1) ∧ W.cell? ⟨H + 1, 1, none⟩ = some (.int .i64 bx2) ∧ W.cell? ⟨H + 1, 2, none⟩ = some (.string bx3)) 5 (by kernel_rfl) (⟨(Ext.refl _).drew, (BB11.out.ext (Ext.refl _).drew).2 0 _ rfl, (BB11.out.ext (Ext.refl _).drew).2 1 _ rfl, (BB11.out.ext (Ext.refl _).drew).2 2 _ rfl⟩) (fun hHeld => ?_)
          obtain ⟨Wd, hWd⟩ : ∃ x, w11.drew = x := ⟨_, rfl⟩
          rw [hWd] at hHeld ⊢
          have hdx : Ext w11 Wd := by rw [← hWd]; exact (Ext.refl _).drew
          have HS0 := Lib.hid hHeld
          clear hWd
          refine wpAnyT_take (i := 0) (v := ?_) rfl (by kernel_rfl) (fun _ _ _ h => h) (Or.inl ⟨by rfl, ?_⟩) (by assumption) ?_
          rotate_left
          · (intro W hSw; (try dsimp only at hSw); go_simp; (try with_reducible rfl))
          try simp only [Act.put, List.setIfInBounds_toArray, List.set_cons_zero, List.set_cons_succ]
          refine wpAnyT_take (i := 2) (v := ?_) rfl (by kernel_rfl) (fun _ _ _ h => h) (Or.inl ⟨by rfl, ?_⟩) (by assumption) ?_
          rotate_left
          · (intro W hSw; (try dsimp only at hSw); go_simp; (try with_reducible rfl))
          try simp only [Act.put, List.setIfInBounds_toArray, List.set_cons_zero, List.set_cons_succ]
          refine wpAnyT_take (i := 3) (v := ?_) rfl (by kernel_rfl) (fun _ _ _ h => h) (Or.inl ⟨by rfl, ?_⟩) (by assumption) ?_
          rotate_left
          · (intro W hSw; (try dsimp only at hSw); go_simp; (try with_reducible rfl))
          try simp only [Act.put, List.setIfInBounds_toArray, List.set_cons_zero, List.set_cons_succ]
          refine wpAnyT_one (i := 1) rfl (by kernel_rfl) (fun K hK => ?_)
          go_simp
          refine hK.out _ _ (fun _ => ⟨hdx.alloc _, ext_cell ((Ext.refl _).alloc _) HS0.out.2.1, ext_cell ((Ext.refl _).alloc _) HS0.out.2.2.1, ext_cell ((Ext.refl _).alloc _) HS0.out.2.2.2⟩) (fun hH => ?_)
          replace hHeld := hH (by decide)
          clear hK K hH
          try simp only [Act.put, List.setIfInBounds_toArray, List.set_cons_zero, List.set_cons_succ]
          refine wpAnyT_one (i := 4) rfl (by kernel_rfl) (fun K hK => ?_)
          (refine step_append_ex (by rfl) _ _ _ (by rfl) (by rfl) (by rfl) (HAPY.out Wd hdx) ?_)
          rintro v' w12 ⟨⟨aRY, cRY, rfl, rRY, oRY⟩, hxk⟩
          refine hK.out _ _ (fun _ => ⟨hdx.trans hxk, ext_cell hxk HS0.out.2.1, ext_cell hxk HS0.out.2.2.1, ext_cell hxk HS0.out.2.2.2⟩) (fun hH => ?_)
          replace hHeld := hH (by decide)
          clear hK K hH
          try simp only [Act.put, List.setIfInBounds_toArray, List.set_cons_zero, List.set_cons_succ]
          refine wpAnyT_one (i := 5) rfl (by kernel_rfl) (fun K hK => ?_)
          go_simp
          refine hK.out _ _ (fun h => absurd rfl h) (fun _ => ?_)
          clear hK K hHeld
          try simp only [Act.put, List.setIfInBounds_toArray, List.set_cons_zero, List.set_cons_succ]
          refine wpAnyT_done (by kernel_rfl) ?_ _
          have EY := hdx.trans hxk
          clear hdx hxk HS0 HAPY HRBY
          have HO12 := Lib.hid (HO11.out.ext EY); have RX12 := Lib.hid (RX11.out.ext EY); have BA12 := Lib.hid (BA11.out.ext EY); have BB12 := Lib.hid (BB11.out.ext EY); have HB12 := Lib.hid (Below.trans HB11.out (Below.mono EY HB11.out.size)); have RY12 := Lib.hid rRY; have OY12 := Lib.hid oRY
          clear HO11 RX11 RY11 BA11 BB11 HB11 OYn rRY oRY EY
          have k0 := BA12.out.2 0 _ rfl; have k1 := BA12.out.2 1 _ rfl; have k2 := BA12.out.2 2 _ rfl
          obtain ⟨gY, fY, hgY, _, _, _, _⟩ := sp_at RY12.out.2 RY12.out.1 (Nat.succ_pos _)
          subst hgY
          have hcY : k + 1 ≤ cRY := by obtain ⟨_, _, hv, hc⟩ := RY12.out.2.len; injection hv with _ _ e; omega
          obtain ⟨DY, hDY⟩ : ∃ x : Option Addr, (if cRY = 1 then some ⟨gY, fY, none⟩ else some ⟨gY, fY + 1 * 3, none⟩) = x := ⟨_, rfl⟩
          have rdY := rdO_behind RY12.out; have odY := Off.behind (c := cRY) (k := 1) OY12.out (Nat.succ_pos _)
          rw [hDY] at rdY odY
          simp only [Nat.one_mul] at hDY
          have x5Y : (k : Int) + 1 ≤ (cRY : Int) := by omega
          have RDY := Lib.hid rdY; have ODY := Lib.hid odY
          clear rdY odY hcY
          go_wp2_with fail
          refine (HT1.out _).mono ?_; rintro e w13 ⟨rfl, hx13⟩
          have j0 := ext_cell hx13 (BB12.out.2 0 _ rfl); have j1 := ext_cell hx13 (BB12.out.2 1 _ rfl); have j2 := ext_cell hx13 (BB12.out.2 2 _ rfl)
          go_wp2_with fail
          refine (HT2.out _).mono ?_; rintro e w14 ⟨rfl, hx14⟩
          have E14 := Lib.hid (hx13.trans hx14)
          clear hx13 hx14 k0 k1 k2 j0 j1 j2
          go_wp2_with fail
          go_roundw
          case rel => exact ⟨((a1, ax2, ax3) :: xs), ys, os ++ [(a1, px2, px3)], aRX, DY, m + 1, k, cRX, cRY - 1, rfl, rfl, RX12.out.ext E14.out, RDY.out.ext E14.out, HO12.out.ext E14.out, ⟨OX11.out, ODY.out⟩, HR.out, HT.out, HSID2.out, Below.trans HB12.out (Below.mono E14.out HB12.out.size)⟩
          case measure => simp [slen]; try omega
        · have kk : (b1 == 1) = false := by rw [beq_eq_false_iff_ne]; exact hk1
          have kl : (a1 == 1) = true := by rw [beq_iff_eq]; exact hk2
          have hr2 := HROW2.out; have ht2 := HTT2.out
          rw [if_neg hk1, if_pos hk2] at hr2 ht2
          have HR := Lib.hid hr2; have HT := Lib.hid ht2
          clear hr2 ht2
          clear HROW2 HTT2 hk1 hk2
          obtain ⟨vn, w10, happ, hown', hbel', hkp, hsz', hwh⟩ := app_newg (P := Tryd.prog) 22 22 48 i _ 3 32 Tryd.underlying22 hi hz0 hz1 hz2 rfl (by omega) (by omega)
            (HO.out.ext E9.out) (by omega) 1 #[.int .i64 b1, .int .i64 qx2, .string qx3] rfl (by omega) (by simp [Value.oneCell']) 48
          rw [size_alloc, size_alloc, HH.out] at happ
          have HAP := Lib.hid happ
          have HOn : Hid (Own w10 w6.heap.size 48 3 vn (os ++ [(b1, qx2, qx3)]).length (spCells (os ++ [(b1, qx2, qx3)]))) := Lib.hid (by rw [spCells_append, List.length_append]; exact hown')
          have hx9 := RX.out.ext E9.out; have hy9 := RY.out.ext E9.out
          have RXn := Lib.hid (OFX.out.rd hx9 hkp hsz'); have RYn := Lib.hid (OFY.out.rd hy9 hkp hsz')
          have OXn := Lib.hid (OFX.out.next hx9 hwh); have OYn := Lib.hid (OFY.out.next hy9 hwh)
          have HBn := Lib.hid (hbel' (Below.trans HBR.out (Below.mono E9.out HBR.out.size)))
          have BAn := Lib.hid (HBA9.out.kept (fun h => by have := HLT.out _ h; omega) hkp hsz'); have BBn := Lib.hid (HBB.out.kept (fun h => by have := HLT.out _ h; omega) hkp hsz')
          clear happ hown' hbel' hkp hsz' hwh hx9 hy9
          go_wp2_with (at_builtin; refine wpList_append_run rfl rfl HAP.out rfl rfl ?_)
          have x3 : (1 : Int) ≤ (m : Int) + 1 := by omega
          have x4 : (m : Int) + 1 ≤ (cx : Int) := by omega
          have y3 : (1 : Int) ≤ (k : Int) + 1 := by omega
          have y4 : (k : Int) + 1 ≤ (cy : Int) := by omega
          obtain ⟨AX, hAX⟩ : ∃ x : Option Addr, (if cx = 1 then some ⟨bX, oX, none⟩ else some ⟨bX, oX + 1 * 3, none⟩) = x := ⟨_, rfl⟩
          have hrbX := rdO_behind RXn.out
          rw [hAX] at hrbX
          simp only [Nat.one_mul] at hAX
          have HRBX := Lib.hid hrbX
          clear hrbX
          have HAPX : Hid (∀ W, Ext w10 W → ∃ v' w', (Builtin.append_ #[22, 22] 22 #[.slice (some ⟨W.heap.size, 0, none⟩) 1 1, .slice AX m (cx - 1)]).run Tryd.prog (W.alloc (.cells #[.int .i64 a1, .int .i64 ax2, .string ax3] 48)) = .ok v' w' ∧ ((∃ aR cR, v' = .slice aR (m + 1) cR ∧ RdO w' aR (m + 1) cR ((a1, ax2, ax3) :: xs) ∧ Off (m + 1) aR vn) ∧ Ext W w')) := Lib.hid fun W hx =>
            app_rest Tryd.underlying22 hi hz0 hz1 hz2 rfl HRBX.out (by omega) HOn.out hx
          refine region_T (fun W => Ext w10 W ∧ W.cell? ⟨G + 1, 0, none⟩ = some (.int .i64 a1) ∧ W.cell? ⟨G + 1, 1, none⟩ = some (.int .i64 ax2) ∧ W.cell? ⟨G + 1, 2, none⟩ = some (.string ax3)) 5 (by kernel_rfl) (⟨(Ext.refl _).drew, (BAn.out.ext (Ext.refl _).drew).2 0 _ rfl, (BAn.out.ext (Ext.refl _).drew).2 1 _ rfl, (BAn.out.ext (Ext.refl _).drew).2 2 _ rfl⟩) (fun hHeld => ?_)
          obtain ⟨Wd, hWd⟩ : ∃ x, w10.drew = x := ⟨_, rfl⟩
          rw [hWd] at hHeld ⊢
          have hdx : Ext w10 Wd := by rw [← hWd]; exact (Ext.refl _).drew
          have HS0 := Lib.hid hHeld
          clear hWd
          refine wpAnyT_take (i := 0) (v := ?_) rfl (by kernel_rfl) (fun _ _ _ h => h) (Or.inl ⟨by rfl, ?_⟩) (by assumption) ?_
          rotate_left
          · (intro W hSw; (try dsimp only at hSw); go_simp; (try with_reducible rfl))
          try simp only [Act.put, List.setIfInBounds_toArray, List.set_cons_zero, List.set_cons_succ]
          refine wpAnyT_take (i := 2) (v := ?_) rfl (by kernel_rfl) (fun _ _ _ h => h) (Or.inl ⟨by rfl, ?_⟩) (by assumption) ?_
          rotate_left
          · (intro W hSw; (try dsimp only at hSw); go_simp; (try with_reducible rfl))
          try simp only [Act.put, List.setIfInBounds_toArray, List.set_cons_zero, List.set_cons_succ]
          refine wpAnyT_take (i := 3) (v := ?_) rfl (by kernel_rfl) (fun _ _ _ h => h) (Or.inl ⟨by rfl, ?_⟩) (by assumption) ?_
          rotate_left
          · (intro W hSw; (try dsimp only at hSw); go_simp; (try with_reducible rfl))
          try simp only [Act.put, List.setIfInBounds_toArray, List.set_cons_zero, List.set_cons_succ]
          refine wpAnyT_one (i := 1) rfl (by kernel_rfl) (fun K hK => ?_)
          go_simp
          refine hK.out _ _ (fun _ => ⟨hdx.alloc _, ext_cell ((Ext.refl _).alloc _) HS0.out.2.1, ext_cell ((Ext.refl _).alloc _) HS0.out.2.2.1, ext_cell ((Ext.refl _).alloc _) HS0.out.2.2.2⟩) (fun hH => ?_)
          replace hHeld := hH (by decide)
          clear hK K hH
          try simp only [Act.put, List.setIfInBounds_toArray, List.set_cons_zero, List.set_cons_succ]
          refine wpAnyT_one (i := 4) rfl (by kernel_rfl) (fun K hK => ?_)
          (refine step_append_ex (by rfl) _ _ _ (by rfl) (by rfl) (by rfl) (HAPX.out Wd hdx) ?_)
          rintro v' w11 ⟨⟨aRX, cRX, rfl, rRX, oRX⟩, hxk⟩
          refine hK.out _ _ (fun _ => ⟨hdx.trans hxk, ext_cell hxk HS0.out.2.1, ext_cell hxk HS0.out.2.2.1, ext_cell hxk HS0.out.2.2.2⟩) (fun hH => ?_)
          replace hHeld := hH (by decide)
          clear hK K hH
          try simp only [Act.put, List.setIfInBounds_toArray, List.set_cons_zero, List.set_cons_succ]
          refine wpAnyT_one (i := 5) rfl (by kernel_rfl) (fun K hK => ?_)
          go_simp
          refine hK.out _ _ (fun h => absurd rfl h) (fun _ => ?_)
          clear hK K hHeld
          try simp only [Act.put, List.setIfInBounds_toArray, List.set_cons_zero, List.set_cons_succ]
          refine wpAnyT_done (by kernel_rfl) ?_ _
          have EX := hdx.trans hxk
          clear hdx hxk HS0 HAPX HRBX
          have HO11 := Lib.hid (HOn.out.ext EX); have RY11 := Lib.hid (RYn.out.ext EX); have BA11 := Lib.hid (BAn.out.ext EX); have BB11 := Lib.hid (BBn.out.ext EX); have HB11 := Lib.hid (Below.trans HBn.out (Below.mono EX HBn.out.size)); have RX11 := Lib.hid rRX; have OX11 := Lib.hid oRX
          clear HOn RYn RXn BAn BBn HBn OXn rRX oRX EX
          go_wp2_with fail
          obtain ⟨AY, hAY⟩ : ∃ x : Option Addr, (if cy = 1 then some ⟨bY, oY, none⟩ else some ⟨bY, oY + 1 * 3, none⟩) = x := ⟨_, rfl⟩
          have hrbY := rdO_behind RY11.out
          rw [hAY] at hrbY
          simp only [Nat.one_mul] at hAY
          have HRBY := Lib.hid hrbY
          clear hrbY
          have HAPY : Hid (∀ W, Ext w11 W → ∃ v' w', (Builtin.append_ #[22, 22] 22 #[.slice (some ⟨W.heap.size, 0, none⟩) 1 1, .slice AY k (cy - 1)]).run Tryd.prog (W.alloc (.cells #[.int .i64 b1, .int .i64 bx2, .string bx3] 48)) = .ok v' w' ∧ ((∃ aR cR, v' = .slice aR (k + 1) cR ∧ RdO w' aR (k + 1) cR ((b1, bx2, bx3) :: ys) ∧ Off (k + 1) aR vn) ∧ Ext W w')) := Lib.hid fun W hx =>
            app_rest Tryd.underlying22 hi hz0 hz1 hz2 rfl HRBY.out (by omega) HO11.out hx
          refine region_T (fun W => Ext w11 W ∧ W.cell? ⟨H + 1, 0, none⟩ = some (.int .i64 b1) ∧ W.cell? ⟨H + 1, 1, none⟩ = some (.int .i64 bx2) ∧ W.cell? ⟨H + 1, 2, none⟩ = some (.string bx3)) 5 (by kernel_rfl) (⟨(Ext.refl _).drew, (BB11.out.ext (Ext.refl _).drew).2 0 _ rfl, (BB11.out.ext (Ext.refl _).drew).2 1 _ rfl, (BB11.out.ext (Ext.refl _).drew).2 2 _ rfl⟩) (fun hHeld => ?_)
          obtain ⟨Wd, hWd⟩ : ∃ x, w11.drew = x := ⟨_, rfl⟩
          rw [hWd] at hHeld ⊢
          have hdx : Ext w11 Wd := by rw [← hWd]; exact (Ext.refl _).drew
          have HS0 := Lib.hid hHeld
          clear hWd
          refine wpAnyT_take (i := 0) (v := ?_) rfl (by kernel_rfl) (fun _ _ _ h => h) (Or.inl ⟨by rfl, ?_⟩) (by assumption) ?_
          rotate_left
          · (intro W hSw; (try dsimp only at hSw); go_simp; (try with_reducible rfl))
          try simp only [Act.put, List.setIfInBounds_toArray, List.set_cons_zero, List.set_cons_succ]
          refine wpAnyT_take (i := 2) (v := ?_) rfl (by kernel_rfl) (fun _ _ _ h => h) (Or.inl ⟨by rfl, ?_⟩) (by assumption) ?_
          rotate_left
          · (intro W hSw; (try dsimp only at hSw); go_simp; (try with_reducible rfl))
          try simp only [Act.put, List.setIfInBounds_toArray, List.set_cons_zero, List.set_cons_succ]
          refine wpAnyT_take (i := 3) (v := ?_) rfl (by kernel_rfl) (fun _ _ _ h => h) (Or.inl ⟨by rfl, ?_⟩) (by assumption) ?_
          rotate_left
          · (intro W hSw; (try dsimp only at hSw); go_simp; (try with_reducible rfl))
          try simp only [Act.put, List.setIfInBounds_toArray, List.set_cons_zero, List.set_cons_succ]
          refine wpAnyT_one (i := 1) rfl (by kernel_rfl) (fun K hK => ?_)
          go_simp
          refine hK.out _ _ (fun _ => ⟨hdx.alloc _, ext_cell ((Ext.refl _).alloc _) HS0.out.2.1, ext_cell ((Ext.refl _).alloc _) HS0.out.2.2.1, ext_cell ((Ext.refl _).alloc _) HS0.out.2.2.2⟩) (fun hH => ?_)
          replace hHeld := hH (by decide)
          clear hK K hH
          try simp only [Act.put, List.setIfInBounds_toArray, List.set_cons_zero, List.set_cons_succ]
          refine wpAnyT_one (i := 4) rfl (by kernel_rfl) (fun K hK => ?_)
          (refine step_append_ex (by rfl) _ _ _ (by rfl) (by rfl) (by rfl) (HAPY.out Wd hdx) ?_)
          rintro v' w12 ⟨⟨aRY, cRY, rfl, rRY, oRY⟩, hxk⟩
          refine hK.out _ _ (fun _ => ⟨hdx.trans hxk, ext_cell hxk HS0.out.2.1, ext_cell hxk HS0.out.2.2.1, ext_cell hxk HS0.out.2.2.2⟩) (fun hH => ?_)
          replace hHeld := hH (by decide)
          clear hK K hH
          try simp only [Act.put, List.setIfInBounds_toArray, List.set_cons_zero, List.set_cons_succ]
          refine wpAnyT_one (i := 5) rfl (by kernel_rfl) (fun K hK => ?_)
          go_simp
          refine hK.out _ _ (fun h => absurd rfl h) (fun _ => ?_)
          clear hK K hHeld
          try simp only [Act.put, List.setIfInBounds_toArray, List.set_cons_zero, List.set_cons_succ]
          refine wpAnyT_done (by kernel_rfl) ?_ _
          have EY := hdx.trans hxk
          clear hdx hxk HS0 HAPY HRBY
          have HO12 := Lib.hid (HO11.out.ext EY); have RX12 := Lib.hid (RX11.out.ext EY); have BA12 := Lib.hid (BA11.out.ext EY); have BB12 := Lib.hid (BB11.out.ext EY); have HB12 := Lib.hid (Below.trans HB11.out (Below.mono EY HB11.out.size)); have RY12 := Lib.hid rRY; have OY12 := Lib.hid oRY
          clear HO11 RX11 RY11 BA11 BB11 HB11 OYn rRY oRY EY
          have k0 := BA12.out.2 0 _ rfl; have k1 := BA12.out.2 1 _ rfl; have k2 := BA12.out.2 2 _ rfl
          obtain ⟨gY, fY, hgY, _, _, _, _⟩ := sp_at RY12.out.2 RY12.out.1 (Nat.succ_pos _)
          subst hgY
          have hcY : k + 1 ≤ cRY := by obtain ⟨_, _, hv, hc⟩ := RY12.out.2.len; injection hv with _ _ e; omega
          obtain ⟨DY, hDY⟩ : ∃ x : Option Addr, (if cRY = 1 then some ⟨gY, fY, none⟩ else some ⟨gY, fY + 1 * 3, none⟩) = x := ⟨_, rfl⟩
          have rdY := rdO_behind RY12.out; have odY := Off.behind (c := cRY) (k := 1) OY12.out (Nat.succ_pos _)
          rw [hDY] at rdY odY
          simp only [Nat.one_mul] at hDY
          have x5Y : (k : Int) + 1 ≤ (cRY : Int) := by omega
          have RDY := Lib.hid rdY; have ODY := Lib.hid odY
          clear rdY odY hcY
          go_wp2_with fail
          refine (HT1.out _).mono ?_; rintro e w13 ⟨rfl, hx13⟩
          have j0 := ext_cell hx13 (BB12.out.2 0 _ rfl); have j1 := ext_cell hx13 (BB12.out.2 1 _ rfl); have j2 := ext_cell hx13 (BB12.out.2 2 _ rfl)
          go_wp2_with fail
          refine (HT2.out _).mono ?_; rintro e w14 ⟨rfl, hx14⟩
          have E14 := Lib.hid (hx13.trans hx14)
          clear hx13 hx14 k0 k1 k2 j0 j1 j2
          go_wp2_with fail
          go_roundw
          case rel => exact ⟨((a1, ax2, ax3) :: xs), ys, os ++ [(b1, qx2, qx3)], aRX, DY, m + 1, k, cRX, cRY - 1, rfl, rfl, RX12.out.ext E14.out, RDY.out.ext E14.out, HO12.out.ext E14.out, ⟨OX11.out, ODY.out⟩, HR.out, HT.out, HSID2.out, Below.trans HB12.out (Below.mono E14.out HB12.out.size)⟩
          case measure => simp [slen]; try omega
        · have kk : (b1 == 1) = false := by rw [beq_eq_false_iff_ne]; exact hk1
          have kl : (a1 == 1) = false := by rw [beq_eq_false_iff_ne]; exact hk2
          have hr2 := HROW2.out; have ht2 := HTT2.out
          rw [if_neg hk1, if_neg hk2, List.append_nil] at hr2 ht2
          have HR := Lib.hid hr2; have HT := Lib.hid ht2
          clear hr2 ht2
          clear HROW2 HTT2 hk1 hk2
          go_wp2_with fail
          obtain ⟨w10, hw10⟩ : ∃ x, ((w8.alloc (.cells #[.int .i64 b1, .int .i64 qx2, .string qx3] 48)).alloc (.cells #[.int .i64 b1, .int .i64 bx2, .string bx3] 48)) = x := ⟨_, rfl⟩
          rw [hw10] at E9 HBA9 HBB ⊢
          have HOn := Lib.hid (HO.out.ext E9.out); have RXn := Lib.hid (RX.out.ext E9.out); have RYn := Lib.hid (RY.out.ext E9.out)
          have OXn := OFX; have OYn := OFY; have BAn := HBA9; have BBn := HBB
          have HBn := Lib.hid (Below.trans HBR.out (Below.mono E9.out HBR.out.size))
          clear hw10
          have x3 : (1 : Int) ≤ (m : Int) + 1 := by omega
          have x4 : (m : Int) + 1 ≤ (cx : Int) := by omega
          have y3 : (1 : Int) ≤ (k : Int) + 1 := by omega
          have y4 : (k : Int) + 1 ≤ (cy : Int) := by omega
          obtain ⟨AX, hAX⟩ : ∃ x : Option Addr, (if cx = 1 then some ⟨bX, oX, none⟩ else some ⟨bX, oX + 1 * 3, none⟩) = x := ⟨_, rfl⟩
          have hrbX := rdO_behind RXn.out
          rw [hAX] at hrbX
          simp only [Nat.one_mul] at hAX
          have HRBX := Lib.hid hrbX
          clear hrbX
          have HAPX : Hid (∀ W, Ext w10 W → ∃ v' w', (Builtin.append_ #[22, 22] 22 #[.slice (some ⟨W.heap.size, 0, none⟩) 1 1, .slice AX m (cx - 1)]).run Tryd.prog (W.alloc (.cells #[.int .i64 a1, .int .i64 ax2, .string ax3] 48)) = .ok v' w' ∧ ((∃ aR cR, v' = .slice aR (m + 1) cR ∧ RdO w' aR (m + 1) cR ((a1, ax2, ax3) :: xs) ∧ Off (m + 1) aR u10) ∧ Ext W w')) := Lib.hid fun W hx =>
            app_rest Tryd.underlying22 hi hz0 hz1 hz2 rfl HRBX.out (by omega) HOn.out hx
          refine region_T (fun W => Ext w10 W ∧ W.cell? ⟨G + 1, 0, none⟩ = some (.int .i64 a1) ∧ W.cell? ⟨G + 1, 1, none⟩ = some (.int .i64 ax2) ∧ W.cell? ⟨G + 1, 2, none⟩ = some (.string ax3)) 5 (by kernel_rfl) (⟨(Ext.refl _).drew, (BAn.out.ext (Ext.refl _).drew).2 0 _ rfl, (BAn.out.ext (Ext.refl _).drew).2 1 _ rfl, (BAn.out.ext (Ext.refl _).drew).2 2 _ rfl⟩) (fun hHeld => ?_)
          obtain ⟨Wd, hWd⟩ : ∃ x, w10.drew = x := ⟨_, rfl⟩
          rw [hWd] at hHeld ⊢
          have hdx : Ext w10 Wd := by rw [← hWd]; exact (Ext.refl _).drew
          have HS0 := Lib.hid hHeld
          clear hWd
          refine wpAnyT_take (i := 0) (v := ?_) rfl (by kernel_rfl) (fun _ _ _ h => h) (Or.inl ⟨by rfl, ?_⟩) (by assumption) ?_
          rotate_left
          · (intro W hSw; (try dsimp only at hSw); go_simp; (try with_reducible rfl))
          try simp only [Act.put, List.setIfInBounds_toArray, List.set_cons_zero, List.set_cons_succ]
          refine wpAnyT_take (i := 2) (v := ?_) rfl (by kernel_rfl) (fun _ _ _ h => h) (Or.inl ⟨by rfl, ?_⟩) (by assumption) ?_
          rotate_left
          · (intro W hSw; (try dsimp only at hSw); go_simp; (try with_reducible rfl))
          try simp only [Act.put, List.setIfInBounds_toArray, List.set_cons_zero, List.set_cons_succ]
          refine wpAnyT_take (i := 3) (v := ?_) rfl (by kernel_rfl) (fun _ _ _ h => h) (Or.inl ⟨by rfl, ?_⟩) (by assumption) ?_
          rotate_left
          · (intro W hSw; (try dsimp only at hSw); go_simp; (try with_reducible rfl))
          try simp only [Act.put, List.setIfInBounds_toArray, List.set_cons_zero, List.set_cons_succ]
          refine wpAnyT_one (i := 1) rfl (by kernel_rfl) (fun K hK => ?_)
          go_simp
          refine hK.out _ _ (fun _ => ⟨hdx.alloc _, ext_cell ((Ext.refl _).alloc _) HS0.out.2.1, ext_cell ((Ext.refl _).alloc _) HS0.out.2.2.1, ext_cell ((Ext.refl _).alloc _) HS0.out.2.2.2⟩) (fun hH => ?_)
          replace hHeld := hH (by decide)
          clear hK K hH
          try simp only [Act.put, List.setIfInBounds_toArray, List.set_cons_zero, List.set_cons_succ]
          refine wpAnyT_one (i := 4) rfl (by kernel_rfl) (fun K hK => ?_)
          (refine step_append_ex (by rfl) _ _ _ (by rfl) (by rfl) (by rfl) (HAPX.out Wd hdx) ?_)
          rintro v' w11 ⟨⟨aRX, cRX, rfl, rRX, oRX⟩, hxk⟩
          refine hK.out _ _ (fun _ => ⟨hdx.trans hxk, ext_cell hxk HS0.out.2.1, ext_cell hxk HS0.out.2.2.1, ext_cell hxk HS0.out.2.2.2⟩) (fun hH => ?_)
          replace hHeld := hH (by decide)
          clear hK K hH
          try simp only [Act.put, List.setIfInBounds_toArray, List.set_cons_zero, List.set_cons_succ]
          refine wpAnyT_one (i := 5) rfl (by kernel_rfl) (fun K hK => ?_)
          go_simp
          refine hK.out _ _ (fun h => absurd rfl h) (fun _ => ?_)
          clear hK K hHeld
          try simp only [Act.put, List.setIfInBounds_toArray, List.set_cons_zero, List.set_cons_succ]
          refine wpAnyT_done (by kernel_rfl) ?_ _
          have EX := hdx.trans hxk
          clear hdx hxk HS0 HAPX HRBX
          have HO11 := Lib.hid (HOn.out.ext EX); have RY11 := Lib.hid (RYn.out.ext EX); have BA11 := Lib.hid (BAn.out.ext EX); have BB11 := Lib.hid (BBn.out.ext EX); have HB11 := Lib.hid (Below.trans HBn.out (Below.mono EX HBn.out.size)); have RX11 := Lib.hid rRX; have OX11 := Lib.hid oRX
          clear HOn RYn RXn BAn BBn HBn OXn rRX oRX EX
          go_wp2_with fail
          obtain ⟨AY, hAY⟩ : ∃ x : Option Addr, (if cy = 1 then some ⟨bY, oY, none⟩ else some ⟨bY, oY + 1 * 3, none⟩) = x := ⟨_, rfl⟩
          have hrbY := rdO_behind RY11.out
          rw [hAY] at hrbY
          simp only [Nat.one_mul] at hAY
          have HRBY := Lib.hid hrbY
          clear hrbY
          have HAPY : Hid (∀ W, Ext w11 W → ∃ v' w', (Builtin.append_ #[22, 22] 22 #[.slice (some ⟨W.heap.size, 0, none⟩) 1 1, .slice AY k (cy - 1)]).run Tryd.prog (W.alloc (.cells #[.int .i64 b1, .int .i64 bx2, .string bx3] 48)) = .ok v' w' ∧ ((∃ aR cR, v' = .slice aR (k + 1) cR ∧ RdO w' aR (k + 1) cR ((b1, bx2, bx3) :: ys) ∧ Off (k + 1) aR u10) ∧ Ext W w')) := Lib.hid fun W hx =>
            app_rest Tryd.underlying22 hi hz0 hz1 hz2 rfl HRBY.out (by omega) HO11.out hx
          refine region_T (fun W => Ext w11 W ∧ W.cell? ⟨H + 1, 0, none⟩ = some (.int .i64 b1) ∧ W.cell? ⟨H + 1, 1, none⟩ = some (.int .i64 bx2) ∧ W.cell? ⟨H + 1, 2, none⟩ = some (.string bx3)) 5 (by kernel_rfl) (⟨(Ext.refl _).drew, (BB11.out.ext (Ext.refl _).drew).2 0 _ rfl, (BB11.out.ext (Ext.refl _).drew).2 1 _ rfl, (BB11.out.ext (Ext.refl _).drew).2 2 _ rfl⟩) (fun hHeld => ?_)
          obtain ⟨Wd, hWd⟩ : ∃ x, w11.drew = x := ⟨_, rfl⟩
          rw [hWd] at hHeld ⊢
          have hdx : Ext w11 Wd := by rw [← hWd]; exact (Ext.refl _).drew
          have HS0 := Lib.hid hHeld
          clear hWd
          refine wpAnyT_take (i := 0) (v := ?_) rfl (by kernel_rfl) (fun _ _ _ h => h) (Or.inl ⟨by rfl, ?_⟩) (by assumption) ?_
          rotate_left
          · (intro W hSw; (try dsimp only at hSw); go_simp; (try with_reducible rfl))
          try simp only [Act.put, List.setIfInBounds_toArray, List.set_cons_zero, List.set_cons_succ]
          refine wpAnyT_take (i := 2) (v := ?_) rfl (by kernel_rfl) (fun _ _ _ h => h) (Or.inl ⟨by rfl, ?_⟩) (by assumption) ?_
          rotate_left
          · (intro W hSw; (try dsimp only at hSw); go_simp; (try with_reducible rfl))
          try simp only [Act.put, List.setIfInBounds_toArray, List.set_cons_zero, List.set_cons_succ]
          refine wpAnyT_take (i := 3) (v := ?_) rfl (by kernel_rfl) (fun _ _ _ h => h) (Or.inl ⟨by rfl, ?_⟩) (by assumption) ?_
          rotate_left
          · (intro W hSw; (try dsimp only at hSw); go_simp; (try with_reducible rfl))
          try simp only [Act.put, List.setIfInBounds_toArray, List.set_cons_zero, List.set_cons_succ]
          refine wpAnyT_one (i := 1) rfl (by kernel_rfl) (fun K hK => ?_)
          go_simp
          refine hK.out _ _ (fun _ => ⟨hdx.alloc _, ext_cell ((Ext.refl _).alloc _) HS0.out.2.1, ext_cell ((Ext.refl _).alloc _) HS0.out.2.2.1, ext_cell ((Ext.refl _).alloc _) HS0.out.2.2.2⟩) (fun hH => ?_)
          replace hHeld := hH (by decide)
          clear hK K hH
          try simp only [Act.put, List.setIfInBounds_toArray, List.set_cons_zero, List.set_cons_succ]
          refine wpAnyT_one (i := 4) rfl (by kernel_rfl) (fun K hK => ?_)
          (refine step_append_ex (by rfl) _ _ _ (by rfl) (by rfl) (by rfl) (HAPY.out Wd hdx) ?_)
          rintro v' w12 ⟨⟨aRY, cRY, rfl, rRY, oRY⟩, hxk⟩
          refine hK.out _ _ (fun _ => ⟨hdx.trans hxk, ext_cell hxk HS0.out.2.1, ext_cell hxk HS0.out.2.2.1, ext_cell hxk HS0.out.2.2.2⟩) (fun hH => ?_)
          replace hHeld := hH (by decide)
          clear hK K hH
          try simp only [Act.put, List.setIfInBounds_toArray, List.set_cons_zero, List.set_cons_succ]
          refine wpAnyT_one (i := 5) rfl (by kernel_rfl) (fun K hK => ?_)
          go_simp
          refine hK.out _ _ (fun h => absurd rfl h) (fun _ => ?_)
          clear hK K hHeld
          try simp only [Act.put, List.setIfInBounds_toArray, List.set_cons_zero, List.set_cons_succ]
          refine wpAnyT_done (by kernel_rfl) ?_ _
          have EY := hdx.trans hxk
          clear hdx hxk HS0 HAPY HRBY
          have HO12 := Lib.hid (HO11.out.ext EY); have RX12 := Lib.hid (RX11.out.ext EY); have BA12 := Lib.hid (BA11.out.ext EY); have BB12 := Lib.hid (BB11.out.ext EY); have HB12 := Lib.hid (Below.trans HB11.out (Below.mono EY HB11.out.size)); have RY12 := Lib.hid rRY; have OY12 := Lib.hid oRY
          clear HO11 RX11 RY11 BA11 BB11 HB11 OYn rRY oRY EY
          have k0 := BA12.out.2 0 _ rfl; have k1 := BA12.out.2 1 _ rfl; have k2 := BA12.out.2 2 _ rfl
          obtain ⟨gY, fY, hgY, _, _, _, _⟩ := sp_at RY12.out.2 RY12.out.1 (Nat.succ_pos _)
          subst hgY
          have hcY : k + 1 ≤ cRY := by obtain ⟨_, _, hv, hc⟩ := RY12.out.2.len; injection hv with _ _ e; omega
          obtain ⟨DY, hDY⟩ : ∃ x : Option Addr, (if cRY = 1 then some ⟨gY, fY, none⟩ else some ⟨gY, fY + 1 * 3, none⟩) = x := ⟨_, rfl⟩
          have rdY := rdO_behind RY12.out; have odY := Off.behind (c := cRY) (k := 1) OY12.out (Nat.succ_pos _)
          rw [hDY] at rdY odY
          simp only [Nat.one_mul] at hDY
          have x5Y : (k : Int) + 1 ≤ (cRY : Int) := by omega
          have RDY := Lib.hid rdY; have ODY := Lib.hid odY
          clear rdY odY hcY
          go_wp2_with fail
          refine (HT1.out _).mono ?_; rintro e w13 ⟨rfl, hx13⟩
          have j0 := ext_cell hx13 (BB12.out.2 0 _ rfl); have j1 := ext_cell hx13 (BB12.out.2 1 _ rfl); have j2 := ext_cell hx13 (BB12.out.2 2 _ rfl)
          go_wp2_with fail
          refine (HT2.out _).mono ?_; rintro e w14 ⟨rfl, hx14⟩
          have E14 := Lib.hid (hx13.trans hx14)
          clear hx13 hx14 k0 k1 k2 j0 j1 j2
          go_wp2_with fail
          go_roundw
          case rel => exact ⟨((a1, ax2, ax3) :: xs), ys, os, aRX, DY, m + 1, k, cRX, cRY - 1, rfl, rfl, RX12.out.ext E14.out, RDY.out.ext E14.out, HO12.out.ext E14.out, ⟨OX11.out, ODY.out⟩, HR.out, HT.out, HSID2.out, Below.trans HB12.out (Below.mono E14.out HB12.out.size)⟩
          case measure => simp [slen]; try omega
theorem compR9_c (A : Option Addr) (q c : Nat) (a : List Sp) (B : Option Addr) (q' c' : Nat) (b : List Sp) (w : World) (h : RdO w A q c a) (h' : RdO w B q' c' b) (hq : q ≤ 1000) (hq' : q' ≤ 1000)
    (hta : ∀ s ∈ a, s.2.2.size ≤ 1000000000) (htb : ∀ s ∈ b, s.2.2.size ≤ 1000000000) (hT : sumT a + sumT b ≤ 900000000) :
    Calls Tryd.prog 67 #[.slice A q c, .slice B q' c'] w (OpR w (compE a b) (compL a b)) := by
  have hla := h.1; have hlb := h'.1
  have HMA : Hid (∀ w', Ext w w' → _) := Lib.hid fun w' hx => mayR4_c A q c a w' (h.2.ext hx) h.1 hq hta
  have HMB : Hid (∀ w', Ext w w' → _) := Lib.hid fun w' hx => mayR4_c B q' c' b w' (h'.2.ext hx) h'.1 hq' htb
  have HOA : Hid (∀ w', Ext w w' → _) := Lib.hid fun w' hx => outR4_c A q c a w' (h.2.ext hx) h.1 hq hta
  have HIB : Hid (∀ w', Ext w w' → _) := Lib.hid fun w' hx => inR4_c B q' c' b w' (h'.2.ext hx) h'.1 hq'
  by_cases hma : mayL a = 0
  · by_cases hmb : mayL b = 0
    · by_cases hf : outL a = inL b
      · refine (compW_c A q c a B q' c' b w h.2 h.1 h'.2 h'.1 hq hq' hta htb hT hma hmb hf).mono ?_
        rintro e w' ⟨hx, A', n', c'', rfl, hr⟩
        have hE : compE a b = 0 := by unfold compE; rw [if_pos hma, if_pos hmb, if_pos hf]
        refine ⟨hx, A', n', c'', by rw [hE], ?_⟩
        rw [hE, if_pos rfl]; exact hr
      · have hE : compE a b = 5 := by unfold compE; rw [if_pos hma, if_pos hmb, if_neg hf]
        obtain ⟨alla, ai0, ai1⟩ := mayL_all hma (by omega)
        obtain ⟨allb, bi0, bi1⟩ := mayL_all hmb (by omega)
        have hob := outL_le a fun s hs => okW_of_may (alla s hs)
        have hwo : wrap64 (outL a) = outL a := by unfold wrap64; omega
        have hwi : wrap64 (inL b) = inL b := by unfold wrap64; omega
        have hb : (outL a != inL b) = true := by rw [bne_iff_ne]; exact hf
        have hb2 : (outL a == inL b) = false := by rw [beq_eq_false_iff_ne]; exact hf
        rw [hma] at HMA; rw [hmb] at HMB; rw [hwo] at HOA; rw [hwi] at HIB
        have HE := Lib.hid hE
        clear h h' hta htb hT hma hmb hf alla allb hob hwo hwi hE
        generalize inL b = IB at *
        generalize outL a = OA at *
        go_enter Tryd.func67, Tryd.ntmps67
        go_wp2_with fail
        refine (HMA.out _ (Ext.refl _)).mono ?_; rintro e w1 ⟨rfl, hx1⟩
        go_wp2_with fail
        refine (HMB.out _ hx1).mono ?_; rintro e w2 ⟨rfl, hx2⟩
        go_wp2_with fail
        refine (HOA.out _ (hx1.trans hx2)).mono ?_; rintro e w3 ⟨rfl, hx3⟩
        go_wp2_with fail
        refine (HIB.out _ ((hx1.trans hx2).trans hx3)).mono ?_; rintro e w4 ⟨rfl, hx4⟩
        go_wp2_with fail
        go_ret2
        refine ⟨((hx1.trans hx2).trans hx3).trans hx4, none, 0, 0, by rw [HE.out]; rfl, ?_⟩
        rw [HE.out, if_neg (by decide)]; exact ⟨rfl, Rd.nil _ _⟩
    · have hE : compE a b = mayL b := by unfold compE; rw [if_pos hma, if_neg hmb]
      rw [hma] at HMA
      have HE := Lib.hid hE; have HN := Lib.hid hmb
      have hb : (mayL b != 0) = true := by rw [bne_iff_ne]; exact hmb
      have hb2 : (mayL b == 0) = false := by rw [beq_eq_false_iff_ne]; exact hmb
      clear h h' hta htb hT hma hmb hE
      generalize mayL b = MB at *
      go_enter Tryd.func67, Tryd.ntmps67
      go_wp2_with fail
      refine (HMA.out _ (Ext.refl _)).mono ?_; rintro e w1 ⟨rfl, hx1⟩
      go_wp2_with fail
      refine (HMB.out _ hx1).mono ?_; rintro e w2 ⟨rfl, hx2⟩
      go_wp2_with fail
      go_ret2
      refine ⟨hx1.trans hx2, none, 0, 0, by rw [HE.out]; rfl, ?_⟩
      rw [HE.out, if_neg HN.out]; exact ⟨rfl, Rd.nil _ _⟩
  · have hE : compE a b = mayL a := by unfold compE; rw [if_neg hma]
    have HE := Lib.hid hE; have HN := Lib.hid hma
    have hb : (mayL a != 0) = true := by rw [bne_iff_ne]; exact hma
    have hb2 : (mayL a == 0) = false := by rw [beq_eq_false_iff_ne]; exact hma
    clear h h' hta htb hT hma hE
    generalize mayL a = MA at *
    go_enter Tryd.func67, Tryd.ntmps67
    go_wp2_with fail
    refine (HMA.out _ (Ext.refl _)).mono ?_; rintro e w1 ⟨rfl, hx1⟩
    go_wp2_with fail
    refine (HMB.out _ hx1).mono ?_; rintro e w2 ⟨rfl, hx2⟩
    go_wp2_with fail
    go_ret2
    refine ⟨hx1.trans hx2, none, 0, 0, by rw [HE.out]; rfl, ?_⟩
    rw [HE.out, if_neg HN.out]; exact ⟨rfl, Rd.nil _ _⟩
end Go.Proofs.YtfjiookndleaeaaDoor
