/- Layer 10, the program: one, Of. -/
import Derived.Test.YtcelgdoaohkgnaaDoorP10a
namespace Go.Proofs.YtcelgdoaohkgnaaDoor
open Go.RowKit
set_option maxRecDepth 100000
set_option maxHeartbeats 4000000
theorem RdSS.take {w : World} {A : Option Addr} {n c : Nat} {ls : List (List Sp)} (h : RdSS w A n c ls) {k : Nat} (hk : k ≤ n) : RdSS w A k c (ls.take k) := by
  obtain ⟨h1, vs, h2, h3⟩ := h
  refine ⟨by rw [List.length_take, h1]; omega, vs.take (k * 1), h2.take hk, fun i l hl => ?_⟩
  rw [List.getElem?_take] at hl
  split at hl
  · rename_i hik
    obtain ⟨a, q, g1, g2⟩ := h3 i l hl
    exact ⟨a, q, by rw [List.getElem?_take, if_pos (by omega)]; exact g1, g2⟩
  · cases hl
theorem RdSS.drop {w : World} {b o n c : Nat} {ls : List (List Sp)} (h : RdSS w (some ⟨b, o, none⟩) n c ls) {k : Nat} (hk : k < n) : RdSS w (some ⟨b, o + k, none⟩) (n - k) (c - k) (ls.drop k) := by
  obtain ⟨h1, vs, h2, h3⟩ := h
  have h4 := h2.drop (m := k) (by omega)
  rw [Nat.mul_one] at h4
  refine ⟨by rw [List.length_drop, h1], _, h4, fun i l hl => ?_⟩
  rw [List.getElem?_drop] at hl
  obtain ⟨a, q, g1, g2⟩ := h3 _ l hl
  exact ⟨a, q, by rw [List.getElem?_drop]; exact g1, g2⟩
theorem RdSS.addr {w : World} {A : Option Addr} {n c : Nat} {ls : List (List Sp)} (h : RdSS w A n c ls) (hn : 0 < n) : ∃ b o, A = some ⟨b, o, none⟩ ∧ b < w.heap.size ∧ n ≤ c := by
  obtain ⟨h1, vs, ⟨_, A', c', hv, hc, h2⟩, h3⟩ := h
  injection hv with e1 e2 e3
  subst e1; subst e3
  obtain ⟨b, o, hA, hb, _⟩ := h2 hn
  exact ⟨b, o, hA, hb, hc⟩
/-- What a row of operations comes to, half by half. -/
def OneR (w : World) (n : Int) (ls : List (List Sp)) (m : Int) (e : Ending) (w' : World) : Prop :=
  Ext w w' ∧ ∃ A q c L, e = .returned (.slice A q c) ∧ RdO w' A q c L ∧ Seg n ls m L ∧ (ls = [L] ∨ isN L)
theorem seg_fit {n k m : Int} {a b : List (List Sp)} {X Y : List Sp} (hls : lenS a + lenS b ≤ 900 ∧ sumTT a + sumTT b ≤ 400000000) (hX : Seg n a k X) (hY : Seg k b m Y) (hn : n ≤ 1048576) (hk : k ≤ 1048576) (h0 : 0 ≤ n) (h0' : 0 ≤ k) :
    X.length ≤ 1000 ∧ Y.length ≤ 1000 ∧ (∀ s ∈ X, s.2.2.size ≤ 1000000000) ∧ (∀ s ∈ Y, s.2.2.size ≤ 1000000000) ∧ sumT X + sumT Y ≤ 900000000 ∧ compE X Y = 0 := by
  have h1 := hX.len; have h2 := hX.txt; have h3 := hY.len; have h4 := hY.txt
  have i1 := hX.inb; have i2 := hY.inb; have i3 := hX.out
  refine ⟨by omega, by omega, fun s hs => by have := le_sumT _ s hs; omega, fun s hs => by have := le_sumT _ s hs; omega, by omega, ?_⟩
  unfold compE
  rw [if_pos (okW_mayL _ hX.ok (by omega)).1, if_pos (okW_mayL _ hY.ok (by omega)).1, if_pos (by omega)]
theorem thru_head {ls : List (List Sp)} {n m : Int} (h : Thru n ls m) (hne : 0 < ls.length) : n ≤ 1048576 := by
  cases ls with
  | nil => simp at hne
  | cons l r => exact h.2.2.2.1
theorem one10_c (N : Nat) : ∀ (A : Option Addr) (n c : Nat) (ls : List (List Sp)) (k m : Int) (w : World) [Tab w], n ≤ N → 0 < n → RdSS w A n c ls → Thru k ls m → Sm ls →
    Calls Tryd.prog 50 #[.slice A n c, .func (.func 52) #[] #[]] w (OneR w k ls m) := by
  induction N with
  | zero => intro A n c ls k m w _ hN h0; omega
  | succ N ih =>
    intro A n c ls k m w _ hN h0 h hth hS
    have hln := h.1
    have hnum := hS.num
    by_cases hn1 : n = 1
    · subst hn1
      match ls, hln, h, hth with
      | [l], _, h, hth =>
      obtain ⟨b, off, a, kc, rfl, hb, p0, hr⟩ := h.at_ (i := 0) (by omega) (by simp)
      have hr' : RdO w a l.length kc l := ⟨rfl, hr⟩
      have p0' : w.cell? ⟨b, off, none⟩ = some (.slice a l.length kc) := p0
      have HS := Lib.hid (seg_one hth)
      have HR := Lib.hid hr'
      clear h hth hr hr' hS p0 ih
      obtain ⟨q, hq⟩ : ∃ q, l.length = q := ⟨_, rfl⟩
      rw [hq] at p0' HR
      clear hq
      go_enter Tryd.func50, Tryd.ntmps50
      go_wp2_with fail
      go_ret
      exact ⟨Ext.refl _, a, q, kc, l, rfl, HR.out, HS.out, .inl rfl⟩
    · obtain ⟨b, o, rfl, hb, hc⟩ := h.addr h0
      obtain ⟨hf, hhf⟩ : ∃ hf, n / 2 = hf := ⟨_, rfl⟩
      have f1 : 0 < hf := by omega
      have f2 : hf < n := by omega
      have f3 : 0 < n - hf := by omega
      obtain ⟨j, t1, t2⟩ := thru_take hth hf
      have e1 := lenS_take ls hf
      have l1 : (ls.take hf).length = hf := by rw [List.length_take]; omega
      have l2 : (ls.drop hf).length = n - hf := by rw [List.length_drop]; omega
      have S1 : Sm (ls.take hf) := ⟨by have := hS.len; omega, by have := hS.txt; omega, by omega⟩
      have S2 : Sm (ls.drop hf) := ⟨by have := hS.len; omega, by have := hS.txt; omega, by omega⟩
      have H1 : Hid (∀ w', Ext w w' → Calls Tryd.prog 50 #[.slice (some ⟨b, o, none⟩) hf c, .func (.func 52) #[] #[]] w' (OneR w' k (ls.take hf) j)) :=
        Lib.hid fun w' hx => have hTb := tab_ext hx; ih _ _ _ _ _ _ _ (by omega) f1 ((h.ext hx).take (by omega)) t1 S1
      have H2 : Hid (∀ w', Ext w w' → Calls Tryd.prog 50 #[.slice (some ⟨b, o + hf, none⟩) (n - hf) (c - hf), .func (.func 52) #[] #[]] w' (OneR w' j (ls.drop hf) m)) :=
        Lib.hid fun w' hx => have hTb := tab_ext hx; ih _ _ _ _ _ _ _ (by omega) f3 ((h.ext hx).drop f2) t2 S2
      have hk1 := thru_head hth (by omega)
      have hj1 := thru_head t2 (by omega)
      have H3 : Hid (∀ w' (A1 A2 : Option Addr) (q1 c1 q2 c2 : Nat) (X Y : List Sp), Ext w w' → RdO w' A1 q1 c1 X → RdO w' A2 q2 c2 Y → Seg k (ls.take hf) j X → Seg j (ls.drop hf) m Y → Calls Tryd.prog 52 #[.slice A1 q1 c1, .slice A2 q2 c2] w' (TellsL w' (compL X Y))) :=
        Lib.hid fun w' A1 A2 q1 c1 q2 c2 X Y hx r1 r2 s1 s2 => have hTb := tab_ext hx; by
          obtain ⟨a1, a2, a3, a4, a5, a6⟩ := seg_fit ⟨by have := hS.len; omega, by have := hS.txt; omega⟩ s1 s2 hk1 hj1 hth.pos t2.pos
          exact both10_c A1 q1 c1 X A2 q2 c2 Y w' r1 r2 (by have := r1.1; omega) (by have := r2.1; omega) a3 a4 a5 a6
      have H4 : Hid (∀ X Y : List Sp, Seg k (ls.take hf) j X → Seg j (ls.drop hf) m Y → Seg k ls m (compL X Y) ∧ isN (compL X Y)) := Lib.hid fun X Y s1 s2 => by
        have g := seg_comp t1 t2 s1 s2 hk1
        rw [List.take_append_drop] at g
        exact g
      have d1 : ((n : Int) == 1) = false := by rw [beq_eq_false_iff_ne]; omega
      have d2 : (n : Int).tdiv 2 = (hf : Int) := by rw [Int.tdiv_eq_ediv_of_nonneg (by omega)]; omega
      have d3 : (n : Int) / 2 = (hf : Int) := by omega
      have g1 : (0 : Int) ≤ (hf : Int) := by omega
      have g2 : (hf : Int) ≤ (n : Int) := by omega
      have g3 : (hf : Int) ≤ (c : Int) := by omega
      have g4 : (n : Int) ≤ (c : Int) := by omega
      have g9 : (hf : Int) ≤ 100001 := by omega
      have g6 : hf ≤ c := by omega
      have g7 : n ≤ c := by omega
      have g8 : hf ≤ n := by omega
      have g5 : ¬ c = hf := by omega
      obtain ⟨n2, hn2⟩ : ∃ n2, n - hf = n2 := ⟨_, rfl⟩
      obtain ⟨c2, hc2⟩ : ∃ c2, c - hf = c2 := ⟨_, rfl⟩
      rw [hn2, hc2] at H2
      clear h hth hS S1 S2 t1 t2 hln hnum e1 l1 l2 ih hhf hn1
      go_enter Tryd.func50, Tryd.ntmps50
      go_wp2_with fail
      have hrr := Ext.refl w
      go_region_held3 (fun W => Ext w W ∧ True)
        ((go_split_ands; refine ⟨?_, trivial⟩ <;> first | (exact Ext.drew ‹_›) | (exact Ext.trans ‹_› hxk) | go_keep))
        (first
        | (go_at_call_of 50 c; go_split_ands; refine (H1.out _ ‹Ext w _›).mono ?_; rintro e wA ⟨hxk, a1, q1, k1, X, rfl, r1, s1, _⟩)
        | (go_at_call_of 50 n2; go_split_ands; refine (H2.out _ ‹Ext w _›).mono ?_; rintro e wB ⟨hxk, a2, q2, k2, Y, rfl, r2, s2, _⟩)
        | (go_at_call 52; go_split_ands; refine (H3.out _ a1 a2 q1 k1 q2 k2 X Y ‹Ext w _› (r1.ext hxk) r2 s1 s2).mono ?_; rintro e wC ⟨hxk, a3, q3, k3, rfl, r3⟩)
        | fail)
      go_split_ands
      go_wp2_with fail
      go_ret
      obtain ⟨z1, z2⟩ := H4.out X Y s1 s2
      exact ⟨by assumption, a3, q3, k3, _, rfl, r3, z1, .inr z2⟩

theorem rdSS_cons {w : World} {A a : Option Addr} {n c q k : Nat} {X : List Sp} {vs : List Value} {ls : List (List Sp)} (hv : Rd w 1 (.slice A (1 + n) c) (1 + n) ([.slice a q k] ++ vs)) (r0 : RdO w a q k X)
    (hvs : ∀ (i : Nat) (l : List Sp), ls[i]? = some l → ∃ a k, vs[i]? = some (.slice a l.length k) ∧ Rd w 3 (.slice a l.length k) l.length (spCells l)) (hl : ls.length = n) : RdSS w A (1 + n) c (X :: ls) := by
  refine ⟨by rw [List.length_cons]; omega, _, hv, fun i l h => ?_⟩
  cases i with
  | zero =>
    rw [List.getElem?_cons_zero] at h
    injection h with h
    subst h
    obtain ⟨rfl, hr⟩ := r0
    exact ⟨a, k, rfl, hr⟩
  | succ i =>
    rw [List.getElem?_cons_succ] at h
    obtain ⟨a', k', g1, g2⟩ := hvs i l h
    exact ⟨a', k', by simpa using g1, g2⟩
theorem rdSS_one {w : World} {n : Nat} {vs : List Value} {ls : List (List Sp)} (hlen : vs.length = n * 1) (hl : ls.length = n)
    (hvs : ∀ (i : Nat) (l : List Sp), ls[i]? = some l → ∃ a k, vs[i]? = some (.slice a l.length k) ∧ Rd w 3 (.slice a l.length k) l.length (spCells l)) : ∀ u ∈ vs, u.oneCell' = true := by
  intro u hu
  obtain ⟨i, hi, rfl⟩ := List.mem_iff_getElem.1 hu
  have hil : i < ls.length := by omega
  obtain ⟨a, k, g1, _⟩ := hvs i _ (List.getElem?_eq_getElem hil)
  rw [List.getElem?_eq_getElem hi] at g1
  injection g1 with g1
  rw [g1]
  rfl
theorem of10_c (A : Option Addr) (n c : Nat) (ls : List (List Sp)) (m : Int) (w : World) [Tab w] (h : RdSS w A n c ls) (hS : Small ls) :
    Calls Tryd.prog 20 #[.int .i64 m, .slice A n c] w (OpR w (chainE m ls) (fuseL m ls)) := by
  have HC := Lib.hid (chain10_c A n c ls m w h hS.each hS.txt (by have := h.1; have := hS.num; omega))
  have HK : Hid (∀ w', Calls Tryd.prog 33 #[.int .i64 m] w' (KeepR w' m)) := Lib.hid fun w' => keep4_c m w'
  have hln := h.1
  have hnum := hS.num
  by_cases he : chainE m ls = 0
  · obtain ⟨hm, hth⟩ := chain_thru he hS.each
    have HF : Hid (fuseL m ls = spT (fR m ls)) := Lib.hid (thru_chainE hth hm.2).2.2
    obtain ⟨hth2, hfr⟩ := thru_keep hth hm.2
    have hk1 := keepL_len m
    have hSm : Sm (keepL m :: ls) := ⟨by rw [lenS_cons]; have := hS.len; omega, by
      rw [sumTT_cons]; have := hS.txt
      have e : sumT (keepL m) = 0 := by unfold keepL; split <;> rfl
      omega, by rw [List.length_cons]; omega⟩
    have H1 : Hid (∀ (A' : Option Addr) (c' : Nat) w', Ext w w' → RdSS w' A' (1 + n) c' (keepL m :: ls) → Calls Tryd.prog 50 #[.slice A' (1 + n) c', .func (.func 52) #[] #[]] w' (OneR w' m (keepL m :: ls) (chN m ls))) :=
      Lib.hid fun A' c' w' hx hr => have hTb := tab_ext hx; one10_c (1 + n) A' (1 + n) c' _ _ _ w' (by omega) (by omega) hr hth2 hSm
    have HFIN : Hid (∀ L, Seg m (keepL m :: ls) (chN m ls) L → (keepL m :: ls = [L] ∨ isN L) → L = spT (fR m ls)) := Lib.hid fun L hs hor => by
      rcases hor with hor | hor
      · injection hor with e1 e2
        rw [e2, fR_nil m hm.1, e1]
      · rw [seg_isN hs hor, hfr]
    have hm0 := hm.1
    have hm1 := hm.2
    obtain ⟨hl1, vs, hv, hvs⟩ := h
    have hvl := hv.1
    have HO := Lib.hid (rdSS_one hvl hln hvs)
    have HV := Lib.hid hv; have HVS := Lib.hid hvs
    rw [he] at HC
    rw [he]
    clear hth he hm hth2 hfr hS hSm hv hvs
    generalize chainN m ls = cn at *
    generalize chN m ls = cm at *
    go_enter Tryd.func20, Tryd.ntmps20
    go_wp2_with fail
    refine HC.out.mono ?_; rintro e w1 ⟨rfl, hx1⟩
    go_wp2_with fail
    refine (HK.out w1).mono ?_; rintro e w2 ⟨hx2, ⟨hk, _⟩ | ⟨_, _, v, rfl, hr2⟩⟩
    · omega
    obtain ⟨a0, q0, c0, rfl, r0⟩ := rdO_rd hr2
    have e2 := hx1.trans hx2
    obtain ⟨B0, hB0⟩ : ∃ B0, w2.heap.size = B0 := ⟨_, rfl⟩
    have e3 := (Ext.refl w2).alloc (.cells #[.slice a0 q0 c0] 22)
    have e4 := e3.alloc (.cells #[.slice (some ⟨B0, 0, none⟩) 1 1, .slice A n c] 42)
    have hsz : (w2.alloc (.cells #[.slice a0 q0 c0] 22)).heap.size = B0 + 1 := by rw [size_alloc, hB0]
    have hbx := BoxG.made (w2.alloc (.cells #[.slice a0 q0 c0] 22)) #[.slice (some ⟨B0, 0, none⟩) 1 1, .slice A n c] 42
    rw [hsz] at hbx
    have hrm := rd_made w2 _ B0 hB0 #[.slice a0 q0 c0] 22 ((Ext.refl _).alloc (.cells #[.slice (some ⟨B0, 0, none⟩) 1 1, .slice A n c] 42)) (size := 1) (n := 1) rfl (by omega)
    have HCAT := Lib.hid (concat10_c (B0 + 1) (some ⟨B0, 0, none⟩) 1 1 A n c [.slice a0 q0 c0] vs _ (hbx.2 0 _ rfl) (hbx.2 1 _ rfl) hrm (HV.out.ext (e2.trans e4)) (by intro u hu; rw [List.mem_singleton] at hu; subst hu; rfl) HO.out (by omega) (by omega) (by omega))
    have R0 := Lib.hid r0
    have E2 := Lib.hid e2
    have E4 := Lib.hid e4
    clear hr2 r0 hbx hrm e2 e3 e4 hx1 hx2
    go_wp2_with fail
    rw [hB0] at *
    refine HCAT.out.mono ?_; rintro e w5 ⟨v5, rfl, hx5, own5⟩
    obtain ⟨a5, c5, rfl, _⟩ := own5.len
    have r5 := rdSS_cons own5.rd (R0.out.ext (E4.out.trans hx5)) (fun i l hl => by
      obtain ⟨a, k, g1, g2⟩ := HVS.out i l hl
      exact ⟨a, k, g1, g2.ext ((E2.out.trans E4.out).trans hx5)⟩) hln
    have R5 := Lib.hid r5
    have E5 := Lib.hid ((E2.out.trans E4.out).trans hx5)
    clear own5 r5 hx5
    go_wp2_with fail
    refine (H1.out _ _ _ E5.out R5.out).mono ?_; rintro e w6 ⟨hx6, a6, q6, c6, L, rfl, r6, s6, n6⟩
    have hL := HFIN.out L s6 n6
    have RL : Hid (RdO w6 a6 q6 c6 (fuseL m ls)) := Lib.hid (by rw [HF.out, ← hL]; exact r6)
    clear r6 s6 n6 hL
    go_wp2_with fail
    go_ret2
    exact ⟨E5.out.trans hx6, a6, q6, c6, rfl, by rw [if_pos rfl]; exact RL.out⟩
  · have HN := Lib.hid he
    have t1 : (chainE m ls != 0) = true := by rw [bne_iff_ne]; exact he
    have t2 : (chainE m ls == 0) = false := by rw [beq_eq_false_iff_ne]; exact he
    clear h hln hS he HK hnum
    generalize chainN m ls = cn at *
    generalize chainE m ls = ce at *
    go_enter Tryd.func20, Tryd.ntmps20
    go_wp2_with fail
    refine HC.out.mono ?_; rintro e w1 ⟨rfl, hx1⟩
    go_wp2_with fail
    go_ret2
    refine ⟨hx1, none, 0, 0, rfl, ?_⟩
    rw [if_neg HN.out]; exact ⟨rfl, Rd.nil _ _⟩
end Go.Proofs.YtcelgdoaohkgnaaDoor
