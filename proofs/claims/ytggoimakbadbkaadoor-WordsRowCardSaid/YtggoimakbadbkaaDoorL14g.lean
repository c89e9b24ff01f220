/- Layer 14, WordsRow. -/
import Derived.Test.YtggoimakbadbkaaDoorL14c
import Derived.Test.YtggoimakbadbkaaDoorL10a
namespace Go.Proofs.YtggoimakbadbkaaDoor
open Go.RowKit
set_option maxRecDepth 100000
set_option maxHeartbeats 4000000
/-- The bytes of operations, one behind the other, each in its shortest form. -/
def rowW (ls : List (List Sp)) : List UInt8 := ls.flatMap fun l => wordsL (normL l)
theorem rowW_take (ls : List (List Sp)) (j : Nat) (h : j < ls.length) : rowW (ls.take (j + 1)) = rowW (ls.take j) ++ wordsL (normL ls[j]) := by
  unfold rowW; rw [List.take_add_one, List.getElem?_eq_getElem h, List.flatMap_append]; simp
theorem rowW_drop (ls : List (List Sp)) (j : Nat) (h : j < ls.length) : (rowW ls).drop (rowW (ls.take j)).length = wordsL (normL ls[j]) ++ rowW (ls.drop (j + 1)) := by
  have e : rowW ls = rowW (ls.take j) ++ (wordsL (normL ls[j]) ++ rowW (ls.drop (j + 1))) := by
    unfold rowW
    conv => lhs; rw [← List.take_append_drop j ls, List.drop_eq_getElem_cons h]
    rw [List.flatMap_append, List.flatMap_cons]
  rw [e, List.drop_left]
theorem rowW_le (ls : List (List Sp)) (j : Nat) : (rowW (ls.take j)).length ≤ (rowW ls).length := by
  have e := List.take_append_drop j ls
  have : (rowW ls).length = (rowW (ls.take j)).length + (rowW (ls.drop j)).length := by
    conv => lhs; rw [← e]
    unfold rowW; rw [List.flatMap_append, List.length_append]
  omega
theorem rowW_len (ls : List (List Sp)) : (rowW ls).length ≤ 4 * ls.length + 4 * lenS ls + sumTT ls := by
  induction ls with
  | nil => simp [rowW]
  | cons l r ih =>
    have h1 := wsL_len (normL l)
    have h2 := putL_length (normL l).length
    have h3 := norm_len l
    have h4 := sumT_norm l
    have e : (rowW (l :: r)).length = (wordsL (normL l)).length + (rowW r).length := by unfold rowW; rw [List.flatMap_cons, List.length_append]
    have e2 : (wordsL (normL l)).length = (putL (normL l).length).length + (wsL (normL l)).length := by unfold wordsL; rw [List.length_append]
    rw [lenS_cons, sumTT_cons, List.length_cons]
    omega
theorem thru_mem {ls : List (List Sp)} : ∀ {n m : Int}, Thru n ls m → ∀ l ∈ ls, (∀ s ∈ l, OkW s) ∧ inL l ≤ 1048576 := by
  induction ls with
  | nil => intro n m _ l hl; cases hl
  | cons x r ih =>
    intro n m h l hl
    obtain ⟨h1, h2, h3, h4, h5⟩ := h
    rcases List.mem_cons.1 hl with rfl | hl
    · exact ⟨h1, by omega⟩
    · exact ih h5 l hl
theorem wok_any {l : List Sp} (ok : ∀ s ∈ l, OkW s) (hi : inL l ≤ 1048576) (ht : sumT l ≤ 6240) (hl : l.length ≤ 260) :
    Ok l ∧ (∀ s ∈ normL l, WOk s) ∧ isN (normL l) ∧ mayL (normL l) = 0 ∧ (normL l).length ≤ 260 ∧ wordE (normL l) = 0 := by
  have hp := okW_pos l ok
  have hN := okW_N l ok
  have hO : Ok l := ⟨hp, by omega, by omega⟩
  have k3 := norm_is l hp
  have ok2 : ∀ s ∈ normL l, OkW s := by rw [norm_tok l ok]; exact spT_okW _ (tok_okT l ok)
  have i2 := inL_norm l
  have k4 := (okW_mayL (normL l) ok2 (by omega)).1
  have t2 := sumT_norm l
  have hl2 := norm_len l
  have hp2 := okW_pos _ ok2
  have hN2 := okW_N _ ok2
  refine ⟨hO, fun s hs => ⟨ok2 s hs, isN_ne _ k3 s hs, by have := le_sumT _ s hs; omega, by have := le_sumN _ hp2 s hs; omega⟩, k3, k4, by omega, ?_⟩
  unfold wordE; rw [if_pos k4, if_pos (is_norm _ k3)]
theorem wordsRow_c (A0 : Option Addr) (q0 c0 : Nat) (ls : List (List Sp)) (n : Int) (w : World) [Tab w] (h0 : RdSS w A0 q0 c0 ls) (hls : ∀ l ∈ ls, ∀ s ∈ l, s.2.2.size ≤ maxLen) (hn : (Lit.int .u8 n).wf = true) :
    Calls Tryd.prog 7 #[.slice A0 q0 c0, .int .u8 n] w fun e w' => e = .returned (.bool true) ∧ Below w.heap.size w w' := by
  obtain ⟨n0, n1⟩ := bounds_u8 hn
  obtain ⟨M, hM, hM0, hM1⟩ : ∃ M : Int, n % 64 = M ∧ 0 ≤ M ∧ M ≤ 63 := ⟨n % 64, rfl, by omega, by omega⟩
  have HW : Hid (∀ w', Ext w w' → Calls Tryd.prog 20 #[.slice A0 q0 c0, .int .i64 M] w' (TellsSS w' (chainL (ls.take 20) M))) := Lib.hid fun w' hx => chainRG (h0.ext hx) hls hM0 (by omega)
  obtain ⟨k, SW, TW, lW, tW, nW⟩ := made_chain ls M hM0 (by omega)
  have hLB := rowW_len (chainL (ls.take 20) M)
  have HK : Hid (∀ l ∈ chainL (ls.take 20) M, Ok l ∧ (∀ s ∈ normL l, WOk s) ∧ isN (normL l) ∧ mayL (normL l) = 0 ∧ (normL l).length ≤ 260 ∧ wordE (normL l) = 0 ∧ l.length ≤ 260) := Lib.hid fun l hl => by
    obtain ⟨o1, o2⟩ := thru_mem TW l hl
    have h1 := le_lenS l hl
    obtain ⟨a1, a2, a3, a4, a5, a6⟩ := wok_any o1 o2 (by omega) (by omega)
    exact ⟨a1, a2, a3, a4, a5, a6, by omega⟩
  clear SW TW h0 hls
  generalize chainL (ls.take 20) M = CW at *
  have HNO : Hid (∀ l ∈ CW, ∀ A n c w', Rd w' 3 (.slice A n c) n (spCells l) → l.length = n → Calls Tryd.prog 13 #[.slice A n c] w' (TellsL w' (normL l))) := Lib.hid fun l hl A n c w' hr hln => by
    obtain ⟨a1, _, _, _, _, _, a7⟩ := HK.out l hl
    refine (of5_c A n c l w' hr hln (by omega) a1).mono ?_
    rintro e w'' ⟨v, rfl, hx, ho⟩
    obtain ⟨A, n, c, rfl, hr⟩ := rdO_own ho
    exact ⟨hx, A, n, c, rfl, hr⟩
  have HP : Hid (∀ l ∈ CW, ∀ A n c w', Ext w w' → RdO w' A n c (normL l) → Calls Tryd.prog 11 #[.slice A n c] w' fun e w'' => Ext w' w'' ∧ ∃ A' n' c', e = .returned (.tuple #[.slice A' n' c', .int .i64 0]) ∧ n' = (wordsL (normL l)).length ∧ Rd w'' 1 (.slice A' n' c') n' (Lib.byteCells (wordsL (normL l)))) := Lib.hid fun l hl A n c w' hx hr => by
    have hTb := tab_ext hx
    obtain ⟨a1, a2, a3, a4, a5, a6, a7⟩ := HK.out l hl
    refine (wordPut_c A n c _ w' hr (by have := hr.1; omega) fun s hs => (a2 s hs).txt).mono ?_
    rintro e w'' ⟨hx, v, rfl, ho⟩
    have hB : wordB (normL l) = wordsL (normL l) := by unfold wordB; rw [if_pos a6]
    rw [hB] at ho
    obtain ⟨A', c', rfl, _⟩ := ho.len
    rw [a6]
    exact ⟨hx, A', _, c', rfl, rfl, ho.rd⟩
  have HT : Hid (∀ l ∈ CW, ∀ A n c r w', Ext w w' → n ≤ 200000 → Rd w' 1 (.slice A n c) n (Lib.byteCells (wordsL (normL l) ++ r)) → Calls Tryd.prog 15 #[.slice A n c] w' (TakeR w' (0, normL l, (wordsL (normL l)).length))) := Lib.hid fun l hl A n c r w' hx hn hr => by
    have hTb := tab_ext hx
    obtain ⟨a1, a2, a3, a4, a5, a6, a7⟩ := HK.out l hl
    have ht : (takeL (wordsL (normL l) ++ r)).1 = (normL l).length := by
      unfold wordsL; rw [List.append_assoc, take_put _ (by omega)]
    have h := takeWP2_c A n c _ w' hr hn (.inr (by omega))
    rw [takeW_put _ a2 a3 a4 (by omega)] at h
    exact h
  obtain ⟨i, hi, hz0, hz1, hz2⟩ := info_parts info_u8b
  obtain ⟨LB, hLB2⟩ : ∃ LB, (rowW CW).length = LB := ⟨_, rfl⟩
  have hLB3 : LB ≤ 8000 := by omega
  have HLB := Lib.hid hLB2
  clear hLB hLB2 lW tW
  go_enter Tryd.func7, Tryd.ntmps7
  go_wp2_with fail
  refine (shown14_c _).mono ?_; rintro e w1 ⟨rfl, hx1⟩
  have e1 : Ext w w1 := hx1
  go_wp2_with fail
  refine (HW.out _ e1).mono ?_; rintro e w2 ⟨hx2, aC, nC, cC, rfl, rC⟩
  have e2 := e1.trans hx2
  have RC := Lib.hid rC
  have hnl := rC.1
  have HNL := Lib.hid hnl
  have hn20 : nC ≤ 20 := by omega
  clear rC hnl hx1 hx2
  have own0 : Own (w2.alloc (.cells #[] 5)) w2.heap.size 5 1 (.slice (some ⟨w2.heap.size, 0, none⟩) 0 0) 0 (Lib.byteCells (rowW (CW.take 0))) := Own.made w2 w2.heap.size 5 1 0 #[] (Nat.le_refl _) (by omega) rfl
  have OWN0 := Lib.hid own0
  have X0 : Ext w2 (w2.alloc (.cells #[] 5)) := (Ext.refl w2).alloc _
  have HX0 := Lib.hid X0
  have E2 := Lib.hid e2
  clear own0 X0 e1 e2
  go_wp2_with fail
  go_loopw [7, 8] (fun v z wr => ∃ (j m : Nat), j ≤ nC ∧ z = .int .i64 j ∧ m ≤ LB ∧ Hid (m = (rowW (CW.take j)).length) ∧ Hid (Own wr w2.heap.size 5 1 v m (Lib.byteCells (rowW (CW.take j)))) ∧ Hid (Ext w2 wr)) (fun _ z _ => nC - (intOf z).toNat)
  case atStart => exact ⟨0, 0, by omega, rfl, by omega, Lib.hid rfl, OWN0, HX0⟩
  case round =>
    clear OWN0 HX0
    obtain ⟨j, m, hj, rfl, hm, HM, OWN, HX⟩ := hrel
    by_cases hlt : j < nC
    · have dn : decide (j < nC) = true := by rw [decide_eq_true_eq]; exact hlt
      have hjl : j < CW.length := by have := HNL.out; omega
      obtain ⟨b, off, a, kc, rfl, hb, q0, hr⟩ := (RC.out.ext HX.out).at_ hlt hjl
      have i0 : (0 : Int) ≤ (j : Int) := by omega
      have i1 : (j : Int) < (nC : Int) := by omega
      have hmem := List.getElem_mem hjl
      have CN := Lib.hid (HNO.out CW[j] hmem a _ kc wr hr rfl)
      have CP := Lib.hid (HP.out CW[j] hmem)
      have hst := rowW_take CW j hjl
      have hle := rowW_le CW (j + 1)
      rw [HLB.out, hst, List.length_append, ← HM.out] at hle
      have HST := Lib.hid hst
      obtain ⟨kl, hkl⟩ : ∃ kl, CW[j].length = kl := ⟨_, rfl⟩
      rw [hkl] at q0 CN
      obtain ⟨P, hP⟩ : ∃ P, wordsL (normL CW[j]) = P := ⟨_, rfl⟩
      rw [hP] at CP HST hle
      generalize normL CW[j] = L at *
      clear hr hmem hst hkl hP
      go_wp2_with fail
      refine CN.out.mono ?_; rintro e w3 ⟨hx3, a3, n3, c3, rfl, r3⟩
      have x3 := HX.out.trans hx3
      go_wp2_with fail
      refine (CP.out _ _ _ _ (E2.out.trans x3) r3).mono ?_; rintro e w4 ⟨hx4, a4, n4, c4, rfl, hn4, r4⟩
      have x4 := x3.trans hx4
      have own4 := (OWN.out.ext hx3).ext hx4
      obtain ⟨v', w', happ, hown', hbel'⟩ := app_rd (P := Tryd.prog) 23 23 5 i _ 1 1 Tryd.underlying23 hi hz0 hz1 hz2 rfl (by omega) (by omega) x4 own4 (by omega) r4 (by omega) (byteCells_one _)
      rw [← byteCells_append2, ← HST.out] at hown'
      have HAP := Lib.hid happ
      have HOWN := Lib.hid hown'
      have HBEL := Lib.hid hbel'
      have HM2 : Hid (m + n4 = (rowW (CW.take (j + 1))).length) := Lib.hid (by rw [HST.out, List.length_append, ← HM.out, hn4])
      have hm2 : m + n4 ≤ LB := by omega
      clear happ hown' hbel' own4 x4 x3 hx3 hx4 r3 r4 hn4 OWN
      go_wp2_with (at_builtin; refine wpList_append_run rfl rfl HAP.out rfl rfl ?_)
      go_roundw
      case rel => exact ⟨j + 1, m + n4, by omega, by go_num, hm2, HM2, HOWN, HBEL⟩
      case measure => simp [intOf]; omega
    · obtain rfl : j = nC := by omega
      have dn : decide (j < j) = false := by rw [decide_eq_false_iff_not]; omega
      have hall : CW.take j = CW := by rw [← HNL.out]; exact List.take_length
      have hmL : m = LB := by rw [HM.out, hall, HLB.out]
      subst hmL
      have own := OWN.out
      rw [hall] at own
      obtain ⟨aB, cB, rfl, hcB⟩ := own.len
      have hcB : m ≤ cB := hcB
      have RB := Lib.hid own.rd
      have XW := Lib.hid (E2.out.trans HX.out)
      have RC2 := Lib.hid (RC.out.ext HX.out)
      clear own OWN HM hall HX RC HP HW hlt hj
      obtain ⟨wB, hwB⟩ : ∃ W, W = wr := ⟨_, rfl⟩
      subst hwB
      go_wp2_with fail
      go_loopw [11, 12] (fun v z wi => ∃ (t off : Nat), t ≤ j ∧ z = .int .i64 t ∧ v = .int .i64 off ∧ off ≤ m ∧ Hid (off = (rowW (CW.take t)).length) ∧ Hid (Ext wB wi)) (fun _ z _ => j - (intOf z).toNat)
      case atStart => exact ⟨0, 0, by omega, rfl, rfl, by omega, Lib.hid rfl, Lib.hid (Ext.refl _)⟩
      case round =>
        obtain ⟨t, of, ht, rfl, rfl, hof, HOF, HXI⟩ := hrel
        have g1 : ¬ (m : Int) < (of : Int) := by omega
        have g0 : decide ((m : Int) < (of : Int)) = false := by rw [decide_eq_false_iff_not]; exact g1
        have g00 : decide (m < of) = false := by rw [decide_eq_false_iff_not]; omega
        by_cases hlt : t < j
        · have dn : decide (t < j) = true := by rw [decide_eq_true_eq]; exact hlt
          have hjl : t < CW.length := by have := HNL.out; omega
          obtain ⟨b, off, a, kc, rfl, hb, q0, hr⟩ := (RC2.out.ext HXI.out).at_ hlt hjl
          have i0 : (0 : Int) ≤ (t : Int) := by omega
          have i1 : (t : Int) < (j : Int) := by omega
          have hmem := List.getElem_mem hjl
          have hst := rowW_take CW t hjl
          have hdr := rowW_drop CW t hjl
          have hle := rowW_le CW (t + 1)
          rw [HLB.out, hst, List.length_append, ← HOF.out] at hle
          rw [← HOF.out] at hdr
          have hL3 : (normL CW[t]).length ≤ 300 := by have := (HK.out _ hmem).2.2.2.2.1; omega
          have hwp : 1 ≤ (wordsL (normL CW[t])).length := by unfold wordsL; rw [List.length_append]; have := putL_pos (normL CW[t]).length; omega
          obtain ⟨bB, oB, hAB⟩ : ∃ bB oB, aB = some ⟨bB, oB, none⟩ := by
            obtain ⟨_, A', c', hv, _, h2⟩ := RB.out
            obtain ⟨b1, o1, hA, _⟩ := h2 (by omega)
            injection hv with e1
            exact ⟨b1, o1, by rw [e1]; exact hA⟩
          subst hAB
          have hbd := bytes_behind (RB.out.ext HXI.out) hof
          rw [hdr] at hbd
          rw [if_neg (by omega)] at hbd
          have CT := Lib.hid (HT.out CW[t] hmem (some ⟨bB, oB + of, none⟩) (m - of) (cB - of) _ wr (XW.out.trans HXI.out) (by omega) hbd)
          have CN := Lib.hid (fun w' hx => HNO.out CW[t] hmem a _ kc w' (Rd.ext hr hx) rfl)
          have Q0 : Hid (∀ w', Ext wr w' → w'.cell? ⟨b, off + t, none⟩ = some (.slice a CW[t].length kc)) := Lib.hid fun w' hx => ext_cell hx q0
          obtain ⟨kl, hkl⟩ : ∃ kl, CW[t].length = kl := ⟨_, rfl⟩
          rw [hkl] at Q0 CN
          obtain ⟨P, hP⟩ : ∃ P, (wordsL (normL CW[t])).length = P := ⟨_, rfl⟩
          rw [hP] at CT hle hwp
          have HOF2 : Hid (of + P = (rowW (CW.take (t + 1))).length) := Lib.hid (by rw [hst, List.length_append, ← HOF.out, hP])
          have HL3 := Lib.hid hL3
          generalize normL CW[t] = L at *
          have p0 : (0 : Int) ≤ (of : Int) := by omega
          have p1 : (of : Int) ≤ (m : Int) := by omega
          have p2 : (of : Int) ≤ (cB : Int) := by omega
          have p3 : (m : Int) ≤ (cB : Int) := by omega
          clear hr hmem hst hdr hkl hP hL3 hbd q0
          go_wp2_with fail
          refine CT.out.mono ?_; rintro e w5 ⟨hx5, a5, n5, c5, rfl, r5⟩
          have q5 := Q0.out _ hx5
          have R5 := Lib.hid r5
          have t1 : ((P : Int) < 1) = False := by rw [eq_iff_iff, iff_false]; omega
          clear r5
          go_wp2_with fail
          refine (CN.out _ hx5).mono ?_; rintro e w6 ⟨hx6, a6, n6, c6, rfl, r6⟩
          have x6 := hx5.trans hx6
          go_wp2_with fail
          refine (sameTrueG rfl HL3.out (R5.out.ext hx6) r6).mono ?_; rintro e w7 ⟨rfl, hx7⟩
          have HX7 := Lib.hid (HXI.out.trans (x6.trans hx7))
          go_wp2_with fail
          go_roundw
          case rel => exact ⟨t + 1, of + P, by omega, by go_num, by go_num, by omega, HOF2, HX7⟩
          case measure => simp [intOf]; omega
        · obtain rfl : t = j := by omega
          have dn : decide (t < t) = false := by rw [decide_eq_false_iff_not]; omega
          have hof2 : of = m := by
            rw [HOF.out, show CW.take t = CW by rw [← HNL.out]; exact List.take_length, HLB.out]
          subst hof2
          go_wp2_with fail
          go_ret
          exact ⟨rfl, XW.out.trans HXI.out⟩
end Go.Proofs.YtggoimakbadbkaaDoor
