/- Layer 15, the program: Put, Take, PutRow, TakeRow, rises, steps, risen, what is written to and read from. -/
import Derived.Test.YtilldbbfdmdggaaC15
import Derived.Test.YtilldbbfdmdggaaP2
import Derived.Test.YtilldbbfdmdggaaC1f
import Derived.Test.YtilldbbfdmdggaaBf
namespace Go.Proofs.Ytilldbbfdmdggaa
open Go.RowKit
set_option maxRecDepth 100000
set_option maxHeartbeats 4000000
set_option linter.unusedSimpArgs false
theorem takeL_used {l : List UInt8} {n k f : Nat} (h : takeL l = (n, k, f)) : k ≤ l.length := by
  unfold takeL at h
  simp only at h
  split at h
  · injection h with h1 h2; injection h2 with h2 h3; omega
  · split at h
    · injection h with h1 h2; injection h2 with h2 h3; omega
    · split at h
      · injection h with h1 h2; injection h2 with h2 h3; omega
      · injection h with h1 h2; injection h2 with h2 h3; omega
theorem takeL_num {l : List UInt8} {n k f : Nat} (h : takeL l = (n, k, f)) : n < 268435456 := by
  by_cases hf : f = 0
  · subst hf; exact (take_some h).1
  · unfold takeL at h
    simp only at h
    split at h
    · injection h with h1 h2; omega
    · split at h
      · injection h with h1 h2; omega
      · split at h
        · injection h with h1 h2; omega
        · injection h with h1 h2; injection h2 with h2 h3; omega
theorem putP15 (x : Nat) (v : Int) (hv : v = (x : Int)) (hx : x < 268435456) (w : World) : Calls Try.prog 33 #[.int .i64 v] w fun e w' => ∃ A n c, e = .returned (.tuple #[.slice A n c, .int .i64 0]) ∧ Ext w w' ∧ Own w' w.heap.size 5 1 (.slice A n c) n (Lib.byteCells (putL x)) ∧ (putL x).length = n := by
  refine (putO_c v w).mono ?_
  rintro e w' ⟨hx', ⟨h, _⟩ | ⟨m, u, h1, h2, rfl, h4⟩⟩
  · omega
  · obtain rfl : m = x := by omega
    obtain ⟨A, c, rfl, _⟩ := h4.len
    exact ⟨A, _, c, rfl, hx', h4, rfl⟩
/-- The box of a writer, and the bytes that it has. -/
def WrB (B y : Nat) (w : World) (l : List UInt8) : Prop := B ≤ y ∧ ∃ v, BxT 46 w y #[v] ∧ Own w B 5 1 v l.length (Lib.byteCells l)
theorem WrB.ext {B y : Nat} {w w' : World} {l : List UInt8} (h : WrB B y w l) (hx : Ext w w') : WrB B y w' l := by
  obtain ⟨hy, v, h1, h2⟩ := h
  exact ⟨hy, v, h1.ext hx, h2.ext hx⟩
theorem numW15_c (y m B : Nat) (mv : Int) (l : List UInt8) (a w : World) (hv : mv = (m : Int)) (hm : m < 268435456) (ha : Below B a w) (hb : WrB B y w l) (hp : l.length ≤ 100000000) :
    Calls Try.prog 22 #[.pointer (some ⟨y, 0, none⟩), .int .i64 mv] w fun e w' => e = .returned (.tuple #[]) ∧ Below B a w' ∧ WrB B y w' (l ++ putL m) := by
  have HN := Lib.hid (fun w' => putP15 m mv hv hm w')
  obtain ⟨hy, v, hb, ho⟩ := hb
  have HB := Lib.hid hb; have HO := Lib.hid ho; have HPL := Lib.hid (putL_length m); have HPP := Lib.hid (putL_pos m); have HA := Lib.hid ha
  obtain ⟨i, hi, hz0, hz1, hz2⟩ := info_parts info_u8b
  have hsz := ho.2
  clear hb ho hv ha
  go_enter Try.func22, Try.ntmps22
  go_wp2_with fail
  refine (HN.out _).mono ?_; rintro e w1 ⟨A, n, c, rfl, hx1, o1, hn⟩
  have c0 : w1.cell? ⟨y, 0, none⟩ = some v := (HB.out.ext hx1).cell rfl
  obtain ⟨v', w', ha1, o', b', oth⟩ := app_rdo (P := Try.prog) 22 22 5 i _ 1 1 Try.underlying22 hi hz0 hz1 hz2 rfl (by omega) (by omega) (Below.trans HA.out (hx1.below.mono hsz)) (HO.out.ext hx1) (by omega) o1.rd (by have := HPP.out; omega) (by have := HPL.out; omega) (byteCells_one _)
  obtain ⟨ga, gc, rfl, _⟩ := o'.len
  have HAP := Lib.hid ha1
  have hb2 : BxT 46 w' y #[v] := oth.2 y _ _ _ (by decide) (HB.out.ext hx1)
  have d0 : w'.cell? ⟨y, 0, none⟩ = some v := hb2.cell rfl
  have d1 := hb2.frozen 0
  have HR : Hid (WrB B y (w'.setCell ⟨y, 0, none⟩ (.slice ga (l.length + n) gc)) (l ++ putL m)) := Lib.hid ⟨hy, (.slice ga (l.length + n) gc), hb2.set 0 (.slice ga (l.length + n) gc), by
    have h2 := own_cell_other (a := ⟨y, 0, none⟩) o' hb2 (by decide) (.slice ga (l.length + n) gc)
    rw [List.length_append, hn, byteCells_append2]
    exact h2⟩
  have HBE : Hid (Below B a (w'.setCell ⟨y, 0, none⟩ (.slice ga (l.length + n) gc))) := Lib.hid (b'.setCell (p := ⟨y, 0, none⟩) hy _)
  clear ha1 o' b' oth o1 hn hb2
  go_wp2_with (at_builtin; refine wpList_append_run rfl rfl HAP.out rfl rfl ?_)
  go_end0
  exact ⟨rfl, HBE.out, HR.out⟩
theorem snPutP_c (s : ByteArray) (w : World) (hs : s.size ≤ 1000000000) : Calls Try.prog 9 #[.string s] w (BytesR w (snE s) (snB s)) := by
  have HV := Lib.hid (valid_c s w hs)
  by_cases h1 : dec (bs s) = none
  · have hE : snE s = 3 := by unfold snE; rw [if_pos h1]
    have hB : snB s = [] := by unfold snB; rw [hE]; rfl
    rw [h1] at HV
    rw [hE, hB]
    clear h1 hE hB hs
    go_enter Try.func9, Try.ntmps9
    go_wp2_with fail
    refine HV.out.mono ?_; rintro e w1 ⟨rfl, hx1⟩
    go_wp2_with fail
    go_ret2
    exact ⟨hx1, _, rfl, Own.nil _ _ _ _ hx1.size⟩
  · have hd : (dec (bs s)).isSome = true := by
      cases h : dec (bs s) with
      | none => exact absurd h h1
      | some _ => rfl
    rw [hd] at HV
    by_cases h2 : 65536 < s.size
    · have hE : snE s = 2 := by unfold snE; rw [if_neg h1, if_pos h2]
      have hB : snB s = [] := by unfold snB; rw [hE]; rfl
      rw [hE, hB]
      have g1 : (65536 : Int) < (s.size : Int) := by omega
      clear h1 hE hB hd h2
      go_enter Try.func9, Try.ntmps9
      go_wp2_with fail
      refine HV.out.mono ?_; rintro e w1 ⟨rfl, hx1⟩
      go_wp2_with fail
      go_ret2
      exact ⟨hx1, _, rfl, Own.nil _ _ _ _ hx1.size⟩
    · have hE : snE s = 0 := by unfold snE; rw [if_neg h1, if_neg h2]
      have hB : snB s = snL s := by unfold snB; rw [if_pos hE]
      rw [hE, hB]
      have g1 : ¬ (65536 : Int) < (s.size : Int) := by omega
      have HG : Hid (∀ y W, Below w.heap.size w W → WrB w.heap.size y W [] → _) := Lib.hid fun y W hx hb => numW15_c y s.size w.heap.size (s.size : Int) [] w W rfl (by omega) hx hb (by simp)
      obtain ⟨i, hi, hz0, hz1, hz2⟩ := info_parts info_u8b
      clear h1 hE hB hd h2
      go_enter Try.func9, Try.ntmps9
      go_wp2_with fail
      refine HV.out.mono ?_; rintro e w1 ⟨rfl, hx1⟩
      have b1 := BxT.new w1 46 #[.slice none 0 0]
      have x1 := hx1.alloc (.cells #[.slice none 0 0] 46)
      have B1 : Hid (WrB w.heap.size w1.heap.size (w1.alloc (.cells #[.slice none 0 0] 46)) []) := Lib.hid ⟨hx1.size, _, b1, Own.nil _ _ _ _ x1.size⟩
      have s1 := hx1.size
      go_wp2_with fail
      obtain ⟨W1, hW1⟩ : ∃ W, w1.alloc (.cells #[.slice none 0 0] 46) = W := ⟨_, rfl⟩
      rw [hW1] at B1 x1 ⊢
      obtain ⟨y, hy⟩ : ∃ y, w1.heap.size = y := ⟨_, rfl⟩
      rw [hy] at B1 s1 ⊢
      clear b1 hW1 hy hx1
      refine (HG.out y W1 x1 B1.out).mono ?_; rintro e w3 ⟨rfl, e3, b3⟩
      obtain ⟨_, v, bb, bo⟩ := b3
      have HM : Hid (([] ++ putL s.size : List UInt8).length ≤ 4) := Lib.hid (by rw [List.nil_append]; exact putL_length s.size)
      obtain ⟨va, vc, rfl, _⟩ := bo.len
      have c0 : w3.cell? ⟨y, 0, none⟩ = some (.slice va ([] ++ putL s.size : List UInt8).length vc) := bb.cell rfl
      obtain ⟨v', w', happ, hown', hbel'⟩ := app_str (P := Try.prog) 22 9 22 5 i Try.underlying22 Try.underlying9 hi hz0 hz1 hz2 e3 bo (by have := HM.out; omega) s (by omega)
      have HAP := Lib.hid happ
      have HOWN : Hid (Own w' w.heap.size 5 1 v' (snL s).length (Lib.byteCells (snL s))) := Lib.hid (by
        have h := hown'
        rw [List.nil_append] at h
        unfold snL; rw [List.length_append, byteCells_append2, bs_length]; exact h)
      clear happ hown' bb bo
      generalize ([] ++ putL s.size : List UInt8).length = q at *
      go_wp2_with (at_builtin; refine wpList_append_run2 rfl rfl HAP.out rfl rfl ?_)
      go_ret2
      exact ⟨hbel', _, rfl, HOWN.out⟩
theorem risesP_c (A : Option Addr) (n c : Nat) (l : List Int) (w : World) (h : Rd w 1 (.slice A n c) n (nV l)) (hn : n ≤ 1000000) : Calls Try.prog 27 #[.slice A n c] w fun e w' => e = .returned (.bool (decide (rowOk l))) ∧ Ext w w' := by
  have hl := nV_len h
  have H := Lib.hid h
  have HL := Lib.hid hl
  by_cases hbad : n = 0 ∨ 65536 < n
  · have hR : decide (rowOk l) = false := by
      rw [decide_eq_false_iff_not]
      rintro ⟨h1, h2, _⟩
      have := List.length_pos_iff.2 h1
      omega
    rw [hR]
    clear h hl hR
    rcases hbad with hb | hb
    · subst hb
      go_enter Try.func27, Try.ntmps27
      go_wp2_with fail
      go_ret
      exact ⟨rfl, Ext.refl _⟩
    · have g1 : (65536 : Int) < (n : Int) := by omega
      have g2 : ((n : Int) == 0) = false := by rw [beq_eq_false_iff_ne]; omega
      go_enter Try.func27, Try.ntmps27
      go_wp2_with fail
      go_ret
      exact ⟨rfl, Ext.refl _⟩
  · simp only [not_or] at hbad
    obtain ⟨b1, b2⟩ := hbad
    have g1 : ¬ (65536 : Int) < (n : Int) := by omega
    have g2 : ((n : Int) == 0) = false := by rw [beq_eq_false_iff_ne]; omega
    have HD : Hid (rowOk l ↔ rises (-1) l) := Lib.hid ⟨fun h => h.2.2, fun h => ⟨fun e => by subst e; simp at hl; omega, by omega, h⟩⟩
    clear h hl
    go_enter Try.func27, Try.ntmps27
    go_wp2_with fail
    go_loopw [3, 16] (fun yv z wr => ∃ (j : Nat) (y : Int), j ≤ n ∧ z = .int .i64 j ∧ yv = .int .i64 y ∧ -1 ≤ y ∧ Hid (y = lastI l j) ∧ Hid (rises (-1) l ↔ rises (lastI l j) (l.drop j)) ∧ Hid (Ext w wr)) (fun _ z _ => n - (intOf z).toNat)
    case atStart => exact ⟨0, -1, by omega, rfl, rfl, by omega, Lib.hid rfl, Lib.hid Iff.rfl, Lib.hid (Ext.refl _)⟩
    case round =>
      obtain ⟨j, y, hj, rfl, rfl, hlow, HY, HI, HX⟩ := hrel
      by_cases hlt : j < n
      · have dn : decide (j < n) = true := by rw [decide_eq_true_eq]; exact hlt
        have hjl : j < l.length := by have := HL.out; omega
        obtain ⟨b, off, rfl, q0, hb⟩ := int_at (H.out.ext HX.out) hlt hjl
        have i0 : (0 : Int) ≤ (j : Int) := by omega
        have i1 : (j : Int) < (n : Int) := by omega
        have hst := rises_step hjl
        have hls := lastI_succ hjl
        rw [← HY.out] at hst
        have HNO : Hid (¬ (y < l[j] ∧ l[j] ≤ 268435455) → decide (rowOk l) = false) := Lib.hid fun hc => by
          rw [decide_eq_false_iff_not, HD.out, HI.out, ← HY.out, hst]
          exact fun h => hc ⟨h.1, h.2.1⟩
        have HYES : Hid (y < l[j] ∧ l[j] ≤ 268435455 → (rises (-1) l ↔ rises (lastI l (j + 1)) (l.drop (j + 1)))) := Lib.hid fun hc => by
          rw [HI.out, ← HY.out, hst]
          exact ⟨fun h => h.2.2, fun h => ⟨hc.1, hc.2, h⟩⟩
        have HLS := Lib.hid hls.symm
        clear hst hls
        obtain ⟨x, hx⟩ : ∃ x, l[j] = x := ⟨_, rfl⟩
        rw [hx] at q0 HNO HYES HLS
        clear hx HI HY
        by_cases c1 : x ≤ y
        · have HR := Lib.hid (HNO.out (by omega))
          have d1 : decide (x ≤ y) = true := by rw [decide_eq_true_eq]; exact c1
          clear HNO HYES
          go_wp2_with fail
          go_ret
          rw [HR.out]
          exact ⟨rfl, HX.out⟩
        · have d1 : decide (x ≤ y) = false := by rw [decide_eq_false_iff_not]; exact c1
          by_cases c2 : 268435455 < x
          · have HR := Lib.hid (HNO.out (by omega))
            have d2 : decide ((268435455 : Int) < x) = true := by rw [decide_eq_true_eq]; exact c2
            clear HNO HYES
            go_wp2_with fail
            go_ret
            rw [HR.out]
            exact ⟨rfl, HX.out⟩
          · have d2 : decide ((268435455 : Int) < x) = false := by rw [decide_eq_false_iff_not]; exact c2
            have HI2 := Lib.hid (HYES.out ⟨by omega, by omega⟩)
            clear HNO HYES
            go_wp2_with fail
            go_roundw
            case rel => exact ⟨j + 1, x, by omega, by go_num, rfl, by omega, HLS, HI2, HX⟩
            case measure => simp [intOf]; omega
      · obtain rfl : j = n := by omega
        have dn : decide (j < j) = false := by rw [decide_eq_false_iff_not]; omega
        have hall : l.drop j = [] := List.drop_eq_nil_of_le (by have := HL.out; omega)
        have HR : Hid (decide (rowOk l) = true) := Lib.hid (by rw [decide_eq_true_eq, HD.out, HI.out, hall]; trivial)
        clear hall
        go_wp2_with fail
        go_ret
        rw [HR.out]
        exact ⟨rfl, HX.out⟩
theorem steps15_c (y : Nat) (A : Option Addr) (n c : Nat) (l : List Int) (a w : World) (h : Rd a 1 (.slice A n c) n (nV l)) (hok : rowOk l) (ha : Ext a w) (hb : WrB a.heap.size y w []) :
    Calls Try.prog 28 #[.slice A n c, .func (.func 22) #[.pointer (some ⟨y, 0, none⟩)] #[]] w fun e w' => e = .returned (.tuple #[]) ∧ Ext a w' ∧ WrB a.heap.size y w' (rwL l) := by
  have hl := nV_len h
  obtain ⟨o1, o2, o3⟩ := hok
  have HST : Hid (∀ j (hj : j < l.length), lastI l j < l[j] ∧ l[j] ≤ 268435455) := Lib.hid fun j hj => by
    cases j with
    | zero => have := rises_at o3 0 hj; exact ⟨this.1, this.2.1⟩
    | succ j =>
      have h1 := rises_at o3 j (by omega)
      rw [lastI_succ (by omega)]
      have h2 := rises_drop (l := l) hj l[j]
      have h3 := h2.1 h1.2.2
      exact ⟨h3.1, h3.2.1⟩
  have HG : Hid (∀ W, Below a.heap.size a W → WrB a.heap.size y W [] → _) := Lib.hid fun W hx hb => numW15_c y l.length a.heap.size (n : Int) [] a W (by omega) (by omega) hx hb (by simp)
  have H := Lib.hid h; have HL := Lib.hid hl
  have hn2 : n ≤ 65536 := by omega
  have HPL := Lib.hid (putL_length l.length)
  have HB := Lib.hid hb; have HA := Lib.hid ha
  clear h hl o1 o2 o3 hb ha
  go_enter Try.func28, Try.ntmps28
  go_wp2_with fail
  refine (HG.out _ HA.out HB.out).mono ?_; rintro e w3 ⟨rfl, e3, b3⟩
  have B3 : Hid (WrB a.heap.size y w3 (putL l.length ++ rsL (-1) (l.take 0))) := Lib.hid (by
    have e0 : rsL (-1) (l.take 0) = [] := rfl
    rw [e0, List.append_nil]; exact b3)
  have E3 := Lib.hid e3
  have HM3 : Hid ((putL l.length ++ rsL (-1) (l.take 0)).length ≤ 4 + 4 * 0) := Lib.hid (by
    have e0 : rsL (-1) (l.take 0) = [] := rfl
    rw [e0, List.append_nil]; have := HPL.out; omega)
  clear b3 e3 HB HA
  go_wp2_with fail
  go_loopw [4, 13] (fun yv z wr => ∃ (j : Nat) (yl : Int), j ≤ n ∧ z = .int .i64 j ∧ yv = .int .i64 yl ∧ -1 ≤ yl ∧ Hid (yl = lastI l j) ∧ Hid ((putL l.length ++ rsL (-1) (l.take j)).length ≤ 4 + 4 * j) ∧ Hid (WrB a.heap.size y wr (putL l.length ++ rsL (-1) (l.take j))) ∧ Hid (Ext a wr)) (fun _ z _ => n - (intOf z).toNat)
  case atStart => exact ⟨0, -1, by omega, rfl, rfl, by omega, Lib.hid rfl, HM3, B3, E3⟩
  case round =>
    clear B3 HM3 E3
    obtain ⟨j, yl, hj, rfl, rfl, hy, HY, HM, OWN, HX⟩ := hrel
    by_cases hlt : j < n
    · have dn : decide (j < n) = true := by rw [decide_eq_true_eq]; exact hlt
      have hjl : j < l.length := by have := HL.out; omega
      obtain ⟨b, off, rfl, q00, hb⟩ := int_at H.out hlt hjl
      have q0 := ext_cell HX.out q00
      have i0 : (0 : Int) ≤ (j : Int) := by omega
      have i1 : (j : Int) < (n : Int) := by omega
      obtain ⟨s1, s2⟩ := HST.out j hjl
      have hst := rsL_take' hjl
      have hls := lastI_succ hjl
      rw [← HY.out] at s1 hst
      have HPL2 := Lib.hid (putL_length (l[j] - yl - 1).toNat)
      have HNX : Hid (putL l.length ++ rsL (-1) (l.take (j + 1)) = (putL l.length ++ rsL (-1) (l.take j)) ++ putL (l[j] - yl - 1).toNat) := Lib.hid (by rw [hst, List.append_assoc]; rfl)
      obtain ⟨x, hx⟩ : ∃ x, l[j] = x := ⟨_, rfl⟩
      rw [hx] at q0 q00 s1 s2 HPL2 HNX hls
      have HLS := Lib.hid hls.symm
      obtain ⟨PR, hPR⟩ : ∃ P, putL l.length ++ rsL (-1) (l.take j) = P := ⟨_, rfl⟩
      rw [hPR] at HM OWN HNX
      have HG2 : Hid (∀ W, Below a.heap.size a W → WrB a.heap.size y W PR → _) := Lib.hid fun W hx hb => numW15_c y (x - yl - 1).toNat a.heap.size (x - yl - 1) PR a W (by omega) (by omega) hx hb (by have := HM.out; omega)
      clear hst hls hx hPR q00
      go_wp2_with fail
      refine (HG2.out _ HX.out OWN.out).mono ?_; rintro e w4 ⟨rfl, e4, b4⟩
      have OWN4 : Hid (WrB a.heap.size y w4 (putL l.length ++ rsL (-1) (l.take (j + 1)))) := Lib.hid (by rw [HNX.out]; exact b4)
      have HM4 : Hid ((putL l.length ++ rsL (-1) (l.take (j + 1))).length ≤ 4 + 4 * (j + 1)) := Lib.hid (by rw [HNX.out, List.length_append]; have := HM.out; have := HPL2.out; omega)
      clear b4
      go_wp2_with fail
      go_roundw
      case rel => exact ⟨j + 1, x, by omega, by go_num, rfl, by omega, HLS, HM4, OWN4, Lib.hid e4⟩
      case measure => simp [intOf]; omega
    · obtain rfl : j = n := by omega
      have dn : decide (j < j) = false := by rw [decide_eq_false_iff_not]; omega
      have hall : l.take j = l := by rw [← HL.out]; exact List.take_length
      have HO : Hid (WrB a.heap.size y wr (rwL l)) := Lib.hid (by
        have h1 := OWN.out
        rw [hall] at h1
        exact h1)
      clear hall OWN HM
      go_wp2_with fail
      go_end0
      exact ⟨rfl, HX.out, HO.out⟩
theorem rwPutP_c (A : Option Addr) (n c : Nat) (l : List Int) (w : World) (h : Rd w 1 (.slice A n c) n (nV l)) (hn : n ≤ 1000000) : Calls Try.prog 14 #[.slice A n c] w (BytesR w (rowE l) (rwB l)) := by
  have HRI := Lib.hid (risesP_c A n c l w h hn)
  by_cases hok : rowOk l
  · have hE : rowE l = 0 := if_pos hok
    have hB : rwB l = rwL l := by unfold rwB; rw [if_pos hE]
    rw [decide_eq_true hok] at HRI
    rw [hE, hB]
    have HG : Hid (∀ y W, Ext w W → WrB w.heap.size y W [] → _) := Lib.hid fun y W hx hb => steps15_c y A n c l w W h hok hx hb
    clear h hE hB hok
    go_enter Try.func14, Try.ntmps14
    go_wp2_with fail
    refine HRI.out.mono ?_; rintro e w1 ⟨rfl, hx1⟩
    have b1 := BxT.new w1 46 #[.slice none 0 0]
    have x1 := hx1.alloc (.cells #[.slice none 0 0] 46)
    have B1 : Hid (WrB w.heap.size w1.heap.size (w1.alloc (.cells #[.slice none 0 0] 46)) []) := Lib.hid ⟨hx1.size, _, b1, Own.nil _ _ _ _ x1.size⟩
    go_wp2_with fail
    obtain ⟨W1, hW1⟩ : ∃ W, w1.alloc (.cells #[.slice none 0 0] 46) = W := ⟨_, rfl⟩
    rw [hW1] at B1 x1 ⊢
    obtain ⟨y, hy⟩ : ∃ y, w1.heap.size = y := ⟨_, rfl⟩
    rw [hy] at B1 ⊢
    clear b1 hW1 hy hx1
    refine (HG.out y W1 x1 B1.out).mono ?_; rintro e w3 ⟨rfl, e3, b3⟩
    obtain ⟨_, v, bb, bo⟩ := b3
    have c0 : w3.cell? ⟨y, 0, none⟩ = some v := bb.cell rfl
    have BO := Lib.hid bo
    clear bb bo
    go_wp2_with fail
    go_ret2
    exact ⟨e3, _, rfl, BO.out⟩
  · have hE : rowE l = 2 := if_neg hok
    have hB : rwB l = [] := by unfold rwB; rw [hE]; rfl
    rw [decide_eq_false hok] at HRI
    rw [hE, hB]
    clear h hE hB hok
    go_enter Try.func14, Try.ntmps14
    go_wp2_with fail
    refine HRI.out.mono ?_; rintro e w1 ⟨rfl, hx1⟩
    go_wp2_with fail
    go_ret2
    exact ⟨hx1, _, rfl, Own.nil _ _ _ _ hx1.size⟩
/-- The box of a reader: what it reads, and how many are used. -/
def RdB (w : World) (x u : Nat) (A : Option Addr) (n c : Nat) : Prop := BxT 50 w x #[.slice A n c, .int .i64 (u : Int)]
theorem numR15_c (x u : Nat) (A : Option Addr) (n c : Nat) (b : List UInt8) (w0 W : World) (h : Rd w0 1 (.slice A n c) n (Lib.byteCells b)) (hn : n ≤ 1000000) (hX : Ext w0 W) (h0 : w0.heap.size ≤ x) (bx : RdB W x u A n c) (hu : u ≤ n) (N K F r : Nat) (hT : takeL (b.drop u) = (N, K, F)) (hr : u + K = r) :
    Calls Try.prog 25 #[.pointer (some ⟨x, 0, none⟩)] W fun e w' => e = .returned (.tuple #[.int .i64 (N : Int), .int .i64 (F : Int)]) ∧ Ext w0 w' ∧ KS W.heap.size x x W w' ∧ RdB w' x r A n c := by
  have hbl : b.length = n := by have := h.1; simpa [Lib.byteCells] using this
  have hcap : n ≤ c := by obtain ⟨_, _, hv, hc⟩ := h.len; injection hv with _ _ e; omega
  have hK := takeL_used hT
  rw [List.length_drop, hbl] at hK
  obtain ⟨AD, hAD⟩ : ∃ AD : Option Addr, (if c = u then A else Option.map (fun x => x.add u) A) = AD := ⟨_, rfl⟩
  have HTK : Hid (∀ W', Ext W W' → Calls Try.prog 35 #[.slice AD (n - u) (c - u)] W' fun e w'' => e = .returned (.tuple #[.int .i64 (N : Int), .int .i64 (K : Int), .int .i64 (F : Int)]) ∧ Ext W' w'') := Lib.hid fun W' hx => by
    have hrd : Rd W' 1 (.slice AD (n - u) (c - u)) (n - u) (Lib.byteCells (b.drop u)) := by
      by_cases h0 : n = 0
      · refine ⟨by simp [Lib.byteCells, hbl], AD, c - u, rfl, by omega, fun hp => by omega⟩
      · obtain ⟨bb, o0, hA⟩ : ∃ bb o0, A = some ⟨bb, o0, none⟩ := by
          obtain ⟨_, A', c', hv, _, h2⟩ := h
          obtain ⟨b1, off, hA, _⟩ := h2 (by omega)
          injection hv with e1
          exact ⟨b1, off, by rw [e1]; exact hA⟩
        subst hA
        have h1 := bytes_behind ((h.ext hX).ext hx) hu
        have e : AD = (if c = u then some ⟨bb, o0, none⟩ else some ⟨bb, o0 + u, none⟩) := by
          rw [← hAD]
          by_cases h1 : c = u
          · rw [if_pos h1, if_pos h1]
          · rw [if_neg h1, if_neg h1]
            simp only [Option.map_some, Addr.add]
            by_cases h2 : u = 0
            · subst h2; rfl
            · rw [if_neg h2]
        rw [e]; exact h1
    have h2 := take_c AD (n - u) (c - u) (b.drop u) W' hrd (by omega)
    rw [hT] at h2; exact h2
  have HB := Lib.hid bx
  have c0 : W.cell? ⟨x, 0, none⟩ = some (.slice A n c) := bx.cell rfl
  have c1 : W.cell? ⟨x, 1, none⟩ = some (.int .i64 (u : Int)) := bx.cell rfl
  have z0 : (0 : Int) ≤ (u : Int) := by omega
  have z1 : (u : Int) ≤ (n : Int) := by omega
  have z2 : (n : Int) ≤ (c : Int) := by omega
  have d6 : (u : Int) + (K : Int) = (r : Int) := by omega
  have hlt := bx.lt
  have HX := Lib.hid hX
  have hrn : r ≤ 1000000 := by omega
  clear h hT hbl bx hX hK hr
  go_enter Try.func25, Try.ntmps25
  go_wp2_with fail
  have hxx := Ext.refl W
  go_region_held3 (fun V => Ext W V ∧ V.cell? ⟨x, 0, none⟩ = some (.slice A n c) ∧ V.cell? ⟨x, 1, none⟩ = some (.int .i64 (u : Int)))
    ((go_split_ands; refine ⟨?_, ?_, ?_⟩ <;> first | (exact Ext.drew ‹_›) | (exact Ext.trans ‹_› hxk) | (exact ext_cell hxk ‹_›) | go_keep))
    (first
      | (go_at_call 35; go_split_ands; refine (HTK.out _ ‹Ext W _›).mono ?_; rintro e wA ⟨rfl, hxk⟩)
      | fail)
  go_split_ands
  have eA := ‹Ext W wA›
  have hb2 : RdB wA x u A n c := HB.out.ext eA
  have k0 : wA.cell? ⟨x, 0, none⟩ = some (.slice A n c) := BxT.cell hb2 rfl
  have k1 : wA.cell? ⟨x, 1, none⟩ = some (.int .i64 (u : Int)) := BxT.cell hb2 rfl
  have f1 := BxT.frozen hb2 1
  have HR : Hid (RdB (wA.setCell ⟨x, 1, none⟩ (.int .i64 (r : Int))) x r A n c) := Lib.hid (BxT.set hb2 1 (.int .i64 (r : Int)))
  have HK : Hid (KS W.heap.size x x W (wA.setCell ⟨x, 1, none⟩ (.int .i64 (r : Int)))) := Lib.hid ((KS.of_ext x x (Nat.le_refl _) eA).set ⟨x, 1, none⟩ _ (.inl rfl))
  have HE : Hid (Ext w0 (wA.setCell ⟨x, 1, none⟩ (.int .i64 (r : Int)))) := Lib.hid (Below.setCell (HX.out.trans eA) (p := ⟨x, 1, none⟩) h0 _)
  clear hb2
  go_wp2_with fail
  go_ret2
  exact ⟨rfl, HE.out, HK.out, HR.out⟩
theorem snTakeP_c (A : Option Addr) (n c : Nat) (b : List UInt8) (w : World) (h : Rd w 1 (.slice A n c) n (Lib.byteCells b)) (hn : n ≤ 1000000) : Calls Try.prog 11 #[.slice A n c] w (TextR w (takeT b)) := by
  have hbl : b.length = n := by have := h.1; simpa [Lib.byteCells] using this
  obtain ⟨⟨N, K, F⟩, hT⟩ : ∃ r, takeL b = r := ⟨_, rfl⟩
  have hcap : n ≤ c := by obtain ⟨_, _, hv, hc⟩ := h.len; injection hv with _ _ e; omega
  obtain ⟨x, hx⟩ : ∃ x, w.heap.size = x := ⟨_, rfl⟩
  obtain ⟨W1, hW1⟩ : ∃ W, w.alloc (.cells #[.slice A n c, .int .i64 0] 50) = W := ⟨_, rfl⟩
  have hX1 : Ext w W1 := by rw [← hW1]; exact (Ext.refl w).alloc _
  have bX1 : RdB W1 x 0 A n c := by rw [← hW1, ← hx]; exact BxT.new w 50 #[.slice A n c, .int .i64 0]
  have hxx : w.heap.size ≤ x := by omega
  have hNum := takeL_num hT
  have HW1 := Lib.hid hW1; have HXE := Lib.hid hx
  clear hW1 hx
  have HT : Hid (Calls Try.prog 25 #[.pointer (some ⟨x, 0, none⟩)] W1 fun e w' => e = .returned (.tuple #[.int .i64 (N : Int), .int .i64 (F : Int)]) ∧ Ext w w' ∧ KS W1.heap.size x x W1 w' ∧ RdB w' x K A n c) := Lib.hid
    (numR15_c x 0 A n c b w W1 h hn hX1 hxx bX1 (Nat.zero_le _) N K F K (by rw [List.drop_zero]; exact hT) (Nat.zero_add _))
  have hK := takeL_used hT
  rw [hbl] at hK
  have w0 : 0 ≤ n := Nat.zero_le _
  by_cases hF : F = 0
  · subst hF
    obtain ⟨t1, t2, t3, t4⟩ := take_some hT
    by_cases hN : 65536 < N
    · have hR : takeT b = (8, [], 0) := by unfold takeT; rw [hT]; simp only; rw [if_neg (by decide), if_pos hN]
      rw [hR]
      have g1 : (65536 : Int) < (N : Int) := by omega
      clear h hbl hT t1 t2 t3 t4 hN hR bX1 hX1
      go_enter Try.func11, Try.ntmps11
      go_wp2_with fail
      rw [HW1.out, HXE.out]
      refine HT.out.mono ?_; rintro e w1 ⟨rfl, hx1, _, b1⟩
      go_wp2_with fail
      refine bodyPost_ret (results_tmp3 rfl _ _ _) rfl ?_
      exact ⟨hx1, rfl⟩
    · have g1 : ¬ (65536 : Int) < (N : Int) := by omega
      by_cases hS : b.length - K < N
      · have hR : takeT b = (7, [], 0) := by unfold takeT; rw [hT]; simp only; rw [if_neg (by decide), if_neg hN, if_pos hS]
        rw [hR]
        have g2 : (n : Int) - (K : Int) < (N : Int) := by omega
        have g3 : (K : Int) ≤ (n : Int) := by omega
        clear h hbl hT t1 t2 t3 t4 hN hR hS bX1 hX1
        go_enter Try.func11, Try.ntmps11
        go_wp2_with fail
        rw [HW1.out, HXE.out]
        refine HT.out.mono ?_; rintro e w1 ⟨rfl, hx1, _, b1⟩
        have c1 : w1.cell? ⟨x, 1, none⟩ = some (.int .i64 (K : Int)) := BxT.cell b1 rfl
        clear b1
        go_wp2_with fail
        refine bodyPost_ret (results_tmp3 rfl _ _ _) rfl ?_
        exact ⟨hx1, rfl⟩
      · have g2 : ¬ (n : Int) - (K : Int) < (N : Int) := by omega
        obtain ⟨r, hr⟩ : ∃ r, K + N = r := ⟨_, rfl⟩
        have d6 : (K : Int) + (N : Int) = (r : Int) := by omega
        have z0 : (0 : Int) ≤ (K : Int) := by omega
        have z1 : (K : Int) ≤ (r : Int) := by omega
        have z2 : (r : Int) ≤ (c : Int) := by omega
        have z3 : r ≤ 1000000 := by omega
        have hrp : r - K = N := by omega
        obtain ⟨bb, o0, hA⟩ : ∃ bb o0, A = some ⟨bb, o0, none⟩ := by
          obtain ⟨_, A', c', hv, _, h2⟩ := h
          obtain ⟨b1, off, hA, _⟩ := h2 (by omega)
          injection hv with e1
          exact ⟨b1, off, by rw [e1]; exact hA⟩
        subst hA
        obtain ⟨TX, hTX⟩ : ∃ TX, (b.drop K).take N = TX := ⟨_, rfl⟩
        have hrd := bytes_front (m := N) (bytes_behind (m := K) h (by omega)) (by omega)
        rw [hTX] at hrd
        have htl : TX.length = N := by rw [← hTX, List.length_take, List.length_drop]; omega
        obtain ⟨AD, hAD⟩ : ∃ AD : Option Addr, (if c = K then some ⟨bb, o0, none⟩ else some ⟨bb, o0 + K, none⟩) = AD := ⟨_, rfl⟩
        rw [hAD] at hrd
        rw [← hrp] at hrd
        have HCV : Hid (∀ W, Ext w W → (convert 22 9 (.slice AD (r - K) (c - K))).run Try.prog W = .ok (.string (mkS TX)) W) := Lib.hid fun W hx =>
          run_str (P := Try.prog) W 22 9 5 Try.underlying22 Try.underlying5 Try.underlying9 (hrd.ext hx)
        have hmk : (mkS TX).size = N := by rw [size_mkS, htl]
        have HVA : Hid (∀ w', Calls Try.prog 21 #[.string (mkS TX)] w' fun e w'' => e = .returned (.bool (dec TX).isSome) ∧ Ext w' w'') := Lib.hid fun w' => by
          have h1 := valid_c (mkS TX) w' (by omega)
          rw [bs_mkS] at h1; exact h1
        have hR : takeT b = if dec TX = none then (8, [], 0) else (0, TX, r) := by unfold takeT; rw [hT]; simp only; rw [if_neg (by decide), if_neg hN, if_neg hS, hTX, hr]
        rw [hR]
        have HMK := Lib.hid hmk
        clear h hbl hT t1 t2 t3 t4 hN hR hS hrd htl hTX hmk hr hrp bX1 hX1
        by_cases hd : dec TX = none
        · rw [if_pos hd]
          rw [hd] at HVA
          clear hd
          generalize mkS TX = TM at *
          go_enter Try.func11, Try.ntmps11
          go_wp2_with fail
          rw [HW1.out, HXE.out]
          refine HT.out.mono ?_; rintro e w1 ⟨rfl, hx1, _, b1⟩
          have c1 : w1.cell? ⟨x, 1, none⟩ = some (.int .i64 (K : Int)) := BxT.cell b1 rfl
          have k1 := Lib.hid (HCV.out w1 hx1)
          clear b1
          go_wp2_with (with_reducible refine wpList_convert_run rfl rfl k1.out rfl ?_)
          refine (HVA.out _).mono ?_; rintro e w2 ⟨rfl, hx2⟩
          go_wp2_with fail
          refine bodyPost_ret (results_tmp3 rfl _ _ _) rfl ?_
          exact ⟨hx1.trans hx2, rfl⟩
        · rw [if_neg hd]
          have hd2 : (dec TX).isSome = true := by
            cases h : dec TX with
            | none => exact absurd h hd
            | some _ => rfl
          rw [hd2] at HVA
          clear hd hd2
          go_enter Try.func11, Try.ntmps11
          go_wp2_with fail
          rw [HW1.out, HXE.out]
          refine HT.out.mono ?_; rintro e w1 ⟨rfl, hx1, _, b1⟩
          have c1 : w1.cell? ⟨x, 1, none⟩ = some (.int .i64 (K : Int)) := BxT.cell b1 rfl
          have k1 := Lib.hid (HCV.out w1 hx1)
          clear b1
          go_wp2_with (with_reducible refine wpList_convert_run rfl rfl k1.out rfl ?_)
          refine (HVA.out _).mono ?_; rintro e w2 ⟨rfl, hx2⟩
          go_wp2_with fail
          refine bodyPost_ret (results_tmp3 rfl _ _ _) rfl ?_
          exact ⟨hx1.trans hx2, rfl⟩
  · have hR : takeT b = (F, [], 0) := by unfold takeT; rw [hT]; simp only; rw [if_pos hF]
    rw [hR]
    have t1 : ((F : Int) != 0) = true := by rw [bne_iff_ne]; omega
    have t2 : ((F : Int) == 0) = false := by rw [beq_eq_false_iff_ne]; omega
    clear h hbl hT hF hR bX1 hX1
    go_enter Try.func11, Try.ntmps11
    go_wp2_with fail
    rw [HW1.out, HXE.out]
    refine HT.out.mono ?_; rintro e w1 ⟨rfl, hx1, _, b1⟩
    go_wp2_with fail
    refine bodyPost_ret (results_tmp3 rfl _ _ _) rfl ?_
    exact ⟨hx1, rfl⟩
theorem risen15_c (x : Nat) (A : Option Addr) (n c : Nat) (b : List UInt8) (w W : World) (h : Rd w 1 (.slice A n c) n (Lib.byteCells b)) (hn : n ≤ 1000000) (hX : Ext w W) (h0 : w.heap.size ≤ x) (bx : RdB W x 0 A n c) :
    Calls Try.prog 30 #[.func (.func 25) #[.pointer (some ⟨x, 0, none⟩)] #[]] W fun e w' => Ext w w' ∧ ∃ A' n' c', e = .returned (.tuple #[.slice A' n' c', .int .i64 ((takeRw b).1 : Int)]) ∧ Rd w' 1 (.slice A' n' c') n' (nV (takeRw b).2.1) ∧ ((takeRw b).1 = 0 → RdB w' x (takeRw b).2.2 A n c) := by
  have hbl : b.length = n := by have := h.1; simpa [Lib.byteCells] using this
  obtain ⟨⟨N, K0, F0⟩, hT0⟩ : ∃ r, takeL b = r := ⟨_, rfl⟩
  have hNum := takeL_num hT0
  have HT : Hid (Calls Try.prog 25 #[.pointer (some ⟨x, 0, none⟩)] W fun e w' => e = .returned (.tuple #[.int .i64 (N : Int), .int .i64 (F0 : Int)]) ∧ Ext w w' ∧ KS W.heap.size x x W w' ∧ RdB w' x K0 A n c) := Lib.hid
    (numR15_c x 0 A n c b w W h hn hX h0 bx (Nat.zero_le _) N K0 F0 K0 (by rw [List.drop_zero]; exact hT0) (Nat.zero_add _))
  by_cases hF : F0 = 0
  · subst hF
    obtain ⟨t1, t2, t3, t4⟩ := take_some hT0
    by_cases hN : N = 0 ∨ 65536 < N
    · have HR := Lib.hid (takeRw_2 hT0 hN)
      rcases hN with hN | hN
      · subst hN
        clear h hbl hT0 t1 t2 t3 t4 bx hX
        go_enter Try.func30, Try.ntmps30
        go_wp2_with fail
        refine HT.out.mono ?_; rintro e w1 ⟨rfl, hx1, _, b1⟩
        go_wp2_with fail
        go_ret2
        rw [HR.out]
        exact ⟨hx1, _, _, _, rfl, Rd.nil _ _, fun h => absurd h (by decide)⟩
      · have g1 : (65536 : Int) < (N : Int) := by omega
        have g2 : ((N : Int) == 0) = false := by rw [beq_eq_false_iff_ne]; omega
        clear h hbl hT0 t1 t2 t3 t4 bx hX
        go_enter Try.func30, Try.ntmps30
        go_wp2_with fail
        refine HT.out.mono ?_; rintro e w1 ⟨rfl, hx1, _, b1⟩
        go_wp2_with fail
        go_ret2
        rw [HR.out]
        exact ⟨hx1, _, _, _, rfl, Rd.nil _ _, fun h => absurd h (by decide)⟩
    · obtain ⟨R, hR⟩ : ∃ R, tR N (-1) (b.drop K0) = R := ⟨_, rfl⟩
      have HR0 : Hid (addR [] 0 (tR (N - 0) (-1) (b.drop K0)) = R) := Lib.hid (by
        rw [addR_nil _ (tR_shape _ _ _), Nat.sub_zero]; exact hR)
      have HF3 : Hid (∀ E, R = (E, [], 0) → E ≠ 0 → takeRw b = (E, [], 0)) := Lib.hid fun E hE h0 => takeRw_3 hT0 hN (by rw [hR]; exact hE) h0
      have HF4 : Hid (∀ l o, R = (0, l, o) → takeRw b = (0, l, K0 + o)) := Lib.hid fun l o hE => takeRw_4 hT0 hN (by rw [hR]; exact hE)
      have H := Lib.hid h; have HBL := Lib.hid hbl
      simp only [not_or] at hN
      have g1 : ¬ (65536 : Int) < (N : Int) := by omega
      have g2 : ((N : Int) == 0) = false := by rw [beq_eq_false_iff_ne]; omega
      have hK0 : K0 ≤ n := by omega
      obtain ⟨i, hi, hz0, hz1, hz2⟩ := info_parts info_int
      clear h hbl hT0 t1 t2 t3 t4 bx hX hR hN
      go_enter Try.func30, Try.ntmps30
      go_wp2_with fail
      refine HT.out.mono ?_; rintro e w1 ⟨rfl, hx1, _, b1⟩
      have O1 : Hid (Own w1 w.heap.size 3 1 (.slice none 0 0) 0 (nV [])) := Lib.hid (Own.nil _ _ _ _ hx1.size)
      have E1 := Lib.hid hx1; have B1 := Lib.hid b1
      clear hx1 b1 HT
      go_wp2_with fail
      go_loopw [6, 7, 27] (fun out was iz wr => ∃ (i off : Nat) (wz : Int) (ls : List Int), was = .int .i64 wz ∧ iz = .int .i64 i ∧ i ≤ N ∧ off ≤ n ∧ -1 ≤ wz ∧ wz ≤ 268435455 ∧ Hid (Own wr w.heap.size 3 1 out i (nV ls)) ∧ Hid (K0 ≤ off ∧ addR ls (off - K0) (tR (N - i) wz (b.drop off)) = R) ∧ Hid (Ext w wr) ∧ Hid (RdB wr x off A n c)) (fun _ _ z _ => N - (intOf z).toNat)
      case atStart => exact ⟨0, K0, -1, [], rfl, rfl, by omega, hK0, by omega, by omega, O1, Lib.hid ⟨Nat.le_refl _, by rw [Nat.sub_self]; exact HR0.out⟩, E1, B1⟩
      case round =>
        clear O1 E1 HR0 B1
        obtain ⟨i0, off, wz, ls, rfl, rfl, hi0, hoff, hw0, hw1, HO, HR, HX, HB⟩ := hrel
        by_cases hlt : i0 < N
        · have dn : decide (i0 < N) = true := by rw [decide_eq_true_eq]; exact hlt
          have dn2 : (i0 : Int) < (N : Int) := by omega
          obtain ⟨⟨X, K, F⟩, hT1⟩ : ∃ r, takeL (b.drop off) = r := ⟨_, rfl⟩
          have hXn := takeL_num hT1
          have hKn := takeL_used hT1
          rw [List.length_drop, HBL.out] at hKn
          obtain ⟨r, hr⟩ : ∃ r, off + K = r := ⟨_, rfl⟩
          have HTK : Hid (Calls Try.prog 25 #[.pointer (some ⟨x, 0, none⟩)] wr fun e w' => e = .returned (.tuple #[.int .i64 (X : Int), .int .i64 (F : Int)]) ∧ Ext w w' ∧ KS wr.heap.size x x wr w' ∧ RdB w' x r A n c) := Lib.hid
            (numR15_c x off A n c b w wr H.out hn HX.out h0 HB.out hoff X K F r hT1 hr)
          have hNi : N - i0 = (N - (i0 + 1)) + 1 := by omega
          have hR2 := HR.out.2
          rw [hNi] at hR2
          by_cases hF1 : F = 0
          · subst hF1
            have HS := Lib.hid (take_some hT1)
            by_cases hbig : 268435455 < wz + 1 + (X : Int)
            · rw [addR_8 hT1 hbig] at hR2
              have HE := Lib.hid (HF3.out 8 hR2.symm (by decide))
              have hbig2 : (268435455 : Int) < wz + ((X : Int) + 1) := by omega
              clear hT1 hR2 hNi hbig
              go_wp2_with fail
              refine HTK.out.mono ?_; rintro e w2 ⟨rfl, e2, _, _⟩
              go_wp2_with fail
              go_ret2
              rw [HE.out]
              exact ⟨e2, _, _, _, rfl, Rd.nil _ _, fun h => absurd h (by decide)⟩
            · rw [addR_ok hT1 hbig] at hR2
              have HR3 : Hid (K0 ≤ r ∧ addR (ls ++ [wz + 1 + (X : Int)]) (r - K0) (tR (N - (i0 + 1)) (wz + 1 + (X : Int)) (b.drop r)) = R) := Lib.hid ⟨by have := HR.out.1; omega, by
                rw [List.drop_drop, show off - K0 + K = r - K0 by have := HR.out.1; omega, hr] at hR2; exact hR2⟩
              obtain ⟨v, hv⟩ : ∃ v, wz + 1 + (X : Int) = v := ⟨_, rfl⟩
              rw [hv] at HR3 hbig
              have hv2 : wz + ((X : Int) + 1) = v := by omega
              have hrn : r ≤ n := by omega
              have hv3 : 0 ≤ v := by omega
              clear hT1 hR2 hNi hv
              go_wp2_with fail
              refine HTK.out.mono ?_; rintro e w2 ⟨rfl, e2, k2, b2⟩
              have O2 := own_ks14 HO.out k2 HB.out (by decide) HB.out (by decide)
              obtain ⟨v', w', happ, hown', hbel', oth⟩ := app_newo (P := Try.prog) 31 31 3 i _ 1 8 Try.underlying31 hi hz0 hz1 hz2 rfl (by omega) (by omega)
                e2 O2 (by omega) 1 #[.int .i64 v] rfl (by omega) (by simp [Value.oneCell']) 3
              have HAP := Lib.hid happ
              have HOWN : Hid (Own w' w.heap.size 3 1 v' (i0 + 1) (nV (ls ++ [v]))) := Lib.hid (by rw [nV_append]; exact hown')
              have HBEL := Lib.hid hbel'
              have HB4 : Hid (RdB w' x r A n c) := Lib.hid (oth.2 x _ _ _ (by decide) b2)
              clear happ hown' hbel' HO e2 O2 oth b2 k2
              go_wp2_with (at_builtin; refine wpList_append_run rfl rfl HAP.out rfl rfl ?_)
              go_roundw
              case rel => exact ⟨i0 + 1, r, v, ls ++ [v], rfl, by go_num, by omega, hrn, by omega, by omega, HOWN, HR3, HBEL, HB4⟩
              case measure => simp [intOf]; omega
          · rw [addR_e hT1 hF1] at hR2
            have HE := Lib.hid (HF3.out F hR2.symm hF1)
            have t1 : ((F : Int) != 0) = true := by rw [bne_iff_ne]; omega
            have t2 : ((F : Int) == 0) = false := by rw [beq_eq_false_iff_ne]; omega
            have HF1 := Lib.hid hF1
            clear hT1 hF1 hR2 hNi
            go_wp2_with fail
            refine HTK.out.mono ?_; rintro e w2 ⟨rfl, e2, _, _⟩
            go_wp2_with fail
            go_ret2
            rw [HE.out]
            exact ⟨e2, _, _, _, rfl, Rd.nil _ _, fun h => absurd h HF1.out⟩
        · obtain rfl : i0 = N := by omega
          have hRq := HR.out.2
          rw [Nat.sub_self] at hRq
          have hR2 : R = (0, ls, off - K0) := by rw [← hRq]; simp [addR, tR]
          have hTW := HF4.out _ _ hR2
          rw [show K0 + (off - K0) = off by have := HR.out.1; omega] at hTW
          obtain ⟨ao, co, rfl, _⟩ := HO.out.len
          have HRD := Lib.hid HO.out.rd
          have dlt : ¬ (i0 : Int) < (i0 : Int) := by omega
          have HE := Lib.hid hTW
          clear hTW hR2 hRq HO
          go_wp2_with fail
          go_ret2
          rw [HE.out]
          exact ⟨HX.out, _, _, _, rfl, HRD.out, fun _ => HB.out⟩
  · have HR := Lib.hid (takeRw_1 hT0 hF)
    have t1 : ((F0 : Int) != 0) = true := by rw [bne_iff_ne]; omega
    have t2 : ((F0 : Int) == 0) = false := by rw [beq_eq_false_iff_ne]; omega
    have HF := Lib.hid hF
    clear h hbl hT0 hF bx hX
    go_enter Try.func30, Try.ntmps30
    go_wp2_with fail
    refine HT.out.mono ?_; rintro e w1 ⟨rfl, hx1, _, b1⟩
    go_wp2_with fail
    go_ret2
    rw [HR.out]
    exact ⟨hx1, _, _, _, rfl, Rd.nil _ _, fun h => absurd h HF.out⟩
theorem rwTakeP_c (A : Option Addr) (n c : Nat) (b : List UInt8) (w : World) (h : Rd w 1 (.slice A n c) n (Lib.byteCells b)) (hn : n ≤ 1000000) : Calls Try.prog 17 #[.slice A n c] w (RowR w (takeRw b)) := by
  obtain ⟨x, hx⟩ : ∃ x, w.heap.size = x := ⟨_, rfl⟩
  obtain ⟨W1, hW1⟩ : ∃ W, w.alloc (.cells #[.slice A n c, .int .i64 0] 50) = W := ⟨_, rfl⟩
  have hX1 : Ext w W1 := by rw [← hW1]; exact (Ext.refl w).alloc _
  have bX1 : RdB W1 x 0 A n c := by rw [← hW1, ← hx]; exact BxT.new w 50 #[.slice A n c, .int .i64 0]
  have HT := Lib.hid (risen15_c x A n c b w W1 h hn hX1 (by omega) bX1)
  have HW1 := Lib.hid hW1; have HXE := Lib.hid hx
  clear hW1 hx
  obtain ⟨⟨E, l, o⟩, hR⟩ : ∃ r, takeRw b = r := ⟨_, rfl⟩
  rw [hR] at HT ⊢
  have HEL : Hid (E ≠ 0 → l = [] ∧ o = 0) := Lib.hid fun hE => by
    have h1 : takeRw b = (E, [], 0) := by
      have hs : ∀ p : Nat × List Int × Nat, p = takeRw b → p.1 ≠ 0 → p = (p.1, [], 0) := by
        intro p hp h0
        subst hp
        unfold takeRw at h0 ⊢
        split
        · rfl
        · split
          · rfl
          · split
            · rfl
            · rename_i h1 h2 h3
              rw [if_neg h1, if_neg h2, if_neg h3] at h0
              exact absurd rfl h0
      have := hs _ hR.symm hE
      rw [hR]; exact this
    rw [hR] at h1
    injection h1 with h1 h2; injection h2 with h2 h3
    exact ⟨h2, h3⟩
  clear h hX1 bX1 hR
  by_cases hE : E = 0
  · subst hE
    go_enter Try.func17, Try.ntmps17
    go_wp2_with fail
    rw [HW1.out, HXE.out]
    refine HT.out.mono ?_; rintro e w1 ⟨hx1, A', n', c', rfl, hrd, hb⟩
    have c1 : w1.cell? ⟨x, 1, none⟩ = some (.int .i64 (o : Int)) := BxT.cell (hb (by first | trivial | rfl)) rfl
    have HRD := Lib.hid hrd
    clear hb hrd
    go_wp2_with fail
    go_quiet (fail)
    go_wp2_with fail
    refine bodyPost_ret (results_tmp3 rfl _ _ _) rfl ?_
    exact ⟨hx1.drewN nq, _, _, _, rfl, HRD.out.ext ((Ext.refl _).drewN nq)⟩
  · obtain ⟨rfl, rfl⟩ := HEL.out hE
    have t1 : ((E : Int) != 0) = true := by rw [bne_iff_ne]; omega
    have t2 : ((E : Int) == 0) = false := by rw [beq_eq_false_iff_ne]; omega
    clear hE
    go_enter Try.func17, Try.ntmps17
    go_wp2_with fail
    rw [HW1.out, HXE.out]
    refine HT.out.mono ?_; rintro e w1 ⟨hx1, A', n', c', rfl, hrd, hb⟩
    clear hb hrd
    go_wp2_with fail
    refine bodyPost_ret (results_tmp3 rfl _ _ _) rfl ?_
    exact ⟨hx1, _, _, _, rfl, Rd.nil _ _⟩
end Go.Proofs.Ytilldbbfdmdggaa
