/- Packed: P15. -/
import Derived.ArgAppend
import Derived.BigQuiet
import Derived.Deep.DrawnRows
import Derived.Deep.QuietTactic
import Derived.Deep.RegionHeld3
import Derived.Deep.Upon
import Derived.Laws.AppendOwnNone
import Derived.Laws.BytesArg
import Derived.Laws.MakeOwn
import Derived.Lib.AppendStr
import Derived.Lib.DecodeN
import Derived.Lib.Hide
import Derived.Lib.Strings
import Derived.Lib.UnsafeStr
import Derived.ScopeJumps
import Derived.StillTail
import Derived.StillTailTactics
import Derived.Test.YtgcaphjjigpjlaaDoorProg
import Derived.Test.YtgcaphjjigpjlaaDoorShelf
import Derived.WalkKit
import Derived.WalkLawsBesides
import Derived.WalkMore
import Derived.WalkSpells
import Derived.Test.YtgcaphjjigpjlaaDoorQ00
import Derived.Test.YtgcaphjjigpjlaaDoorQ01
import Derived.Test.YtgcaphjjigpjlaaDoorQ02
import Derived.Test.YtgcaphjjigpjlaaDoorQ03
import Derived.Test.YtgcaphjjigpjlaaDoorQ09
import Derived.Test.YtgcaphjjigpjlaaDoorQ12
import Derived.Test.YtgcaphjjigpjlaaDoorQ16
namespace Go.Proofs.YtgcaphjjigpjlaaDoor
open Go.RowKit
set_option maxRecDepth 100000
set_option maxHeartbeats 4000000
set_option linter.unusedSimpArgs false
theorem putP15 (x : Nat) (v : Int) (hv : v = (x : Int)) (hx : x < 268435456) (w : World) : Calls Tryd.prog 105 #[.int .i64 v] w fun e w' => ∃ A n c, e = .returned (.tuple #[.slice A n c, .int .i64 0]) ∧ Ext w w' ∧ Own w' w.heap.size 5 1 (.slice A n c) n (Lib.byteCells (putL x)) ∧ (putL x).length = n := by
  refine (putO_c v w).mono ?_
  rintro e w' ⟨hx', ⟨h, _⟩ | ⟨m, u, h1, h2, rfl, h4⟩⟩
  · omega
  · obtain rfl : m = x := by omega
    obtain ⟨A, c, rfl, _⟩ := h4.len
    exact ⟨A, _, c, rfl, hx', h4, rfl⟩
def WrB (B y : Nat) (w : World) (l : List UInt8) : Prop := B ≤ y ∧ ∃ v, BxT 137 w y #[v] ∧ Own w B 5 1 v l.length (Lib.byteCells l)
theorem WrB.ext {B y : Nat} {w w' : World} {l : List UInt8} (h : WrB B y w l) (hx : Ext w w') : WrB B y w' l := by
  obtain ⟨hy, v, h1, h2⟩ := h
  exact ⟨hy, v, h1.ext hx, h2.ext hx⟩
theorem numW15_c (y m B : Nat) (mv : Int) (l : List UInt8) (a w : World) (hv : mv = (m : Int)) (hm : m < 268435456) (ha : Below B a w) (hb : WrB B y w l) (hp : l.length ≤ 100000000) :
    Calls Tryd.prog 99 #[.pointer (some ⟨y, 0, none⟩), .int .i64 mv] w fun e w' => e = .returned (.tuple #[]) ∧ Below B a w' ∧ WrB B y w' (l ++ putL m) := by
  have HN := Lib.hid (fun w' => putP15 m mv hv hm w')
  obtain ⟨hy, v, hb, ho⟩ := hb
  have HB := Lib.hid hb; have HO := Lib.hid ho; have HPL := Lib.hid (putL_length m); have HPP := Lib.hid (putL_pos m); have HA := Lib.hid ha
  obtain ⟨i, hi, hz0, hz1, hz2⟩ := info_parts info_u8b
  have hsz := ho.2
  clear hb ho hv ha
  go_enter Tryd.func99, Tryd.ntmps99
  go_wp2_with fail
  refine (HN.out _).mono ?_; rintro e w1 ⟨A, n, c, rfl, hx1, o1, hn⟩
  have c0 : w1.cell? ⟨y, 0, none⟩ = some v := (HB.out.ext hx1).cell rfl
  obtain ⟨v', w', ha1, o', b', oth⟩ := app_rdo (P := Tryd.prog) 96 96 5 i _ 1 1 Tryd.underlying96 hi hz0 hz1 hz2 rfl (by omega) (by omega) (Below.trans HA.out (hx1.below.mono hsz)) (HO.out.ext hx1) (by omega) o1.rd (by have := HPP.out; omega) (by have := HPL.out; omega) (byteCells_one _)
  obtain ⟨ga, gc, rfl, _⟩ := o'.len
  have HAP := Lib.hid ha1
  have hb2 : BxT 137 w' y #[v] := oth.2 y _ _ _ (by decide) (HB.out.ext hx1)
  have d0 : w'.cell? ⟨y, 0, none⟩ = some v := hb2.cell rfl
  have d1 := hb2.frozen 0
  have HR : Hid (WrB B y (w'.setCell ⟨y, 0, none⟩ (.slice ga (l.length + n) gc)) (l ++ putL m)) := Lib.hid ⟨hy, (.slice ga (l.length + n) gc), hb2.set 0 (.slice ga (l.length + n) gc), by
    have h2 := own_cell_other (a := ⟨y, 0, none⟩) o' hb2 (by decide) (.slice ga (l.length + n) gc)
    rw [List.length_append, hn, byteCells_append2]
    exact h2⟩
  have HBE : Hid (Below B a (w'.setCell ⟨y, 0, none⟩ (.slice ga (l.length + n) gc))) := Lib.hid (b'.setCell (p := ⟨y, 0, none⟩) hy _)
  clear ha1 o' b' oth o1 hn hb2
  go_wp2_with (at_builtin; refine wpList_append_run rfl rfl HAP.out rfl rfl ?_)
  go_end0
  exact ⟨rfl, HBE.out, HR.out⟩
theorem risesP_c (A : Option Addr) (n c : Nat) (l : List Int) (w : World) (h : Rd w 1 (.slice A n c) n (nV l)) (hn : n ≤ 1000000) : Calls Tryd.prog 97 #[.slice A n c] w fun e w' => e = .returned (.bool (decide (rowOk l))) ∧ Ext w w' := by
  have hl := nV_len h
  have H := Lib.hid h
  have HL := Lib.hid hl
  by_cases hbad : n = 0 ∨ 65536 < n
  · have hR : decide (rowOk l) = false := by
      rw [decide_eq_false_iff_not]
      rintro ⟨h1, h2, _⟩
      have := List.length_pos_iff.2 h1
      omega
    rw [hR]
    clear h hl hR
    rcases hbad with hb | hb
    · subst hb
      go_enter Tryd.func97, Tryd.ntmps97
      go_wp2_with fail
      go_ret
      exact ⟨rfl, Ext.refl _⟩
    · have g1 : (65536 : Int) < (n : Int) := by omega
      have g2 : ((n : Int) == 0) = false := by rw [beq_eq_false_iff_ne]; omega
      go_enter Tryd.func97, Tryd.ntmps97
      go_wp2_with fail
      go_ret
      exact ⟨rfl, Ext.refl _⟩
  · simp only [not_or] at hbad
    obtain ⟨b1, b2⟩ := hbad
    have g1 : ¬ (65536 : Int) < (n : Int) := by omega
    have g2 : ((n : Int) == 0) = false := by rw [beq_eq_false_iff_ne]; omega
    have HD : Hid (rowOk l ↔ rises (-1) l) := Lib.hid ⟨fun h => h.2.2, fun h => ⟨fun e => by subst e; simp at hl; omega, by omega, h⟩⟩
    clear h hl
    go_enter Tryd.func97, Tryd.ntmps97
    go_wp2_with fail
    go_loopw [3, 16] (fun yv z wr => ∃ (j : Nat) (y : Int), j ≤ n ∧ z = .int .i64 j ∧ yv = .int .i64 y ∧ -1 ≤ y ∧ Hid (y = lastI l j) ∧ Hid (rises (-1) l ↔ rises (lastI l j) (l.drop j)) ∧ Hid (Ext w wr)) (fun _ z _ => n - (intOf z).toNat)
    case atStart => exact ⟨0, -1, by omega, rfl, rfl, by omega, Lib.hid rfl, Lib.hid Iff.rfl, Lib.hid (Ext.refl _)⟩
    case round =>
      obtain ⟨j, y, hj, rfl, rfl, hlow, HY, HI, HX⟩ := hrel
      by_cases hlt : j < n
      · have dn : decide (j < n) = true := by rw [decide_eq_true_eq]; exact hlt
        have hjl : j < l.length := by have := HL.out; omega
        obtain ⟨b, off, rfl, q0, hb⟩ := int_at (H.out.ext HX.out) hlt hjl
        have i0 : (0 : Int) ≤ (j : Int) := by omega
        have i1 : (j : Int) < (n : Int) := by omega
        have hst := rises_step hjl
        have hls := lastI_succ hjl
        rw [← HY.out] at hst
        have HNO : Hid (¬ (y < l[j] ∧ l[j] ≤ 268435455) → decide (rowOk l) = false) := Lib.hid fun hc => by
          rw [decide_eq_false_iff_not, HD.out, HI.out, ← HY.out, hst]
          exact fun h => hc ⟨h.1, h.2.1⟩
        have HYES : Hid (y < l[j] ∧ l[j] ≤ 268435455 → (rises (-1) l ↔ rises (lastI l (j + 1)) (l.drop (j + 1)))) := Lib.hid fun hc => by
          rw [HI.out, ← HY.out, hst]
          exact ⟨fun h => h.2.2, fun h => ⟨hc.1, hc.2, h⟩⟩
        have HLS := Lib.hid hls.symm
        clear hst hls
        obtain ⟨x, hx⟩ : ∃ x, l[j] = x := ⟨_, rfl⟩
        rw [hx] at q0 HNO HYES HLS
        clear hx HI HY
        by_cases c1 : x ≤ y
        · have HR := Lib.hid (HNO.out (by omega))
          have d1 : decide (x ≤ y) = true := by rw [decide_eq_true_eq]; exact c1
          clear HNO HYES
          go_wp2_with fail
          go_ret
          rw [HR.out]
          exact ⟨rfl, HX.out⟩
        · have d1 : decide (x ≤ y) = false := by rw [decide_eq_false_iff_not]; exact c1
          by_cases c2 : 268435455 < x
          · have HR := Lib.hid (HNO.out (by omega))
            have d2 : decide ((268435455 : Int) < x) = true := by rw [decide_eq_true_eq]; exact c2
            clear HNO HYES
            go_wp2_with fail
            go_ret
            rw [HR.out]
            exact ⟨rfl, HX.out⟩
          · have d2 : decide ((268435455 : Int) < x) = false := by rw [decide_eq_false_iff_not]; exact c2
            have HI2 := Lib.hid (HYES.out ⟨by omega, by omega⟩)
            clear HNO HYES
            go_wp2_with fail
            go_roundw
            case rel => exact ⟨j + 1, x, by omega, by go_num, rfl, by omega, HLS, HI2, HX⟩
            case measure => simp [intOf]; omega
      · obtain rfl : j = n := by omega
        have dn : decide (j < j) = false := by rw [decide_eq_false_iff_not]; omega
        have hall : l.drop j = [] := List.drop_eq_nil_of_le (by have := HL.out; omega)
        have HR : Hid (decide (rowOk l) = true) := Lib.hid (by rw [decide_eq_true_eq, HD.out, HI.out, hall]; trivial)
        clear hall
        go_wp2_with fail
        go_ret
        rw [HR.out]
        exact ⟨rfl, HX.out⟩
theorem steps15_c (y : Nat) (A : Option Addr) (n c : Nat) (l : List Int) (a w : World) (h : Rd a 1 (.slice A n c) n (nV l)) (hok : rowOk l) (ha : Ext a w) (hb : WrB a.heap.size y w []) :
    Calls Tryd.prog 98 #[.slice A n c, .func (.func 99) #[.pointer (some ⟨y, 0, none⟩)] #[]] w fun e w' => e = .returned (.tuple #[]) ∧ Ext a w' ∧ WrB a.heap.size y w' (rwL l) := by
  have hl := nV_len h
  obtain ⟨o1, o2, o3⟩ := hok
  have HST : Hid (∀ j (hj : j < l.length), lastI l j < l[j] ∧ l[j] ≤ 268435455) := Lib.hid fun j hj => by
    cases j with
    | zero => have := rises_at o3 0 hj; exact ⟨this.1, this.2.1⟩
    | succ j =>
      have h1 := rises_at o3 j (by omega)
      rw [lastI_succ (by omega)]
      have h2 := rises_drop (l := l) hj l[j]
      have h3 := h2.1 h1.2.2
      exact ⟨h3.1, h3.2.1⟩
  have HG : Hid (∀ W, Below a.heap.size a W → WrB a.heap.size y W [] → _) := Lib.hid fun W hx hb => numW15_c y l.length a.heap.size (n : Int) [] a W (by omega) (by omega) hx hb (by simp)
  have H := Lib.hid h; have HL := Lib.hid hl
  have hn2 : n ≤ 65536 := by omega
  have HPL := Lib.hid (putL_length l.length)
  have HB := Lib.hid hb; have HA := Lib.hid ha
  clear h hl o1 o2 o3 hb ha
  go_enter Tryd.func98, Tryd.ntmps98
  go_wp2_with fail
  refine (HG.out _ HA.out HB.out).mono ?_; rintro e w3 ⟨rfl, e3, b3⟩
  have B3 : Hid (WrB a.heap.size y w3 (putL l.length ++ rsL (-1) (l.take 0))) := Lib.hid (by
    have e0 : rsL (-1) (l.take 0) = [] := rfl
    rw [e0, List.append_nil]; exact b3)
  have E3 := Lib.hid e3
  have HM3 : Hid ((putL l.length ++ rsL (-1) (l.take 0)).length ≤ 4 + 4 * 0) := Lib.hid (by
    have e0 : rsL (-1) (l.take 0) = [] := rfl
    rw [e0, List.append_nil]; have := HPL.out; omega)
  clear b3 e3 HB HA
  go_wp2_with fail
  go_loopw [4, 13] (fun yv z wr => ∃ (j : Nat) (yl : Int), j ≤ n ∧ z = .int .i64 j ∧ yv = .int .i64 yl ∧ -1 ≤ yl ∧ Hid (yl = lastI l j) ∧ Hid ((putL l.length ++ rsL (-1) (l.take j)).length ≤ 4 + 4 * j) ∧ Hid (WrB a.heap.size y wr (putL l.length ++ rsL (-1) (l.take j))) ∧ Hid (Ext a wr)) (fun _ z _ => n - (intOf z).toNat)
  case atStart => exact ⟨0, -1, by omega, rfl, rfl, by omega, Lib.hid rfl, HM3, B3, E3⟩
  case round =>
    clear B3 HM3 E3
    obtain ⟨j, yl, hj, rfl, rfl, hy, HY, HM, OWN, HX⟩ := hrel
    by_cases hlt : j < n
    · have dn : decide (j < n) = true := by rw [decide_eq_true_eq]; exact hlt
      have hjl : j < l.length := by have := HL.out; omega
      obtain ⟨b, off, rfl, q00, hb⟩ := int_at H.out hlt hjl
      have q0 := ext_cell HX.out q00
      have i0 : (0 : Int) ≤ (j : Int) := by omega
      have i1 : (j : Int) < (n : Int) := by omega
      obtain ⟨s1, s2⟩ := HST.out j hjl
      have hst := rsL_take' hjl
      have hls := lastI_succ hjl
      rw [← HY.out] at s1 hst
      have HPL2 := Lib.hid (putL_length (l[j] - yl - 1).toNat)
      have HNX : Hid (putL l.length ++ rsL (-1) (l.take (j + 1)) = (putL l.length ++ rsL (-1) (l.take j)) ++ putL (l[j] - yl - 1).toNat) := Lib.hid (by rw [hst, List.append_assoc]; rfl)
      obtain ⟨x, hx⟩ : ∃ x, l[j] = x := ⟨_, rfl⟩
      rw [hx] at q0 q00 s1 s2 HPL2 HNX hls
      have HLS := Lib.hid hls.symm
      obtain ⟨PR, hPR⟩ : ∃ P, putL l.length ++ rsL (-1) (l.take j) = P := ⟨_, rfl⟩
      rw [hPR] at HM OWN HNX
      have HG2 : Hid (∀ W, Below a.heap.size a W → WrB a.heap.size y W PR → _) := Lib.hid fun W hx hb => numW15_c y (x - yl - 1).toNat a.heap.size (x - yl - 1) PR a W (by omega) (by omega) hx hb (by have := HM.out; omega)
      clear hst hls hx hPR q00
      go_wp2_with fail
      refine (HG2.out _ HX.out OWN.out).mono ?_; rintro e w4 ⟨rfl, e4, b4⟩
      have OWN4 : Hid (WrB a.heap.size y w4 (putL l.length ++ rsL (-1) (l.take (j + 1)))) := Lib.hid (by rw [HNX.out]; exact b4)
      have HM4 : Hid ((putL l.length ++ rsL (-1) (l.take (j + 1))).length ≤ 4 + 4 * (j + 1)) := Lib.hid (by rw [HNX.out, List.length_append]; have := HM.out; have := HPL2.out; omega)
      clear b4
      go_wp2_with fail
      go_roundw
      case rel => exact ⟨j + 1, x, by omega, by go_num, rfl, by omega, HLS, HM4, OWN4, Lib.hid e4⟩
      case measure => simp [intOf]; omega
    · obtain rfl : j = n := by omega
      have dn : decide (j < j) = false := by rw [decide_eq_false_iff_not]; omega
      have hall : l.take j = l := by rw [← HL.out]; exact List.take_length
      have HO : Hid (WrB a.heap.size y wr (rwL l)) := Lib.hid (by
        have h1 := OWN.out
        rw [hall] at h1
        exact h1)
      clear hall OWN HM
      go_wp2_with fail
      go_end0
      exact ⟨rfl, HX.out, HO.out⟩
theorem rwPutP_c (A : Option Addr) (n c : Nat) (l : List Int) (w : World) (h : Rd w 1 (.slice A n c) n (nV l)) (hn : n ≤ 1000000) : Calls Tryd.prog 87 #[.slice A n c] w (BytesR w (rowE l) (rwB l)) := by
  have HRI := Lib.hid (risesP_c A n c l w h hn)
  by_cases hok : rowOk l
  · have hE : rowE l = 0 := if_pos hok
    have hB : rwB l = rwL l := by unfold rwB; rw [if_pos hE]
    rw [decide_eq_true hok] at HRI
    rw [hE, hB]
    have HG : Hid (∀ y W, Ext w W → WrB w.heap.size y W [] → _) := Lib.hid fun y W hx hb => steps15_c y A n c l w W h hok hx hb
    clear h hE hB hok
    go_enter Tryd.func87, Tryd.ntmps87
    go_wp2_with fail
    refine HRI.out.mono ?_; rintro e w1 ⟨rfl, hx1⟩
    have b1 := BxT.new w1 137 #[.slice none 0 0]
    have x1 := hx1.alloc (.cells #[.slice none 0 0] 137)
    have B1 : Hid (WrB w.heap.size w1.heap.size (w1.alloc (.cells #[.slice none 0 0] 137)) []) := Lib.hid ⟨hx1.size, _, b1, Own.nil _ _ _ _ x1.size⟩
    go_wp2_with fail
    obtain ⟨W1, hW1⟩ : ∃ W, w1.alloc (.cells #[.slice none 0 0] 137) = W := ⟨_, rfl⟩
    rw [hW1] at B1 x1 ⊢
    obtain ⟨y, hy⟩ : ∃ y, w1.heap.size = y := ⟨_, rfl⟩
    rw [hy] at B1 ⊢
    clear b1 hW1 hy hx1
    refine (HG.out y W1 x1 B1.out).mono ?_; rintro e w3 ⟨rfl, e3, b3⟩
    obtain ⟨_, v, bb, bo⟩ := b3
    have c0 : w3.cell? ⟨y, 0, none⟩ = some v := bb.cell rfl
    have BO := Lib.hid bo
    clear bb bo
    go_wp2_with fail
    go_ret2
    exact ⟨e3, _, rfl, BO.out⟩
  · have hE : rowE l = 2 := if_neg hok
    have hB : rwB l = [] := by unfold rwB; rw [hE]; rfl
    rw [decide_eq_false hok] at HRI
    rw [hE, hB]
    clear h hE hB hok
    go_enter Tryd.func87, Tryd.ntmps87
    go_wp2_with fail
    refine HRI.out.mono ?_; rintro e w1 ⟨rfl, hx1⟩
    go_wp2_with fail
    go_ret2
    exact ⟨hx1, _, rfl, Own.nil _ _ _ _ hx1.size⟩
end Go.Proofs.YtgcaphjjigpjlaaDoor
