/- Layer 7, the reference: All. -/
import Derived.Test.YtngdlplcdinjdaaDoorC7
import Derived.Test.YtngdlplcdinjdaaDoorC7b
namespace Go.Proofs.YtngdlplcdinjdaaDoor
open Go.RowKit
set_option maxRecDepth 100000
set_option maxHeartbeats 4000000
def sumTT (ls : List (List Sp)) : Nat := (ls.map sumT).sum
def allL : ByteArray → List (List Sp) → ByteArray × Int
  | s, [] => (s, 0)
  | s, l :: r => if toE l s = 0 then allL (toS l s) r else (⟨#[]⟩, toE l s)
open Classical in
noncomputable def allR (s : ByteArray) (ls : List (List Sp)) : ByteArray × Int := if ls = [] ∧ dec (bs s) = none then (⟨#[]⟩, 3) else allL s ls
noncomputable def allV (s : ByteArray) (ls : List (List Sp)) : Value := .tuple #[.string (allR s ls).1, .int .i64 (allR s ls).2]
theorem errL_zero (l : List Sp) (h : errL l = 0) : ∀ s ∈ l, mayS s.1 s.2.1 s.2.2 = 0 := by
  induction l with
  | nil => intro s hs; cases hs
  | cons a t ih =>
    unfold errL at h
    by_cases ha : mayS a.1 a.2.1 a.2.2 = 0
    · rw [if_pos ha] at h
      intro s hs
      rcases List.mem_cons.1 hs with rfl | hs
      · exact ha
      · exact ih h s hs
    · rw [if_neg ha] at h; exact absurd h ha
theorem toS_size (l : List Sp) (s : ByteArray) : (toS l s).size ≤ s.size + sumT l := by
  unfold toS
  split
  · rename_i h
    unfold toE at h
    by_cases hm : mayL l = 0
    · rw [if_pos hm] at h
      cases hd : dec (bs s) with
      | none => rw [hd] at h; cases h
      | some cs =>
        have he : ∀ s ∈ l, mayS s.1 s.2.1 s.2.2 = 0 := by
          unfold mayL at hm
          by_cases h0 : errL l = 0
          · exact errL_zero l h0
          · rw [if_neg h0] at hm; exact absurd hm h0
        have h1 := apT_size (tok l) cs
        have h2 := insT_sum l fun s hs => okW_of_may (he s hs)
        have h4 : (encs cs).length = s.size := by rw [← (dec_some hd).2, bs_length]
        rw [size_mkS]
        show (encs (apT (tok l) cs)).length ≤ _
        omega
    · rw [if_neg hm] at h; exact absurd h hm
  · have : (⟨#[]⟩ : ByteArray).size = 0 := rfl
    omega
theorem allR_c (A : Option Addr) (n c : Nat) (ls : List (List Sp)) (s : ByteArray) (w : World) (h : RdSS w A n c ls) (hq : ∀ l ∈ ls, l.length ≤ 1000) (hts : ∀ l ∈ ls, ∀ s ∈ l, s.2.2.size ≤ 1000000000) (hT : s.size + sumTT ls ≤ 1000000000) (hn : n ≤ 1000000) :
    Calls Tryd.prog 18 #[.string s, .slice A n c] w fun e w' => e = .returned (allV s ls) ∧ Ext w w' := by
  have HV := Lib.hid (fun w' => validR_c s w' (by omega))
  have HTO : Hid (∀ (l : List Sp) (x : ByteArray) a k c' w', Ext w w' → l ∈ ls → l.length = k → Rd w' 3 (.slice a k c') k (spCells l) → x.size + sumT l ≤ 1000000000 → _) := Lib.hid fun l x a k c' w' hx hl hk hr hb => toR_c a k c' l x w' hr hk (by have := hq l hl; omega) (hts l hl) (by omega) (by omega)
  have hln := h.1
  have hinit : allL s ls = allL s (ls.drop 0) := by rw [List.drop_zero]
  have hsum0 : s.size + sumTT (ls.drop 0) ≤ 1000000000 := by rw [List.drop_zero]; exact hT
  have H := Lib.hid h; have HLN := Lib.hid hln; have HI := Lib.hid hinit
  by_cases hb : (dec (bs s)).isSome = true ∨ n ≠ 0
  · have hres : allV s ls = .tuple #[.string (allL s ls).1, .int .i64 (allL s ls).2] := by
      unfold allV allR
      rw [if_neg]
      rintro ⟨h1, h2⟩
      rcases hb with hb | hb
      · rw [h2] at hb; cases hb
      · rw [h1] at hln; exact hb hln.symm
    have HRES := Lib.hid hres
    have hb2 : (dec (bs s)).isSome = true ∨ ((dec (bs s)).isSome = false ∧ ((n : Int) == 0) = false) := by
      cases hd : (dec (bs s)).isSome with
      | true => exact .inl rfl
      | false =>
        rcases hb with hb | hb
        · rw [hd] at hb; cases hb
        · exact .inr ⟨rfl, by rw [beq_eq_false_iff_ne]; omega⟩
    obtain ⟨bb, hbb⟩ : ∃ bb, (dec (bs s)).isSome = bb := ⟨_, rfl⟩
    rw [hbb] at HV hb2
    clear hres hb hbb h hln hinit hT hq hts
    rcases hb2 with rfl | ⟨rfl, hn0⟩
    all_goals
      go_enter Tryd.func18, Tryd.ntmps18
      go_wp2_with fail
      refine (HV.out _).mono ?_; rintro e w1 ⟨rfl, hx1⟩
      have HX1 := Lib.hid hx1
      clear hx1
      go_wp2_with fail
      go_loopw [0, 6] (fun x z wr => ∃ (j : Nat) (si : ByteArray), j ≤ n ∧ z = .int .i64 j ∧ x = .string si ∧ allL s ls = allL si (ls.drop j) ∧ si.size + sumTT (ls.drop j) ≤ 1000000000 ∧ Ext w wr) (fun _ z _ => n - (intOf z).toNat)
      case atStart => exact ⟨0, s, by omega, rfl, rfl, HI.out, hsum0, HX1.out⟩
      case round =>
        obtain ⟨j, si, hj, rfl, rfl, hal, hsz, hxr⟩ := hrel
        by_cases hlt : j < n
        · have hjl : j < ls.length := by have := HLN.out; omega
          obtain ⟨b, off, a, kc, rfl, hb, q0, hr⟩ := (H.out.ext hxr).at_ hlt hjl
          have dn : decide (j < n) = true := by rw [decide_eq_true_eq]; exact hlt
          have i0 : (0 : Int) ≤ (j : Int) := by omega
          have i1 : (j : Int) < (n : Int) := by omega
          have hdr : ls.drop j = ls[j] :: ls.drop (j + 1) := List.drop_eq_getElem_cons hjl
          rw [hdr, allL] at hal
          rw [hdr] at hsz
          have hs2 : sumTT (ls[j] :: ls.drop (j + 1)) = sumT ls[j] + sumTT (ls.drop (j + 1)) := rfl
          have hc := HTO.out ls[j] si a _ kc wr hxr (List.getElem_mem hjl) rfl hr (by omega)
          have hgr := toS_size ls[j] si
          rw [hs2] at hsz
          have HC := Lib.hid hc
          clear hc hdr hs2 hr hb
          obtain ⟨k, hk⟩ : ∃ k, ls[j].length = k := ⟨_, rfl⟩
          rw [hk] at q0 HC
          clear hk
          generalize ls[j] = l at *
          by_cases he : toE l si = 0
          · rw [if_pos he] at hal
            have hv : toV l si = .tuple #[.string (toS l si), .int .i64 0] := by unfold toV; rw [he]
            rw [hv] at HC
            have HAL := Lib.hid hal
            clear hal hv he
            have hsz2 : (toS l si).size + sumTT (ls.drop (j + 1)) ≤ 1000000000 := by omega
            generalize toS l si = sj at *
            go_wp2_with fail
            refine HC.out.mono ?_; rintro e w2 ⟨rfl, hx2⟩
            go_wp2_with fail
            go_roundw
            case rel => exact ⟨j + 1, sj, by omega, by go_num, rfl, HAL.out, hsz2, hxr.trans hx2⟩
            case measure => simp [intOf]; omega
          · rw [if_neg he] at hal
            have HAL := Lib.hid hal
            have hb1 : (toE l si != 0) = true := by rw [bne_iff_ne]; exact he
            have hb2 : (toE l si == 0) = false := by rw [beq_eq_false_iff_ne]; exact he
            unfold toV at HC
            clear hal he
            generalize toS l si = sj at *
            generalize toE l si = ej at *
            go_wp2_with fail
            refine HC.out.mono ?_; rintro e w2 ⟨rfl, hx2⟩
            go_wp2_with fail
            go_ret2
            rw [HRES.out, HAL.out]
            exact ⟨rfl, hxr.trans hx2⟩
        · obtain rfl : j = n := by omega
          have hall : ls.drop j = [] := List.drop_eq_nil_of_le (by have := HLN.out; omega)
          rw [hall] at hal
          have HAL := Lib.hid hal
          have dn : decide (j < j) = false := by rw [decide_eq_false_iff_not]; omega
          clear hal hall hlt hj
          go_wp2_with fail
          go_ret2
          rw [HRES.out, HAL.out]
          exact ⟨rfl, hxr⟩
  · have hb1 : (dec (bs s)).isSome = false := by
      cases hd : (dec (bs s)).isSome with
      | true => exact absurd (.inl hd) hb
      | false => rfl
    have hn0 : n = 0 := by
      by_cases h0 : n = 0
      · exact h0
      · exact absurd (.inr h0) hb
    have hl0 : ls = [] := List.eq_nil_of_length_eq_zero (by omega)
    have hres : allV s ls = .tuple #[.string ⟨#[]⟩, .int .i64 3] := by
      unfold allV allR
      rw [if_pos ⟨hl0, by cases hd : dec (bs s) with | none => rfl | some x => rw [hd] at hb1; cases hb1⟩]
    have HRES := Lib.hid hres
    rw [hb1] at HV
    subst hn0
    clear hres hb hb1 h hln hinit hT hq hts hl0
    go_enter Tryd.func18, Tryd.ntmps18
    go_wp2_with fail
    refine (HV.out _).mono ?_; rintro e w1 ⟨rfl, hx1⟩
    go_wp2_with fail
    go_ret2
    rw [HRES.out]
    exact ⟨rfl, hx1⟩
end Go.Proofs.YtngdlplcdinjdaaDoor
