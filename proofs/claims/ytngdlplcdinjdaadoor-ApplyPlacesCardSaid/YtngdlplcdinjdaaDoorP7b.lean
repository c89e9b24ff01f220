/- Layer 7, the program: none, All. -/
import Derived.Test.YtngdlplcdinjdaaDoorC7c
import Derived.Test.YtngdlplcdinjdaaDoorP7
namespace Go.Proofs.YtngdlplcdinjdaaDoor
open Go.RowKit
set_option maxRecDepth 100000
set_option maxHeartbeats 4000000
theorem none7_c (s : ByteArray) (w : World) (hs : s.size ≤ 1000000000) :
    Calls Tryd.prog 33 #[.string s] w fun e w' => e = .returned (allV s []) ∧ Ext w w' := by
  have HV := Lib.hid (fun w' => valid_c s w' hs)
  have HCL := Lib.hid (fun w' => clone_c s w' hs)
  cases hd : dec (bs s) with
  | none =>
    have hres : allV s [] = .tuple #[.string ⟨#[]⟩, .int .i64 3] := by unfold allV allR; rw [if_pos ⟨rfl, hd⟩]
    have HRES := Lib.hid hres
    have hb : (dec (bs s)).isSome = false := by rw [hd]; rfl
    rw [hb] at HV
    clear hres hb hd
    go_enter Tryd.func33, Tryd.ntmps33
    go_wp2_with fail
    refine (HV.out _).mono ?_; rintro e w1 ⟨rfl, hx1⟩
    go_wp2_with fail
    go_ret2
    rw [HRES.out]
    exact ⟨rfl, hx1⟩
  | some cs =>
    have hres : allV s [] = .tuple #[.string s, .int .i64 0] := by
      unfold allV allR
      rw [if_neg (by rintro ⟨_, h⟩; rw [hd] at h; cases h)]
      rfl
    have HRES := Lib.hid hres
    have hb : (dec (bs s)).isSome = true := by rw [hd]; rfl
    rw [hb] at HV
    clear hres hb hd
    go_enter Tryd.func33, Tryd.ntmps33
    go_wp2_with fail
    refine (HV.out _).mono ?_; rintro e w1 ⟨rfl, hx1⟩
    go_wp2_with fail
    refine (HCL.out _).mono ?_; rintro e w2 ⟨rfl, hx2⟩
    go_wp2_with fail
    go_ret2
    rw [HRES.out]
    exact ⟨rfl, hx1.trans hx2⟩
theorem all_c (A : Option Addr) (n c : Nat) (ls : List (List Sp)) (s : ByteArray) (w : World) [Tab w] (h : RdSS w A n c ls) (hq : ∀ l ∈ ls, l.length ≤ 1000) (hts : ∀ l ∈ ls, ∀ s ∈ l, s.2.2.size ≤ 1000000000) (hT : s.size + sumTT ls ≤ 1000000000) (hn : n ≤ 1000000) :
    Calls Tryd.prog 17 #[.string s, .slice A n c] w fun e w' => e = .returned (allV s ls) ∧ Ext w w' := by
  have hln := h.1
  by_cases hn0 : n = 0
  · have hl0 : ls = [] := List.eq_nil_of_length_eq_zero (by omega)
    subst hl0
    have HNO := Lib.hid (fun w' => none7_c s w' (by omega))
    subst hn0
    obtain ⟨r1, hr1⟩ : ∃ r1, (allR s []).1 = r1 := ⟨_, rfl⟩
    obtain ⟨r2, hr2⟩ : ∃ r2, (allR s []).2 = r2 := ⟨_, rfl⟩
    have hav : allV s [] = .tuple #[.string r1, .int .i64 r2] := by unfold allV; rw [hr1, hr2]
    rw [hav] at HNO
    have HAV := Lib.hid hav
    clear h hq hts hT hln hn hr1 hr2 hav
    go_enter Tryd.func17, Tryd.ntmps17
    go_wp2_with fail
    refine (HNO.out _).mono ?_; rintro e w1 ⟨rfl, hx1⟩
    go_wp2_with fail
    go_ret2
    rw [HAV.out]
    exact ⟨rfl, hx1⟩
  have HTO : Hid (∀ (l : List Sp) (x : ByteArray) a k c' w', Ext w w' → l ∈ ls → l.length = k → Rd w' 3 (.slice a k c') k (spCells l) → x.size + sumT l ≤ 1000000000 → _) := Lib.hid fun l x a k c' w' hx hl hk hr hb => have hTb := tab_ext hx; to_c a k c' l x w' hr hk (by have := hq l hl; omega) (hts l hl) (by omega) (by omega)
  have hinit : allL s ls = allL s (ls.drop 0) := by rw [List.drop_zero]
  have hsum0 : s.size + sumTT (ls.drop 0) ≤ 1000000000 := by rw [List.drop_zero]; exact hT
  have H := Lib.hid h; have HLN := Lib.hid hln; have HI := Lib.hid hinit
  have hres : allV s ls = .tuple #[.string (allL s ls).1, .int .i64 (allL s ls).2] := by
    unfold allV allR
    rw [if_neg]
    rintro ⟨h1, h2⟩
    rw [h1] at hln; exact hn0 hln.symm
  have HRES := Lib.hid hres
  have hnz : ((n : Int) == 0) = false := by rw [beq_eq_false_iff_ne]; omega
  clear hres h hln hinit hT hq hts hn0
  go_enter Tryd.func17, Tryd.ntmps17
  go_wp2_with fail
  go_loopw [0, 18] (fun x z wr => ∃ (j : Nat) (si : ByteArray), j ≤ n ∧ z = .int .i64 j ∧ x = .string si ∧ allL s ls = allL si (ls.drop j) ∧ si.size + sumTT (ls.drop j) ≤ 1000000000 ∧ Ext w wr) (fun _ z _ => n - (intOf z).toNat)
  case atStart => exact ⟨0, s, by omega, rfl, rfl, HI.out, hsum0, Ext.refl _⟩
  case round =>
    obtain ⟨j, si, hj, rfl, rfl, hal, hsz, hxr⟩ := hrel
    by_cases hlt : j < n
    · have hjl : j < ls.length := by have := HLN.out; omega
      obtain ⟨b, off, a, kc, rfl, hb, q0, hr⟩ := (H.out.ext hxr).at_ hlt hjl
      have dn : decide (j < n) = true := by rw [decide_eq_true_eq]; exact hlt
      have i0 : (0 : Int) ≤ (j : Int) := by omega
      have i1 : (j : Int) < (n : Int) := by omega
      have hdr : ls.drop j = ls[j] :: ls.drop (j + 1) := List.drop_eq_getElem_cons hjl
      rw [hdr, allL] at hal
      rw [hdr] at hsz
      have hs2 : sumTT (ls[j] :: ls.drop (j + 1)) = sumT ls[j] + sumTT (ls.drop (j + 1)) := rfl
      have hc := HTO.out ls[j] si a _ kc wr hxr (List.getElem_mem hjl) rfl hr (by omega)
      have hgr := toS_size ls[j] si
      rw [hs2] at hsz
      have HC := Lib.hid hc
      clear hc hdr hs2 hr hb
      obtain ⟨k, hk⟩ : ∃ k, ls[j].length = k := ⟨_, rfl⟩
      rw [hk] at q0 HC
      clear hk
      generalize ls[j] = l at *
      by_cases he : toE l si = 0
      · rw [if_pos he] at hal
        have hv : toV l si = .tuple #[.string (toS l si), .int .i64 0] := by unfold toV; rw [he]
        rw [hv] at HC
        have HAL := Lib.hid hal
        clear hal hv he
        have hsz2 : (toS l si).size + sumTT (ls.drop (j + 1)) ≤ 1000000000 := by omega
        generalize toS l si = sj at *
        go_wp2_with fail
        refine HC.out.mono ?_; rintro e w2 ⟨rfl, hx2⟩
        go_wp2_with fail
        go_roundw
        case rel => exact ⟨j + 1, sj, by omega, by go_num, rfl, HAL.out, hsz2, hxr.trans hx2⟩
        case measure => simp [intOf]; omega
      · rw [if_neg he] at hal
        have HAL := Lib.hid hal
        have hb1 : (toE l si != 0) = true := by rw [bne_iff_ne]; exact he
        have hb2 : (toE l si == 0) = false := by rw [beq_eq_false_iff_ne]; exact he
        unfold toV at HC
        clear hal he
        generalize toS l si = sj at *
        generalize toE l si = ej at *
        go_wp2_with fail
        refine HC.out.mono ?_; rintro e w2 ⟨rfl, hx2⟩
        go_wp2_with fail
        go_ret2
        rw [HRES.out, HAL.out]
        exact ⟨rfl, hxr.trans hx2⟩
    · obtain rfl : j = n := by omega
      have hall : ls.drop j = [] := List.drop_eq_nil_of_le (by have := HLN.out; omega)
      rw [hall] at hal
      have HAL := Lib.hid hal
      have dn : decide (j < j) = false := by rw [decide_eq_false_iff_not]; omega
      clear hal hall hlt hj
      go_wp2_with fail
      go_ret2
      rw [HRES.out, HAL.out]
      exact ⟨rfl, hxr⟩
end Go.Proofs.YtngdlplcdinjdaaDoor
