/- Layer 15, the reference: Put, Take, Rises, PutRow, TakeRow, SameRow. -/
import Derived.Test.YtilldbbfdmdggaaM15
import Derived.Test.YtilldbbfdmdggaaBn
import Derived.Test.YtilldbbfdmdggaaBv
import Derived.Test.YtilldbbfdmdggaaC2b
import Derived.Test.YtilldbbfdmdggaaC1a
namespace Go.Proofs.Ytilldbbfdmdggaa
open Go.RowKit
set_option maxRecDepth 100000
set_option maxHeartbeats 4000000
set_option linter.unusedSimpArgs false
/-- What makes bytes tells: the error, and the bytes. -/
def BytesR (w : World) (E : Int) (B : List UInt8) (e : Ending) (w' : World) : Prop :=
  Ext w w' ∧ ∃ v, e = .returned (.tuple #[v, .int .i64 E]) ∧ Own w' w.heap.size 5 1 v B.length (Lib.byteCells B)
def snB (s : ByteArray) : List UInt8 := if snE s = 0 then snL s else []
def rwB (l : List Int) : List UInt8 := if rowE l = 0 then rwL l else []
/-- What takes a text tells. -/
def TextR (w : World) (r : Nat × List UInt8 × Nat) (e : Ending) (w' : World) : Prop := Ext w w' ∧ e = .returned (.tuple #[.string (mkS r.2.1), .int .i64 (r.2.2 : Int), .int .i64 (r.1 : Int)])
/-- What takes a row tells. -/
def RowR (w : World) (r : Nat × List Int × Nat) (e : Ending) (w' : World) : Prop := Ext w w' ∧ ∃ A n c, e = .returned (.tuple #[.slice A n c, .int .i64 (r.2.2 : Int), .int .i64 (r.1 : Int)]) ∧ Rd w' 1 (.slice A n c) n (nV r.2.1)
theorem mkS_nil : mkS [] = ⟨#[]⟩ := rfl
theorem rises_drop {l : List Int} {j : Nat} (hj : j < l.length) (was : Int) : rises was (l.drop j) ↔ was < l[j] ∧ l[j] ≤ 268435455 ∧ rises l[j] (l.drop (j + 1)) := by
  rw [List.drop_eq_getElem_cons hj]; exact Iff.rfl
theorem rises_at {l : List Int} : ∀ {was : Int}, rises was l → ∀ j (hj : j < l.length), was < l[j] ∧ l[j] ≤ 268435455 ∧ rises l[j] (l.drop (j + 1)) := by
  induction l with
  | nil => intro was _ j hj; exact absurd hj (by simp)
  | cons x r ih =>
    intro was h j hj
    obtain ⟨h1, h2, h3⟩ := h
    cases j with
    | zero => exact ⟨h1, h2, h3⟩
    | succ j =>
      obtain ⟨a, b, c⟩ := ih h3 j (by simpa using hj)
      exact ⟨by rw [List.getElem_cons_succ]; omega, b, c⟩

/-- The number ahead of place j. -/
def lastI (l : List Int) : Nat → Int
  | 0 => -1
  | j + 1 => l.getD j (-1)
theorem lastI_succ {l : List Int} {j : Nat} (h : j < l.length) : lastI l (j + 1) = l[j] := by simp [lastI, h]
theorem rises_step {l : List Int} {j : Nat} (hj : j < l.length) : rises (lastI l j) (l.drop j) ↔ lastI l j < l[j] ∧ l[j] ≤ 268435455 ∧ rises (lastI l (j + 1)) (l.drop (j + 1)) := by
  rw [rises_drop hj, lastI_succ hj]
def addR (ls : List Int) (o : Nat) (q : Nat × List Int × Nat) : Nat × List Int × Nat := if q.1 ≠ 0 then (q.1, [], 0) else (0, ls ++ q.2.1, o + q.2.2)
theorem addR_nil (q : Nat × List Int × Nat) (h : q.1 ≠ 0 → q = (q.1, [], 0)) : addR [] 0 q = q := by
  unfold addR
  by_cases h0 : q.1 = 0
  · obtain ⟨a, b, c⟩ := q
    simp only at h0
    subst h0; simp
  · rw [if_pos h0, ← h h0]
theorem tR_shape (m : Nat) (was : Int) (b : List UInt8) (h : (tR m was b).1 ≠ 0) : tR m was b = ((tR m was b).1, [], 0) := by
  cases m with
  | zero => exact absurd rfl h
  | succ m =>
    rw [tR] at h ⊢
    split
    · rfl
    · split
      · rfl
      · split
        · rfl
        · rename_i h1 h2 h3
          rw [if_neg h1, if_neg h2, if_neg h3] at h
          exact absurd rfl h
theorem addR_e {ls : List Int} {o m : Nat} {was : Int} {b : List UInt8} {N K F : Nat} (h : takeL b = (N, K, F)) (hF : F ≠ 0) : addR ls o (tR (m + 1) was b) = (F, [], 0) := by
  rw [tR, h]; simp only; rw [if_pos hF]; unfold addR; rw [if_pos hF]
theorem addR_8 {ls : List Int} {o m : Nat} {was : Int} {b : List UInt8} {N K : Nat} (h : takeL b = (N, K, 0)) (hc : 268435455 < was + 1 + (N : Int)) : addR ls o (tR (m + 1) was b) = (8, [], 0) := by
  rw [tR, h]; simp only; rw [if_neg (by decide), if_pos hc]; rfl
theorem addR_ok {ls : List Int} {o m : Nat} {was : Int} {b : List UInt8} {N K : Nat} (h : takeL b = (N, K, 0)) (hc : ¬ 268435455 < was + 1 + (N : Int)) : addR ls o (tR (m + 1) was b) = addR (ls ++ [was + 1 + (N : Int)]) (o + K) (tR m (was + 1 + (N : Int)) (b.drop K)) := by
  rw [tR, h]; simp only
  rw [if_neg (by decide), if_neg hc]
  by_cases h0 : (tR m (was + 1 + (N : Int)) (b.drop K)).1 = 0
  · rw [if_neg (by omega)]
    unfold addR
    rw [if_neg (by simp), if_neg (by omega)]
    simp [List.append_assoc, Nat.add_assoc]
  · rw [if_pos h0]
    unfold addR
    rw [if_pos h0, if_pos h0]
theorem takeRw_1 {b : List UInt8} {N K F : Nat} (h : takeL b = (N, K, F)) (hF : F ≠ 0) : takeRw b = (F, [], 0) := by unfold takeRw; rw [h]; simp only; rw [if_pos hF]
theorem takeRw_2 {b : List UInt8} {N K : Nat} (h : takeL b = (N, K, 0)) (hN : N = 0 ∨ 65536 < N) : takeRw b = (8, [], 0) := by unfold takeRw; rw [h]; simp only; rw [if_neg (by decide), if_pos hN]
theorem takeRw_3 {b : List UInt8} {N K : Nat} (h : takeL b = (N, K, 0)) (hN : ¬ (N = 0 ∨ 65536 < N)) {E : Nat} (hR : tR N (-1) (b.drop K) = (E, [], 0)) (hE : E ≠ 0) : takeRw b = (E, [], 0) := by
  unfold takeRw; rw [h]; simp only; rw [if_neg (by decide), if_neg hN, hR]; simp only; rw [if_pos hE]
theorem takeRw_4 {b : List UInt8} {N K : Nat} (h : takeL b = (N, K, 0)) (hN : ¬ (N = 0 ∨ 65536 < N)) {l : List Int} {o : Nat} (hR : tR N (-1) (b.drop K) = (0, l, o)) : takeRw b = (0, l, K + o) := by
  unfold takeRw; rw [h]; simp only; rw [if_neg (by decide), if_neg hN, hR]; simp only; rw [if_neg (by decide)]
theorem rsL_take (l : List Int) : ∀ (was : Int) (j : Nat) (hj : j < l.length), rsL was (l.take (j + 1)) = rsL was (l.take j) ++ rS (if j = 0 then was else l.getD (j - 1) (-1)) l[j] := by
  induction l with
  | nil => intro was j hj; exact absurd hj (by simp)
  | cons x r ih =>
    intro was j hj
    cases j with
    | zero => show rS was x ++ rsL x [] = [] ++ rS was x; simp [rsL]
    | succ j =>
      have h := ih x j (by simpa using hj)
      show rS was x ++ rsL x (r.take (j + 1)) = (rS was x ++ rsL x (r.take j)) ++ _
      rw [h, List.append_assoc, List.getElem_cons_succ]
      cases j with
      | zero => simp
      | succ j => simp
theorem rsL_take' {l : List Int} {j : Nat} (hj : j < l.length) : rsL (-1) (l.take (j + 1)) = rsL (-1) (l.take j) ++ rS (lastI l j) l[j] := by
  rw [rsL_take l (-1) j hj]
  cases j with
  | zero => rfl
  | succ j => rw [if_neg (by omega), Nat.add_sub_cancel]; rfl
theorem putR15 (x : Nat) (v : Int) (hv : v = (x : Int)) (hx : x < 268435456) (w : World) : Calls Try.prog 24 #[.int .i64 v] w fun e w' => ∃ A n c, e = .returned (.tuple #[.slice A n c, .int .i64 0]) ∧ Ext w w' ∧ Own w' w.heap.size 5 1 (.slice A n c) n (Lib.byteCells (putL x)) ∧ (putL x).length = n := by
  refine (putRO_c v w).mono ?_
  rintro e w' ⟨hx', ⟨h, _⟩ | ⟨m, u, h1, h2, rfl, h4⟩⟩
  · omega
  · obtain rfl : m = x := by omega
    obtain ⟨A, c, rfl, _⟩ := h4.len
    exact ⟨A, _, c, rfl, hx', h4, rfl⟩
theorem snPutR_c (s : ByteArray) (w : World) (hs : s.size ≤ 1000000000) : Calls Try.prog 10 #[.string s] w (BytesR w (snE s) (snB s)) := by
  have HV := Lib.hid (validR_c s w hs)
  by_cases h1 : dec (bs s) = none
  · have hE : snE s = 3 := by unfold snE; rw [if_pos h1]
    have hB : snB s = [] := by unfold snB; rw [hE]; rfl
    rw [h1] at HV
    rw [hE, hB]
    clear h1 hE hB hs
    go_enter Try.func10, Try.ntmps10
    go_wp2_with fail
    refine HV.out.mono ?_; rintro e w1 ⟨rfl, hx1⟩
    go_wp2_with fail
    go_ret2
    exact ⟨hx1, _, rfl, Own.nil _ _ _ _ hx1.size⟩
  · have hd : (dec (bs s)).isSome = true := by
      cases h : dec (bs s) with
      | none => exact absurd h h1
      | some _ => rfl
    rw [hd] at HV
    by_cases h2 : 65536 < s.size
    · have hE : snE s = 2 := by unfold snE; rw [if_neg h1, if_pos h2]
      have hB : snB s = [] := by unfold snB; rw [hE]; rfl
      rw [hE, hB]
      have g1 : (65536 : Int) < (s.size : Int) := by omega
      clear h1 hE hB hd h2
      go_enter Try.func10, Try.ntmps10
      go_wp2_with fail
      refine HV.out.mono ?_; rintro e w1 ⟨rfl, hx1⟩
      go_wp2_with fail
      go_ret2
      exact ⟨hx1, _, rfl, Own.nil _ _ _ _ hx1.size⟩
    · have hE : snE s = 0 := by unfold snE; rw [if_neg h1, if_neg h2]
      have hB : snB s = snL s := by unfold snB; rw [if_pos hE]
      rw [hE, hB]
      have g1 : ¬ (65536 : Int) < (s.size : Int) := by omega
      have HG : Hid (∀ w', Calls Try.prog 24 #[.int .i64 (s.size : Int)] w' _) := Lib.hid fun w' => putR15 s.size _ rfl (by omega) w'
      obtain ⟨i, hi, hz0, hz1, hz2⟩ := info_parts info_u8b
      clear h1 hE hB hd h2
      go_enter Try.func10, Try.ntmps10
      go_wp2_with fail
      refine HV.out.mono ?_; rintro e w1 ⟨rfl, hx1⟩
      go_wp2_with fail
      refine (HG.out _).mono ?_; rintro e w2 ⟨A, n, c, rfl, hx2, ho, hn⟩
      have hx := hx1.trans hx2
      have ho2 : Own w2 w.heap.size 5 1 (.slice A n c) n (Lib.byteCells (putL s.size)) := ho.more hx1.size
      have hn4 := putL_length s.size
      obtain ⟨v', w', happ, hown', hbel'⟩ := app_str (P := Try.prog) 22 9 22 5 i Try.underlying22 Try.underlying9 hi hz0 hz1 hz2 hx ho2 (by omega) s (by omega)
      have HAP := Lib.hid happ
      have HOWN : Hid (Own w' w.heap.size 5 1 v' (snL s).length (Lib.byteCells (snL s))) := Lib.hid (by
        unfold snL; rw [List.length_append, byteCells_append2, hn, bs_length]; exact hown')
      clear happ hown' ho ho2 hn
      go_wp2_with (at_builtin; refine wpList_append_run2 rfl rfl HAP.out rfl rfl ?_)
      go_ret2
      exact ⟨hbel', _, rfl, HOWN.out⟩
theorem snTakeR_c (A : Option Addr) (n c : Nat) (b : List UInt8) (w : World) (h : Rd w 1 (.slice A n c) n (Lib.byteCells b)) (hn : n ≤ 1000000) : Calls Try.prog 13 #[.slice A n c] w (TextR w (takeT b)) := by
  have hbl : b.length = n := by have := h.1; simpa [Lib.byteCells] using this
  obtain ⟨⟨N, K, F⟩, hT⟩ : ∃ r, takeL b = r := ⟨_, rfl⟩
  have HT : Hid (Calls Try.prog 26 #[.slice A n c] w fun e w'' => e = .returned (.tuple #[.int .i64 (N : Int), .int .i64 (K : Int), .int .i64 (F : Int)]) ∧ Ext w w'') := Lib.hid (by
    have h1 := takeR_c A n c b w h (by omega)
    rw [hT] at h1; exact h1)
  have hcap : n ≤ c := by obtain ⟨_, _, hv, hc⟩ := h.len; injection hv with _ _ e; omega
  by_cases hF : F = 0
  · subst hF
    obtain ⟨t1, t2, t3, t4⟩ := take_some hT
    by_cases hN : 65536 < N
    · have hR : takeT b = (8, [], 0) := by unfold takeT; rw [hT]; simp only; rw [if_neg (by decide), if_pos hN]
      rw [hR]
      have g1 : (65536 : Int) < (N : Int) := by omega
      clear h hbl hT t1 t2 t3 t4 hN hR
      go_enter Try.func13, Try.ntmps13
      go_wp2_with fail
      refine HT.out.mono ?_; rintro e w1 ⟨rfl, hx1⟩
      go_wp2_with fail
      refine bodyPost_ret (results_tmp3 rfl _ _ _) rfl ?_
      exact ⟨hx1, rfl⟩
    · have g1 : ¬ (65536 : Int) < (N : Int) := by omega
      by_cases hS : b.length - K < N
      · have hR : takeT b = (7, [], 0) := by unfold takeT; rw [hT]; simp only; rw [if_neg (by decide), if_neg hN, if_pos hS]
        rw [hR]
        have g2 : (n : Int) - (K : Int) < (N : Int) := by omega
        have g3 : (K : Int) ≤ (n : Int) := by omega
        clear h hbl hT t1 t2 t3 t4 hN hR hS
        go_enter Try.func13, Try.ntmps13
        go_wp2_with fail
        refine HT.out.mono ?_; rintro e w1 ⟨rfl, hx1⟩
        go_wp2_with fail
        refine bodyPost_ret (results_tmp3 rfl _ _ _) rfl ?_
        exact ⟨hx1, rfl⟩
      · have g2 : ¬ (n : Int) - (K : Int) < (N : Int) := by omega
        obtain ⟨r, hr⟩ : ∃ r, K + N = r := ⟨_, rfl⟩
        have d6 : (K : Int) + (N : Int) = (r : Int) := by omega
        have z0 : (0 : Int) ≤ (K : Int) := by omega
        have z1 : (K : Int) ≤ (r : Int) := by omega
        have z2 : (r : Int) ≤ (c : Int) := by omega
        have hrp : r - K = N := by omega
        obtain ⟨bb, o0, hA⟩ : ∃ bb o0, A = some ⟨bb, o0, none⟩ := by
          obtain ⟨_, A', c', hv, _, h2⟩ := h
          obtain ⟨b1, off, hA, _⟩ := h2 (by omega)
          injection hv with e1
          exact ⟨b1, off, by rw [e1]; exact hA⟩
        subst hA
        obtain ⟨TX, hTX⟩ : ∃ TX, (b.drop K).take N = TX := ⟨_, rfl⟩
        have hrd := bytes_front (m := N) (bytes_behind (m := K) h (by omega)) (by omega)
        rw [hTX] at hrd
        have htl : TX.length = N := by rw [← hTX, List.length_take, List.length_drop]; omega
        obtain ⟨AD, hAD⟩ : ∃ AD : Option Addr, (if c = K then some ⟨bb, o0, none⟩ else some ⟨bb, o0 + K, none⟩) = AD := ⟨_, rfl⟩
        rw [hAD] at hrd
        rw [← hrp] at hrd
        have HCV : Hid (∀ W, Ext w W → (convert 22 9 (.slice AD (r - K) (c - K))).run Try.prog W = .ok (.string (mkS TX)) W) := Lib.hid fun W hx =>
          run_str (P := Try.prog) W 22 9 5 Try.underlying22 Try.underlying5 Try.underlying9 (hrd.ext hx)
        have hmk : (mkS TX).size = N := by rw [size_mkS, htl]
        have HVA : Hid (∀ w', Calls Try.prog 23 #[.string (mkS TX)] w' fun e w'' => e = .returned (.bool (dec TX).isSome) ∧ Ext w' w'') := Lib.hid fun w' => by
          have h1 := validR_c (mkS TX) w' (by omega)
          rw [bs_mkS] at h1; exact h1
        have hR : takeT b = if dec TX = none then (8, [], 0) else (0, TX, r) := by unfold takeT; rw [hT]; simp only; rw [if_neg (by decide), if_neg hN, if_neg hS, hTX, hr]
        rw [hR]
        have HMK := Lib.hid hmk
        clear h hbl hT t1 t2 t3 t4 hN hR hS hrd htl hTX hmk hr hrp
        by_cases hd : dec TX = none
        · rw [if_pos hd]
          rw [hd] at HVA
          clear hd
          generalize mkS TX = TM at *
          go_enter Try.func13, Try.ntmps13
          go_wp2_with fail
          refine HT.out.mono ?_; rintro e w1 ⟨rfl, hx1⟩
          have k1 := Lib.hid (HCV.out w1 hx1)
          go_wp2_with (with_reducible refine wpList_convert_run rfl rfl k1.out rfl ?_)
          refine (HVA.out _).mono ?_; rintro e w2 ⟨rfl, hx2⟩
          go_wp2_with fail
          refine bodyPost_ret (results_tmp3 rfl _ _ _) rfl ?_
          exact ⟨hx1.trans hx2, rfl⟩
        · rw [if_neg hd]
          have hd2 : (dec TX).isSome = true := by
            cases h : dec TX with
            | none => exact absurd h hd
            | some _ => rfl
          rw [hd2] at HVA
          clear hd hd2
          go_enter Try.func13, Try.ntmps13
          go_wp2_with fail
          refine HT.out.mono ?_; rintro e w1 ⟨rfl, hx1⟩
          have k1 := Lib.hid (HCV.out w1 hx1)
          go_wp2_with (with_reducible refine wpList_convert_run rfl rfl k1.out rfl ?_)
          refine (HVA.out _).mono ?_; rintro e w2 ⟨rfl, hx2⟩
          go_wp2_with fail
          refine bodyPost_ret (results_tmp3 rfl _ _ _) rfl ?_
          exact ⟨hx1.trans hx2, rfl⟩
  · have hR : takeT b = (F, [], 0) := by unfold takeT; rw [hT]; simp only; rw [if_pos hF]
    rw [hR]
    have t1 : ((F : Int) != 0) = true := by rw [bne_iff_ne]; omega
    have t2 : ((F : Int) == 0) = false := by rw [beq_eq_false_iff_ne]; omega
    clear h hbl hT hF hR
    go_enter Try.func13, Try.ntmps13
    go_wp2_with fail
    refine HT.out.mono ?_; rintro e w1 ⟨rfl, hx1⟩
    go_wp2_with fail
    refine bodyPost_ret (results_tmp3 rfl _ _ _) rfl ?_
    exact ⟨hx1, rfl⟩
theorem risesR_c (A : Option Addr) (n c : Nat) (l : List Int) (w : World) (h : Rd w 1 (.slice A n c) n (nV l)) (hn : n ≤ 1000000) : Calls Try.prog 29 #[.slice A n c] w fun e w' => e = .returned (.bool (decide (rowOk l))) ∧ Ext w w' := by
  have hl := nV_len h
  have H := Lib.hid h
  have HL := Lib.hid hl
  by_cases hbad : n = 0 ∨ 65536 < n
  · have hR : decide (rowOk l) = false := by
      rw [decide_eq_false_iff_not]
      rintro ⟨h1, h2, _⟩
      have := List.length_pos_iff.2 h1
      omega
    rw [hR]
    clear h hl hR
    rcases hbad with hb | hb
    · subst hb
      go_enter Try.func29, Try.ntmps29
      go_wp2_with fail
      go_ret
      exact ⟨rfl, Ext.refl _⟩
    · have g1 : (65536 : Int) < (n : Int) := by omega
      have g2 : ((n : Int) == 0) = false := by rw [beq_eq_false_iff_ne]; omega
      go_enter Try.func29, Try.ntmps29
      go_wp2_with fail
      go_ret
      exact ⟨rfl, Ext.refl _⟩
  · simp only [not_or] at hbad
    obtain ⟨b1, b2⟩ := hbad
    have g1 : ¬ (65536 : Int) < (n : Int) := by omega
    have g2 : ((n : Int) == 0) = false := by rw [beq_eq_false_iff_ne]; omega
    have HD : Hid (rowOk l ↔ rises (-1) l) := Lib.hid ⟨fun h => h.2.2, fun h => ⟨fun e => by subst e; simp at hl; omega, by omega, h⟩⟩
    clear h hl
    go_enter Try.func29, Try.ntmps29
    go_wp2_with fail
    go_loopw [3] (fun z wr => ∃ j : Nat, j ≤ n ∧ z = .int .i64 j ∧ Hid ((rises (-1) l ↔ rises (lastI l j) (l.drop j)) ∧ -1 ≤ lastI l j) ∧ Hid (Ext w wr)) (fun z _ => n - (intOf z).toNat)
    case atStart => exact ⟨0, by omega, rfl, Lib.hid ⟨Iff.rfl, by show (-1 : Int) ≤ -1; omega⟩, Lib.hid (Ext.refl _)⟩
    case round =>
      obtain ⟨j, hj, rfl, HI, HX⟩ := hrel
      by_cases hlt : j < n
      · have dn : decide (j < n) = true := by rw [decide_eq_true_eq]; exact hlt
        have hjl : j < l.length := by have := HL.out; omega
        obtain ⟨b, off, rfl, q0, hb⟩ := int_at (H.out.ext HX.out) hlt hjl
        have i0 : (0 : Int) ≤ (j : Int) := by omega
        have i1 : (j : Int) < (n : Int) := by omega
        have hst := rises_step hjl
        have hls := lastI_succ hjl
        have HNO : Hid (¬ (lastI l j < l[j] ∧ l[j] ≤ 268435455) → decide (rowOk l) = false) := Lib.hid fun hc => by
          rw [decide_eq_false_iff_not, HD.out, HI.out.1, hst]
          exact fun h => hc ⟨h.1, h.2.1⟩
        have HYES : Hid (lastI l j < l[j] ∧ l[j] ≤ 268435455 → (rises (-1) l ↔ rises (lastI l (j + 1)) (l.drop (j + 1))) ∧ -1 ≤ lastI l (j + 1)) := Lib.hid fun hc => by
          refine ⟨?_, by rw [hls]; have := HI.out.2; omega⟩
          rw [HI.out.1, hst]
          exact ⟨fun h => h.2.2, fun h => ⟨hc.1, hc.2, h⟩⟩
        have hlow := HI.out.2
        have HP : Hid (0 < j → ((off + (j - 1) : Nat), (.int .i64 (lastI l j) : Value)) = ((off + (j - 1) : Nat), (.int .i64 (lastI l j) : Value)) ∧ wr.cell? ⟨b, off + (j - 1), none⟩ = some (.int .i64 (lastI l j))) := Lib.hid fun h0 => by
          obtain ⟨b', off', hA, q1, _⟩ := int_at (H.out.ext HX.out) (j := j - 1) (by omega) (by omega)
          injection hA with hA; injection hA with e1 e2; subst e1; subst e2
          refine ⟨rfl, ?_⟩
          rw [q1, show lastI l j = l[j - 1] by
            obtain ⟨t, rfl⟩ : ∃ t, j = t + 1 := ⟨j - 1, by omega⟩
            rw [lastI_succ (by omega)]; simp]
        clear hst hls
        obtain ⟨x, hx⟩ : ∃ x, l[j] = x := ⟨_, rfl⟩
        obtain ⟨y, hy⟩ : ∃ y, lastI l j = y := ⟨_, rfl⟩
        rw [hx] at q0
        rw [hx, hy] at HNO HYES
        rw [hy] at HP hlow
        have HYY : Hid (j = 0 → y = -1) := Lib.hid fun e => by subst e; rw [← hy]; rfl
        clear hx hy HI
        by_cases c1 : x < 0
        · have HR := Lib.hid (HNO.out (by omega))
          have d1 : decide (x < 0) = true := by rw [decide_eq_true_eq]; exact c1
          clear hlow HNO HYES HP
          go_wp2_with fail
          go_quiet (fail)
          go_wp2_with fail
          go_ret
          rw [HR.out]
          exact ⟨rfl, HX.out.drewN nq⟩
        · have d1 : decide (x < 0) = false := by rw [decide_eq_false_iff_not]; exact c1
          by_cases c2 : 268435455 < x
          · have HR := Lib.hid (HNO.out (by omega))
            have d2 : decide ((268435455 : Int) < x) = true := by rw [decide_eq_true_eq]; exact c2
            clear hlow HNO HYES HP
            go_wp2_with fail
            go_quiet (fail)
            go_wp2_with fail
            go_ret
            rw [HR.out]
            exact ⟨rfl, HX.out.drewN nq⟩
          · have d2 : decide ((268435455 : Int) < x) = false := by rw [decide_eq_false_iff_not]; exact c2
            by_cases c3 : 0 < j
            · have q1 := (HP.out c3).2
              have d3 : decide ((0 : Int) < (j : Int)) = true := by rw [decide_eq_true_eq]; omega
              have d3' : decide (0 < j) = true := by rw [decide_eq_true_eq]; exact c3
              have e4 : ((j : Int) - 1).toNat = j - 1 := by omega
              have i2 : (0 : Int) ≤ (j : Int) - 1 := by omega
              have i3 : (j : Int) - 1 < (n : Int) := by omega
              by_cases c4 : x ≤ y
              · have HR := Lib.hid (HNO.out (by omega))
                have d4 : decide (x ≤ y) = true := by rw [decide_eq_true_eq]; exact c4
                clear hlow HNO HYES HP
                go_wp2_with fail
                go_quiet (fail)
                go_wp2_with fail
                go_ret
                rw [HR.out]
                exact ⟨rfl, HX.out.drewN nq⟩
              · have HI2 := Lib.hid (HYES.out ⟨by omega, by omega⟩)
                have d4 : decide (x ≤ y) = false := by rw [decide_eq_false_iff_not]; exact c4
                clear hlow HNO HYES HP
                go_wp2_with fail
                go_quiet (fail)
                go_wp2_with fail
                go_roundw
                case rel => exact ⟨j + 1, by omega, by go_num, HI2, Lib.hid (HX.out.drewN nq)⟩
                case measure => simp [intOf]; omega
            · obtain rfl : j = 0 := by omega
              have HI2 := Lib.hid (HYES.out ⟨by have := HYY.out rfl; omega, by omega⟩)
              rw [Nat.add_zero] at q0
              clear hlow HNO HYES HP
              go_wp2_with fail
              go_quiet (fail)
              go_wp2_with fail
              go_roundw
              case rel => exact ⟨1, by omega, by go_num, HI2, Lib.hid (HX.out.drewN nq)⟩
              case measure => simp [intOf]; omega
      · obtain rfl : j = n := by omega
        have dn : decide (j < j) = false := by rw [decide_eq_false_iff_not]; omega
        have hall : l.drop j = [] := List.drop_eq_nil_of_le (by have := HL.out; omega)
        have HR : Hid (decide (rowOk l) = true) := Lib.hid (by rw [decide_eq_true_eq, HD.out, HI.out.1, hall]; trivial)
        clear hall
        go_wp2_with fail
        go_ret
        rw [HR.out]
        exact ⟨rfl, HX.out⟩
theorem rwPutR_c (A : Option Addr) (n c : Nat) (l : List Int) (w : World) (h : Rd w 1 (.slice A n c) n (nV l)) (hn : n ≤ 1000000) : Calls Try.prog 16 #[.slice A n c] w (BytesR w (rowE l) (rwB l)) := by
  have HRI := Lib.hid (risesR_c A n c l w h hn)
  have hl := nV_len h
  by_cases hok : rowOk l
  · have hE : rowE l = 0 := if_pos hok
    have hB : rwB l = rwL l := by unfold rwB; rw [if_pos hE]
    rw [decide_eq_true hok] at HRI
    rw [hE, hB]
    obtain ⟨o1, o2, o3⟩ := hok
    have HST : Hid (∀ j (hj : j < l.length), lastI l j < l[j] ∧ l[j] ≤ 268435455) := Lib.hid fun j hj => by
      cases j with
      | zero => have := rises_at o3 0 hj; exact ⟨this.1, this.2.1⟩
      | succ j =>
        have h1 := rises_at o3 j (by omega)
        rw [lastI_succ (by omega)]
        have h2 := rises_drop (l := l) hj l[j]
        have h3 := h2.1 h1.2.2
        exact ⟨h3.1, h3.2.1⟩
    have HLO : Hid (∀ j, -1 ≤ lastI l j) := Lib.hid fun j => by
      cases j with
      | zero => show (-1 : Int) ≤ -1; omega
      | succ j =>
        by_cases hj : j < l.length
        · rw [lastI_succ hj]
          have h3 : ∀ k (hk : k < l.length), -1 ≤ l[k] := by
            intro k
            induction k with
            | zero => intro hk; have := (HST.out 0 hk).1; have e : lastI l 0 = -1 := rfl; omega
            | succ k ih => intro hk; have h2 := (HST.out (k + 1) hk).1; rw [lastI_succ (by omega)] at h2; have := ih (by omega); omega
          exact h3 j hj
        · show -1 ≤ l.getD j (-1)
          simp [hj]
    have HG : Hid (∀ w', Calls Try.prog 24 #[.int .i64 (n : Int)] w' _) := Lib.hid fun w' => putR15 l.length (n : Int) (by omega) (by omega) w'
    obtain ⟨i, hi, hz0, hz1, hz2⟩ := info_parts info_u8b
    have H := Lib.hid h; have HL := Lib.hid hl
    have hn2 : n ≤ 65536 := by omega
    clear h hl hE hB o1 o2 o3
    go_enter Try.func16, Try.ntmps16
    go_wp2_with fail
    refine HRI.out.mono ?_; rintro e w1 ⟨rfl, hx1⟩
    go_wp2_with fail
    refine (HG.out _).mono ?_; rintro e w2 ⟨A2, n2, c2, rfl, hx2, ho2, hn2'⟩
    have hn4 := putL_length l.length
    have O2 : Hid (Own w2 w.heap.size 5 1 (.slice A2 n2 c2) n2 (Lib.byteCells (putL l.length ++ rsL (-1) (l.take 0)))) := Lib.hid (by
      have e0 : rsL (-1) (l.take 0) = [] := rfl
      rw [e0, List.append_nil]; exact ho2.more hx1.size)
    have HM2 : Hid (n2 = (putL l.length ++ rsL (-1) (l.take 0)).length) := Lib.hid (by
      have e0 : rsL (-1) (l.take 0) = [] := rfl
      rw [e0, List.append_nil]; exact hn2'.symm)
    have E2 := Lib.hid (hx1.trans hx2)
    have hn5 : n2 ≤ 4 := by omega
    clear ho2 hn2' hn4 hx1 hx2 HRI HG
    go_wp2_with fail
    go_loopw [4, 6, 7] (fun o y z wr => ∃ (j m : Nat) (yl : Int), j ≤ n ∧ z = .int .i64 j ∧ y = .int .i64 yl ∧ m ≤ 4 + 4 * j ∧ -1 ≤ yl ∧ Hid (yl = lastI l j) ∧ Hid (m = (putL l.length ++ rsL (-1) (l.take j)).length) ∧ Hid (Own wr w.heap.size 5 1 o m (Lib.byteCells (putL l.length ++ rsL (-1) (l.take j)))) ∧ Hid (Ext w wr)) (fun _ _ z _ => n - (intOf z).toNat)
    case atStart => exact ⟨0, n2, -1, by omega, rfl, rfl, by omega, by omega, Lib.hid rfl, HM2, O2, E2⟩
    case round =>
      clear O2 HM2 E2
      obtain ⟨j, m, y, hj, rfl, rfl, hm, hy, HY, HM, OWN, HX⟩ := hrel
      by_cases hlt : j < n
      · have dn : decide (j < n) = true := by rw [decide_eq_true_eq]; exact hlt
        have hjl : j < l.length := by have := HL.out; omega
        obtain ⟨b, off, rfl, q00, hb⟩ := int_at H.out hlt hjl
        have q0 := ext_cell HX.out q00
        have i0 : (0 : Int) ≤ (j : Int) := by omega
        have i1 : (j : Int) < (n : Int) := by omega
        obtain ⟨s1, s2⟩ := HST.out j hjl
        have hst := rsL_take' hjl
        have hls := lastI_succ hjl
        rw [← HY.out] at s1 hst
        have hpl := putL_length (l[j] - y - 1).toNat
        have HNX : Hid (putL l.length ++ rsL (-1) (l.take (j + 1)) = (putL l.length ++ rsL (-1) (l.take j)) ++ putL (l[j] - y - 1).toNat) := Lib.hid (by rw [hst, List.append_assoc]; rfl)
        obtain ⟨x, hx⟩ : ∃ x, l[j] = x := ⟨_, rfl⟩
        rw [hx] at q0 q00 s1 s2 hpl HNX hls
        have HG2 : Hid (∀ w', Calls Try.prog 24 #[.int .i64 (x - y - 1)] w' _) := Lib.hid fun w' => putR15 (x - y - 1).toNat (x - y - 1) (by omega) (by omega) w'
        have HQ : Hid (∀ W, Ext w W → W.cell? ⟨b, off + j, none⟩ = some (.int .i64 x)) := Lib.hid fun W hx => ext_cell hx q00
        have HLS := Lib.hid hls.symm
        obtain ⟨PR, hPR⟩ : ∃ P, putL l.length ++ rsL (-1) (l.take j) = P := ⟨_, rfl⟩
        rw [hPR] at HM OWN HNX
        clear hst hls hx hPR q00
        go_wp2_with fail
        refine (HG2.out _).mono ?_; rintro e w3 ⟨A3, n3, c3, rfl, hx3, ho3, hn3⟩
        have x3 := HX.out.trans hx3
        obtain ⟨v', w', happ, hown', hbel'⟩ := app_rd (P := Try.prog) 22 22 5 i _ 1 1 Try.underlying22 hi hz0 hz1 hz2 rfl (by omega) (by omega) x3 (OWN.out.ext hx3) (by omega) ho3.rd (by omega) (byteCells_one _)
        rw [← byteCells_append2, ← HNX.out] at hown'
        have HAP := Lib.hid happ
        have HOWN := Lib.hid hown'
        have HBEL := Lib.hid hbel'
        have HM3 : Hid (m + n3 = (putL l.length ++ rsL (-1) (l.take (j + 1))).length) := Lib.hid (by rw [HNX.out, List.length_append, ← HM.out, hn3])
        have q1 := HQ.out _ hbel'
        clear happ hown' hbel' ho3 OWN x3 hx3
        go_wp2_with (at_builtin; refine wpList_append_run rfl rfl HAP.out rfl rfl ?_)
        go_roundw
        case rel => exact ⟨j + 1, m + n3, x, by omega, by go_num, rfl, by omega, by omega, HLS, HM3, HOWN, HBEL⟩
        case measure => simp [intOf]; omega
      · obtain rfl : j = n := by omega
        have dn : decide (j < j) = false := by rw [decide_eq_false_iff_not]; omega
        have hall : l.take j = l := by rw [← HL.out]; exact List.take_length
        have HO : Hid (Own wr w.heap.size 5 1 u4 (rwL l).length (Lib.byteCells (rwL l))) := Lib.hid (by
          have h1 := OWN.out
          rw [HM.out, hall] at h1
          exact h1)
        clear hall OWN HM
        go_wp2_with fail
        go_ret2
        exact ⟨HX.out, _, rfl, HO.out⟩
  · have hE : rowE l = 2 := if_neg hok
    have hB : rwB l = [] := by unfold rwB; rw [hE]; rfl
    rw [decide_eq_false hok] at HRI
    rw [hE, hB]
    clear h hl hE hB hok
    go_enter Try.func16, Try.ntmps16
    go_wp2_with fail
    refine HRI.out.mono ?_; rintro e w1 ⟨rfl, hx1⟩
    go_wp2_with fail
    go_ret2
    exact ⟨hx1, _, rfl, Own.nil _ _ _ _ hx1.size⟩
theorem rwTakeR_c (A : Option Addr) (n c : Nat) (b : List UInt8) (w : World) (h : Rd w 1 (.slice A n c) n (Lib.byteCells b)) (hn : n ≤ 1000000) : Calls Try.prog 18 #[.slice A n c] w (RowR w (takeRw b)) := by
  have hbl : b.length = n := by have := h.1; simpa [Lib.byteCells] using this
  obtain ⟨⟨N, K0, F0⟩, hT0⟩ : ∃ r, takeL b = r := ⟨_, rfl⟩
  have HT : Hid (Calls Try.prog 26 #[.slice A n c] w fun e w'' => e = .returned (.tuple #[.int .i64 (N : Int), .int .i64 (K0 : Int), .int .i64 (F0 : Int)]) ∧ Ext w w'') := Lib.hid (by
    have h1 := takeR_c A n c b w h (by omega)
    rw [hT0] at h1; exact h1)
  by_cases hF : F0 = 0
  · subst hF
    obtain ⟨t1, t2, t3, t4⟩ := take_some hT0
    by_cases hN : N = 0 ∨ 65536 < N
    · rw [takeRw_2 hT0 hN]
      clear h hbl hT0 t1 t2 t3 t4
      rcases hN with hN | hN
      · subst hN
        go_enter Try.func18, Try.ntmps18
        go_wp2_with fail
        refine HT.out.mono ?_; rintro e w1 ⟨rfl, hx1⟩
        go_wp2_with fail
        refine bodyPost_ret (results_tmp3 rfl _ _ _) rfl ?_
        exact ⟨hx1, _, _, _, rfl, Rd.nil _ _⟩
      · have g1 : (65536 : Int) < (N : Int) := by omega
        have g2 : ((N : Int) == 0) = false := by rw [beq_eq_false_iff_ne]; omega
        go_enter Try.func18, Try.ntmps18
        go_wp2_with fail
        refine HT.out.mono ?_; rintro e w1 ⟨rfl, hx1⟩
        go_wp2_with fail
        refine bodyPost_ret (results_tmp3 rfl _ _ _) rfl ?_
        exact ⟨hx1, _, _, _, rfl, Rd.nil _ _⟩
    · have g1 : ¬ (65536 : Int) < (N : Int) := by omega
      have g2 : ((N : Int) == 0) = false := by rw [beq_eq_false_iff_ne]; omega
      obtain ⟨bb, o0, hA⟩ : ∃ bb o0, A = some ⟨bb, o0, none⟩ := by
        obtain ⟨_, A', c', hv, _, h2⟩ := h
        obtain ⟨b1, off, hA, _⟩ := h2 (by omega)
        injection hv with e1
        exact ⟨b1, off, by rw [e1]; exact hA⟩
      subst hA
      obtain ⟨i, hi, hz0, hz1, hz2⟩ := info_parts info_int
      have hcap : n ≤ c := by obtain ⟨_, _, hv, hc⟩ := h.len; injection hv with _ _ e; omega
      obtain ⟨R, hR⟩ : ∃ R, tR N (-1) (b.drop K0) = R := ⟨_, rfl⟩
      have HR0 : Hid (addR [] 0 (tR (N - 0) (-1) (b.drop K0)) = R) := Lib.hid (by
        rw [addR_nil _ (tR_shape _ _ _), Nat.sub_zero]; exact hR)
      have HF3 : Hid (∀ E, R = (E, [], 0) → E ≠ 0 → takeRw b = (E, [], 0)) := Lib.hid fun E hE h0 => takeRw_3 hT0 hN (by rw [hR]; exact hE) h0
      have HF4 : Hid (∀ l o, R = (0, l, o) → takeRw b = (0, l, K0 + o)) := Lib.hid fun l o hE => takeRw_4 hT0 hN (by rw [hR]; exact hE)
      have H := Lib.hid h; have HBL := Lib.hid hbl
      have hK0 : K0 ≤ n := by omega
      have hN1 : N ≤ 65536 := by omega
      clear h hbl hT0 t1 t2 t3 t4 hN hR
      go_enter Try.func18, Try.ntmps18
      go_wp2_with fail
      refine HT.out.mono ?_; rintro e w1 ⟨rfl, hx1⟩
      have O1 : Hid (Own (w1.alloc (.cells #[] 3)) w.heap.size 3 1 (.slice (some ⟨w1.heap.size, 0, none⟩) 0 0) 0 (nV [])) := Lib.hid (Own.made w1 w.heap.size 3 1 0 #[] hx1.size (by omega) rfl)
      have E1 : Hid (Ext w (w1.alloc (.cells #[] 3))) := Lib.hid (hx1.alloc _)
      clear hx1 HT
      go_wp2_with fail
      go_loopw [6, 8, 9, 10] (fun at_ out was iz wr => ∃ (i off : Nat) (wz : Int) (ls : List Int), at_ = .int .i64 off ∧ was = .int .i64 wz ∧ iz = .int .i64 i ∧ i ≤ N ∧ off ≤ n ∧ -1 ≤ wz ∧ wz ≤ 268435455 ∧ Hid (Own wr w.heap.size 3 1 out i (nV ls)) ∧ Hid (K0 ≤ off ∧ addR ls (off - K0) (tR (N - i) wz (b.drop off)) = R) ∧ Hid (Ext w wr)) (fun _ _ _ z _ => N - (intOf z).toNat)
      case atStart => exact ⟨0, K0, -1, [], rfl, rfl, rfl, by omega, hK0, by omega, by omega, O1, Lib.hid ⟨Nat.le_refl _, by rw [Nat.sub_self]; exact HR0.out⟩, E1⟩
      case round =>
        clear O1 E1 HR0
        obtain ⟨i0, off, wz, ls, rfl, rfl, rfl, hi0, hoff, hw0, hw1, HO, HR, HX⟩ := hrel
        by_cases hlt : i0 < N
        · have dn : decide (i0 < N) = true := by rw [decide_eq_true_eq]; exact hlt
          have dn2 : (i0 : Int) < (N : Int) := by omega
          obtain ⟨⟨X, K, F⟩, hT1⟩ : ∃ r, takeL (b.drop off) = r := ⟨_, rfl⟩
          have HRD := Lib.hid (bytes_behind (H.out.ext HX.out) hoff)
          obtain ⟨AD, hAD⟩ : ∃ AD : Option Addr, (if c = off then some ⟨bb, o0, none⟩ else some ⟨bb, o0 + off, none⟩) = AD := ⟨_, rfl⟩
          rw [hAD] at HRD
          have HTK : Hid (Calls Try.prog 26 #[.slice AD (n - off) (c - off)] wr fun e w'' => e = .returned (.tuple #[.int .i64 (X : Int), .int .i64 (K : Int), .int .i64 (F : Int)]) ∧ Ext wr w'') := Lib.hid (by
            have h1 := takeR_c AD (n - off) (c - off) (b.drop off) wr HRD.out (by omega)
            rw [hT1] at h1; exact h1)
          have z0 : (0 : Int) ≤ (off : Int) := by omega
          have z1 : (off : Int) ≤ (n : Int) := by omega
          have z2 : (off : Int) ≤ (c : Int) := by omega
          have hNi : N - i0 = (N - (i0 + 1)) + 1 := by omega
          have hR2 := HR.out.2
          rw [hNi] at hR2
          by_cases hF1 : F = 0
          · subst hF1
            obtain ⟨s1, s2, s3, s4⟩ := take_some hT1
            rw [List.length_drop, HBL.out] at s4
            have hAD2 : AD = some ⟨bb, o0 + off, none⟩ := by rw [← hAD, if_neg (by omega)]
            subst hAD2
            clear hAD
            by_cases hbig : 268435455 < wz + 1 + (X : Int)
            · rw [addR_8 hT1 hbig] at hR2
              have HE := Lib.hid (HF3.out 8 hR2.symm (by decide))
              clear hT1 s2 hR2 hNi HRD
              go_wp2_with fail
              refine HTK.out.mono ?_; rintro e w2 ⟨rfl, hx2⟩
              have e2 := HX.out.trans hx2
              go_wp2_with fail
              refine bodyPost_ret (results_tmp3 rfl _ _ _) rfl ?_
              rw [HE.out]
              exact ⟨e2, _, _, _, rfl, Rd.nil _ _⟩
            · rw [addR_ok hT1 hbig] at hR2
              have HR3 : Hid (K0 ≤ off + K ∧ addR (ls ++ [wz + 1 + (X : Int)]) (off + K - K0) (tR (N - (i0 + 1)) (wz + 1 + (X : Int)) (b.drop (off + K))) = R) := Lib.hid ⟨by have := HR.out.1; omega, by
                rw [List.drop_drop, show off - K0 + K = off + K - K0 by have := HR.out.1; omega] at hR2; exact hR2⟩
              clear hT1 s2 hR2 hNi HRD
              obtain ⟨v, hv⟩ : ∃ v, wz + 1 + (X : Int) = v := ⟨_, rfl⟩
              rw [hv] at HR3 hbig
              go_wp2_with fail
              refine HTK.out.mono ?_; rintro e w2 ⟨rfl, hx2⟩
              have e2 := HX.out.trans hx2
              obtain ⟨v', w', happ, hown', hbel'⟩ := app_new (P := Try.prog) 31 31 3 i _ 1 8 Try.underlying31 hi hz0 hz1 hz2 rfl (by omega) (by omega)
                e2 (HO.out.ext hx2) (by omega) 1 #[.int .i64 v] rfl (by omega) (by simp [Value.oneCell']) 3
              have HAP := Lib.hid happ
              have HOWN : Hid (Own w' w.heap.size 3 1 v' (i0 + 1) (nV (ls ++ [v]))) := Lib.hid (by rw [nV_append]; exact hown')
              have HBEL := Lib.hid hbel'
              clear happ hown' hbel' HO e2
              go_wp2_with (at_builtin; refine wpList_append_run rfl rfl HAP.out rfl rfl ?_)
              go_roundw
              case rel => exact ⟨i0 + 1, off + K, v, ls ++ [v], by go_num, rfl, by go_num, by omega, by omega, by omega, by omega, HOWN, HR3, HBEL⟩
              case measure => simp [intOf]; omega
          · rw [addR_e hT1 hF1] at hR2
            have HE := Lib.hid (HF3.out F hR2.symm hF1)
            have t1 : ((F : Int) != 0) = true := by rw [bne_iff_ne]; omega
            have t2 : ((F : Int) == 0) = false := by rw [beq_eq_false_iff_ne]; omega
            clear hT1 hF1 hR2 hNi HRD
            go_wp2_with fail
            refine HTK.out.mono ?_; rintro e w2 ⟨rfl, hx2⟩
            have e2 := HX.out.trans hx2
            go_wp2_with fail
            refine bodyPost_ret (results_tmp3 rfl _ _ _) rfl ?_
            rw [HE.out]
            exact ⟨e2, _, _, _, rfl, Rd.nil _ _⟩
        · obtain rfl : i0 = N := by omega
          have hRq := HR.out.2
          rw [Nat.sub_self] at hRq
          have hR2 : R = (0, ls, off - K0) := by rw [← hRq]; simp [addR, tR]
          have hTW := HF4.out _ _ hR2
          rw [show K0 + (off - K0) = off by have := HR.out.1; omega] at hTW
          obtain ⟨ao, co, rfl, _⟩ := HO.out.len
          have HRD := Lib.hid HO.out.rd
          have dlt : ¬ (i0 : Int) < (i0 : Int) := by omega
          have HE := Lib.hid hTW
          clear hTW hR2 hRq HO
          go_wp2_with fail
          refine bodyPost_ret (results_tmp3 rfl _ _ _) rfl ?_
          rw [HE.out]
          exact ⟨HX.out, _, _, _, rfl, HRD.out⟩
  · rw [takeRw_1 hT0 hF]
    have t1 : ((F0 : Int) != 0) = true := by rw [bne_iff_ne]; omega
    have t2 : ((F0 : Int) == 0) = false := by rw [beq_eq_false_iff_ne]; omega
    clear h hbl hT0 hF
    go_enter Try.func18, Try.ntmps18
    go_wp2_with fail
    refine HT.out.mono ?_; rintro e w1 ⟨rfl, hx1⟩
    go_wp2_with fail
    refine bodyPost_ret (results_tmp3 rfl _ _ _) rfl ?_
    exact ⟨hx1, _, _, _, rfl, Rd.nil _ _⟩
end Go.Proofs.Ytilldbbfdmdggaa
