/- Layer 2, the program: Put, Take (by goto). -/
import Derived.Test.YtilldbbfdmdggaaC2b
import Derived.ScopeJumps
import Derived.WalkMore
import Derived.Laws.MakeOwn
namespace Go.Proofs.Ytilldbbfdmdggaa
open Go.RowKit
set_option maxRecDepth 100000
set_option maxHeartbeats 1000000

/-- Room just made, and nothing in it. -/
theorem Own.room (w : World) (B : Nat) (e : TypeId) (size c : Nat) (cur : Array Value) (h : B ≤ w.heap.size) (hn : c ≤ 1000000000) (hs : cur.size = c * size) :
    Own (w.alloc (.cells cur e)) B e size (.slice (some ⟨w.heap.size, 0, none⟩) 0 c) 0 [] :=
  ⟨⟨by simp, .inr ⟨w.heap.size, c, cur, rfl, h, heap_alloc_new w _, Nat.zero_le _, by unfold maxLen; omega, hs, by simp⟩⟩, by simp; omega⟩
/-- As Q; by a goto to any label: what holds there. -/
def Jumps (J : Nat → Act → World → Prop) (Q : Exit → Act → World → Prop) : Exit → Act → World → Prop
  | .goto l, a, w => J l a w
  | e, a, w => Q e a w
theorem Jumps_ret {J : Nat → Act → World → Prop} {Q : Exit → Act → World → Prop} {a : Act} {w : World} : Jumps J Q .ret a w = Q .ret a w := rfl
/-- A scope in which the run jumps to labels: what holds at each, and a measure that every pass lowers. -/
theorem scope_jumps {P : Program} {a : Act} {w : World} {Q : Exit → Act → World → Prop} {c : Code} (J : Nat → Act → World → Prop) (mu : Nat → Act → World → Nat)
    (pass : ∀ l a w, J l a w → ∃ rest, findLabel c l = some (.seq .skip rest) ∧ rest.wp P (Jumps (fun l' a' w' => J l' a' w' ∧ mu l' a' w' < mu l a w) Q) a w)
    (first : (∀ l a w rest, findLabel c l = some (.seq .skip rest) → J l a w → rest.wp P (Jumps J Q) a w) → c.wp P (Jumps J Q) a w) :
    (Code.scope c).wp P Q a w := by
  have first := first (by
    intro l a w rest hf hJ
    obtain ⟨rest', hf', h⟩ := pass l a w hJ
    rw [hf] at hf'
    injection hf' with hf'
    injection hf' with _ hf'
    subst hf'
    refine wp_mono h ?_
    intro e a w hq
    cases e with
    | goto l' => exact hq.1
    | _ => exact hq)
  intro b k cs
  have key : ∀ n l a w, mu l a w = n → J l a w → ∃ rest, findLabel c l = some (.seq .skip rest) ∧ ∃ e a' w', Q e a' w' ∧ Arrives P (lone (b.at a (.code rest :: .inScope c :: k)) cs w) b k cs e a' w' := by
    intro n
    induction n using Nat.strongRecOn with
    | _ n ih =>
      intro l a w hn hJ
      obtain ⟨rest, hf, hp⟩ := pass l a w hJ
      refine ⟨rest, hf, ?_⟩
      obtain ⟨e, a1, w1, hq, harr⟩ := hp b (.inScope c :: k) cs
      cases e with
      | normal => exact ⟨.normal, a1, w1, hq, Steps.trans harr (.one step_inScope)⟩
      | exit id => exact ⟨.exit id, a1, w1, hq, fun k' hk => harr k' (by simp [exitTo, hk])⟩
      | goto l' =>
        obtain ⟨hJ', hlt⟩ := hq
        obtain ⟨rest', hf', e2, a2, w2, hq2, harr2⟩ := ih _ (by omega) l' a1 w1 rfl hJ'
        have hg : gotoIn l' (.inScope c :: k) = some (.code (.seq .skip rest') :: .inScope c :: k) := by simp [gotoIn, hf']
        exact ⟨e2, a2, w2, hq2, .of_steps (Steps.trans (harr _ hg) (.head step_seq (.one step_skip))) harr2⟩
      | ret => exact ⟨_, a1, w1, hq, harr⟩
      | panic ch => exact ⟨_, a1, w1, hq, harr⟩
      | outgrown => exact ⟨_, a1, w1, hq, harr⟩
  obtain ⟨e, a1, w1, hq, harr⟩ := first b (.inScope c :: k) cs
  cases e with
  | normal => exact ⟨.normal, a1, w1, hq, .head step_scope (Steps.trans harr (.one step_inScope))⟩
  | exit id => exact ⟨.exit id, a1, w1, hq, fun k' hk => .head step_scope (harr k' (by simp [exitTo, hk]))⟩
  | goto l' =>
    have hJ' : J l' a1 w1 := hq
    obtain ⟨rest', hf', e2, a2, w2, hq2, harr2⟩ := key _ l' a1 w1 rfl hJ'
    have hg : gotoIn l' (.inScope c :: k) = some (.code (.seq .skip rest') :: .inScope c :: k) := by simp [gotoIn, hf']
    exact ⟨e2, a2, w2, hq2, .of_steps (.head step_scope (Steps.trans (harr _ hg) (.head step_seq (.one step_skip)))) harr2⟩
  | ret => exact ⟨_, a1, w1, hq, .of_steps (.one step_scope) harr⟩
  | panic ch => exact ⟨_, a1, w1, hq, .of_steps (.one step_scope) harr⟩
  | outgrown => exact ⟨_, a1, w1, hq, .of_steps (.one step_scope) harr⟩

/-- What holds at Put's label. -/
def PutJ (x : Nat) (w : World) (l : Nat) (a : Act) (wr : World) : Prop :=
  l = 0 ∧ ∃ (pre : List UInt8) (k : Nat) (o : Value) (m : Int), m = (k : Int) ∧ PutAt x pre k ∧ Own wr w.heap.size 5 1 o pre.length (Lib.byteCells pre) ∧ Below w.heap.size w wr ∧
    ∃ s1 s2 s3 s5 s6 s7 s8 s9 s10 s11 s12 s13 s14 s15 s16 s17 s18 s19 s20 s21 s22 s23 s24 s25 s26 s27 : Value, a = { tmps := #[.int .i64 m, s1, s2, s3, o, s5, s6, s7, s8, s9, s10, s11, s12, s13, s14, s15, s16, s17, s18, s19, s20, s21, s22, s23, s24, s25, s26, s27], defers := [] }
theorem putO_c (n : Int) (w : World) : Calls Try.prog 33 #[.int .i64 n] w (PutO w n) := by
  by_cases h : n < 0 ∨ 268435455 < n
  · have H := Lib.hid h
    rcases h with h | h
    · go_enter Try.func33, Try.ntmps33
      go_wp2_with fail
      go_step3
      go_wp2_with fail
      rw [Exit.noGoto_ret]
      go_ret2
      exact ⟨Ext.refl _, .inl ⟨H.out, rfl⟩⟩
    · have h0 : 0 ≤ n := by omega
      go_enter Try.func33, Try.ntmps33
      go_wp2_with fail
      go_step3
      go_wp2_with fail
      rw [Exit.noGoto_ret]
      go_ret2
      exact ⟨Ext.refl _, .inl ⟨H.out, rfl⟩⟩
  · obtain ⟨i, hi, hz0, hz1, hz2⟩ := info_parts info_u8b
    have h0 : 0 ≤ n := by omega
    have h1 : n ≤ 268435455 := by omega
    obtain ⟨x, hx⟩ := Int.eq_ofNat_of_zero_le h0
    have hxlt : x < 268435456 := by omega
    have HX := Lib.hid hx
    have hst : PutAt x [] x := PutAt.start x hxlt
    have hbel0 : ∀ cs : Array Value, Below w.heap.size w (w.alloc (.cells cs 5)) := fun cs => (Below.refl _ _).alloc (Nat.le_refl _) _
    have HXL := Lib.hid hxlt
    have hmk : ∀ w' : World, (Instr.makeSlice 22 (.int .i64 0) (.int .i64 4)).run Try.prog w' = .ok (.slice (some ⟨w'.heap.size, 0, none⟩) 0 4) (w'.alloc (.cells (madeCells (Value.int .u8 0).cells (4 * i.size)) 5)) :=
      fun w' => run_make w' 22 5 i (.int .u8 0) Try.underlying22 hi hz0 .i64 .i64 0 4 (by omega) (by omega) (by rw [hz2]; omega) (by omega)
    rw [hz1] at hmk
    have hms : (madeCells (Value.int .u8 0).cells (4 * 1)).size = 4 * 1 := size_madeCells _ _
    generalize madeCells (Value.int .u8 0).cells (4 * 1) = mcs at hmk hms
    have HMS := Lib.hid hms
    clear h hx hxlt hms
    go_enter Try.func33, Try.ntmps33
    go_wp2_with fail
    refine scope_jumps (PutJ x w) (fun _ a _ => (intOf (a.tmps.getD 0 undef)).toNat) ?_ ?_
    · rintro l a wr ⟨rfl, pre, k, o, _, rfl, hat, hown, hbel, s1, s2, s3, s5, s6, s7, s8, s9, s10, s11, s12, s13, s14, s15, s16, s17, s18, s19, s20, s21, s22, s23, s24, s25, s26, s27, rfl⟩
      refine ⟨_, rfl, ?_⟩
      have hl3 := hat.len
      by_cases hk : k < 128
      · have hb : ¬ (128 : Int) ≤ (k : Int) := by omega
        obtain ⟨v', w', happ, hown', hbel'⟩ := app_new (P := Try.prog) 22 22 5 i _ 1 1 Try.underlying22 hi hz0 hz1 hz2 rfl (by omega) (by omega)
          hbel hown (by omega) 1 #[.int .u8 (k : Int)] rfl (by omega) (by simp [Value.oneCell']) 5
        have hrd : Own w' w.heap.size 5 1 v' (putL x).length (Lib.byteCells (putL x)) := by
          rw [hat.last hk, byteCells_snoc _ _ (by omega), List.length_append]; exact hown'
        have HAP := Lib.hid happ; clear happ
        go_wp2_with (at_builtin; refine wpList_append_run rfl rfl HAP.out rfl rfl ?_)
        rw [Jumps_ret]; go_ret2
        exact ⟨hbel', .inr ⟨x, v', HX.out, HXL.out, rfl, hrd⟩⟩
      · have hk1 : 128 ≤ k := by omega
        have hki : (128 : Int) ≤ (k : Int) := by omega
        have hkb : k < 268435456 := by rcases hat.2 with h | h | h | h <;> omega
        have hnx := hat.next hk1
        obtain ⟨v', w', happ, hown', hbel'⟩ := app_new (P := Try.prog) 22 22 5 i _ 1 1 Try.underlying22 hi hz0 hz1 hz2 rfl (by omega) (by omega)
          hbel hown (by omega) 1 #[.int .u8 ((k : Int) % 128 + 128)] rfl (by omega) (by simp [Value.oneCell']) 5
        have hown2 : Own w' w.heap.size 5 1 v' (pre ++ [u8 (128 + k % 128)]).length (Lib.byteCells (pre ++ [u8 (128 + k % 128)])) := by
          rw [byteCells_snoc _ _ (by omega), List.length_append]
          have e : ((128 + k % 128 : Nat) : Int) = (k : Int) % 128 + 128 := by omega
          rw [e]; exact hown'
        have HAP := Lib.hid happ; clear happ hk
        go_wp2_with (at_builtin; refine wpList_append_run rfl rfl HAP.out rfl rfl ?_)
        go_step3
        refine ⟨⟨rfl, _, k / 128, _, _, by omega, hnx, hown2, hbel', _, _, _, _, _, _, _, _, _, _, _, _, _, _, _, _, _, _, _, _, _, _, _, _, _, _, rfl⟩, ?_⟩
        simp [intOf]; omega
    · intro hlab
      go_wp2_with fail
      rename_i hK
      refine wp_label (hK _ _ ?_)
      refine hlab 0 _ _ _ rfl ?_
      refine ⟨rfl, [], x, _, _, HX.out, hst, Own.room w w.heap.size 5 1 4 _ (Nat.le_refl _) (by omega) HMS.out, hbel0 _, _, _, _, _, _, _, _, _, _, _, _, _, _, _, _, _, _, _, _, _, _, _, _, _, _, _, rfl⟩
theorem put_c (n : Int) (w : World) : Calls Try.prog 33 #[.int .i64 n] w (PutR w n) := (putO_c n w).mono fun _ _ h => h.put

/-- The lowest groups of a row of bytes. -/
def lowN : Nat → List UInt8 → Nat
  | 0, _ => 0
  | j + 1, l => lowN j l + nth l j % 128 * 128 ^ j
theorem lowN_front (j : Nat) (b : UInt8) (t : List UInt8) : lowN (j + 1) (b :: t) = b.toNat % 128 + 128 * lowN j t := by
  induction j with
  | zero => simp [lowN, nth]
  | succ j ih =>
    have e : nth (b :: t) (j + 1) = nth t j := rfl
    have e2 : nth t j % 128 * 128 ^ j * 128 = 128 * (nth t j % 128 * 128 ^ j) := Nat.mul_comm _ _
    rw [lowN, ih, e, lowN, Nat.pow_succ, Nat.mul_add, ← Nat.mul_assoc, e2]; omega
theorem val_low (j : Nat) : ∀ (k : Nat) (l : List UInt8), j ≤ leadN k l → j < l.length → valN j l = lowN j l + nth l j * 128 ^ j := by
  induction j with
  | zero => intro k l _ _; rw [valN_zero]; simp [lowN]
  | succ j ih =>
    intro k l hk hl
    cases k with
    | zero => simp [leadN] at hk
    | succ k =>
      cases l with
      | nil => simp at hl
      | cons b t =>
        simp only [leadN] at hk
        split at hk
        · omega
        · rename_i hb
          have hbl := b.toNat_lt
          have e : nth (b :: t) (j + 1) = nth t j := rfl
          have e2 : b.toNat % 128 = b.toNat - 128 := by omega
          rw [valN, lowN_front, ih k t (by omega) (by simpa using hl), e, e2, Nat.mul_add, Nat.pow_succ]
          rw [show 128 * (nth t j * 128 ^ j) = nth t j * (128 ^ j * 128) by rw [Nat.mul_comm (128 ^ j), ← Nat.mul_assoc, ← Nat.mul_assoc, Nat.mul_comm 128]]
          omega
theorem lowN_lt (j : Nat) (l : List UInt8) : lowN j l < 128 ^ j := by
  induction j with
  | zero => simp [lowN]
  | succ j ih =>
    have h : nth l j % 128 ≤ 127 := by omega
    have h2 : nth l j % 128 * 128 ^ j ≤ 127 * 128 ^ j := Nat.mul_le_mul_right _ h
    rw [lowN, Nat.pow_succ]; omega
theorem lead_more {l : List UInt8} {j : Nat} (h : j ≤ leadN 4 l) (h4 : j < 4) (hl : j < l.length) (hb : 128 ≤ nth l j) : j + 1 ≤ leadN 4 l := by
  rcases Nat.lt_or_ge j (leadN 4 l) with h1 | h1
  · exact h1
  · have e : leadN 4 l = j := by omega
    have := lead_eq (k := 4) (l := l)
    rw [e] at this; omega
theorem lead_end {l : List UInt8} {j : Nat} (h : j ≤ leadN 4 l) (hb : nth l j < 128) : leadN 4 l = j := by
  rcases Nat.lt_or_ge j (leadN 4 l) with h1 | h1
  · have := (lead_lt h1).2.2; omega
  · omega
/-- What holds at Take's labels. -/
def TakeJ (A : Option Addr) (n c : Nat) (l : List UInt8) (w : World) (L : Nat) (a : Act) (wr : World) : Prop :=
  wr = w ∧ ((L = 1 ∧ ∃ (j : Nat) (m q : Int), j ≤ leadN 4 l ∧ m = (lowN j l : Int) ∧ q = (j : Int) ∧ ∃ s1 s5 s6 s7 s8 s9 s10 s11 s12 s13 s14 s15 s16 s17 s18 s19 s20 s21 s22 s23 s24 s25 s26 s27 s28 s29 s30 s31 s32 s33 s34 s35 s36 s37 s38 s39 s40 s41 : Value, a = { tmps := #[.slice A n c, s1, .int .i64 m, .int .i64 q, .int .i64 0, s5, s6, s7, s8, s9, s10, s11, s12, s13, s14, s15, s16, s17, s18, s19, s20, s21, s22, s23, s24, s25, s26, s27, s28, s29, s30, s31, s32, s33, s34, s35, s36, s37, s38, s39, s40, s41], defers := [] }) ∨
    (L = 0 ∧ takeL l = (0, 0, 8) ∧ ∃ s1 s2 s3 s4 s5 s6 s7 s8 s9 s10 s11 s12 s13 s14 s15 s16 s17 s18 s19 s20 s21 s22 s23 s24 s25 s26 s27 s28 s29 s30 s31 s32 s33 s34 s35 s36 s37 s38 s39 s40 s41 : Value, a = { tmps := #[.slice A n c, s1, s2, s3, s4, s5, s6, s7, s8, s9, s10, s11, s12, s13, s14, s15, s16, s17, s18, s19, s20, s21, s22, s23, s24, s25, s26, s27, s28, s29, s30, s31, s32, s33, s34, s35, s36, s37, s38, s39, s40, s41], defers := [] }))
theorem take_c (A : Option Addr) (n c : Nat) (l : List UInt8) (w : World) (h : Rd w 1 (.slice A n c) n (Lib.byteCells l)) (hn : n ≤ 1000000000) :
    Calls Try.prog 35 #[.slice A n c] w fun e w' => e = .returned (takeV (takeL l)) ∧ Ext w w' := by
  have hl : l.length = n := by have := h.1; simpa [Lib.byteCells] using this
  have hle := leadN_le 4 l
  have H := Lib.hid h; have HL := Lib.hid hl; have HLE := Lib.hid hle
  clear h hl hle
  go_enter Try.func35, Try.ntmps35
  go_wp2_with fail
  refine scope_jumps (TakeJ A n c l w) (fun L a _ => if L = 0 then 0 else 5 - (intOf (a.tmps.getD 3 undef)).toNat) ?_ ?_
  · rintro L a wr ⟨rfl, ⟨rfl, j, m, _, hj, hm, rfl, s1, s5, s6, s7, s8, s9, s10, s11, s12, s13, s14, s15, s16, s17, s18, s19, s20, s21, s22, s23, s24, s25, s26, s27, s28, s29, s30, s31, s32, s33, s34, s35, s36, s37, s38, s39, s40, s41, rfl⟩ | ⟨rfl, ht, s1, s2, s3, s4, s5, s6, s7, s8, s9, s10, s11, s12, s13, s14, s15, s16, s17, s18, s19, s20, s21, s22, s23, s24, s25, s26, s27, s28, s29, s30, s31, s32, s33, s34, s35, s36, s37, s38, s39, s40, s41, rfl⟩⟩
    · refine ⟨_, rfl, ?_⟩
      have hj4 : j ≤ 4 := by have := HLE.out; omega
      have HM := Lib.hid hm
      rcases (by omega : j = 0 ∨ j = 1 ∨ j = 2 ∨ j = 3 ∨ j = 4) with rfl | rfl | rfl | rfl | rfl
      · have hmb : m < 1 := by have := lowN_lt 0 l; omega
        have hmb0 : 0 ≤ m := by omega
        by_cases cn : 0 < n
        · have cq : ¬ n = 0 := by omega
          have cq' : ¬ 0 = n := by omega
          have cni : (0 : Int) < (n : Int) := by omega
          have cqi : ((0 : Int) == (n : Int)) = false := by rw [beq_eq_false_iff_ne]; omega
          obtain ⟨b, off, rfl, hcell, hb⟩ := byte_at H.out cn
          have hbl := nth_lt l 0
          have hlow : ((lowN (0 + 1) l : Nat) : Int) = (m : Int) + (nth l 0 : Int) % 128 := by
            rw [lowN, hm]; omega
          have HLOW := Lib.hid hlow
          have hvl : (valN 0 l : Int) = m + (nth l 0 : Int) := by
            rw [val_low 0 4 l hj (by have := HL.out; omega), hm]; omega
          have HVL := Lib.hid hvl
          have hmore := lead_more hj (by omega) (by rw [HL.out]; exact cn)
          have hend := lead_end hj
          have HMO := Lib.hid hmore; have HEN := Lib.hid hend
          have HCN := Lib.hid cn
          rw [Nat.add_zero] at hcell
          clear hm hlow hvl hmore hend hj hj4 cn
          by_cases hbig : 128 ≤ nth l 0
          · have HB := Lib.hid hbig
            have hbi : (128 : Int) ≤ (nth l 0 : Int) := by omega
            have hmore2 := HMO.out HB.out
            go_wp2_with fail
            go_step3
            refine ⟨⟨rfl, .inl ⟨rfl, 1, _, _, hmore2, HLOW.out.symm, rfl, _, _, _, _, _, _, _, _, _, _, _, _, _, _, _, _, _, _, _, _, _, _, _, _, _, _, _, _, _, _, _, _, _, _, _, _, _, _, rfl⟩⟩, ?_⟩
            simp [intOf]
          · have hbi : ¬ (128 : Int) ≤ (nth l 0 : Int) := by omega
            have hlead := HEN.out (by omega)
            have hsm : nth l 0 < 128 := by omega
            have hmod : (nth l 0 : Int) % 128 = (nth l 0 : Int) := by omega
            have HLE2 := Lib.hid hlead
            clear hbig hlead
            have ht : takeL l = (valN 0 l, 1, 0) := by
              unfold takeL; simp only; rw [HLE2.out, if_neg (by omega), if_neg (by have := HL.out; have := HCN.out; omega), if_neg (fun h => Nat.lt_irrefl 0 h.1)]
            have HT := Lib.hid ht
            clear ht
            go_wp2_with fail
            rw [Jumps_ret]
            refine bodyPost_ret (results_tmp3 rfl _ _ _) rfl ?_
            rw [HT.out]
            unfold takeV; simp only; rw [HVL.out]; exact ⟨rfl, Ext.refl _⟩
        · have hln : l.length = 0 := by have := HLE.out; have := HL.out; omega
          have hlead : leadN 4 l = 0 := by have := HLE.out; omega
          have ht : takeL l = (0, 0, 7) := by unfold takeL; simp only; rw [hlead, if_neg (by omega), if_pos (by omega)]
          have HT := Lib.hid ht
          obtain rfl : n = 0 := by have := HL.out; omega
          clear hm ht hj hj4 cn hlead hln hmb
          go_wp2_with fail
          rw [Jumps_ret]
          refine bodyPost_ret (results_tmp3 rfl _ _ _) rfl ?_
          rw [HT.out]
          exact ⟨rfl, Ext.refl _⟩
      · have hmb : m < 128 := by have := lowN_lt 1 l; omega
        have hmb0 : 0 ≤ m := by omega
        by_cases cn : 1 < n
        · have cq : ¬ n = 1 := by omega
          have cq' : ¬ 1 = n := by omega
          have cni : (1 : Int) < (n : Int) := by omega
          have cqi : ((1 : Int) == (n : Int)) = false := by rw [beq_eq_false_iff_ne]; omega
          obtain ⟨b, off, rfl, hcell, hb⟩ := byte_at H.out cn
          have hbl := nth_lt l 1
          have hlow : ((lowN (1 + 1) l : Nat) : Int) = (m : Int) + (nth l 1 : Int) % 128 * 128 := by
            rw [lowN, hm]; omega
          have HLOW := Lib.hid hlow
          have hvl : (valN 1 l : Int) = m + (nth l 1 : Int) * 128 := by
            rw [val_low 1 4 l hj (by have := HL.out; omega), hm]; omega
          have HVL := Lib.hid hvl
          have hmore := lead_more hj (by omega) (by rw [HL.out]; exact cn)
          have hend := lead_end hj
          have HMO := Lib.hid hmore; have HEN := Lib.hid hend
          have HCN := Lib.hid cn
          skip
          clear hm hlow hvl hmore hend hj hj4 cn
          by_cases hbig : 128 ≤ nth l 1
          · have HB := Lib.hid hbig
            have hbi : (128 : Int) ≤ (nth l 1 : Int) := by omega
            have hmore2 := HMO.out HB.out
            go_wp2_with fail
            go_step3
            refine ⟨⟨rfl, .inl ⟨rfl, 2, _, _, hmore2, HLOW.out.symm, rfl, _, _, _, _, _, _, _, _, _, _, _, _, _, _, _, _, _, _, _, _, _, _, _, _, _, _, _, _, _, _, _, _, _, _, _, _, _, _, rfl⟩⟩, ?_⟩
            simp [intOf]
          · have hbi : ¬ (128 : Int) ≤ (nth l 1 : Int) := by omega
            have hlead := HEN.out (by omega)
            have hsm : nth l 1 < 128 := by omega
            have hmod : (nth l 1 : Int) % 128 = (nth l 1 : Int) := by omega
            have HLE2 := Lib.hid hlead
            clear hbig hlead
            by_cases hz : nth l 1 = 0
            · have ht : takeL l = (0, 0, 8) := by unfold takeL; simp only; rw [HLE2.out, if_neg (by omega), if_neg (by have := HL.out; have := HCN.out; omega), if_pos ⟨by omega, hz⟩]
              have HT := Lib.hid ht
              rw [hz, Int.natCast_zero] at hcell
              clear ht hz hbi hmod hsm hbl
              go_wp2_with fail
              go_step3
              refine ⟨⟨rfl, .inr ⟨rfl, HT.out, _, _, _, _, _, _, _, _, _, _, _, _, _, _, _, _, _, _, _, _, _, _, _, _, _, _, _, _, _, _, _, _, _, _, _, _, _, _, _, _, _, rfl⟩⟩, ?_⟩
              simp [intOf]
            · have ht : takeL l = (valN 1 l, 2, 0) := by
                unfold takeL; simp only; rw [HLE2.out, if_neg (by omega), if_neg (by have := HL.out; have := HCN.out; omega), if_neg (fun h => hz h.2)]
              have HT := Lib.hid ht
              clear ht
              have hzi : ((nth l 1 : Int) == 0) = false := by rw [beq_eq_false_iff_ne]; omega
              have hz' := Lib.hid hz; clear hz
              go_wp2_with fail
              rw [Jumps_ret]
              refine bodyPost_ret (results_tmp3 rfl _ _ _) rfl ?_
              rw [HT.out]
              unfold takeV; simp only; rw [HVL.out]; exact ⟨rfl, Ext.refl _⟩
        · have hln : l.length = 1 := by have := HLE.out; have := HL.out; omega
          have hlead : leadN 4 l = 1 := by have := HLE.out; omega
          have ht : takeL l = (0, 0, 7) := by unfold takeL; simp only; rw [hlead, if_neg (by omega), if_pos (by omega)]
          have HT := Lib.hid ht
          obtain rfl : n = 1 := by have := HL.out; omega
          clear hm ht hj hj4 cn hlead hln hmb
          go_wp2_with fail
          rw [Jumps_ret]
          refine bodyPost_ret (results_tmp3 rfl _ _ _) rfl ?_
          rw [HT.out]
          exact ⟨rfl, Ext.refl _⟩
      · have hmb : m < 16384 := by have := lowN_lt 2 l; omega
        have hmb0 : 0 ≤ m := by omega
        by_cases cn : 2 < n
        · have cq : ¬ n = 2 := by omega
          have cq' : ¬ 2 = n := by omega
          have cni : (2 : Int) < (n : Int) := by omega
          have cqi : ((2 : Int) == (n : Int)) = false := by rw [beq_eq_false_iff_ne]; omega
          obtain ⟨b, off, rfl, hcell, hb⟩ := byte_at H.out cn
          have hbl := nth_lt l 2
          have hlow : ((lowN (2 + 1) l : Nat) : Int) = (m : Int) + (nth l 2 : Int) % 128 * 16384 := by
            rw [lowN, hm]; omega
          have HLOW := Lib.hid hlow
          have hvl : (valN 2 l : Int) = m + (nth l 2 : Int) * 16384 := by
            rw [val_low 2 4 l hj (by have := HL.out; omega), hm]; omega
          have HVL := Lib.hid hvl
          have hmore := lead_more hj (by omega) (by rw [HL.out]; exact cn)
          have hend := lead_end hj
          have HMO := Lib.hid hmore; have HEN := Lib.hid hend
          have HCN := Lib.hid cn
          skip
          clear hm hlow hvl hmore hend hj hj4 cn
          by_cases hbig : 128 ≤ nth l 2
          · have HB := Lib.hid hbig
            have hbi : (128 : Int) ≤ (nth l 2 : Int) := by omega
            have hmore2 := HMO.out HB.out
            go_wp2_with fail
            go_step3
            refine ⟨⟨rfl, .inl ⟨rfl, 3, _, _, hmore2, HLOW.out.symm, rfl, _, _, _, _, _, _, _, _, _, _, _, _, _, _, _, _, _, _, _, _, _, _, _, _, _, _, _, _, _, _, _, _, _, _, _, _, _, _, rfl⟩⟩, ?_⟩
            simp [intOf]
          · have hbi : ¬ (128 : Int) ≤ (nth l 2 : Int) := by omega
            have hlead := HEN.out (by omega)
            have hsm : nth l 2 < 128 := by omega
            have hmod : (nth l 2 : Int) % 128 = (nth l 2 : Int) := by omega
            have HLE2 := Lib.hid hlead
            clear hbig hlead
            by_cases hz : nth l 2 = 0
            · have ht : takeL l = (0, 0, 8) := by unfold takeL; simp only; rw [HLE2.out, if_neg (by omega), if_neg (by have := HL.out; have := HCN.out; omega), if_pos ⟨by omega, hz⟩]
              have HT := Lib.hid ht
              rw [hz, Int.natCast_zero] at hcell
              clear ht hz hbi hmod hsm hbl
              go_wp2_with fail
              go_step3
              refine ⟨⟨rfl, .inr ⟨rfl, HT.out, _, _, _, _, _, _, _, _, _, _, _, _, _, _, _, _, _, _, _, _, _, _, _, _, _, _, _, _, _, _, _, _, _, _, _, _, _, _, _, _, _, rfl⟩⟩, ?_⟩
              simp [intOf]
            · have ht : takeL l = (valN 2 l, 3, 0) := by
                unfold takeL; simp only; rw [HLE2.out, if_neg (by omega), if_neg (by have := HL.out; have := HCN.out; omega), if_neg (fun h => hz h.2)]
              have HT := Lib.hid ht
              clear ht
              have hzi : ((nth l 2 : Int) == 0) = false := by rw [beq_eq_false_iff_ne]; omega
              have hz' := Lib.hid hz; clear hz
              go_wp2_with fail
              rw [Jumps_ret]
              refine bodyPost_ret (results_tmp3 rfl _ _ _) rfl ?_
              rw [HT.out]
              unfold takeV; simp only; rw [HVL.out]; exact ⟨rfl, Ext.refl _⟩
        · have hln : l.length = 2 := by have := HLE.out; have := HL.out; omega
          have hlead : leadN 4 l = 2 := by have := HLE.out; omega
          have ht : takeL l = (0, 0, 7) := by unfold takeL; simp only; rw [hlead, if_neg (by omega), if_pos (by omega)]
          have HT := Lib.hid ht
          obtain rfl : n = 2 := by have := HL.out; omega
          clear hm ht hj hj4 cn hlead hln hmb
          go_wp2_with fail
          rw [Jumps_ret]
          refine bodyPost_ret (results_tmp3 rfl _ _ _) rfl ?_
          rw [HT.out]
          exact ⟨rfl, Ext.refl _⟩
      · have hmb : m < 2097152 := by have := lowN_lt 3 l; omega
        have hmb0 : 0 ≤ m := by omega
        by_cases cn : 3 < n
        · have cq : ¬ n = 3 := by omega
          have cq' : ¬ 3 = n := by omega
          have cni : (3 : Int) < (n : Int) := by omega
          have cqi : ((3 : Int) == (n : Int)) = false := by rw [beq_eq_false_iff_ne]; omega
          obtain ⟨b, off, rfl, hcell, hb⟩ := byte_at H.out cn
          have hbl := nth_lt l 3
          have hlow : ((lowN (3 + 1) l : Nat) : Int) = (m : Int) + (nth l 3 : Int) % 128 * 2097152 := by
            rw [lowN, hm]; omega
          have HLOW := Lib.hid hlow
          have hvl : (valN 3 l : Int) = m + (nth l 3 : Int) * 2097152 := by
            rw [val_low 3 4 l hj (by have := HL.out; omega), hm]; omega
          have HVL := Lib.hid hvl
          have hmore := lead_more hj (by omega) (by rw [HL.out]; exact cn)
          have hend := lead_end hj
          have HMO := Lib.hid hmore; have HEN := Lib.hid hend
          have HCN := Lib.hid cn
          skip
          clear hm hlow hvl hmore hend hj hj4 cn
          by_cases hbig : 128 ≤ nth l 3
          · have HB := Lib.hid hbig
            have hbi : (128 : Int) ≤ (nth l 3 : Int) := by omega
            have hmore2 := HMO.out HB.out
            go_wp2_with fail
            go_step3
            refine ⟨⟨rfl, .inl ⟨rfl, 4, _, _, hmore2, HLOW.out.symm, rfl, _, _, _, _, _, _, _, _, _, _, _, _, _, _, _, _, _, _, _, _, _, _, _, _, _, _, _, _, _, _, _, _, _, _, _, _, _, _, rfl⟩⟩, ?_⟩
            simp [intOf]
          · have hbi : ¬ (128 : Int) ≤ (nth l 3 : Int) := by omega
            have hlead := HEN.out (by omega)
            have hsm : nth l 3 < 128 := by omega
            have hmod : (nth l 3 : Int) % 128 = (nth l 3 : Int) := by omega
            have HLE2 := Lib.hid hlead
            clear hbig hlead
            by_cases hz : nth l 3 = 0
            · have ht : takeL l = (0, 0, 8) := by unfold takeL; simp only; rw [HLE2.out, if_neg (by omega), if_neg (by have := HL.out; have := HCN.out; omega), if_pos ⟨by omega, hz⟩]
              have HT := Lib.hid ht
              rw [hz, Int.natCast_zero] at hcell
              clear ht hz hbi hmod hsm hbl
              go_wp2_with fail
              go_step3
              refine ⟨⟨rfl, .inr ⟨rfl, HT.out, _, _, _, _, _, _, _, _, _, _, _, _, _, _, _, _, _, _, _, _, _, _, _, _, _, _, _, _, _, _, _, _, _, _, _, _, _, _, _, _, _, rfl⟩⟩, ?_⟩
              simp [intOf]
            · have ht : takeL l = (valN 3 l, 4, 0) := by
                unfold takeL; simp only; rw [HLE2.out, if_neg (by omega), if_neg (by have := HL.out; have := HCN.out; omega), if_neg (fun h => hz h.2)]
              have HT := Lib.hid ht
              clear ht
              have hzi : ((nth l 3 : Int) == 0) = false := by rw [beq_eq_false_iff_ne]; omega
              have hz' := Lib.hid hz; clear hz
              go_wp2_with fail
              rw [Jumps_ret]
              refine bodyPost_ret (results_tmp3 rfl _ _ _) rfl ?_
              rw [HT.out]
              unfold takeV; simp only; rw [HVL.out]; exact ⟨rfl, Ext.refl _⟩
        · have hln : l.length = 3 := by have := HLE.out; have := HL.out; omega
          have hlead : leadN 4 l = 3 := by have := HLE.out; omega
          have ht : takeL l = (0, 0, 7) := by unfold takeL; simp only; rw [hlead, if_neg (by omega), if_pos (by omega)]
          have HT := Lib.hid ht
          obtain rfl : n = 3 := by have := HL.out; omega
          clear hm ht hj hj4 cn hlead hln hmb
          go_wp2_with fail
          rw [Jumps_ret]
          refine bodyPost_ret (results_tmp3 rfl _ _ _) rfl ?_
          rw [HT.out]
          exact ⟨rfl, Ext.refl _⟩
      · have ht : takeL l = (0, 0, 8) := by unfold takeL; simp only; rw [show leadN 4 l = 4 by have := HLE.out; omega]; rfl
        have HT := Lib.hid ht
        clear hm ht hj hj4
        go_wp2_with fail
        go_step3
        refine ⟨⟨rfl, .inr ⟨rfl, HT.out, _, _, _, _, _, _, _, _, _, _, _, _, _, _, _, _, _, _, _, _, _, _, _, _, _, _, _, _, _, _, _, _, _, _, _, _, _, _, _, _, _, rfl⟩⟩, ?_⟩
        simp [intOf]
    · refine ⟨_, rfl, ?_⟩
      have HT := Lib.hid ht
      clear ht
      go_wp2_with fail
      rw [Jumps_ret]
      refine bodyPost_ret (results_tmp3 rfl _ _ _) rfl ?_
      rw [HT.out]
      exact ⟨rfl, Ext.refl _⟩
  · intro hlab
    go_wp2_with fail
    rename_i hK
    refine wp_label (hK _ _ ?_)
    exact hlab 1 _ _ _ rfl ⟨rfl, .inl ⟨rfl, 0, _, _, Nat.zero_le _, rfl, rfl, _, _, _, _, _, _, _, _, _, _, _, _, _, _, _, _, _, _, _, _, _, _, _, _, _, _, _, _, _, _, _, _, _, _, _, _, _, _, rfl⟩⟩
end Go.Proofs.Ytilldbbfdmdggaa
