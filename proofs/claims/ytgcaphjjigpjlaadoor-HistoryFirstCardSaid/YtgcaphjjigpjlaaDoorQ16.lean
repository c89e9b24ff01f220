/- Packed: P2. -/
import Derived.BigQuiet
import Derived.Deep.QuietTactic
import Derived.Laws.AppendOwnNone
import Derived.Laws.BytesArg
import Derived.Laws.MakeOwn
import Derived.Lib.DecodeN
import Derived.Lib.Hide
import Derived.Lib.Strings
import Derived.Lib.UnsafeStr
import Derived.ScopeJumps
import Derived.StillTailTactics
import Derived.Test.YtgcaphjjigpjlaaDoorProg
import Derived.WalkKit
import Derived.WalkLawsBesides
import Derived.WalkMore
import Derived.WalkSpells
import Derived.Test.YtgcaphjjigpjlaaDoorQ00
import Derived.Test.YtgcaphjjigpjlaaDoorQ01
namespace Go.Proofs.YtgcaphjjigpjlaaDoor
open Go.RowKit
set_option maxRecDepth 100000
set_option maxHeartbeats 1000000
theorem Own.room (w : World) (B : Nat) (e : TypeId) (size c : Nat) (cur : Array Value) (h : B ≤ w.heap.size) (hn : c ≤ 1000000000) (hs : cur.size = c * size) :
    Own (w.alloc (.cells cur e)) B e size (.slice (some ⟨w.heap.size, 0, none⟩) 0 c) 0 [] :=
  ⟨⟨by simp, .inr ⟨w.heap.size, c, cur, rfl, h, heap_alloc_new w _, Nat.zero_le _, by unfold maxLen; omega, hs, by simp⟩⟩, by simp; omega⟩
def Jumps (J : Nat → Act → World → Prop) (Q : Exit → Act → World → Prop) : Exit → Act → World → Prop
  | .goto l, a, w => J l a w
  | e, a, w => Q e a w
theorem Jumps_ret {J : Nat → Act → World → Prop} {Q : Exit → Act → World → Prop} {a : Act} {w : World} : Jumps J Q .ret a w = Q .ret a w := rfl
theorem scope_jumps {P : Program} {a : Act} {w : World} {Q : Exit → Act → World → Prop} {c : Code} (J : Nat → Act → World → Prop) (mu : Nat → Act → World → Nat)
    (pass : ∀ l a w, J l a w → ∃ rest, findLabel c l = some (.seq .skip rest) ∧ rest.wp P (Jumps (fun l' a' w' => J l' a' w' ∧ mu l' a' w' < mu l a w) Q) a w)
    (first : (∀ l a w rest, findLabel c l = some (.seq .skip rest) → J l a w → rest.wp P (Jumps J Q) a w) → c.wp P (Jumps J Q) a w) :
    (Code.scope c).wp P Q a w := by
  have first := first (by
    intro l a w rest hf hJ
    obtain ⟨rest', hf', h⟩ := pass l a w hJ
    rw [hf] at hf'
    injection hf' with hf'
    injection hf' with _ hf'
    subst hf'
    refine wp_mono h ?_
    intro e a w hq
    cases e with
    | goto l' => exact hq.1
    | _ => exact hq)
  intro b k cs
  have key : ∀ n l a w, mu l a w = n → J l a w → ∃ rest, findLabel c l = some (.seq .skip rest) ∧ ∃ e a' w', Q e a' w' ∧ Arrives P (lone (b.at a (.code rest :: .inScope c :: k)) cs w) b k cs e a' w' := by
    intro n
    induction n using Nat.strongRecOn with
    | _ n ih =>
      intro l a w hn hJ
      obtain ⟨rest, hf, hp⟩ := pass l a w hJ
      refine ⟨rest, hf, ?_⟩
      obtain ⟨e, a1, w1, hq, harr⟩ := hp b (.inScope c :: k) cs
      cases e with
      | normal => exact ⟨.normal, a1, w1, hq, Steps.trans harr (.one step_inScope)⟩
      | exit id => exact ⟨.exit id, a1, w1, hq, fun k' hk => harr k' (by simp [exitTo, hk])⟩
      | goto l' =>
        obtain ⟨hJ', hlt⟩ := hq
        obtain ⟨rest', hf', e2, a2, w2, hq2, harr2⟩ := ih _ (by omega) l' a1 w1 rfl hJ'
        have hg : gotoIn l' (.inScope c :: k) = some (.code (.seq .skip rest') :: .inScope c :: k) := by simp [gotoIn, hf']
        exact ⟨e2, a2, w2, hq2, .of_steps (Steps.trans (harr _ hg) (.head step_seq (.one step_skip))) harr2⟩
      | ret => exact ⟨_, a1, w1, hq, harr⟩
      | panic ch => exact ⟨_, a1, w1, hq, harr⟩
      | outgrown => exact ⟨_, a1, w1, hq, harr⟩
  obtain ⟨e, a1, w1, hq, harr⟩ := first b (.inScope c :: k) cs
  cases e with
  | normal => exact ⟨.normal, a1, w1, hq, .head step_scope (Steps.trans harr (.one step_inScope))⟩
  | exit id => exact ⟨.exit id, a1, w1, hq, fun k' hk => .head step_scope (harr k' (by simp [exitTo, hk]))⟩
  | goto l' =>
    have hJ' : J l' a1 w1 := hq
    obtain ⟨rest', hf', e2, a2, w2, hq2, harr2⟩ := key _ l' a1 w1 rfl hJ'
    have hg : gotoIn l' (.inScope c :: k) = some (.code (.seq .skip rest') :: .inScope c :: k) := by simp [gotoIn, hf']
    exact ⟨e2, a2, w2, hq2, .of_steps (.head step_scope (Steps.trans (harr _ hg) (.head step_seq (.one step_skip)))) harr2⟩
  | ret => exact ⟨_, a1, w1, hq, .of_steps (.one step_scope) harr⟩
  | panic ch => exact ⟨_, a1, w1, hq, .of_steps (.one step_scope) harr⟩
  | outgrown => exact ⟨_, a1, w1, hq, .of_steps (.one step_scope) harr⟩
def PutJ (x : Nat) (w : World) (l : Nat) (a : Act) (wr : World) : Prop :=
  l = 0 ∧ ∃ (pre : List UInt8) (k : Nat) (o : Value) (m : Int), m = (k : Int) ∧ PutAt x pre k ∧ Own wr w.heap.size 5 1 o pre.length (Lib.byteCells pre) ∧ Below w.heap.size w wr ∧
    ∃ s1 s2 s3 s5 s6 s7 s8 s9 s10 s11 s12 s13 s14 s15 s16 s17 s18 s19 s20 s21 s22 s23 s24 s25 s26 s27 : Value, a = { tmps := #[.int .i64 m, s1, s2, s3, o, s5, s6, s7, s8, s9, s10, s11, s12, s13, s14, s15, s16, s17, s18, s19, s20, s21, s22, s23, s24, s25, s26, s27], defers := [] }
theorem putO_c (n : Int) (w : World) : Calls Tryd.prog 105 #[.int .i64 n] w (PutO w n) := by
  by_cases h : n < 0 ∨ 268435455 < n
  · have H := Lib.hid h
    rcases h with h | h
    · go_enter Tryd.func105, Tryd.ntmps105
      go_wp2_with fail
      go_step3
      go_wp2_with fail
      rw [Exit.noGoto_ret]
      go_ret2
      exact ⟨Ext.refl _, .inl ⟨H.out, rfl⟩⟩
    · have h0 : 0 ≤ n := by omega
      go_enter Tryd.func105, Tryd.ntmps105
      go_wp2_with fail
      go_step3
      go_wp2_with fail
      rw [Exit.noGoto_ret]
      go_ret2
      exact ⟨Ext.refl _, .inl ⟨H.out, rfl⟩⟩
  · obtain ⟨i, hi, hz0, hz1, hz2⟩ := info_parts info_u8b
    have h0 : 0 ≤ n := by omega
    have h1 : n ≤ 268435455 := by omega
    obtain ⟨x, hx⟩ := Int.eq_ofNat_of_zero_le h0
    have hxlt : x < 268435456 := by omega
    have HX := Lib.hid hx
    have hst : PutAt x [] x := PutAt.start x hxlt
    have hbel0 : ∀ cs : Array Value, Below w.heap.size w (w.alloc (.cells cs 5)) := fun cs => (Below.refl _ _).alloc (Nat.le_refl _) _
    have HXL := Lib.hid hxlt
    have hmk : ∀ w' : World, (Instr.makeSlice 96 (.int .i64 0) (.int .i64 4)).run Tryd.prog w' = .ok (.slice (some ⟨w'.heap.size, 0, none⟩) 0 4) (w'.alloc (.cells (madeCells (Value.int .u8 0).cells (4 * i.size)) 5)) :=
      fun w' => run_make w' 96 5 i (.int .u8 0) Tryd.underlying96 hi hz0 .i64 .i64 0 4 (by omega) (by omega) (by rw [hz2]; omega) (by omega)
    rw [hz1] at hmk
    have hms : (madeCells (Value.int .u8 0).cells (4 * 1)).size = 4 * 1 := size_madeCells _ _
    generalize madeCells (Value.int .u8 0).cells (4 * 1) = mcs at hmk hms
    have HMS := Lib.hid hms
    clear h hx hxlt hms
    go_enter Tryd.func105, Tryd.ntmps105
    go_wp2_with fail
    refine scope_jumps (PutJ x w) (fun _ a _ => (intOf (a.tmps.getD 0 undef)).toNat) ?_ ?_
    · rintro l a wr ⟨rfl, pre, k, o, _, rfl, hat, hown, hbel, s1, s2, s3, s5, s6, s7, s8, s9, s10, s11, s12, s13, s14, s15, s16, s17, s18, s19, s20, s21, s22, s23, s24, s25, s26, s27, rfl⟩
      refine ⟨_, rfl, ?_⟩
      have hl3 := hat.len
      by_cases hk : k < 128
      · have hb : ¬ (128 : Int) ≤ (k : Int) := by omega
        obtain ⟨v', w', happ, hown', hbel'⟩ := app_new (P := Tryd.prog) 96 96 5 i _ 1 1 Tryd.underlying96 hi hz0 hz1 hz2 rfl (by omega) (by omega)
          hbel hown (by omega) 1 #[.int .u8 (k : Int)] rfl (by omega) (by simp [Value.oneCell']) 5
        have hrd : Own w' w.heap.size 5 1 v' (putL x).length (Lib.byteCells (putL x)) := by
          rw [hat.last hk, byteCells_snoc _ _ (by omega), List.length_append]; exact hown'
        have HAP := Lib.hid happ; clear happ
        go_wp2_with (at_builtin; refine wpList_append_run rfl rfl HAP.out rfl rfl ?_)
        rw [Jumps_ret]; go_ret2
        exact ⟨hbel', .inr ⟨x, v', HX.out, HXL.out, rfl, hrd⟩⟩
      · have hk1 : 128 ≤ k := by omega
        have hki : (128 : Int) ≤ (k : Int) := by omega
        have hkb : k < 268435456 := by rcases hat.2 with h | h | h | h <;> omega
        have hnx := hat.next hk1
        obtain ⟨v', w', happ, hown', hbel'⟩ := app_new (P := Tryd.prog) 96 96 5 i _ 1 1 Tryd.underlying96 hi hz0 hz1 hz2 rfl (by omega) (by omega)
          hbel hown (by omega) 1 #[.int .u8 ((k : Int) % 128 + 128)] rfl (by omega) (by simp [Value.oneCell']) 5
        have hown2 : Own w' w.heap.size 5 1 v' (pre ++ [u8 (128 + k % 128)]).length (Lib.byteCells (pre ++ [u8 (128 + k % 128)])) := by
          rw [byteCells_snoc _ _ (by omega), List.length_append]
          have e : ((128 + k % 128 : Nat) : Int) = (k : Int) % 128 + 128 := by omega
          rw [e]; exact hown'
        have HAP := Lib.hid happ; clear happ hk
        go_wp2_with (at_builtin; refine wpList_append_run rfl rfl HAP.out rfl rfl ?_)
        go_step3
        refine ⟨⟨rfl, _, k / 128, _, _, by omega, hnx, hown2, hbel', _, _, _, _, _, _, _, _, _, _, _, _, _, _, _, _, _, _, _, _, _, _, _, _, _, _, rfl⟩, ?_⟩
        simp [intOf]; omega
    · intro hlab
      go_wp2_with fail
      rename_i hK
      refine wp_label (hK _ _ ?_)
      refine hlab 0 _ _ _ rfl ?_
      refine ⟨rfl, [], x, _, _, HX.out, hst, Own.room w w.heap.size 5 1 4 _ (Nat.le_refl _) (by omega) HMS.out, hbel0 _, _, _, _, _, _, _, _, _, _, _, _, _, _, _, _, _, _, _, _, _, _, _, _, _, _, _, rfl⟩
end Go.Proofs.YtgcaphjjigpjlaaDoor
