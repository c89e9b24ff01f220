/- Packed: P9. -/
import Derived.ArgAppend
import Derived.BigQuiet
import Derived.BigRegion
import Derived.ChangeAlike
import Derived.Deep.Cut
import Derived.Deep.CutRange
import Derived.Deep.DrawnRows
import Derived.Deep.MidRow
import Derived.Deep.QuietTactic
import Derived.Deep.RegionHeld3
import Derived.Deep.RegionWith
import Derived.Deep.Upon
import Derived.Laws.AppendOwnNone
import Derived.Laws.BytesArg
import Derived.Laws.IdiomCopy
import Derived.Laws.MakeOwn
import Derived.Laws.ResultCell
import Derived.Laws.Rows
import Derived.Lib.AppendStr
import Derived.Lib.Builder
import Derived.Lib.DecodeN
import Derived.Lib.Hide
import Derived.Lib.Strings
import Derived.Lib.UnsafeStr
import Derived.RegionTactic
import Derived.StillTail
import Derived.StillTailTactics
import Derived.Test.YtgcaphjjigpjlaaGreatDoorProg
import Derived.Test.YtgcaphjjigpjlaaGreatDoorShelf
import Derived.WalkKit
import Derived.WalkLawsBesides
import Derived.WalkSpells
import Derived.Test.YtgcaphjjigpjlaaGreatDoorQ00
import Derived.Test.YtgcaphjjigpjlaaGreatDoorQ01
import Derived.Test.YtgcaphjjigpjlaaGreatDoorQ02
import Derived.Test.YtgcaphjjigpjlaaGreatDoorQ03
import Derived.Test.YtgcaphjjigpjlaaGreatDoorQ04
import Derived.Test.YtgcaphjjigpjlaaGreatDoorQ05
import Derived.Test.YtgcaphjjigpjlaaGreatDoorQ06
import Derived.Test.YtgcaphjjigpjlaaGreatDoorQ07
import Derived.Test.YtgcaphjjigpjlaaGreatDoorQ10
import Derived.Test.YtgcaphjjigpjlaaGreatDoorQ15
namespace Go.Proofs.YtgcaphjjigpjlaaGreatDoor
open Go.RowKit
set_option maxRecDepth 100000
set_option maxHeartbeats 2000000
set_option linter.unusedSimpArgs false
abbrev RBox (W : World) (B : Nat) (vs : Array Value) : Prop := BxT 138 W B vs
def hdS (l : List Sp) : Sp := l.headD (0, 0, ⟨#[]⟩)
def rstV (s : Sp) (v : Value) : Array Value := #[.int .i64 s.1, .int .i64 s.2.1, .string s.2.2, v]
def Stepped (x : Nat) (A : Option Addr) (q c : Nat) (l : List Sp) (W W' : World) : Prop :=
  KS W.heap.size x x W W' ∧ ∃ A' q' c', RBox W' x (rstV (hdS l) (.slice A' q' c')) ∧ (∀ V, RdO V A q c l → RdO V A' q' c' l.tail) ∧ ∀ y, Awy y q A → Awy y q' A'
theorem off9_c (s : ByteArray) (n : Nat) (w : World) (_hs : s.size ≤ 1000000000) (hn : n ≤ 2000000000) (cs : List Nat) (hd : dec (bs s) = some cs) :
    Calls Tryz.prog 111 #[.string s, .int .i64 n] w fun e w' => e = .returned (.tuple #[.int .i64 ((encs (cs.take n)).length : Nat), .int .i64 ((min n cs.length : Nat) : Int)]) ∧ Ext w w' := by
  obtain ⟨hcp, hbs⟩ := dec_some hd
  have HCP := Lib.hid hcp; have HBS := Lib.hid hbs
  clear hcp hbs hd
  go_enter Tryz.func111, Tryz.ntmps111
  go_wp2_with fail
  go_loopw [5] (fun m wr => ∃ i : Nat, i ≤ cs.length ∧ i ≤ n ∧ m = .int .i64 i ∧ wr = w.iter s (encs (cs.take i)).length) (fun _ wr => s.size - wr.iterPos w.heap.size)
  case atStart => exact ⟨0, by omega, by omega, rfl, rfl⟩
  case round =>
    obtain ⟨i, hi, hij, rfl, rfl⟩ := hrel
    have hsz : (encs cs).length = s.size := by rw [← HBS.out, bs_length]
    have HSZ := Lib.hid hsz
    have hcl := length_le_encs cs
    have hi1 : i ≤ 1000000000 := by omega
    clear hsz hcl
    by_cases hr : i = cs.length
    · have hp : ¬ (encs (cs.take i)).length < s.size := by rw [hr, List.take_length, HSZ.out]; omega
      have hnx : ∀ ty, (Instr.next (.pointer (some ⟨w.heap.size, 0, none⟩)) true ty).run Tryz.prog (w.iter s (encs (cs.take i)).length) = _ := fun ty => run_next_end w s _ ty hp
      have hres : (encs (cs.take n)).length = s.size := by rw [List.take_of_length_le (by omega), HSZ.out]
      have HRES := Lib.hid hres
      have HMIN : Hid (min n cs.length = i) := Lib.hid (by omega)
      clear hr hres hp hi hij
      go_wp2_with fail
      go_ret2
      rw [HRES.out, HMIN.out]
      exact ⟨rfl, (Ext.refl w).iter _ _⟩
    · have hlt : i < cs.length := by omega
      have hsucc := encs_take_succ cs i hlt
      have hdr : (bs s).drop (encs (cs.take i)).length = enc1 cs[i] ++ encs (cs.drop (i + 1)) := by
        rw [HBS.out, encs_take_drop cs (i + 1), hsucc, List.append_assoc, List.drop_left]
      have hw := wid_pos cs[i]
      have hp : (encs (cs.take i)).length < s.size := by
        rw [← bs_length]
        have := congrArg List.length hdr
        rw [List.length_drop, List.length_append, enc1_length] at this
        omega
      have hnx : ∀ ty, (Instr.next (.pointer (some ⟨w.heap.size, 0, none⟩)) true ty).run Tryz.prog (w.iter s (encs (cs.take i)).length) = _ := fun ty => run_next_any w s _ ty hp
      have hdc : Utf8.decode s (encs (cs.take i)).length = (cs[i], wid cs[i]) := by
        rw [decode_rng]
        show rng ((bs s).drop _) = _
        rw [hdr]
        have hf := firstL_enc cs[i] (HCP.out _ (List.getElem_mem hlt)) (encs (cs.drop (i + 1)))
        rw [rng_first _ (by simp [enc1_ne]) (by rw [hf]; simp only; omega), hf]
      rw [hdc] at hnx
      have hl2 : (encs (cs.take (i + 1))).length = (encs (cs.take i)).length + wid cs[i] := by rw [hsucc, List.length_append, enc1_length]
      have HL2 := Lib.hid hl2
      generalize hcc : cs[i] = cp at *
      have HCC := Lib.hid hcc
      clear hdc hdr hsucc hr hl2 hcc
      by_cases hj0 : i = n
      · have hq : ((i : Int) == (n : Int)) = true := by rw [hj0, beq_self_eq_true]
        have hres : (encs (cs.take n)).length = (encs (cs.take i)).length := by rw [hj0]
        have HRES := Lib.hid hres
        have HMIN : Hid (min n cs.length = i) := Lib.hid (by omega)
        clear hj0 hres
        go_wp2_with fail
        go_ret2
        rw [HRES.out, HMIN.out]
        exact ⟨rfl, (Ext.refl w).iter _ _⟩
      · have hq : ((i : Int) == (n : Int)) = false := by rw [beq_eq_false_iff_ne]; omega
        have hj1 : i + 1 ≤ n := by omega
        clear hj0
        go_wp2_with fail
        go_roundw
        case rel => exact ⟨i + 1, by omega, by omega, by go_num, by rw [HL2.out]⟩
        case measure => simp; omega
theorem step_c (x : Nat) (s0 : Sp) (A : Option Addr) (q c : Nat) (l : List Sp) (W : World) (hb : RBox W x (rstV s0 (.slice A q c))) (hr : RdO W A q c l) (ha : Awy x q A) :
    Calls Tryz.prog 110 #[.pointer (some ⟨x, 0, none⟩)] W fun e W' => (∃ v, e = .returned v) ∧ Stepped x A q c l W W' := by
  unfold rstV at hb
  have c0 : W.cell? ⟨x, 0, none⟩ = some (.int .i64 s0.1) := hb.cell rfl; have c1 : W.cell? ⟨x, 1, none⟩ = some (.int .i64 s0.2.1) := hb.cell rfl; have c2 : W.cell? ⟨x, 2, none⟩ = some (.string s0.2.2) := hb.cell rfl; have c3 : W.cell? ⟨x, 3, none⟩ = some (.slice A q c) := hb.cell rfl
  have f0 := hb.frozen 0; have f1 := hb.frozen 1; have f2 := hb.frozen 2; have f3 := hb.frozen 3
  have HB := Lib.hid hb
  have hql := hr.1
  cases l with
  | nil =>
    simp only [List.length_nil] at hql
    subst hql
    have HR := Lib.hid hr
    clear hb hr ha
    go_enter Tryz.func110, Tryz.ntmps110
    go_wp2_with fail
    go_end0
    refine ⟨⟨_, rfl⟩, (((KS.refl W.heap.size x x W).set ⟨x, 0, none⟩ _ (.inl rfl)).set ⟨x, 1, none⟩ _ (.inl rfl)).set ⟨x, 2, none⟩ _ (.inl rfl), A, 0, c, ((HB.out.set 0 (.int .i64 0)).set 1 (.int .i64 0)).set 2 (.string ⟨#[]⟩), fun _ h => h, fun _ h => h⟩
  | cons s r =>
    simp only [List.length_cons] at hql
    obtain ⟨m, hm⟩ : ∃ m, r.length = m := ⟨_, rfl⟩
    rw [hm] at hql
    subst hql
    obtain ⟨b, o, rfl, hbb, q0, q1, q2⟩ := sp_at hr.2 hr.1 (show 0 < m + 1 by omega)
    simp only [List.getElem_cons_zero, Nat.zero_mul, Nat.add_zero] at q0 q1 q2
    have hne : b ≠ x := ha (by omega) b o rfl
    have hcc : m + 1 ≤ c := by obtain ⟨_, _, hv, hc⟩ := hr.2.len; injection hv with _ _ e; omega
    have HR := Lib.hid (fun V (h : RdO V (some ⟨b, o, none⟩) (m + 1) c (s :: r)) => rdO_behind h)
    have HA := Lib.hid (fun y (h : Awy y (m + 1) (some ⟨b, o, none⟩)) => h.behind (c := c) (k := 1) (by omega))
    obtain ⟨AD, hAD⟩ : ∃ AD : Option Addr, (if c = 1 then some ⟨b, o, none⟩ else some ⟨b, o + 1 * 3, none⟩) = AD := ⟨_, rfl⟩
    rw [hAD] at HR HA
    simp only [Nat.one_mul] at hAD
    have y0 : (1 : Int) ≤ (m : Int) + 1 := by omega
    have y1 : (m : Int) + 1 ≤ (c : Int) := by omega
    have y2 : (0 : Int) < (m : Int) + 1 := by omega
    clear hb hr ha hm
    obtain ⟨s1, s2, s3⟩ := s
    simp only at q0 q1 q2
    go_enter Tryz.func110, Tryz.ntmps110
    go_wp2_with fail
    obtain ⟨W1, hW1⟩ : ∃ W1, ((W.setCell ⟨x, 0, none⟩ (.int .i64 0)).setCell ⟨x, 1, none⟩ (.int .i64 0)).setCell ⟨x, 2, none⟩ (.string ⟨#[]⟩) = W1 := ⟨_, rfl⟩
    have HB1 : Hid (RBox W1 x #[.int .i64 0, .int .i64 0, .string ⟨#[]⟩, .slice (some ⟨b, o, none⟩) (m + 1) c]) := Lib.hid (by rw [← hW1]; exact ((HB.out.set 0 (.int .i64 0)).set 1 (.int .i64 0)).set 2 (.string ⟨#[]⟩))
    have HK1 : Hid (KS W.heap.size x x W W1) := Lib.hid (by rw [← hW1]; exact (((KS.refl W.heap.size x x W).set ⟨x, 0, none⟩ _ (.inl rfl)).set ⟨x, 1, none⟩ _ (.inl rfl)).set ⟨x, 2, none⟩ _ (.inl rfl))
    rw [hW1]
    have hk1 := HK1.out.block b hbb hne hne
    rw [← World.cell?_of_block (a := ⟨b, o, none⟩) hk1] at q0
    rw [← World.cell?_of_block (a := ⟨b, o + 1, none⟩) hk1] at q1
    rw [← World.cell?_of_block (a := ⟨b, o + 2, none⟩) hk1] at q2
    clear c0 c1 c2 c3 f0 f1 f2 f3 hk1 hW1 hbb
    have c0 : W1.cell? ⟨x, 0, none⟩ = some (.int .i64 0) := HB1.out.cell rfl
    have c1 : W1.cell? ⟨x, 1, none⟩ = some (.int .i64 0) := HB1.out.cell rfl
    have c2 : W1.cell? ⟨x, 2, none⟩ = some (.string ⟨#[]⟩) := HB1.out.cell rfl
    have c3 : W1.cell? ⟨x, 3, none⟩ = some (.slice (some ⟨b, o, none⟩) (m + 1) c) := HB1.out.cell rfl
    have f0 := HB1.out.frozen 0; have f1 := HB1.out.frozen 1; have f2 := HB1.out.frozen 2; have f3 := HB1.out.frozen 3
    go_region
    go_end0
    exact ⟨⟨_, rfl⟩, HK1.out.trans ((((((KS.refl W.heap.size x x W1).set ⟨x, 0, none⟩ _ (.inl rfl)).set ⟨x, 1, none⟩ _ (.inl rfl)).set ⟨x, 2, none⟩ _ (.inl rfl)).set ⟨x, 3, none⟩ _ (.inl rfl)).trans (KS.of_ext x x (by simpa [World.setCell] using HK1.out.size) (Ext.refl _).drew)),
      AD, m, c - 1, (((HB1.out.set 0 (.int .i64 s1)).set 1 (.int .i64 s2)).set 2 (.string s3)).set 3 (.slice AD m (c - 1)), fun V h => HR.out V h, fun y h => HA.out y h⟩
theorem whole_c (x : Nat) (s0 : Sp) (A : Option Addr) (q c : Nat) (l : List Sp) (W : World) (hb : RBox W x (rstV s0 (.slice A q c))) (hr : RdO W A q c l) (ha : Awy x q A) :
    Calls Tryz.prog 107 #[.pointer (some ⟨x, 0, none⟩)] W fun e W' => e = .returned (.agg #[.int .i64 s0.1, .int .i64 s0.2.1, .string s0.2.2]) ∧ Stepped x A q c l W W' := by
  have c0 : W.cell? ⟨x, 0, none⟩ = some (.int .i64 s0.1) := hb.cell rfl; have c1 : W.cell? ⟨x, 1, none⟩ = some (.int .i64 s0.2.1) := hb.cell rfl; have c2 : W.cell? ⟨x, 2, none⟩ = some (.string s0.2.2) := hb.cell rfl
  have HB := Lib.hid hb; have HR := Lib.hid hr; have HA := Lib.hid ha
  have hw := (Ext.refl W).alloc (.cells #[.int .i64 0, .int .i64 0, .string ⟨#[]⟩] 60)
  have hw2 := hw.alloc (.cells #[.int .i64 0, .int .i64 0, .string ⟨#[]⟩] 60)
  have d0 := ext_cell hw c0; have d1 := ext_cell hw c1; have d2 := ext_cell hw c2
  have e0 := ext_cell hw2 c0; have e1 := ext_cell hw2 c1; have e2 := ext_cell hw2 c2
  clear hb hr ha
  go_enter Tryz.func107, Tryz.ntmps107
  go_wp2_with fail
  have hx2 := hw.alloc (.cells #[.int .i64 s0.1, .int .i64 s0.2.1, .string s0.2.2] 60)
  have b0 := (BxT.new W 60 #[.int .i64 0, .int .i64 0, .string ⟨#[]⟩]).ext ((Ext.refl _).alloc (.cells #[.int .i64 s0.1, .int .i64 s0.2.1, .string s0.2.2] 60))
  have b1 := BxT.new (W.alloc (.cells #[.int .i64 0, .int .i64 0, .string ⟨#[]⟩] 60)) 60 #[.int .i64 s0.1, .int .i64 s0.2.1, .string s0.2.2]
  rw [size_alloc] at b1
  have hsz : ((W.alloc (.cells #[.int .i64 0, .int .i64 0, .string ⟨#[]⟩] 60)).alloc (.cells #[.int .i64 s0.1, .int .i64 s0.2.1, .string s0.2.2] 60)).heap.size = W.heap.size + 2 := by rw [size_alloc, size_alloc]
  obtain ⟨W2, hW2⟩ : ∃ W2, (W.alloc (.cells #[.int .i64 0, .int .i64 0, .string ⟨#[]⟩] 60)).alloc (.cells #[.int .i64 s0.1, .int .i64 s0.2.1, .string s0.2.2] 60) = W2 := ⟨_, rfl⟩
  rw [hW2] at hx2 b0 b1 hsz ⊢
  have hlt := HB.out.lt
  refine (step_c x s0 A q c l W2 (HB.out.ext hx2) (HR.out.ext hx2) HA.out).mono ?_
  rintro e W3 ⟨⟨v, rfl⟩, hk, A', q', c', g1, g2, g3⟩
  have n0 := b0.ks hk (by omega) (by omega) (by omega)
  have n1 := b1.ks hk (by omega) (by omega) (by omega)
  have HN0 := Lib.hid n0; have HG1 := Lib.hid g1
  have HK : Hid (KS W.heap.size x x W W3) := Lib.hid ((KS.of_ext x x (Nat.le_refl _) hx2).trans (hk.mono (by omega)))
  have k0 : W3.cell? ⟨W.heap.size, 0, none⟩ = some (.int .i64 0) := n0.cell rfl; have k1 : W3.cell? ⟨W.heap.size, 1, none⟩ = some (.int .i64 0) := n0.cell rfl; have k2 : W3.cell? ⟨W.heap.size, 2, none⟩ = some (.string ⟨#[]⟩) := n0.cell rfl
  have m0 : W3.cell? ⟨W.heap.size + 1, 0, none⟩ = some (.int .i64 s0.1) := n1.cell rfl; have m1 : W3.cell? ⟨W.heap.size + 1, 1, none⟩ = some (.int .i64 s0.2.1) := n1.cell rfl; have m2 : W3.cell? ⟨W.heap.size + 1, 2, none⟩ = some (.string s0.2.2) := n1.cell rfl
  have f0 := n0.frozen 0; have f1 := n0.frozen 1; have f2 := n0.frozen 2
  clear c0 c1 c2 d0 d1 d2 e0 e1 e2 hw hw2 hx2 b0 b1 n0 n1 g1 hk hW2 hsz
  go_wp2_with fail
  have h1 := ((HN0.out.set 0 (.int .i64 s0.1)).set 1 (.int .i64 s0.2.1)).set 2 (.string s0.2.2)
  refine bodyPost_ret (results_cell_row rfl _ _ W.heap.size _ _ (0, 0) _ rfl h1 Tryz.underlying60 rfl (by kernel_rfl)) rfl ?_
  exact ⟨rfl, ((HK.out.set ⟨W.heap.size, 0, none⟩ _ (.inr (.inr (Nat.le_refl _)))).set ⟨W.heap.size, 1, none⟩ _ (.inr (.inr (Nat.le_refl _)))).set ⟨W.heap.size, 2, none⟩ _ (.inr (.inr (Nat.le_refl _))),
    A', q', c', ((HG1.out.other ⟨W.heap.size, 0, none⟩ (Nat.ne_of_lt hlt) _).other ⟨W.heap.size, 1, none⟩ (Nat.ne_of_lt hlt) _).other ⟨W.heap.size, 2, none⟩ (Nat.ne_of_lt hlt) _, g2, g3⟩
theorem meet_c (g t : Sp) (W : World) :
    Calls Tryz.prog 109 #[.agg #[.int .i64 g.1, .int .i64 g.2.1, .string g.2.2], .agg #[.int .i64 t.1, .int .i64 t.2.1, .string t.2.2]] W fun e W' =>
      e = .returned (if t.1 = 1 then .agg #[.int .i64 g.1, .int .i64 g.2.1, .string g.2.2] else if g.1 = 2 then .agg #[.int .i64 2, .int .i64 0, .string ⟨#[]⟩] else .agg #[.int .i64 t.1, .int .i64 t.2.1, .string t.2.2]) ∧ Ext W W' := by
  obtain ⟨g1, g2, g3⟩ := g
  obtain ⟨t1, t2, t3⟩ := t
  have hx := ((Ext.refl W).alloc (.cells #[.int .i64 g1, .int .i64 g2, .string g3] 60)).alloc (.cells #[.int .i64 t1, .int .i64 t2, .string t3] 60)
  simp only
  by_cases h1 : t1 = 1
  · subst h1
    rw [if_pos rfl]
    have hz := hx.alloc (.cells #[.int .i64 g1, .int .i64 g2, .string g3] 60)
    have hb := BxT.new ((W.alloc (.cells #[.int .i64 g1, .int .i64 g2, .string g3] 60)).alloc (.cells #[.int .i64 1, .int .i64 t2, .string t3] 60)) 60 #[.int .i64 g1, .int .i64 g2, .string g3]
    rw [size_alloc, size_alloc] at hb
    go_enter Tryz.func109, Tryz.ntmps109
    go_wp2_with fail
    refine bodyPost_ret (results_cell_row rfl _ _ (W.heap.size + 1 + 1) _ _ (0, 0) _ rfl hb Tryz.underlying60 rfl (by kernel_rfl)) rfl ?_
    exact ⟨rfl, hz⟩
  · rw [if_neg h1]
    have hb1 : (t1 == 1) = false := by rw [beq_eq_false_iff_ne]; exact h1
    by_cases h2 : g1 = 2
    · subst h2
      rw [if_pos rfl]
      have hz := hx.alloc (.cells #[.int .i64 2, .int .i64 0, .string ⟨#[]⟩] 60)
      have hb := BxT.new ((W.alloc (.cells #[.int .i64 2, .int .i64 g2, .string g3] 60)).alloc (.cells #[.int .i64 t1, .int .i64 t2, .string t3] 60)) 60 #[.int .i64 2, .int .i64 0, .string ⟨#[]⟩]
      rw [size_alloc, size_alloc] at hb
      clear h1
      go_enter Tryz.func109, Tryz.ntmps109
      go_wp2_with fail
      refine bodyPost_ret (results_cell_row rfl _ _ (W.heap.size + 1 + 1) _ _ (0, 0) _ rfl hb Tryz.underlying60 rfl (by kernel_rfl)) rfl ?_
      exact ⟨rfl, hz⟩
    · rw [if_neg h2]
      have hb2 : (g1 == 2) = false := by rw [beq_eq_false_iff_ne]; exact h2
      have hz := hx.alloc (.cells #[.int .i64 t1, .int .i64 t2, .string t3] 60)
      have hb := BxT.new ((W.alloc (.cells #[.int .i64 g1, .int .i64 g2, .string g3] 60)).alloc (.cells #[.int .i64 t1, .int .i64 t2, .string t3] 60)) 60 #[.int .i64 t1, .int .i64 t2, .string t3]
      rw [size_alloc, size_alloc] at hb
      clear h1 h2
      go_enter Tryz.func109, Tryz.ntmps109
      go_wp2_with fail
      refine bodyPost_ret (results_cell_row rfl _ _ (W.heap.size + 1 + 1) _ _ (0, 0) _ rfl hb Tryz.underlying60 rfl (by kernel_rfl)) rfl ?_
      exact ⟨rfl, hz⟩
def Pieced (x : Nat) (A : Option Addr) (q c : Nat) (l L : List Sp) (W W' : World) : Prop :=
  KS W.heap.size x x W W' ∧ ∃ A' q' c', RBox W' x (rstV (hdS L) (.slice A' q' c')) ∧ (∀ V, RdO V A q c l → RdO V A' q' c' L.tail) ∧ ∀ y, Awy y q A → Awy y q' A'
theorem text_cut (t : ByteArray) (us : List Nat) (n : Nat) (hu : dec (bs t) = some us) :
    (encs (us.take n)).length ≤ t.size ∧ t.extract 0 (encs (us.take n)).length = mkS (encs (us.take n)) ∧ t.extract (encs (us.take n)).length t.size = mkS (encs (us.drop n)) ∧
      (us.length ≤ n → mkS (encs (us.drop n)) = ⟨#[]⟩) ∧ (¬ us.length ≤ n → mkS (encs (us.drop n)) ≠ ⟨#[]⟩) := by
  have hub := (dec_some hu).2
  have hb2 : bs t = encs (us.take n) ++ encs (us.drop n) := by rw [← encs_append, List.take_append_drop]; exact hub
  have hlen : (bs t).length = (encs (us.take n)).length + (encs (us.drop n)).length := by rw [hb2, List.length_append]
  rw [bs_length] at hlen
  refine ⟨by omega, mkS_of ?_, mkS_of ?_, fun h => ?_, fun h he => ?_⟩
  · rw [bs_extract, hb2, List.drop_zero, Nat.sub_zero, List.take_left]
  · rw [bs_extract, hb2, List.drop_left, List.take_of_length_le (by omega)]
  · rw [List.drop_of_length_le h]; rfl
  · have h2 := congrArg ByteArray.size he
    rw [size_mkS] at h2
    have h3 := length_le_encs (us.drop n)
    rw [List.length_drop] at h3
    have h4 : (⟨#[]⟩ : ByteArray).size = 0 := rfl
    omega
theorem pieceT_c (x : Nat) (t S1 S2 : ByteArray) (n E M : Nat) (A : Option Addr) (q c : Nat) (l : List Sp) (W : World) (hb : RBox W x (rstV (2, 0, t) (.slice A q c))) (hr : RdO W A q c l) (ha : Awy x q A)
    (hO : ∀ w, Calls Tryz.prog 111 #[.string t, .int .i64 n] w fun e w' => e = .returned (.tuple #[.int .i64 (E : Int), .int .i64 (M : Int)]) ∧ Ext w w')
    (hE : E ≤ t.size) (_hM : M ≤ 2000000000) (_hsz : t.size ≤ 1000000000) (_hn : n ≤ 2000000000) (h1 : t.extract 0 E = S1) (h2 : t.extract E t.size = S2) :
    Calls Tryz.prog 108 #[.pointer (some ⟨x, 0, none⟩), .int .i64 n] W fun e W' =>
      e = .returned (.tuple #[.agg #[.int .i64 2, .int .i64 0, .string S1], .int .i64 (M : Int)]) ∧
      Pieced x A q c l (if S2 = ⟨#[]⟩ then l else (2, 0, S2) :: l) W W' := by
  obtain ⟨L, hL⟩ : ∃ L, (if S2 = ⟨#[]⟩ then l else (2, 0, S2) :: l) = L := ⟨_, rfl⟩
  rw [hL]
  have HQ := Lib.hid hL.symm
  clear hL
  have HO := Lib.hid hO; have HB := Lib.hid hb; have HR := Lib.hid hr; have HA := Lib.hid ha
  have c0 : W.cell? ⟨x, 0, none⟩ = some (.int .i64 2) := hb.cell rfl; have c1 : W.cell? ⟨x, 1, none⟩ = some (.int .i64 0) := hb.cell rfl; have c2 : W.cell? ⟨x, 2, none⟩ = some (.string t) := hb.cell rfl
  have hw := (Ext.refl W).alloc (.cells #[.int .i64 0, .int .i64 0, .string ⟨#[]⟩] 60)
  have hw2 := hw.alloc (.cells #[.int .i64 0, .int .i64 0, .string ⟨#[]⟩] 60)
  have d0 := ext_cell hw c0; have d1 := ext_cell hw c1; have d2 := ext_cell hw c2
  have e0 := ext_cell hw2 c0; have e1 := ext_cell hw2 c1; have e2 := ext_cell hw2 c2
  have hlt := HB.out.lt
  clear hb hr ha hO
  go_enter Tryz.func108, Tryz.ntmps108
  go_wp2_with fail
  have hx2 := hw.alloc (.cells #[.int .i64 2, .int .i64 0, .string t] 60)
  have b0 := (BxT.new W 60 #[.int .i64 0, .int .i64 0, .string ⟨#[]⟩]).ext ((Ext.refl _).alloc (.cells #[.int .i64 2, .int .i64 0, .string t] 60))
  have b1 := BxT.new (W.alloc (.cells #[.int .i64 0, .int .i64 0, .string ⟨#[]⟩] 60)) 60 #[.int .i64 2, .int .i64 0, .string t]
  rw [size_alloc] at b1
  have hz2 : ((W.alloc (.cells #[.int .i64 0, .int .i64 0, .string ⟨#[]⟩] 60)).alloc (.cells #[.int .i64 2, .int .i64 0, .string t] 60)).heap.size = W.heap.size + 2 := by rw [size_alloc, size_alloc]
  obtain ⟨W2, hW2⟩ : ∃ W2, (W.alloc (.cells #[.int .i64 0, .int .i64 0, .string ⟨#[]⟩] 60)).alloc (.cells #[.int .i64 2, .int .i64 0, .string t] 60) = W2 := ⟨_, rfl⟩
  rw [hW2] at hx2 b0 b1 hz2 ⊢
  refine (HO.out W2).mono ?_; rintro e W3 ⟨rfl, hx3⟩
  have hx23 := hx2.trans hx3
  have B0 := Lib.hid (b0.ext hx3); have B1 := Lib.hid (b1.ext hx3); have BR := Lib.hid (HB.out.ext hx23)
  have HX := Lib.hid hx23; have HR3 := Lib.hid (HR.out.ext hx23)
  have hz3 := hx3.size
  rw [hz2] at hz3
  have HZ3 := Lib.hid hz3
  clear hx2 hx3 hx23 b0 b1 hz2 hz3 hw hw2 c0 c1 c2 d0 d1 d2 e0 e1 e2 HO hW2
  have c0 : W3.cell? ⟨x, 0, none⟩ = some (.int .i64 2) := BR.out.cell rfl; have c1 : W3.cell? ⟨x, 1, none⟩ = some (.int .i64 0) := BR.out.cell rfl; have c2 : W3.cell? ⟨x, 2, none⟩ = some (.string t) := BR.out.cell rfl
  have p0 : W3.cell? ⟨W.heap.size + 1, 0, none⟩ = some (.int .i64 2) := B1.out.cell rfl; have p1 : W3.cell? ⟨W.heap.size + 1, 1, none⟩ = some (.int .i64 0) := B1.out.cell rfl; have p2 : W3.cell? ⟨W.heap.size + 1, 2, none⟩ = some (.string t) := B1.out.cell rfl
  have fx := BR.out.frozen 2; have fp := B1.out.frozen 2
  have g0 : (0 : Int) ≤ (E : Int) := by omega
  have g1 : (E : Int) ≤ (t.size : Int) := by omega
  have hne : x ≠ W.heap.size + 1 := by omega
  go_wp2_with fail
  go_region
  obtain ⟨W4, hW4⟩ : ∃ W4, ((W3.setCell ⟨W.heap.size + 1, 2, none⟩ (.string S1)).setCell ⟨x, 2, none⟩ (.string S2)).drew = W4 := ⟨_, rfl⟩
  rw [hW4]
  have hd3 := (Ext.refl ((W3.setCell ⟨W.heap.size + 1, 2, none⟩ (.string S1)).setCell ⟨x, 2, none⟩ (.string S2))).drew
  have BR4 : Hid (RBox W4 x (rstV (2, 0, S2) (.slice A q c))) := Lib.hid (by rw [← hW4]; exact BxT.ext ((BxT.other BR.out ⟨W.heap.size + 1, 2, none⟩ hne _).set 2 (.string S2)) hd3)
  have B14 : Hid (BxT 60 W4 (W.heap.size + 1) #[.int .i64 2, .int .i64 0, .string S1]) := Lib.hid (by rw [← hW4]; exact BxT.ext ((B1.out.set 2 (.string S1)).other ⟨x, 2, none⟩ (Ne.symm hne) _) hd3)
  have B04 : Hid (BxT 60 W4 W.heap.size #[.int .i64 0, .int .i64 0, .string ⟨#[]⟩]) := Lib.hid (by rw [← hW4]; exact BxT.ext ((B0.out.other ⟨W.heap.size + 1, 2, none⟩ (by simp only; omega) _).other ⟨x, 2, none⟩ (by simp only; omega) _) hd3)
  have HK4 : Hid (KS W.heap.size x x W W4) := Lib.hid (by rw [← hW4]; exact KS.ext (((KS.of_ext x x (Nat.le_refl _) HX.out).set ⟨W.heap.size + 1, 2, none⟩ _ (.inr (.inr (Nat.le_succ _)))).set ⟨x, 2, none⟩ _ (.inl rfl)) hd3 (Nat.le_refl _))
  have HZ4 : Hid (W.heap.size + 2 ≤ W4.heap.size) := Lib.hid (by rw [← hW4]; have := HZ3.out; simpa [World.setCell] using this)
  have HR4 : Hid (RdO W4 A q c l) := Lib.hid (rdO_ks HR.out HA.out HA.out HK4.out)
  clear hd3 hW4 c0 c1 c2 p0 p1 p2 fx fp g0 g1 BR B1 B0
  have c0 : W4.cell? ⟨x, 0, none⟩ = some (.int .i64 2) := BR4.out.cell rfl; have c1 : W4.cell? ⟨x, 1, none⟩ = some (.int .i64 0) := BR4.out.cell rfl; have c2 : W4.cell? ⟨x, 2, none⟩ = some (.string S2) := BR4.out.cell rfl
  by_cases hd : S2 = ⟨#[]⟩
  · rw [if_pos hd] at HQ
    have ht : S2.toList.isEmpty = true := by rw [ByteArray.toList_eq]; rw [hd]; rfl
    have HST := Lib.hid (step_c x (2, 0, S2) A q c l W4 BR4.out HR4.out HA.out)
    clear hd
    go_wp2_with fail
    refine HST.out.mono ?_; rintro e W5 ⟨⟨v, rfl⟩, hk, A', q', c', r1, r2, r3⟩
    have HK5 : Hid (KS W.heap.size x x W W5) := Lib.hid (HK4.out.trans (hk.mono HK4.out.size))
    have HR1 := Lib.hid r1
    have hz := HZ4.out
    clear c0 c1 c2 r1
    have n0 := B04.out.ks hk B04.out.lt (by omega) (by omega); have n1 := B14.out.ks hk B14.out.lt (by omega) (by omega)
    have k0 : W5.cell? ⟨W.heap.size, 0, none⟩ = some (.int .i64 0) := n0.cell rfl; have k1 : W5.cell? ⟨W.heap.size, 1, none⟩ = some (.int .i64 0) := n0.cell rfl; have k2 : W5.cell? ⟨W.heap.size, 2, none⟩ = some (.string ⟨#[]⟩) := n0.cell rfl
    have m0 : W5.cell? ⟨W.heap.size + 1, 0, none⟩ = some (.int .i64 2) := n1.cell rfl; have m1 : W5.cell? ⟨W.heap.size + 1, 1, none⟩ = some (.int .i64 0) := n1.cell rfl; have m2 : W5.cell? ⟨W.heap.size + 1, 2, none⟩ = some (.string S1) := n1.cell rfl
    have f0 := n0.frozen 0; have f1 := n0.frozen 1; have f2 := n0.frozen 2
    have HN0 := Lib.hid n0
    clear n0 n1
    go_wp2_with fail
    have h1 := ((HN0.out.set 0 (.int .i64 2)).set 1 (.int .i64 0)).set 2 (.string S1)
    refine bodyPost_ret (results_box_tmp rfl _ _ W.heap.size _ _ (0, 0) _ rfl h1 Tryz.underlying60 rfl (by kernel_rfl)) rfl ?_
    rw [HQ.out]
    exact ⟨rfl, (((HK5.out).set ⟨W.heap.size, 0, none⟩ _ (.inr (.inr (Nat.le_refl _)))).set ⟨W.heap.size, 1, none⟩ _ (.inr (.inr (Nat.le_refl _)))).set ⟨W.heap.size, 2, none⟩ _ (.inr (.inr (Nat.le_refl _))), A', q', c', (((HR1.out).other ⟨W.heap.size, 0, none⟩ (Nat.ne_of_lt hlt) _).other ⟨W.heap.size, 1, none⟩ (Nat.ne_of_lt hlt) _).other ⟨W.heap.size, 2, none⟩ (Nat.ne_of_lt hlt) _, r2, r3⟩
  · rw [if_neg hd] at HQ
    have ht : S2.toList.isEmpty = false := by
      rw [ByteArray.toList_eq, List.isEmpty_eq_false_iff]
      exact fun h => hd (bs_inj h)
    clear hd
    have n0 := B04.out; have n1 := B14.out
    have k0 : W4.cell? ⟨W.heap.size, 0, none⟩ = some (.int .i64 0) := n0.cell rfl; have k1 : W4.cell? ⟨W.heap.size, 1, none⟩ = some (.int .i64 0) := n0.cell rfl; have k2 : W4.cell? ⟨W.heap.size, 2, none⟩ = some (.string ⟨#[]⟩) := n0.cell rfl
    have m0 : W4.cell? ⟨W.heap.size + 1, 0, none⟩ = some (.int .i64 2) := n1.cell rfl; have m1 : W4.cell? ⟨W.heap.size + 1, 1, none⟩ = some (.int .i64 0) := n1.cell rfl; have m2 : W4.cell? ⟨W.heap.size + 1, 2, none⟩ = some (.string S1) := n1.cell rfl
    have f0 := n0.frozen 0; have f1 := n0.frozen 1; have f2 := n0.frozen 2
    have HN0 := Lib.hid n0
    clear n0 n1
    go_wp2_with fail
    have h1 := ((HN0.out.set 0 (.int .i64 2)).set 1 (.int .i64 0)).set 2 (.string S1)
    refine bodyPost_ret (results_box_tmp rfl _ _ W.heap.size _ _ (0, 0) _ rfl h1 Tryz.underlying60 rfl (by kernel_rfl)) rfl ?_
    rw [HQ.out]
    exact ⟨rfl, (((HK4.out).set ⟨W.heap.size, 0, none⟩ _ (.inr (.inr (Nat.le_refl _)))).set ⟨W.heap.size, 1, none⟩ _ (.inr (.inr (Nat.le_refl _)))).set ⟨W.heap.size, 2, none⟩ _ (.inr (.inr (Nat.le_refl _))), A, q, c, (((BR4.out).other ⟨W.heap.size, 0, none⟩ (Nat.ne_of_lt hlt) _).other ⟨W.heap.size, 1, none⟩ (Nat.ne_of_lt hlt) _).other ⟨W.heap.size, 2, none⟩ (Nat.ne_of_lt hlt) _, fun _ h => h, fun _ h => h⟩
theorem pieceN_c (x : Nat) (k : Int) (n N M D : Nat) (A : Option Addr) (q c : Nat) (l : List Sp) (W : World) (hb : RBox W x (rstV (k, (N : Int), ⟨#[]⟩) (.slice A q c))) (hr : RdO W A q c l) (ha : Awy x q A) (hk : k ≠ 2)
    (hN : N ≤ 2000000000) (hM : M = min n N) (hD : D = N - M) :
    Calls Tryz.prog 108 #[.pointer (some ⟨x, 0, none⟩), .int .i64 n] W fun e W' =>
      e = .returned (.tuple #[.agg #[.int .i64 k, .int .i64 (M : Int), .string ⟨#[]⟩], .int .i64 (M : Int)]) ∧
      Pieced x A q c l (if D = 0 then l else (k, (D : Int), ⟨#[]⟩) :: l) W W' := by
  obtain ⟨L, hL⟩ : ∃ L, (if D = 0 then l else (k, (D : Int), ⟨#[]⟩) :: l) = L := ⟨_, rfl⟩
  rw [hL]
  have HQ := Lib.hid hL.symm
  clear hL
  have HB := Lib.hid hb; have HR := Lib.hid hr; have HA := Lib.hid ha
  have hkk : (k == 2) = false := by rw [beq_eq_false_iff_ne]; exact hk
  have hmin : min (n : Int) (N : Int) = (M : Int) := by omega
  have hmin2 : min n N = M := hM.symm
  have hsub : (N : Int) - (M : Int) = (D : Int) := by omega
  have hw64 : wrap64 ((N : Int) - (M : Int)) = (D : Int) := by unfold wrap64; omega
  have he : (⟨#[]⟩ : ByteArray).toList.isEmpty = true := by rw [toList_bs]; rfl
  have c0 : W.cell? ⟨x, 0, none⟩ = some (.int .i64 k) := hb.cell rfl; have c1 : W.cell? ⟨x, 1, none⟩ = some (.int .i64 (N : Int)) := hb.cell rfl; have c2 : W.cell? ⟨x, 2, none⟩ = some (.string ⟨#[]⟩) := hb.cell rfl
  have hw := (Ext.refl W).alloc (.cells #[.int .i64 0, .int .i64 0, .string ⟨#[]⟩] 60)
  have hw2 := hw.alloc (.cells #[.int .i64 0, .int .i64 0, .string ⟨#[]⟩] 60)
  have d0 := ext_cell hw c0; have d1 := ext_cell hw c1; have d2 := ext_cell hw c2
  have e0 := ext_cell hw2 c0; have e1 := ext_cell hw2 c1; have e2 := ext_cell hw2 c2
  have hlt := HB.out.lt
  have hDb : D ≤ 2000000000 := by omega
  have hMb : M ≤ 2000000000 := by omega
  clear hb hr ha hk hM hD
  have hzV : (W.setCell ⟨x, 1, none⟩ (.int .i64 (D : Int))).heap.size = W.heap.size := by simp [World.setCell]
  have hKV : KS W.heap.size x x W (W.setCell ⟨x, 1, none⟩ (.int .i64 (D : Int))) := (KS.refl _ _ _ _).set ⟨x, 1, none⟩ _ (.inl rfl)
  have hBV : RBox (W.setCell ⟨x, 1, none⟩ (.int .i64 (D : Int))) x (rstV (k, (D : Int), ⟨#[]⟩) (.slice A q c)) := HB.out.set 1 (.int .i64 (D : Int))
  have hE1 := (Ext.refl (W.setCell ⟨x, 1, none⟩ (.int .i64 (D : Int)))).alloc (.cells #[.int .i64 0, .int .i64 0, .string ⟨#[]⟩] 60)
  have hE2 := hE1.alloc (.cells #[.int .i64 k, .int .i64 (M : Int), .string ⟨#[]⟩] 60)
  have hb0 := (BxT.new (W.setCell ⟨x, 1, none⟩ (.int .i64 (D : Int))) 60 #[.int .i64 0, .int .i64 0, .string ⟨#[]⟩]).ext ((Ext.refl _).alloc (.cells #[.int .i64 k, .int .i64 (M : Int), .string ⟨#[]⟩] 60))
  have hb1 := BxT.new ((W.setCell ⟨x, 1, none⟩ (.int .i64 (D : Int))).alloc (.cells #[.int .i64 0, .int .i64 0, .string ⟨#[]⟩] 60)) 60 #[.int .i64 k, .int .i64 (M : Int), .string ⟨#[]⟩]
  rw [size_alloc, hzV] at hb1
  rw [hzV] at hb0
  have hz2 : (((W.setCell ⟨x, 1, none⟩ (.int .i64 (D : Int))).alloc (.cells #[.int .i64 0, .int .i64 0, .string ⟨#[]⟩] 60)).alloc (.cells #[.int .i64 k, .int .i64 (M : Int), .string ⟨#[]⟩] 60)).heap.size = W.heap.size + 2 := by rw [size_alloc, size_alloc, hzV]
  have hK4 := hKV.ext hE2 (Nat.le_refl _)
  have HK4 := Lib.hid hK4; have B04 := Lib.hid hb0; have B14 := Lib.hid hb1; have BR4 := Lib.hid (hBV.ext hE2); have HZ4 := Lib.hid hz2
  clear hzV hKV hBV hE1 hE2 hb0 hb1 hz2 hK4
  have hfx := (HB.out.ext (hw.alloc (.cells #[.int .i64 k, .int .i64 (M : Int), .string ⟨#[]⟩] 60))).frozen 1
  by_cases hd : D = 0
  · rw [if_pos hd] at HQ
    have dn : ((D : Int) == 0) = true := by rw [hd]; rfl
    clear hd
    go_enter Tryz.func108, Tryz.ntmps108
    go_wp2_with fail
    obtain ⟨W4, hW4⟩ : ∃ W4, ((W.setCell ⟨x, 1, none⟩ (.int .i64 (D : Int))).alloc (.cells #[.int .i64 0, .int .i64 0, .string ⟨#[]⟩] 60)).alloc (.cells #[.int .i64 k, .int .i64 (M : Int), .string ⟨#[]⟩] 60) = W4 := ⟨_, rfl⟩
    rw [hW4] at HK4 B04 B14 BR4 HZ4 ⊢
    refine (step_c x (k, (D : Int), ⟨#[]⟩) A q c l W4 BR4.out (rdO_ks HR.out HA.out HA.out HK4.out) HA.out).mono ?_; rintro e W5 ⟨⟨v, rfl⟩, hk, A', q', c', r1, r2, r3⟩
    have HK5 : Hid (KS W.heap.size x x W W5) := Lib.hid (HK4.out.trans (hk.mono HK4.out.size))
    have HR1 := Lib.hid r1
    have hz := HZ4.out
    have n0 := B04.out.ks hk B04.out.lt (by omega) (by omega); have n1 := B14.out.ks hk B14.out.lt (by omega) (by omega)
    have k0 : W5.cell? ⟨W.heap.size, 0, none⟩ = some (.int .i64 0) := n0.cell rfl; have k1 : W5.cell? ⟨W.heap.size, 1, none⟩ = some (.int .i64 0) := n0.cell rfl; have k2 : W5.cell? ⟨W.heap.size, 2, none⟩ = some (.string ⟨#[]⟩) := n0.cell rfl
    have m0 : W5.cell? ⟨W.heap.size + 1, 0, none⟩ = some (.int .i64 k) := n1.cell rfl; have m1 : W5.cell? ⟨W.heap.size + 1, 1, none⟩ = some (.int .i64 (M : Int)) := n1.cell rfl; have m2 : W5.cell? ⟨W.heap.size + 1, 2, none⟩ = some (.string ⟨#[]⟩) := n1.cell rfl
    have f0 := n0.frozen 0; have f1 := n0.frozen 1; have f2 := n0.frozen 2
    have HN0 := Lib.hid n0
    clear c0 c1 c2 d0 d1 d2 e0 e1 e2 hw hw2 r1 n0 n1 hW4 hk
    go_wp2_with fail
    have h1 := ((HN0.out.set 0 (.int .i64 k)).set 1 (.int .i64 (M : Int))).set 2 (.string ⟨#[]⟩)
    refine bodyPost_ret (results_box_tmp rfl _ _ W.heap.size _ _ (0, 0) _ rfl h1 Tryz.underlying60 rfl (by kernel_rfl)) rfl ?_
    rw [HQ.out]
    exact ⟨rfl, (((HK5.out).set ⟨W.heap.size, 0, none⟩ _ (.inr (.inr (Nat.le_refl _)))).set ⟨W.heap.size, 1, none⟩ _ (.inr (.inr (Nat.le_refl _)))).set ⟨W.heap.size, 2, none⟩ _ (.inr (.inr (Nat.le_refl _))), A', q', c', (((HR1.out).other ⟨W.heap.size, 0, none⟩ (Nat.ne_of_lt hlt) _).other ⟨W.heap.size, 1, none⟩ (Nat.ne_of_lt hlt) _).other ⟨W.heap.size, 2, none⟩ (Nat.ne_of_lt hlt) _, r2, r3⟩
  · rw [if_neg hd] at HQ
    have dn : ((D : Int) == 0) = false := by rw [beq_eq_false_iff_ne]; omega
    clear hd
    go_enter Tryz.func108, Tryz.ntmps108
    go_wp2_with fail
    have hzV : (W.setCell ⟨x, 1, none⟩ (.int .i64 (D : Int))).heap.size = W.heap.size := by simp [World.setCell]
    have hKV : KS W.heap.size x x W (W.setCell ⟨x, 1, none⟩ (.int .i64 (D : Int))) := (KS.refl _ _ _ _).set ⟨x, 1, none⟩ _ (.inl rfl)
    have hBV : RBox (W.setCell ⟨x, 1, none⟩ (.int .i64 (D : Int))) x (rstV (k, (D : Int), ⟨#[]⟩) (.slice A q c)) := HB.out.set 1 (.int .i64 (D : Int))
    have hE1 := (Ext.refl (W.setCell ⟨x, 1, none⟩ (.int .i64 (D : Int)))).alloc (.cells #[.int .i64 k, .int .i64 (M : Int), .string ⟨#[]⟩] 60)
    have hE2 := hE1.alloc (.cells #[.int .i64 k, .int .i64 (M : Int), .string ⟨#[]⟩] 60)
    have h1 := (BxT.new (W.setCell ⟨x, 1, none⟩ (.int .i64 (D : Int))) 60 #[.int .i64 k, .int .i64 (M : Int), .string ⟨#[]⟩]).ext ((Ext.refl _).alloc (.cells #[.int .i64 k, .int .i64 (M : Int), .string ⟨#[]⟩] 60))
    rw [hzV] at h1
    refine bodyPost_ret (results_box_tmp rfl _ _ W.heap.size _ _ (0, 0) _ rfl h1 Tryz.underlying60 rfl (by kernel_rfl)) rfl ?_
    rw [HQ.out]
    exact ⟨rfl, hKV.ext hE2 (Nat.le_refl _), A, q, c, hBV.ext hE2, fun _ h => h, fun _ h => h⟩
theorem piece_c (x : Nat) (s : Sp) (n M : Nat) (A : Option Addr) (q c : Nat) (l : List Sp) (W : World) (hb : RBox W x (rstV s (.slice A q c))) (hr : RdO W A q c l) (ha : Awy x q A)
    (hok : OkW s) (hsz : s.2.2.size ≤ 1000000000) (hN : s.2.1 ≤ 2000000000) (hn : n ≤ 2000000000) (hM : M = min n (tokS s).length) :
    Calls Tryz.prog 108 #[.pointer (some ⟨x, 0, none⟩), .int .i64 n] W fun e W' =>
      e = .returned (.tuple #[.agg #[.int .i64 (cutA s M).1, .int .i64 (cutA s M).2.1, .string (cutA s M).2.2], .int .i64 (M : Int)]) ∧ Pieced x A q c l (left s M l) W W' := by
  rcases hok with ⟨k1, n1, us, hu⟩ | ⟨k1, n1, t1⟩
  · obtain ⟨a1, a2, a3⟩ := s
    simp only at k1 n1 hu hsz
    subst k1; subst n1
    have hL : (tokS (2, 0, a3)).length = us.length := by rw [tokS_text _ _ hu, List.length_map]
    rw [hL] at hM
    obtain ⟨t0, t1, t2, t3, t4⟩ := text_cut a3 us n hu
    have eA : cutA (2, 0, a3) M = (2, 0, mkS (encs (us.take n))) := by
      unfold cutA
      rw [if_pos rfl, hM]
      simp only [hu, Option.getD_some]
      rw [← List.take_eq_take_min]
    have eL : left (2, 0, a3) M l = if mkS (encs (us.drop n)) = ⟨#[]⟩ then l else (2, 0, mkS (encs (us.drop n))) :: l := by
      unfold left
      rw [hL]
      by_cases h : us.length ≤ n
      · rw [if_pos (by omega), if_pos (t3 h)]
      · rw [if_neg (by omega), if_neg (t4 h)]
        unfold cutB
        rw [if_pos rfl, show M = n by omega]
        simp only [hu, Option.getD_some]
    rw [eA, eL]
    exact pieceT_c x a3 _ _ n _ M A q c l W hb hr ha (fun w => by rw [hM]; exact off9_c a3 n w hsz hn us hu) t0 (by omega) hsz hn t1 t2
  · obtain ⟨a1, a2, a3⟩ := s
    simp only at k1 n1 t1 hN
    obtain ⟨N, rfl⟩ := Int.eq_ofNat_of_zero_le n1
    subst t1
    have hk : a1 ≠ 2 := by omega
    have hL : (tokS (a1, (N : Int), ⟨#[]⟩)).length = N := by rw [tokS_num _ _ _ hk, List.length_replicate, Int.toNat_natCast]
    rw [hL] at hM
    have eA : cutA (a1, (N : Int), ⟨#[]⟩) M = (a1, (M : Int), ⟨#[]⟩) := by unfold cutA; rw [if_neg hk]
    have eL : left (a1, (N : Int), ⟨#[]⟩) M l = if N - M = 0 then l else (a1, ((N - M : Nat) : Int), ⟨#[]⟩) :: l := by
      unfold left cutB
      rw [hL, if_neg hk]
      by_cases h : N = M
      · rw [if_pos h, if_pos (by omega)]
      · rw [if_neg h, if_neg (by omega)]
        simp only
        rw [show ((N - M : Nat) : Int) = (N : Int) - M by omega]
    rw [eA, eL]
    exact pieceN_c x a1 n N M (N - M) A q c l W hb hr ha hk (by omega) hM rfl
end Go.Proofs.YtgcaphjjigpjlaaGreatDoor
namespace Go.Proofs.YtgcaphjjigpjlaaGreatDoor
open Go.RowKit
set_option maxRecDepth 100000
set_option maxHeartbeats 4000000
set_option linter.unusedSimpArgs false
theorem rdO_new {w : World} {A : Option Addr} {n c : Nat} {l : List Sp} (h : RdO w A n c l) : Awy w.heap.size n A := by
  intro hn b off hA
  obtain ⟨_, _, A', c', hv, _, h2⟩ := h
  obtain ⟨b', off', hA', hb', _⟩ := h2 hn
  injection hv with e1 e2 e3
  subst e1
  rw [hA] at hA'
  injection hA' with hA'
  injection hA' with e4 e5
  omega
theorem rdO_awy {w : World} {A : Option Addr} {n c y : Nat} {l : List Sp} (h : RdO w A n c l) (hy : w.heap.size ≤ y) : Awy y n A := by
  intro hn b off hA
  obtain ⟨_, _, A', c', hv, _, h2⟩ := h
  obtain ⟨b', off', hA', hb', _⟩ := h2 hn
  injection hv with e1 e2 e3
  subst e1
  rw [hA] at hA'
  injection hA' with hA'
  injection hA' with e4 e5
  omega
theorem own_awy {w : World} {B : Nat} {e : TypeId} {size : Nat} {a : Option Addr} {n c m : Nat} {xs : List Value} (h : Own w B e size (.slice a n c) m xs) {z : Nat} (hz : z < B) : Awy z n a := by
  intro hn b off hA
  subst hA
  rcases h.1.2 with ⟨h, _⟩ | ⟨g, cap, cur, hv, hg, _⟩
  · cases h
  · injection hv with e1 e2 e3
    injection e1 with e1
    injection e1 with e1 e2
    omega
theorem KS.of_below {n : Nat} (x y : Nat) {A B : World} (h : Below n A B) : KS n x y A B := ⟨h.os, h.tape, h.output, h.size, fun k hk _ _ => h.block k hk⟩
theorem own_ks {w w' : World} {B x : Nat} {e : TypeId} {size : Nat} {v : Value} {n : Nat} {xs : List Value} (h : Own w B e size v n xs) (hk : KS w.heap.size x x w w') (hx : x < B) : Own w' B e size v n xs :=
  ⟨ownsRow_kept h.1 fun k h1 h2 => hk.block k h2 (by omega) (by omega), Nat.le_trans h.2 hk.size⟩
theorem BxT.at_ {t : TypeId} {W W' : World} {n B : Nat} {v : Array Value} (h : BxT t W B v) (hk : Below n W W') (hn : B < n) : BxT t W' B v := (hk.block B hn).trans h
theorem may9_c (A : Option Addr) (q c : Nat) (a : List Sp) (B : Option Addr) (q' c' : Nat) (b : List Sp) (w : World) [Tab w] (h : RdO w A q c a) (h' : RdO w B q' c' b) (hq : q ≤ 1000) (hq' : q' ≤ 1000)
    (hta : ∀ s ∈ a, s.2.2.size ≤ 1000000000) (htb : ∀ s ∈ b, s.2.2.size ≤ 1000000000) (hT : sumT a + sumT b ≤ 900000000) :
    Calls Tryz.prog 101 #[.slice A q c, .slice B q' c'] w fun e w' => e = .returned (.int .i64 (compE a b)) ∧ Ext w w' := by
  have hla := h.1; have hlb := h'.1
  have HMA : Hid (∀ w', Ext w w' → _) := Lib.hid fun w' hx => have hTb := tab_ext hx; may4_c A q c a w' (h.2.ext hx) h.1 hq hta
  have HMB : Hid (∀ w', Ext w w' → _) := Lib.hid fun w' hx => have hTb := tab_ext hx; may4_c B q' c' b w' (h'.2.ext hx) h'.1 hq' htb
  have HOA : Hid (∀ w', Ext w w' → _) := Lib.hid fun w' hx => have hTb := tab_ext hx; out4_c A q c a w' (h.2.ext hx) h.1 hq hta
  have HIB : Hid (∀ w', Ext w w' → _) := Lib.hid fun w' hx => have hTb := tab_ext hx; in4_c B q' c' b w' (h'.2.ext hx) h'.1 hq'
  by_cases hma : mayL a = 0
  · by_cases hmb : mayL b = 0
    · obtain ⟨alla, ai0, ai1⟩ := mayL_all hma (by omega)
      obtain ⟨allb, bi0, bi1⟩ := mayL_all hmb (by omega)
      have hob := outL_le a fun s hs => okW_of_may (alla s hs)
      have hwo : wrap64 (outL a) = outL a := by unfold wrap64; omega
      have hwi : wrap64 (inL b) = inL b := by unfold wrap64; omega
      rw [hma] at HMA; rw [hmb] at HMB; rw [hwo] at HOA; rw [hwi] at HIB
      obtain ⟨E, hE⟩ : ∃ E, compE a b = E := ⟨_, rfl⟩
      rw [hE]
      have hcase : (outL a = inL b ∧ E = 0 ∧ (outL a != inL b) = false) ∨ (outL a ≠ inL b ∧ E = 5 ∧ (outL a != inL b) = true) := by
        rw [← hE]; unfold compE; rw [if_pos hma, if_pos hmb]
        by_cases hf : outL a = inL b
        · exact .inl ⟨hf, if_pos hf, by rw [hf]; simp⟩
        · exact .inr ⟨hf, if_neg hf, by rw [bne_iff_ne]; exact hf⟩
      clear h h' hta htb hT hma hmb alla allb hob hwo hwi hE
      generalize inL b = IB at *
      generalize outL a = OA at *
      rcases hcase with ⟨hf, rfl, hbq⟩ | ⟨hf, rfl, hbq⟩
      · subst hf
        go_enter Tryz.func101, Tryz.ntmps101
        go_wp2_with fail
        refine (HMA.out _ (Ext.refl _)).mono ?_; rintro e w1 ⟨rfl, hx1⟩
        go_wp2_with fail
        refine (HMB.out _ hx1).mono ?_; rintro e w2 ⟨rfl, hx2⟩
        go_wp2_with fail
        refine (HOA.out _ (hx1.trans hx2)).mono ?_; rintro e w3 ⟨rfl, hx3⟩
        go_wp2_with fail
        refine (HIB.out _ ((hx1.trans hx2).trans hx3)).mono ?_; rintro e w4 ⟨rfl, hx4⟩
        go_wp2_with fail
        go_ret
        exact ⟨rfl, ((hx1.trans hx2).trans hx3).trans hx4⟩
      · have hb2 : (OA == IB) = false := by rw [beq_eq_false_iff_ne]; exact hf
        go_enter Tryz.func101, Tryz.ntmps101
        go_wp2_with fail
        refine (HMA.out _ (Ext.refl _)).mono ?_; rintro e w1 ⟨rfl, hx1⟩
        go_wp2_with fail
        refine (HMB.out _ hx1).mono ?_; rintro e w2 ⟨rfl, hx2⟩
        go_wp2_with fail
        refine (HOA.out _ (hx1.trans hx2)).mono ?_; rintro e w3 ⟨rfl, hx3⟩
        go_wp2_with fail
        refine (HIB.out _ ((hx1.trans hx2).trans hx3)).mono ?_; rintro e w4 ⟨rfl, hx4⟩
        go_wp2_with fail
        go_ret
        exact ⟨rfl, ((hx1.trans hx2).trans hx3).trans hx4⟩
    · have hE : compE a b = mayL b := by unfold compE; rw [if_pos hma, if_neg hmb]
      rw [hma] at HMA
      have hb : (mayL b != 0) = true := by rw [bne_iff_ne]; exact hmb
      have hb2 : (mayL b == 0) = false := by rw [beq_eq_false_iff_ne]; exact hmb
      rw [hE]
      clear h h' hta htb hT hma hmb hE
      generalize mayL b = MB at *
      go_enter Tryz.func101, Tryz.ntmps101
      go_wp2_with fail
      refine (HMA.out _ (Ext.refl _)).mono ?_; rintro e w1 ⟨rfl, hx1⟩
      go_wp2_with fail
      refine (HMB.out _ hx1).mono ?_; rintro e w2 ⟨rfl, hx2⟩
      go_wp2_with fail
      go_ret
      exact ⟨rfl, hx1.trans hx2⟩
  · have hE : compE a b = mayL a := by unfold compE; rw [if_neg hma]
    have hb : (mayL a != 0) = true := by rw [bne_iff_ne]; exact hma
    have hb2 : (mayL a == 0) = false := by rw [beq_eq_false_iff_ne]; exact hma
    rw [hE]
    clear h h' hta htb hT hma hE
    generalize mayL a = MA at *
    go_enter Tryz.func101, Tryz.ntmps101
    go_wp2_with fail
    refine (HMA.out _ (Ext.refl _)).mono ?_; rintro e w1 ⟨rfl, hx1⟩
    go_wp2_with fail
    go_ret
    exact ⟨rfl, hx1⟩
theorem restOf_c (A : Option Addr) (q c : Nat) (l : List Sp) (w : World) (h : RdO w A q c l) (hq : q ≤ 1000) (ho : Ok l) :
    Calls Tryz.prog 103 #[.slice A q c] w fun e w' => Ext w w' ∧ ∃ x A' q' c', e = .returned (.pointer (some ⟨x, 0, none⟩)) ∧ w.heap.size ≤ x ∧
      RBox w' x (rstV (hdS (normL l)) (.slice A' q' c')) ∧ RdO w' A' q' c' (normL l).tail ∧ Awy x q' A' ∧ ∀ z, z < w.heap.size → Awy z q' A' := by
  have HN : Hid (∀ w', Ext w w' → _) := Lib.hid fun w' hx => of5_c A q c l w' (h.2.ext hx) h.1 (by omega) ho
  clear h ho
  go_enter Tryz.func103, Tryz.ntmps103
  go_wp2_with fail
  refine (HN.out _ (Ext.refl _)).mono ?_; rintro e w1 ⟨v, rfl, hx1, o1⟩
  obtain ⟨a1, n1, c1, rfl, r1⟩ := rdO_own o1
  have hE := (Ext.refl w1).alloc (.cells #[.int .i64 0, .int .i64 0, .string ⟨#[]⟩, .slice a1 n1 c1] 138)
  have hR := BxT.new w1 138 (rstV (0, 0, ⟨#[]⟩) (.slice a1 n1 c1))
  have hA : Awy w1.heap.size n1 a1 := rdO_new r1
  have hB : ∀ z, z < w.heap.size → Awy z n1 a1 := fun z hz => own_awy o1 hz
  clear o1
  go_wp2_with fail
  refine (step_c w1.heap.size (0, 0, ⟨#[]⟩) a1 n1 c1 (normL l) _ hR (r1.ext hE) hA).mono ?_
  rintro e w2 ⟨⟨v, rfl⟩, hk, A', q', c', g1, g2, g3⟩
  have hx2 : Ext w w2 := Below.trans (hx1.trans hE) (hk.below (hx1.trans hE).size hx1.size hx1.size)
  have hr2 := rdO_ks (g2 _ (r1.ext hE)) (g3 _ hA) (g3 _ hA) hk
  go_wp2_with fail
  go_ret
  exact ⟨hx2, w1.heap.size, A', q', c', rfl, hx1.size, g1, hr2, g3 _ hA, fun z hz => g3 z (hB z hz)⟩
def leftN (x : Nat) (w : World) : Nat :=
  (match w.cell? ⟨x, 0, none⟩ with | some (.int _ k) => (if k = 0 then 0 else 1) | _ => 0) + (match w.cell? ⟨x, 3, none⟩ with | some (.slice _ n _) => n | _ => 0)
theorem leftN_eq {x n c : Nat} {w : World} {l : List Sp} {A : Option Addr} (h : RBox w x (rstV (hdS l) (.slice A n c))) (hn : l.tail.length = n) (hk : ∀ s ∈ l, OkW s) : leftN x w = l.length := by
  have c0 : w.cell? ⟨x, 0, none⟩ = some (.int .i64 (hdS l).1) := h.cell rfl
  have c3 : w.cell? ⟨x, 3, none⟩ = some (.slice A n c) := h.cell rfl
  unfold leftN
  rw [c0, c3]
  cases l with
  | nil => simp only [List.tail_nil, List.length_nil] at hn; subst hn; rfl
  | cons s r =>
    have hs : s.1 ≠ 0 := by
      rcases hk s (List.mem_cons_self ..) with ⟨k1, _⟩ | ⟨k1, _⟩ <;> omega
    have e : (hdS (s :: r)).1 = s.1 := rfl
    simp only [List.tail_cons] at hn
    rw [e]
    simp only [if_neg hs, List.length_cons]
    omega
theorem comp_stepE {TT : List Tok} {s u : Sp} {xs ys os : List Sp} {n : Nat} (h : Row3 1000000000 900000000 2000 (s :: xs) (u :: ys) os) (htt : tok os ++ compT (tok (s :: xs)) (tok (u :: ys)) = TT) (hsid : tout (tok (s :: xs)) = tin (tok (u :: ys))) (ks : s.1 ≠ 3) (ku : u.1 ≠ 2) (hn : n = min (tokS s).length (tokS u).length) (m : Sp)
    (hm : m = if u.1 = 1 then cutA s n else if s.1 = 2 then (2, 0, ⟨#[]⟩) else cutA u n) :
    Row3 1000000000 900000000 2000 (left s n xs) (left u n ys) (os ++ [m]) ∧ tok (os ++ [m]) ++ compT (tok (left s n xs)) (tok (left u n ys)) = TT ∧ tout (tok (left s n xs)) = tin (tok (left u n ys)) ∧
      (left s n xs).length + (left u n ys).length < (s :: xs).length + (u :: ys).length := by
  have hs := (h.x s (List.mem_cons_self ..)).1
  have hlt := (h.both hn [] (.inl rfl)).2
  obtain ⟨h1, h2, h3⟩ := comp_step h htt hsid ks ku hn
  have k12 : s.1 = 1 ∨ s.1 = 2 := by
    rcases hs with ⟨k1, _⟩ | ⟨k1, _⟩ <;> omega
  by_cases hu1 : u.1 = 1
  · rw [if_pos hu1] at h1 h2 hm
    subst hm
    exact ⟨h1, h2, h3, hlt⟩
  · rw [if_neg hu1] at h1 h2 hm
    rcases k12 with k | k
    · rw [if_pos k] at h1 h2
      rw [if_neg (by omega)] at hm
      subst hm
      exact ⟨h1, h2, h3, hlt⟩
    · rw [if_neg (by omega)] at h1 h2
      rw [if_pos k] at hm
      subst hm
      have hE : OkW (2, 0, (⟨#[]⟩ : ByteArray)) := .inl ⟨rfl, rfl, [], rfl⟩
      have hT : tokS (2, 0, (⟨#[]⟩ : ByteArray)) = [] := tokS_emp _ ⟨rfl, rfl⟩
      rw [List.append_nil] at h1 h2
      have hl := h.l
      refine ⟨⟨h1.x, h1.y, fun v hv => ?_, ?_, ?_, ?_⟩, ?_, h3, hlt⟩
      · rcases List.mem_append.1 hv with hv | hv
        · exact h1.o v hv
        · rw [List.mem_singleton] at hv; subst hv; exact hE
      · have := h1.n; rw [sumN_append, sumN_one]; simp only; omega
      · have := h1.t; rw [sumT_append, sumT_sing]; have e : (⟨#[]⟩ : ByteArray).size = 0 := rfl; simp only; omega
      · simp only [List.length_append, List.length_cons, List.length_nil] at *; omega
      · rw [tok_append, tok_cons, tok_nil, hT, List.append_nil, List.append_nil]; exact h2
theorem both_c (x y : Nat) (xs0 ys0 : List Sp) (A : Option Addr) (q c : Nat) (B : Option Addr) (q' c' : Nat) (w : World)
    (hbx : RBox w x (rstV (hdS xs0) (.slice A q c))) (hby : RBox w y (rstV (hdS ys0) (.slice B q' c'))) (hrx : RdO w A q c xs0.tail) (hry : RdO w B q' c' ys0.tail)
    (hxx : Awy x q A) (hxy : Awy y q A) (hyx : Awy x q' B) (hyy : Awy y q' B) (hne : x ≠ y) (hrow : Row3 1000000000 900000000 2000 xs0 ys0 []) (hsid : tout (tok xs0) = tin (tok ys0)) :
    Calls Tryz.prog 102 #[.pointer (some ⟨x, 0, none⟩), .pointer (some ⟨y, 0, none⟩)] w fun e w' => KS w.heap.size x y w w' ∧ ∃ v os, e = .returned v ∧
      Own w' w.heap.size 60 3 v os.length (spCells os) ∧ Row3 1000000000 900000000 2000 [] [] os ∧ tok os = compT (tok xs0) (tok ys0) := by
  obtain ⟨i, hi, hz0, hz1, hz2⟩ := info_parts info_sp5
  obtain ⟨TT, hTT⟩ : ∃ TT, compT (tok xs0) (tok ys0) = TT := ⟨_, rfl⟩
  rw [hTT]
  have hlx := hbx.lt; have hly := hby.lt
  have HBX := Lib.hid hbx; have HBY := Lib.hid hby; have HRX := Lib.hid hrx; have HRY := Lib.hid hry
  have HWX := Lib.hid (And.intro hxx hxy); have HWY := Lib.hid (And.intro hyx hyy)
  have HROW := Lib.hid hrow; have HSID := Lib.hid hsid
  have HTT : Hid (tok [] ++ compT (tok xs0) (tok ys0) = TT) := Lib.hid (by rw [tok_nil, List.nil_append]; exact hTT)
  clear hbx hby hrx hry hxx hxy hyx hyy hrow hsid hTT
  go_enter Tryz.func102, Tryz.ntmps102
  go_wp2_with fail
  go_step3
  go_wp2_with fail
  go_step3
  go_wp2_with fail
  go_loopw [5] (fun v wr => ∃ (xs ys os : List Sp) (ax ay : Option Addr) (nx cx ny cy : Nat),
      Hid (RBox wr x (rstV (hdS xs) (.slice ax nx cx)) ∧ RBox wr y (rstV (hdS ys) (.slice ay ny cy)) ∧ RdO w ax nx cx xs.tail ∧ RdO w ay ny cy ys.tail ∧ (Awy x nx ax ∧ Awy y nx ax) ∧ (Awy x ny ay ∧ Awy y ny ay)) ∧
      Hid (Own wr w.heap.size 60 3 v os.length (spCells os)) ∧ Hid (Row3 1000000000 900000000 2000 xs ys os) ∧ Hid (tok os ++ compT (tok xs) (tok ys) = TT) ∧ Hid (tout (tok xs) = tin (tok ys)) ∧ Hid (KS w.heap.size x y w wr))
    (fun _ wr => leftN x wr + leftN y wr)
  case atStart => exact ⟨xs0, ys0, [], A, B, q, c, q', c', Lib.hid ⟨HBX.out, HBY.out, HRX.out, HRY.out, HWX.out, HWY.out⟩, Lib.hid (Own.nil w _ _ _ (Nat.le_refl _)), HROW, HTT, HSID, Lib.hid (KS.refl _ _ _ _)⟩
  case round =>
    obtain ⟨xs, ys, os, ax, ay, nx, cx, ny, cy, HB, HO, HRW, HT, HS, HK⟩ := hrel
    clear HBX HBY HRX HRY HWX HWY HROW HSID HTT
    obtain ⟨bx, by', rx, ry, wx, wy⟩ := HB.out
    have hkx : ∀ s ∈ xs, OkW s := fun s hs => (HRW.out.x s hs).1
    have hky : ∀ s ∈ ys, OkW s := fun s hs => (HRW.out.y s hs).1
    have hmx := leftN_eq bx rx.1 hkx
    have hmy := leftN_eq by' ry.1 hky
    rw [hmx, hmy]
    rcases compC xs ys HRW.out.x HRW.out.y HS.out with ⟨rfl, rfl⟩ | ⟨b1, b2, b3, ys, rfl, hk⟩ | ⟨a1, a2, a3, xs, rfl, hk, hnp⟩ | ⟨a1, a2, a3, xs, b1, b2, b3, ys, rfl, rfl, hka, hkb⟩
    · have x0 : wr.cell? ⟨x, 0, none⟩ = some (.int .i64 0) := bx.cell rfl
      have y0 : wr.cell? ⟨y, 0, none⟩ = some (.int .i64 0) := by'.cell rfl
      clear hkx hky hmx hmy
      go_wp2_with fail
      rw [Exit.noGoto_ret]
      go_ret
      refine ⟨HK.out, _, os, rfl, HO.out, HRW.out, ?_⟩
      have h := HT.out
      rw [tok_nil, compT, List.append_nil] at h
      exact h
    · subst hk
      have huo := (HRW.out.y _ (List.mem_cons_self ..)).1
      have HW := Lib.hid (whole_c y (2, b2, b3) ay ny cy ys wr by' (rdO_ks ry wy.1 wy.2 HK.out) wy.2)
      have HROW2 := Lib.hid HRW.out.putY
      have HTT2 : Hid (tok (os ++ [(2, b2, b3)]) ++ compT (tok xs) (tok ys) = TT) := Lib.hid (by rw [comp_putY xs ys os _ huo rfl]; exact HT.out)
      have HSID2 : Hid (tout (tok xs) = tin (tok ys)) := Lib.hid (by have h1 := HS.out; rw [tok_cons, tin_append, (sides _ huo).1, if_pos rfl] at h1; omega)
      have y0 : wr.cell? ⟨y, 0, none⟩ = some (.int .i64 2) := by'.cell rfl
      have hlo : os.length ≤ 2000 := by have := HRW.out.l; omega
      have HLT := Lib.hid hmx; have HLU := Lib.hid hmy
      clear hmx hmy hkx hky
      have hkk := HK.out.size
      have BX1 := Lib.hid bx; have BY1 := Lib.hid by'; have RX1 := Lib.hid rx; have RY1 := Lib.hid ry; have WX1 := Lib.hid wx; have WY1 := Lib.hid wy
      clear bx by' rx ry wx wy
      go_wp2_with fail
      refine HW.out.mono ?_; rintro e w1 ⟨rfl, hk1, A', q'', c'', g1, g2, g3⟩
      have ho1 := own_ks HO.out hk1 hly
      have G1 := Lib.hid g1; have G2 := Lib.hid g2; have G3 := Lib.hid g3; have K1 := Lib.hid hk1
      clear g1 g2 g3 hk1
      obtain ⟨v', w2, happ, hown', hbel', -, -, -⟩ := app_newg (P := Tryz.prog) 23 23 60 i _ 3 32 Tryz.underlying23 hi hz0 hz1 hz2 rfl (by omega) (by omega)
        ho1 (by omega) 1 #[.int .i64 2, .int .i64 b2, .string b3] rfl (by omega) (by simp [Value.oneCell']) 60
      have HAP := Lib.hid happ
      have HO2 : Hid (Own w2 w.heap.size 60 3 v' (os ++ [(2, b2, b3)]).length (spCells (os ++ [(2, b2, b3)]))) := Lib.hid (by rw [spCells_append, List.length_append]; exact hown')
      have hk2 : Below w.heap.size w1 w2 := hbel' (Below.refl _ _)
      have K2 := Lib.hid hk2
      clear ho1 happ hown' hbel' hk2
      go_wp2_with (at_builtin; refine wpList_append_run rfl rfl HAP.out rfl rfl ?_)
      go_roundw
      case rel =>
        have hkk2 : KS w.heap.size x y wr w1 := (K1.out.mono hkk).right
        exact ⟨xs, ys, os ++ [(2, b2, b3)], ax, A', nx, cx, q'', c'', Lib.hid ⟨BxT.at_ (BxT.ks BX1.out K1.out BX1.out.lt hne hne) K2.out hlx, BxT.at_ G1.out K2.out hly, RX1.out, G2.out _ RY1.out, WX1.out, ⟨G3.out x WY1.out.1, G3.out y WY1.out.2⟩⟩, HO2, HROW2, HTT2, HSID2, Lib.hid ((HK.out.trans hkk2).trans (KS.of_below x y K2.out))⟩
      case measure =>
        have e1 := leftN_eq (x := x) (w := w2) (l := xs) (BxT.at_ (BxT.ks BX1.out K1.out BX1.out.lt hne hne) K2.out hlx) RX1.out.1 fun s hs => (HROW2.out.x s hs).1
        have e2 := leftN_eq (x := y) (w := w2) (l := ys) (BxT.at_ G1.out K2.out hly) (G2.out _ RY1.out).1 fun s hs => (HROW2.out.y s hs).1
        have e3 := HLT.out; have e4 := HLU.out
        simp only [List.length_cons] at e3 e4
        simp only [List.length_cons]; omega
    · subst hk
      have huo := (HRW.out.x _ (List.mem_cons_self ..)).1
      have HW := Lib.hid (whole_c x (3, a2, a3) ax nx cx xs wr bx (rdO_ks rx wx.1 wx.2 HK.out) wx.1)
      have HROW2 := Lib.hid HRW.out.putX
      have HTT2 : Hid (tok (os ++ [(3, a2, a3)]) ++ compT (tok xs) (tok ys) = TT) := Lib.hid (by rw [comp_dropX xs ys os _ huo rfl (noIns_tok ys HRW.out.y hnp)]; exact HT.out)
      have HSID2 : Hid (tout (tok xs) = tin (tok ys)) := Lib.hid (by have h1 := HS.out; rw [tok_cons, tout_append, (sides _ huo).2, if_pos rfl] at h1; omega)
      obtain ⟨kb, hkb, hkb2⟩ : ∃ kb, (hdS ys).1 = kb ∧ (kb == 2) = false := by
        refine ⟨_, rfl, ?_⟩
        rw [beq_eq_false_iff_ne]
        rcases ys with _ | ⟨u, r⟩
        · show (0 : Int) ≠ 2; decide
        · exact hnp u r rfl
      have y0 : wr.cell? ⟨y, 0, none⟩ = some (.int .i64 kb) := by rw [← hkb]; exact by'.cell rfl
      have x0 : wr.cell? ⟨x, 0, none⟩ = some (.int .i64 3) := bx.cell rfl
      clear hnp hkb
      have hlo : os.length ≤ 2000 := by have := HRW.out.l; omega
      have HLT := Lib.hid hmx; have HLU := Lib.hid hmy
      clear hmx hmy hkx hky
      have hkk := HK.out.size
      have BX1 := Lib.hid bx; have BY1 := Lib.hid by'; have RX1 := Lib.hid rx; have RY1 := Lib.hid ry; have WX1 := Lib.hid wx; have WY1 := Lib.hid wy
      clear bx by' rx ry wx wy
      go_wp2_with fail
      refine HW.out.mono ?_; rintro e w1 ⟨rfl, hk1, A', q'', c'', g1, g2, g3⟩
      have ho1 := own_ks HO.out hk1 hlx
      have G1 := Lib.hid g1; have G2 := Lib.hid g2; have G3 := Lib.hid g3; have K1 := Lib.hid hk1
      clear g1 g2 g3 hk1
      obtain ⟨v', w2, happ, hown', hbel', -, -, -⟩ := app_newg (P := Tryz.prog) 23 23 60 i _ 3 32 Tryz.underlying23 hi hz0 hz1 hz2 rfl (by omega) (by omega)
        ho1 (by omega) 1 #[.int .i64 3, .int .i64 a2, .string a3] rfl (by omega) (by simp [Value.oneCell']) 60
      have HAP := Lib.hid happ
      have HO2 : Hid (Own w2 w.heap.size 60 3 v' (os ++ [(3, a2, a3)]).length (spCells (os ++ [(3, a2, a3)]))) := Lib.hid (by rw [spCells_append, List.length_append]; exact hown')
      have hk2 : Below w.heap.size w1 w2 := hbel' (Below.refl _ _)
      have K2 := Lib.hid hk2
      clear ho1 happ hown' hbel' hk2
      go_wp2_with (at_builtin; refine wpList_append_run rfl rfl HAP.out rfl rfl ?_)
      go_roundw
      case rel =>
        have hkk2 : KS w.heap.size x y wr w1 := (K1.out.mono hkk).left
        exact ⟨xs, ys, os ++ [(3, a2, a3)], A', ay, q'', c'', ny, cy, Lib.hid ⟨BxT.at_ G1.out K2.out hlx, BxT.at_ (BxT.ks BY1.out K1.out BY1.out.lt (Ne.symm hne) (Ne.symm hne)) K2.out hly, G2.out _ RX1.out, RY1.out, ⟨G3.out x WX1.out.1, G3.out y WX1.out.2⟩, WY1.out⟩, HO2, HROW2, HTT2, HSID2, Lib.hid ((HK.out.trans hkk2).trans (KS.of_below x y K2.out))⟩
      case measure =>
        have e1 := leftN_eq (x := x) (w := w2) (l := xs) (BxT.at_ G1.out K2.out hlx) (G2.out _ RX1.out).1 fun s hs => (HROW2.out.x s hs).1
        have e2 := leftN_eq (x := y) (w := w2) (l := ys) (BxT.at_ (BxT.ks BY1.out K1.out BY1.out.lt (Ne.symm hne) (Ne.symm hne)) K2.out hly) RY1.out.1 fun s hs => (HROW2.out.y s hs).1
        have e3 := HLT.out; have e4 := HLU.out
        simp only [List.length_cons] at e3 e4
        simp only [List.length_cons]; omega
    · have hso := (HRW.out.x _ (List.mem_cons_self ..)).1
      have huo := (HRW.out.y _ (List.mem_cons_self ..)).1
      obtain ⟨n1, n2, n3⟩ := HRW.out.pops
      have hbn := HRW.out.n
      have hbt := HRW.out.t
      have hx0 := hso.nonneg
      have hy0 := huo.nonneg
      have hxn0 := sumN_pos xs fun s hs => (HRW.out.x s (List.mem_cons_of_mem _ hs)).1.nonneg
      have hyn0 := sumN_pos ys fun s hs => (HRW.out.y s (List.mem_cons_of_mem _ hs)).1.nonneg
      rw [sumN_cons, sumN_cons] at hbn
      rw [sumT_cons, sumT_cons] at hbt
      simp only at hbn hbt hx0 hy0 hka hkb
      obtain ⟨N2, rfl⟩ := Int.eq_ofNat_of_zero_le hy0
      have hN2 : (tokS (b1, (N2 : Int), b3)).length = N2 := by rw [tokS_num _ _ _ hkb, List.length_replicate, Int.toNat_natCast]
      obtain ⟨M, hM⟩ : ∃ M, M = min N2 (tokS (a1, a2, a3)).length := ⟨_, rfl⟩
      obtain ⟨mm, hmm⟩ : ∃ mm : Sp, mm = if b1 = 1 then cutA (a1, a2, a3) M else if a1 = 2 then (2, 0, ⟨#[]⟩) else cutA (b1, (N2 : Int), b3) M := ⟨_, rfl⟩
      obtain ⟨hr2, ht2, hs2, hlt2⟩ := comp_stepE HRW.out HT.out HS.out hka hkb (n := M) (by rw [hN2]; omega) mm hmm
      have HP := Lib.hid (piece_c x (a1, a2, a3) N2 M ax nx cx xs wr bx (rdO_ks rx wx.1 wx.2 HK.out) wx.1 hso (by simp only; omega) (by simp only; omega) (by omega) hM)
      have HPY := Lib.hid (fun w1 h1 h2 => piece_c y (b1, (N2 : Int), b3) M M ay ny cy ys w1 h1 h2 wy.2 huo (by simp only; omega) (by simp only; omega) (by omega) (by rw [hN2]; omega))
      have HME := Lib.hid (fun W => meet_c (cutA (a1, a2, a3) M) (cutA (b1, (N2 : Int), b3) M) W)
      have hval : (if (cutA (b1, (N2 : Int), b3) M).1 = 1 then Value.agg #[.int .i64 (cutA (a1, a2, a3) M).1, .int .i64 (cutA (a1, a2, a3) M).2.1, .string (cutA (a1, a2, a3) M).2.2] else if (cutA (a1, a2, a3) M).1 = 2 then .agg #[.int .i64 2, .int .i64 0, .string ⟨#[]⟩] else .agg #[.int .i64 (cutA (b1, (N2 : Int), b3) M).1, .int .i64 (cutA (b1, (N2 : Int), b3) M).2.1, .string (cutA (b1, (N2 : Int), b3) M).2.2]) = .agg #[.int .i64 mm.1, .int .i64 mm.2.1, .string mm.2.2] := by
        rw [hmm]
        simp only [cutA_kind]
        split <;> (try split) <;> first | rfl | simp only [cutA_kind]
      rw [hval] at HME
      have HROW2 := Lib.hid hr2; have HTT2 := Lib.hid ht2; have HSID2 := Lib.hid hs2
      obtain ⟨PA, hPA⟩ : ∃ PA, cutA (a1, a2, a3) M = PA := ⟨_, rfl⟩
      obtain ⟨PB, hPB⟩ : ∃ PB, cutA (b1, (N2 : Int), b3) M = PB := ⟨_, rfl⟩
      obtain ⟨XL, hXL⟩ : ∃ XL, left (a1, a2, a3) M xs = XL := ⟨_, rfl⟩
      obtain ⟨YL, hYL⟩ : ∃ YL, left (b1, (N2 : Int), b3) M ys = YL := ⟨_, rfl⟩
      rw [hPA] at HP HME; rw [hPB] at HPY HME
      rw [hXL] at HP HROW2 HTT2 HSID2 hlt2; rw [hYL] at HPY HROW2 HTT2 HSID2 hlt2
      have y0 : wr.cell? ⟨y, 0, none⟩ = some (.int .i64 b1) := by'.cell rfl
      have y1 : wr.cell? ⟨y, 1, none⟩ = some (.int .i64 (N2 : Int)) := by'.cell rfl
      have x0 : wr.cell? ⟨x, 0, none⟩ = some (.int .i64 a1) := bx.cell rfl
      have t2 : (b1 == 2) = false := by rw [beq_eq_false_iff_ne]; exact hkb
      have t3 : (a1 == 3) = false := by rw [beq_eq_false_iff_ne]; exact hka
      have t0 : (b1 == 0) = false := by rw [beq_eq_false_iff_ne]; rcases huo with ⟨k1, _⟩ | ⟨k1, _⟩ <;> simp only at k1 <;> omega
      have ta : (a1 == 0) = false := by rw [beq_eq_false_iff_ne]; rcases hso with ⟨k1, _⟩ | ⟨k1, _⟩ <;> simp only at k1 <;> omega
      have hlo : os.length ≤ 2000 := by have := HRW.out.l; omega
      have HLT := Lib.hid hlt2
      have hkk := HK.out.size
      have BX1 := Lib.hid bx; have BY1 := Lib.hid by'; have RX1 := Lib.hid rx; have RY1 := Lib.hid ry; have WX1 := Lib.hid wx; have WY1 := Lib.hid wy
      have hmb : M ≤ 2000000000 := by omega
      clear hmx hmy hkx hky bx by' rx ry wx wy hr2 ht2 hs2 hlt2 hval hPA hPB hXL hYL hmm hM hso huo n1 n2 n3 hbn hbt hx0 hy0 hxn0 hyn0 hka hkb hN2
      go_wp2_with fail
      refine HP.out.mono ?_; rintro e w1 ⟨rfl, hk1, A', q'', c'', g1, g2, g3⟩
      have K1 : Hid (KS w.heap.size x y w w1) := Lib.hid (HK.out.trans (hk1.mono hkk).left)
      have BY2 := Lib.hid (BxT.ks BY1.out hk1 BY1.out.lt (Ne.symm hne) (Ne.symm hne))
      have HO1 := Lib.hid (own_ks HO.out hk1 hlx)
      have G1 := Lib.hid g1; have G2 := Lib.hid g2; have G3 := Lib.hid g3
      clear g1 g2 g3 hk1
      go_wp2_with fail
      have hE1 := (Ext.refl w1).alloc (.cells #[.int .i64 PA.1, .int .i64 PA.2.1, .string PA.2.2] 60)
      have hG := BxT.new w1 60 #[.int .i64 PA.1, .int .i64 PA.2.1, .string PA.2.2]
      have hz1 : (w1.alloc (.cells #[.int .i64 PA.1, .int .i64 PA.2.1, .string PA.2.2] 60)).heap.size = w1.heap.size + 1 := size_alloc _ _
      obtain ⟨W1, hW1⟩ : ∃ W1, w1.alloc (.cells #[.int .i64 PA.1, .int .i64 PA.2.1, .string PA.2.2] 60) = W1 := ⟨_, rfl⟩
      rw [hW1] at hE1 hG hz1 ⊢
      have hk11 := K1.out.size
      have KW1 := K1.out.ext hE1 (Nat.le_refl _)
      refine (HPY.out W1 (BY2.out.ext hE1) (rdO_ks RY1.out WY1.out.1 WY1.out.2 KW1)).mono ?_; rintro e w2 ⟨rfl, hk2, B', r'', d'', j1, j2, j3⟩
      have KW2 : Hid (KS w.heap.size x y w w2) := Lib.hid (KW1.trans (hk2.mono (by omega)).right)
      have HG := Lib.hid (BxT.ks hG hk2 hG.lt (by omega) (by omega))
      have HBX2 := Lib.hid (BxT.ks (BxT.ext G1.out hE1) hk2 (Nat.lt_of_lt_of_le G1.out.lt hE1.size) hne hne)
      have HO3 := Lib.hid (own_ks (HO1.out.ext hE1) hk2 hly)
      have J1 := Lib.hid j1; have J2 := Lib.hid j2; have J3 := Lib.hid j3
      have hE2 := (Ext.refl w2).alloc (.cells #[.int .i64 PB.1, .int .i64 PB.2.1, .string PB.2.2] 60)
      have k0 : w2.cell? ⟨w1.heap.size, 0, none⟩ = some (.int .i64 PA.1) := HG.out.cell rfl; have k1 : w2.cell? ⟨w1.heap.size, 1, none⟩ = some (.int .i64 PA.2.1) := HG.out.cell rfl; have k2 : w2.cell? ⟨w1.heap.size, 2, none⟩ = some (.string PA.2.2) := HG.out.cell rfl
      have l0 := ext_cell hE2 k0; have l1 := ext_cell hE2 k1; have l2 := ext_cell hE2 k2
      have HE2 := Lib.hid hE2
      clear hE1 hG hz1 hW1 KW1 hk2 j1 j2 j3 hE2 y0 y1 x0
      go_wp2_with fail
      refine (HME.out _).mono ?_; rintro e w3 ⟨rfl, hx3⟩
      have hx23 := HE2.out.trans hx3
      have HX23 := Lib.hid hx23
      have ho1 := HO3.out.ext hx23
      obtain ⟨m1, m2, m3⟩ := mm
      have HK3 : Hid (KS w.heap.size x y w w3) := Lib.hid (KW2.out.ext hx23 (Nat.le_refl _))
      clear hx3 hx23 k0 k1 k2 l0 l1 l2
      obtain ⟨v', w4, happ, hown', hbel', -, -, -⟩ := app_newg (P := Tryz.prog) 23 23 60 i _ 3 32 Tryz.underlying23 hi hz0 hz1 hz2 rfl (by omega) (by omega)
        ho1 (by omega) 1 #[.int .i64 m1, .int .i64 m2, .string m3] rfl (by omega) (by simp [Value.oneCell']) 60
      have HAP := Lib.hid happ
      have HO2 : Hid (Own w4 w.heap.size 60 3 v' (os ++ [(m1, m2, m3)]).length (spCells (os ++ [(m1, m2, m3)]))) := Lib.hid (by rw [spCells_append, List.length_append]; exact hown')
      have hk2 : Below w.heap.size w3 w4 := hbel' (Below.refl _ _)
      have K2 := Lib.hid hk2
      clear ho1 happ hown' hbel' hk2
      go_wp2_with (at_builtin; refine wpList_append_run rfl rfl HAP.out rfl rfl ?_)
      go_roundw
      case rel =>
        exact ⟨XL, YL, os ++ [(m1, m2, m3)], A', B', q'', c'', r'', d'', Lib.hid ⟨BxT.at_ (BxT.ext HBX2.out HX23.out) K2.out hlx, BxT.at_ (BxT.ext J1.out HX23.out) K2.out hly, G2.out _ RX1.out, J2.out _ RY1.out, ⟨G3.out x WX1.out.1, G3.out y WX1.out.2⟩, ⟨J3.out x WY1.out.1, J3.out y WY1.out.2⟩⟩, HO2, HROW2, HTT2, HSID2, Lib.hid (HK3.out.trans (KS.of_below x y K2.out))⟩
      case measure =>
        have e1 := leftN_eq (x := x) (w := w4) (l := XL) (BxT.at_ (BxT.ext HBX2.out HX23.out) K2.out hlx) (G2.out _ RX1.out).1 fun s hs => (HROW2.out.x s hs).1
        have e2 := leftN_eq (x := y) (w := w4) (l := YL) (BxT.at_ (BxT.ext J1.out HX23.out) K2.out hly) (J2.out _ RY1.out).1 fun s hs => (HROW2.out.y s hs).1
        have e3 := HLT.out
        omega
theorem compW9_c (A : Option Addr) (q c : Nat) (a : List Sp) (B : Option Addr) (q' c' : Nat) (b : List Sp) (w : World) [Tab w] (h : RdO w A q c a) (h' : RdO w B q' c' b) (hq : q ≤ 1000) (hq' : q' ≤ 1000)
    (hta : ∀ s ∈ a, s.2.2.size ≤ 1000000000) (htb : ∀ s ∈ b, s.2.2.size ≤ 1000000000) (hT : sumT a + sumT b ≤ 900000000) (hma : mayL a = 0) (hmb : mayL b = 0) (hf : outL a = inL b) :
    Calls Tryz.prog 89 #[.slice A q c, .slice B q' c'] w fun e w' => Ext w w' ∧ ∃ A n c, e = .returned (.tuple #[.slice A n c, .int .i64 0]) ∧ RdO w' A n c (compL a b) := by
  obtain ⟨alla, ai0, ai1⟩ := mayL_all hma (by have := h.1; omega)
  obtain ⟨allb, bi0, bi1⟩ := mayL_all hmb (by have := h'.1; omega)
  have oka : ∀ s ∈ a, OkW s := fun s hs => okW_of_may (alla s hs)
  have okb : ∀ s ∈ b, OkW s := fun s hs => okW_of_may (allb s hs)
  have hob := outL_le a oka
  have hna : sumN a = inL a := (may_sum a alla).2
  have hnb : sumN b = inL b := (may_sum b allb).2
  have Oka : Ok a := ⟨(may_sum a alla).1, by omega, by omega⟩
  have Okb : Ok b := ⟨(may_sum b allb).1, by omega, by omega⟩
  have HM := Lib.hid (may9_c A q c a B q' c' b w h h' hq hq' hta htb hT)
  have hE : compE a b = 0 := by unfold compE; rw [if_pos hma, if_pos hmb, if_pos hf]
  rw [hE] at HM
  have HRA : Hid (∀ w', Ext w w' → _) := Lib.hid fun w' hx => restOf_c A q c a w' (h.ext hx) hq Oka
  have HRB : Hid (∀ w', Ext w w' → _) := Lib.hid fun w' hx => restOf_c B q' c' b w' (h'.ext hx) hq' Okb
  have hnx := norm_okW a oka
  have hny := norm_okW b okb
  have hix := isN_ne _ (norm_is a Oka.pos)
  have hiy := isN_ne _ (norm_is b Okb.pos)
  have hlx := norm_len a
  have hly := norm_len b
  have hti := (tin_ok b okb).1
  have hto := (tin_ok a oka).2
  have h1 := h.1
  have h1' := h'.1
  have hrow : Row3 1000000000 900000000 2000 (normL a) (normL b) [] := by
    have Z : sumN ([] : List Sp) = 0 ∧ sumT ([] : List Sp) = 0 := ⟨rfl, rfl⟩
    refine ⟨fun s hs => ⟨hnx.1 s hs, hix s hs⟩, fun s hs => ⟨hny.1 s hs, hiy s hs⟩, fun s hs => (by cases hs), ?_, ?_, ?_⟩
    · rw [sumN_norm, sumN_norm]; omega
    · rw [sumT_norm, sumT_norm]; omega
    · simp only [List.length_nil]; omega
  have hsid : tout (tok (normL a)) = tin (tok (normL b)) := by rw [hnx.2, hny.2]; omega
  have hcl : spT (compT (tok (normL a)) (tok (normL b))) = compL a b := by rw [hnx.2, hny.2]; rfl
  have HROW := Lib.hid hrow; have HSID := Lib.hid hsid; have HCL := Lib.hid hcl
  clear h h' hta htb hT hma hmb hf alla allb oka okb hob hna hnb Oka Okb hnx hny hix hiy hlx hly hti hto hrow hsid hcl h1 h1' hE ai0 ai1 bi0 bi1
  generalize compL a b = CL at *
  generalize normL a = X0 at *
  generalize normL b = Y0 at *
  go_enter Tryz.func89, Tryz.ntmps89
  go_wp2_with fail
  refine HM.out.mono ?_; rintro e w1 ⟨rfl, hx1⟩
  go_wp2_with fail
  refine (HRA.out _ hx1).mono ?_; rintro e w2 ⟨hx2, x, ax, nx, cx, rfl, hxs, bx, rx, wxx, wxz⟩
  have hx12 := hx1.trans hx2
  have hlx := bx.lt
  go_wp2_with fail
  refine (HRB.out _ hx12).mono ?_; rintro e w3 ⟨hx3, y, ay, ny, cy, rfl, hys, by', ry, wyy, wyz⟩
  have hx13 := hx12.trans hx3
  have hs12 := hx1.size
  have hs2 := hx12.size
  have HBO := Lib.hid (both_c x y X0 Y0 ax nx cx ay ny cy w3 (BxT.ext bx hx3) by' (rx.ext hx3) ry wxx (rdO_awy rx hys) (wyz x hlx) wyy (by omega) HROW.out HSID.out)
  have HX13 := Lib.hid hx13
  clear bx rx wxx wxz by' ry wyy wyz hx2 hx3 hx12 hx13 hx1
  go_wp2_with fail
  refine HBO.out.mono ?_; rintro e w4 ⟨hk4, v, os, rfl, ho, hr, ht⟩
  have hx14 : Ext w w4 := Below.trans HX13.out (hk4.below (by have := HX13.out.size; omega) (by omega) (by omega))
  have hok := okW_pos os hr.o
  have Z : sumN ([] : List Sp) = 0 ∧ sumT ([] : List Sp) = 0 := ⟨rfl, rfl⟩
  have hOk : Ok os := ⟨hok, by have := hr.n; omega, by have := hr.t; omega⟩
  have hres : normL os = CL := by rw [norm_tok os hr.o, ht]; exact HCL.out
  obtain ⟨ao, co, rfl, hoc⟩ := ho.len
  have HOF := Lib.hid (of5_c ao os.length co os w4 ho.rd rfl (by have := hr.l; simp only [List.length_nil] at this; omega) hOk)
  rw [hres] at HOF
  have HX := Lib.hid hx14
  clear hok hOk hres ho hx14 hr ht hk4 hoc
  go_wp2_with fail
  refine HOF.out.mono ?_; rintro e w7 ⟨v7, rfl, hx7, o7⟩
  obtain ⟨a7, n7, c7, rfl, r7⟩ := rdO_own o7
  go_wp2_with fail
  go_ret2
  exact ⟨HX.out.trans hx7, _, _, _, rfl, r7⟩
theorem comp9_c (A : Option Addr) (q c : Nat) (a : List Sp) (B : Option Addr) (q' c' : Nat) (b : List Sp) (w : World) [Tab w] (h : RdO w A q c a) (h' : RdO w B q' c' b) (hq : q ≤ 1000) (hq' : q' ≤ 1000)
    (hta : ∀ s ∈ a, s.2.2.size ≤ 1000000000) (htb : ∀ s ∈ b, s.2.2.size ≤ 1000000000) (hT : sumT a + sumT b ≤ 900000000) :
    Calls Tryz.prog 89 #[.slice A q c, .slice B q' c'] w (OpR w (compE a b) (compL a b)) := by
  by_cases hE : compE a b = 0
  · have hall : mayL a = 0 ∧ mayL b = 0 ∧ outL a = inL b := by
      unfold compE at hE
      by_cases hma : mayL a = 0
      · rw [if_pos hma] at hE
        by_cases hmb : mayL b = 0
        · rw [if_pos hmb] at hE
          by_cases hf : outL a = inL b
          · exact ⟨hma, hmb, hf⟩
          · rw [if_neg hf] at hE; exact absurd hE (by decide)
        · rw [if_neg hmb] at hE; exact absurd hE hmb
      · rw [if_neg hma] at hE; exact absurd hE hma
    refine (compW9_c A q c a B q' c' b w h h' hq hq' hta htb hT hall.1 hall.2.1 hall.2.2).mono ?_
    rintro e w' ⟨hx, A', n', c'', rfl, hr⟩
    refine ⟨hx, A', n', c'', by rw [hE], ?_⟩
    rw [hE, if_pos rfl]; exact hr
  · have HM := Lib.hid (may9_c A q c a B q' c' b w h h' hq hq' hta htb hT)
    have HN := Lib.hid hE
    have hb : (compE a b != 0) = true := by rw [bne_iff_ne]; exact hE
    have hb2 : (compE a b == 0) = false := by rw [beq_eq_false_iff_ne]; exact hE
    clear h h' hta htb hT hE
    generalize compE a b = EE at *
    generalize compL a b = CL at *
    go_enter Tryz.func89, Tryz.ntmps89
    go_wp2_with fail
    refine HM.out.mono ?_; rintro e w1 ⟨rfl, hx1⟩
    go_wp2_with fail
    go_ret2
    refine ⟨hx1, none, 0, 0, rfl, ?_⟩
    rw [if_neg HN.out]; exact ⟨rfl, Rd.nil _ _⟩
end Go.Proofs.YtgcaphjjigpjlaaGreatDoor
