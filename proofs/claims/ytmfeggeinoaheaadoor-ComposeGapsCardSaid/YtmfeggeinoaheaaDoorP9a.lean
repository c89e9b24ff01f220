/- Layer 9, the program: what is left of an operation: offset, step, whole, piece, meet. -/
import Derived.Laws.Rows
import Derived.RegionTactic
import Derived.ChangeAlike
import Derived.BigRegion
import Derived.Test.YtmfeggeinoaheaaDoorBq
import Derived.Test.YtmfeggeinoaheaaDoorMc
import Derived.Test.YtmfeggeinoaheaaDoorC1g
import Derived.Test.YtmfeggeinoaheaaDoorC6
namespace Go.Proofs.YtmfeggeinoaheaaDoor
open Go.RowKit
set_option maxRecDepth 100000
set_option maxHeartbeats 2000000
set_option linter.unusedSimpArgs false
/-- Below n all is as it was, but blocks x and y. -/
structure KS (n x y : Nat) (A B : World) : Prop where
  os : B.os = A.os
  tape : B.tape = A.tape
  output : B.output = A.output
  size : A.heap.size ≤ B.heap.size
  block : ∀ k, k < n → k ≠ x → k ≠ y → B.heap[k]? = A.heap[k]?
theorem KS.refl (n x y : Nat) (A : World) : KS n x y A A := ⟨rfl, rfl, rfl, Nat.le_refl _, fun _ _ _ _ => rfl⟩
theorem KS.trans {n x y : Nat} {A B C : World} (h : KS n x y A B) (k : KS n x y B C) : KS n x y A C :=
  ⟨k.os.trans h.os, k.tape.trans h.tape, k.output.trans h.output, Nat.le_trans h.size k.size, fun i hi hx hy => (k.block i hi hx hy).trans (h.block i hi hx hy)⟩
theorem KS.mono {n n' x y : Nat} {A B : World} (h : KS n x y A B) (hn : n' ≤ n) : KS n' x y A B := ⟨h.os, h.tape, h.output, h.size, fun k hk hx hy => h.block k (by omega) hx hy⟩
theorem KS.of_ext {n : Nat} (x y : Nat) {A B : World} (hn : n ≤ A.heap.size) (h : Ext A B) : KS n x y A B := ⟨h.os, h.tape, h.output, h.size, fun k hk _ _ => h.block k (by omega)⟩
theorem KS.left {n x y : Nat} {A B : World} (h : KS n x x A B) : KS n x y A B := ⟨h.os, h.tape, h.output, h.size, fun k hk hx _ => h.block k hk hx hx⟩
theorem KS.right {n x y : Nat} {A B : World} (h : KS n y y A B) : KS n x y A B := ⟨h.os, h.tape, h.output, h.size, fun k hk _ hy => h.block k hk hy hy⟩
theorem KS.set {n x y : Nat} {A B : World} (h : KS n x y A B) (p : Addr) (v : Value) (hp : p.block = x ∨ p.block = y ∨ n ≤ p.block) : KS n x y A (B.setCell p v) :=
  h.trans ⟨rfl, rfl, rfl, by simp [World.setCell], fun k hk hx hy => Below.heap_setCell _ _ _ _ (by omega)⟩
theorem KS.ext {n x y : Nat} {A B C : World} (h : KS n x y A B) (k : Ext B C) (hn : n ≤ A.heap.size) : KS n x y A C := h.trans (KS.of_ext x y (Nat.le_trans hn h.size) k)
theorem KS.below {n m x y : Nat} {A B : World} (h : KS n x y A B) (h1 : m ≤ n) (h2 : m ≤ x) (h3 : m ≤ y) : Below m A B := ⟨h.os, h.tape, h.output, h.size, fun k hk => h.block k (by omega) (by omega) (by omega)⟩
/-- The row does not lie in block y. -/
def Awy (y n : Nat) (A : Option Addr) : Prop := 0 < n → ∀ b off, A = some ⟨b, off, none⟩ → b ≠ y
theorem rdO_ks {A B : World} {x y q c : Nat} {a : Option Addr} {l : List Sp} (hr : RdO A a q c l) (hx : Awy x q a) (hy : Awy y q a) (h : KS A.heap.size x y A B) : RdO B a q c l := by
  obtain ⟨hl, h1, A', c', hv, hc, h2⟩ := hr
  refine ⟨hl, h1, A', c', hv, hc, fun hn => ?_⟩
  obtain ⟨b, off, hA, hb, hcell⟩ := h2 hn
  injection hv with e1 e2 e3
  subst e1
  refine ⟨b, off, hA, Nat.lt_of_lt_of_le hb h.size, fun j u hu => ?_⟩
  rw [World.cell?_of_block (a := ⟨b, off + j, none⟩) (h.block b hb (hx hn b off hA) (hy hn b off hA))]
  exact hcell j u hu
theorem Awy.behind {y n c k b o : Nat} (h : Awy y n (some ⟨b, o, none⟩)) (hn : 0 < n) : Awy y (n - k) (if c = k then some ⟨b, o, none⟩ else some ⟨b, o + k * 3, none⟩) := by
  intro _ b' off' hA
  have hb : b' = b := by
    split at hA <;> (injection hA with hA; injection hA with e1 e2; exact e1.symm)
  subst hb
  exact h hn _ _ rfl
/-- A block of cells. -/
def BxT (t : TypeId) (W : World) (B : Nat) (vs : Array Value) : Prop := W.heap[B]? = some (.cells vs t (0, 0))
theorem BxT.lt {t : TypeId} {W : World} {B : Nat} {v : Array Value} (h : BxT t W B v) : B < W.heap.size := (Array.getElem?_eq_some_iff.1 h).1
theorem BxT.cell {t : TypeId} {W : World} {B : Nat} {v : Array Value} (h : BxT t W B v) {i : Nat} {u : Value} (hu : v[i]? = some u) : W.cell? ⟨B, i, none⟩ = some u := by
  simp [World.cell?, show W.heap[B]? = _ from h, hu]
theorem BxT.frozen {t : TypeId} {W : World} {B : Nat} {v : Array Value} (h : BxT t W B v) (i : Nat) : W.frozen? ⟨B, i, none⟩ = false := by simp [World.frozen?, show W.heap[B]? = _ from h]
theorem BxT.set {t : TypeId} {W : World} {B : Nat} {vs : Array Value} (h : BxT t W B vs) (i : Nat) (v : Value) : BxT t (W.setCell ⟨B, i, none⟩ v) B (vs.setIfInBounds i v) := heap_setCell_same W B i vs _ v h
theorem BxT.other {t : TypeId} {W : World} {B : Nat} {vs : Array Value} (h : BxT t W B vs) (p : Addr) (hp : B ≠ p.block) (v : Value) : BxT t (W.setCell p v) B vs := (Below.heap_setCell W p v B hp).trans h
theorem BxT.ks {t : TypeId} {W W' : World} {n x y B : Nat} {v : Array Value} (h : BxT t W B v) (hk : KS n x y W W') (hn : B < n) (hx : B ≠ x) (hy : B ≠ y) : BxT t W' B v := (hk.block B hn hx hy).trans h
theorem BxT.ext {t : TypeId} {W W' : World} {B : Nat} {v : Array Value} (h : BxT t W B v) (hx : Ext W W') : BxT t W' B v := (hx.block B h.lt).trans h
theorem BxT.new (W : World) (t : TypeId) (v : Array Value) : BxT t (W.alloc (.cells v t)) W.heap.size v := by
  show (W.heap.push _)[W.heap.size]? = some _
  simp
/-- The box of what is left of an operation. -/
abbrev RBox (W : World) (B : Nat) (vs : Array Value) : Prop := BxT 84 W B vs
/-- What comes next, of no kind if nothing does. -/
def hdS (l : List Sp) : Sp := l.headD (0, 0, ⟨#[]⟩)
def rstV (s : Sp) (v : Value) : Array Value := #[.int .i64 s.1, .int .i64 s.2.1, .string s.2.2, v]
/-- What step tells: the rest of the row, without its first span, that comes next. -/
def Stepped (x : Nat) (A : Option Addr) (q c : Nat) (l : List Sp) (W W' : World) : Prop :=
  KS W.heap.size x x W W' ∧ ∃ A' q' c', RBox W' x (rstV (hdS l) (.slice A' q' c')) ∧ (∀ V, RdO V A q c l → RdO V A' q' c' l.tail) ∧ ∀ y, Awy y q A → Awy y q' A'
theorem off9_c (s : ByteArray) (n : Nat) (w : World) (_hs : s.size ≤ 1000000000) (hn : n ≤ 2000000000) (cs : List Nat) (hd : dec (bs s) = some cs) :
    Calls Tryd.prog 52 #[.string s, .int .i64 n] w fun e w' => e = .returned (.tuple #[.int .i64 ((encs (cs.take n)).length : Nat), .int .i64 ((min n cs.length : Nat) : Int)]) ∧ Ext w w' := by
  obtain ⟨hcp, hbs⟩ := dec_some hd
  have HCP := Lib.hid hcp; have HBS := Lib.hid hbs
  clear hcp hbs hd
  go_enter Tryd.func52, Tryd.ntmps52
  go_wp2_with fail
  go_loopw [5] (fun m wr => ∃ i : Nat, i ≤ cs.length ∧ i ≤ n ∧ m = .int .i64 i ∧ wr = w.iter s (encs (cs.take i)).length) (fun _ wr => s.size - wr.iterPos w.heap.size)
  case atStart => exact ⟨0, by omega, by omega, rfl, rfl⟩
  case round =>
    obtain ⟨i, hi, hij, rfl, rfl⟩ := hrel
    have hsz : (encs cs).length = s.size := by rw [← HBS.out, bs_length]
    have HSZ := Lib.hid hsz
    have hcl := length_le_encs cs
    have hi1 : i ≤ 1000000000 := by omega
    clear hsz hcl
    by_cases hr : i = cs.length
    · have hp : ¬ (encs (cs.take i)).length < s.size := by rw [hr, List.take_length, HSZ.out]; omega
      have hnx : ∀ ty, (Instr.next (.pointer (some ⟨w.heap.size, 0, none⟩)) true ty).run Tryd.prog (w.iter s (encs (cs.take i)).length) = _ := fun ty => run_next_end w s _ ty hp
      have hres : (encs (cs.take n)).length = s.size := by rw [List.take_of_length_le (by omega), HSZ.out]
      have HRES := Lib.hid hres
      have HMIN : Hid (min n cs.length = i) := Lib.hid (by omega)
      clear hr hres hp hi hij
      go_wp2_with fail
      go_ret2
      rw [HRES.out, HMIN.out]
      exact ⟨rfl, (Ext.refl w).iter _ _⟩
    · have hlt : i < cs.length := by omega
      have hsucc := encs_take_succ cs i hlt
      have hdr : (bs s).drop (encs (cs.take i)).length = enc1 cs[i] ++ encs (cs.drop (i + 1)) := by
        rw [HBS.out, encs_take_drop cs (i + 1), hsucc, List.append_assoc, List.drop_left]
      have hw := wid_pos cs[i]
      have hp : (encs (cs.take i)).length < s.size := by
        rw [← bs_length]
        have := congrArg List.length hdr
        rw [List.length_drop, List.length_append, enc1_length] at this
        omega
      have hnx : ∀ ty, (Instr.next (.pointer (some ⟨w.heap.size, 0, none⟩)) true ty).run Tryd.prog (w.iter s (encs (cs.take i)).length) = _ := fun ty => run_next_any w s _ ty hp
      have hdc : Utf8.decode s (encs (cs.take i)).length = (cs[i], wid cs[i]) := by
        rw [decode_rng]
        show rng ((bs s).drop _) = _
        rw [hdr]
        have hf := firstL_enc cs[i] (HCP.out _ (List.getElem_mem hlt)) (encs (cs.drop (i + 1)))
        rw [rng_first _ (by simp [enc1_ne]) (by rw [hf]; simp only; omega), hf]
      rw [hdc] at hnx
      have hl2 : (encs (cs.take (i + 1))).length = (encs (cs.take i)).length + wid cs[i] := by rw [hsucc, List.length_append, enc1_length]
      have HL2 := Lib.hid hl2
      generalize hcc : cs[i] = cp at *
      have HCC := Lib.hid hcc
      clear hdc hdr hsucc hr hl2 hcc
      by_cases hj0 : i = n
      · have hq : ((i : Int) == (n : Int)) = true := by rw [hj0, beq_self_eq_true]
        have hres : (encs (cs.take n)).length = (encs (cs.take i)).length := by rw [hj0]
        have HRES := Lib.hid hres
        have HMIN : Hid (min n cs.length = i) := Lib.hid (by omega)
        clear hj0 hres
        go_wp2_with fail
        go_ret2
        rw [HRES.out, HMIN.out]
        exact ⟨rfl, (Ext.refl w).iter _ _⟩
      · have hq : ((i : Int) == (n : Int)) = false := by rw [beq_eq_false_iff_ne]; omega
        have hj1 : i + 1 ≤ n := by omega
        clear hj0
        go_wp2_with fail
        go_roundw
        case rel => exact ⟨i + 1, by omega, by omega, by go_num, by rw [HL2.out]⟩
        case measure => simp; omega
theorem step_c (x : Nat) (s0 : Sp) (A : Option Addr) (q c : Nat) (l : List Sp) (W : World) (hb : RBox W x (rstV s0 (.slice A q c))) (hr : RdO W A q c l) (ha : Awy x q A) :
    Calls Tryd.prog 41 #[.pointer (some ⟨x, 0, none⟩)] W fun e W' => (∃ v, e = .returned v) ∧ Stepped x A q c l W W' := by
  unfold rstV at hb
  have c0 : W.cell? ⟨x, 0, none⟩ = some (.int .i64 s0.1) := hb.cell rfl; have c1 : W.cell? ⟨x, 1, none⟩ = some (.int .i64 s0.2.1) := hb.cell rfl; have c2 : W.cell? ⟨x, 2, none⟩ = some (.string s0.2.2) := hb.cell rfl; have c3 : W.cell? ⟨x, 3, none⟩ = some (.slice A q c) := hb.cell rfl
  have f0 := hb.frozen 0; have f1 := hb.frozen 1; have f2 := hb.frozen 2; have f3 := hb.frozen 3
  have HB := Lib.hid hb
  have hql := hr.1
  cases l with
  | nil =>
    simp only [List.length_nil] at hql
    subst hql
    have HR := Lib.hid hr
    clear hb hr ha
    go_enter Tryd.func41, Tryd.ntmps41
    go_wp2_with fail
    go_end0
    refine ⟨⟨_, rfl⟩, (((KS.refl W.heap.size x x W).set ⟨x, 0, none⟩ _ (.inl rfl)).set ⟨x, 1, none⟩ _ (.inl rfl)).set ⟨x, 2, none⟩ _ (.inl rfl), A, 0, c, ((HB.out.set 0 (.int .i64 0)).set 1 (.int .i64 0)).set 2 (.string ⟨#[]⟩), fun _ h => h, fun _ h => h⟩
  | cons s r =>
    simp only [List.length_cons] at hql
    obtain ⟨m, hm⟩ : ∃ m, r.length = m := ⟨_, rfl⟩
    rw [hm] at hql
    subst hql
    obtain ⟨b, o, rfl, hbb, q0, q1, q2⟩ := sp_at hr.2 hr.1 (show 0 < m + 1 by omega)
    simp only [List.getElem_cons_zero, Nat.zero_mul, Nat.add_zero] at q0 q1 q2
    have hne : b ≠ x := ha (by omega) b o rfl
    have hcc : m + 1 ≤ c := by obtain ⟨_, _, hv, hc⟩ := hr.2.len; injection hv with _ _ e; omega
    have HR := Lib.hid (fun V (h : RdO V (some ⟨b, o, none⟩) (m + 1) c (s :: r)) => rdO_behind h)
    have HA := Lib.hid (fun y (h : Awy y (m + 1) (some ⟨b, o, none⟩)) => h.behind (c := c) (k := 1) (by omega))
    obtain ⟨AD, hAD⟩ : ∃ AD : Option Addr, (if c = 1 then some ⟨b, o, none⟩ else some ⟨b, o + 1 * 3, none⟩) = AD := ⟨_, rfl⟩
    rw [hAD] at HR HA
    simp only [Nat.one_mul] at hAD
    have y0 : (1 : Int) ≤ (m : Int) + 1 := by omega
    have y1 : (m : Int) + 1 ≤ (c : Int) := by omega
    have y2 : (0 : Int) < (m : Int) + 1 := by omega
    clear hb hr ha hm
    obtain ⟨s1, s2, s3⟩ := s
    simp only at q0 q1 q2
    go_enter Tryd.func41, Tryd.ntmps41
    go_wp2_with fail
    obtain ⟨W1, hW1⟩ : ∃ W1, ((W.setCell ⟨x, 0, none⟩ (.int .i64 0)).setCell ⟨x, 1, none⟩ (.int .i64 0)).setCell ⟨x, 2, none⟩ (.string ⟨#[]⟩) = W1 := ⟨_, rfl⟩
    have HB1 : Hid (RBox W1 x #[.int .i64 0, .int .i64 0, .string ⟨#[]⟩, .slice (some ⟨b, o, none⟩) (m + 1) c]) := Lib.hid (by rw [← hW1]; exact ((HB.out.set 0 (.int .i64 0)).set 1 (.int .i64 0)).set 2 (.string ⟨#[]⟩))
    have HK1 : Hid (KS W.heap.size x x W W1) := Lib.hid (by rw [← hW1]; exact (((KS.refl W.heap.size x x W).set ⟨x, 0, none⟩ _ (.inl rfl)).set ⟨x, 1, none⟩ _ (.inl rfl)).set ⟨x, 2, none⟩ _ (.inl rfl))
    rw [hW1]
    have hk1 := HK1.out.block b hbb hne hne
    rw [← World.cell?_of_block (a := ⟨b, o, none⟩) hk1] at q0
    rw [← World.cell?_of_block (a := ⟨b, o + 1, none⟩) hk1] at q1
    rw [← World.cell?_of_block (a := ⟨b, o + 2, none⟩) hk1] at q2
    clear c0 c1 c2 c3 f0 f1 f2 f3 hk1 hW1 hbb
    have c0 : W1.cell? ⟨x, 0, none⟩ = some (.int .i64 0) := HB1.out.cell rfl
    have c1 : W1.cell? ⟨x, 1, none⟩ = some (.int .i64 0) := HB1.out.cell rfl
    have c2 : W1.cell? ⟨x, 2, none⟩ = some (.string ⟨#[]⟩) := HB1.out.cell rfl
    have c3 : W1.cell? ⟨x, 3, none⟩ = some (.slice (some ⟨b, o, none⟩) (m + 1) c) := HB1.out.cell rfl
    have f0 := HB1.out.frozen 0; have f1 := HB1.out.frozen 1; have f2 := HB1.out.frozen 2; have f3 := HB1.out.frozen 3
    go_region
    go_end0
    exact ⟨⟨_, rfl⟩, HK1.out.trans ((((((KS.refl W.heap.size x x W1).set ⟨x, 0, none⟩ _ (.inl rfl)).set ⟨x, 1, none⟩ _ (.inl rfl)).set ⟨x, 2, none⟩ _ (.inl rfl)).set ⟨x, 3, none⟩ _ (.inl rfl)).trans (KS.of_ext x x (by simpa [World.setCell] using HK1.out.size) (Ext.refl _).drew)),
      AD, m, c - 1, (((HB1.out.set 0 (.int .i64 s1)).set 1 (.int .i64 s2)).set 2 (.string s3)).set 3 (.slice AD m (c - 1)), fun V h => HR.out V h, fun y h => HA.out y h⟩
theorem whole_c (x : Nat) (s0 : Sp) (A : Option Addr) (q c : Nat) (l : List Sp) (W : World) (hb : RBox W x (rstV s0 (.slice A q c))) (hr : RdO W A q c l) (ha : Awy x q A) :
    Calls Tryd.prog 38 #[.pointer (some ⟨x, 0, none⟩)] W fun e W' => e = .returned (.agg #[.int .i64 s0.1, .int .i64 s0.2.1, .string s0.2.2]) ∧ Stepped x A q c l W W' := by
  have c0 : W.cell? ⟨x, 0, none⟩ = some (.int .i64 s0.1) := hb.cell rfl; have c1 : W.cell? ⟨x, 1, none⟩ = some (.int .i64 s0.2.1) := hb.cell rfl; have c2 : W.cell? ⟨x, 2, none⟩ = some (.string s0.2.2) := hb.cell rfl
  have HB := Lib.hid hb; have HR := Lib.hid hr; have HA := Lib.hid ha
  have hw := (Ext.refl W).alloc (.cells #[.int .i64 0, .int .i64 0, .string ⟨#[]⟩] 45)
  have hw2 := hw.alloc (.cells #[.int .i64 0, .int .i64 0, .string ⟨#[]⟩] 45)
  have d0 := ext_cell hw c0; have d1 := ext_cell hw c1; have d2 := ext_cell hw c2
  have e0 := ext_cell hw2 c0; have e1 := ext_cell hw2 c1; have e2 := ext_cell hw2 c2
  clear hb hr ha
  go_enter Tryd.func38, Tryd.ntmps38
  go_wp2_with fail
  have hx2 := hw.alloc (.cells #[.int .i64 s0.1, .int .i64 s0.2.1, .string s0.2.2] 45)
  have b0 := (BxT.new W 45 #[.int .i64 0, .int .i64 0, .string ⟨#[]⟩]).ext ((Ext.refl _).alloc (.cells #[.int .i64 s0.1, .int .i64 s0.2.1, .string s0.2.2] 45))
  have b1 := BxT.new (W.alloc (.cells #[.int .i64 0, .int .i64 0, .string ⟨#[]⟩] 45)) 45 #[.int .i64 s0.1, .int .i64 s0.2.1, .string s0.2.2]
  rw [size_alloc] at b1
  have hsz : ((W.alloc (.cells #[.int .i64 0, .int .i64 0, .string ⟨#[]⟩] 45)).alloc (.cells #[.int .i64 s0.1, .int .i64 s0.2.1, .string s0.2.2] 45)).heap.size = W.heap.size + 2 := by rw [size_alloc, size_alloc]
  obtain ⟨W2, hW2⟩ : ∃ W2, (W.alloc (.cells #[.int .i64 0, .int .i64 0, .string ⟨#[]⟩] 45)).alloc (.cells #[.int .i64 s0.1, .int .i64 s0.2.1, .string s0.2.2] 45) = W2 := ⟨_, rfl⟩
  rw [hW2] at hx2 b0 b1 hsz ⊢
  have hlt := HB.out.lt
  refine (step_c x s0 A q c l W2 (HB.out.ext hx2) (HR.out.ext hx2) HA.out).mono ?_
  rintro e W3 ⟨⟨v, rfl⟩, hk, A', q', c', g1, g2, g3⟩
  have n0 := b0.ks hk (by omega) (by omega) (by omega)
  have n1 := b1.ks hk (by omega) (by omega) (by omega)
  have HN0 := Lib.hid n0; have HG1 := Lib.hid g1
  have HK : Hid (KS W.heap.size x x W W3) := Lib.hid ((KS.of_ext x x (Nat.le_refl _) hx2).trans (hk.mono (by omega)))
  have k0 : W3.cell? ⟨W.heap.size, 0, none⟩ = some (.int .i64 0) := n0.cell rfl; have k1 : W3.cell? ⟨W.heap.size, 1, none⟩ = some (.int .i64 0) := n0.cell rfl; have k2 : W3.cell? ⟨W.heap.size, 2, none⟩ = some (.string ⟨#[]⟩) := n0.cell rfl
  have m0 : W3.cell? ⟨W.heap.size + 1, 0, none⟩ = some (.int .i64 s0.1) := n1.cell rfl; have m1 : W3.cell? ⟨W.heap.size + 1, 1, none⟩ = some (.int .i64 s0.2.1) := n1.cell rfl; have m2 : W3.cell? ⟨W.heap.size + 1, 2, none⟩ = some (.string s0.2.2) := n1.cell rfl
  have f0 := n0.frozen 0; have f1 := n0.frozen 1; have f2 := n0.frozen 2
  clear c0 c1 c2 d0 d1 d2 e0 e1 e2 hw hw2 hx2 b0 b1 n0 n1 g1 hk hW2 hsz
  go_wp2_with fail
  have h1 := ((HN0.out.set 0 (.int .i64 s0.1)).set 1 (.int .i64 s0.2.1)).set 2 (.string s0.2.2)
  refine bodyPost_ret (results_cell_row rfl _ _ W.heap.size _ _ (0, 0) _ rfl h1 Tryd.underlying45 rfl (by kernel_rfl)) rfl ?_
  exact ⟨rfl, ((HK.out.set ⟨W.heap.size, 0, none⟩ _ (.inr (.inr (Nat.le_refl _)))).set ⟨W.heap.size, 1, none⟩ _ (.inr (.inr (Nat.le_refl _)))).set ⟨W.heap.size, 2, none⟩ _ (.inr (.inr (Nat.le_refl _))),
    A', q', c', ((HG1.out.other ⟨W.heap.size, 0, none⟩ (Nat.ne_of_lt hlt) _).other ⟨W.heap.size, 1, none⟩ (Nat.ne_of_lt hlt) _).other ⟨W.heap.size, 2, none⟩ (Nat.ne_of_lt hlt) _, g2, g3⟩
theorem meet_c (g t : Sp) (W : World) :
    Calls Tryd.prog 40 #[.agg #[.int .i64 g.1, .int .i64 g.2.1, .string g.2.2], .agg #[.int .i64 t.1, .int .i64 t.2.1, .string t.2.2]] W fun e W' =>
      e = .returned (if t.1 = 1 then .agg #[.int .i64 g.1, .int .i64 g.2.1, .string g.2.2] else if g.1 = 2 then .agg #[.int .i64 2, .int .i64 0, .string ⟨#[]⟩] else .agg #[.int .i64 t.1, .int .i64 t.2.1, .string t.2.2]) ∧ Ext W W' := by
  obtain ⟨g1, g2, g3⟩ := g
  obtain ⟨t1, t2, t3⟩ := t
  have hx := ((Ext.refl W).alloc (.cells #[.int .i64 g1, .int .i64 g2, .string g3] 45)).alloc (.cells #[.int .i64 t1, .int .i64 t2, .string t3] 45)
  simp only
  by_cases h1 : t1 = 1
  · subst h1
    rw [if_pos rfl]
    have hz := hx.alloc (.cells #[.int .i64 g1, .int .i64 g2, .string g3] 45)
    have hb := BxT.new ((W.alloc (.cells #[.int .i64 g1, .int .i64 g2, .string g3] 45)).alloc (.cells #[.int .i64 1, .int .i64 t2, .string t3] 45)) 45 #[.int .i64 g1, .int .i64 g2, .string g3]
    rw [size_alloc, size_alloc] at hb
    go_enter Tryd.func40, Tryd.ntmps40
    go_wp2_with fail
    refine bodyPost_ret (results_cell_row rfl _ _ (W.heap.size + 1 + 1) _ _ (0, 0) _ rfl hb Tryd.underlying45 rfl (by kernel_rfl)) rfl ?_
    exact ⟨rfl, hz⟩
  · rw [if_neg h1]
    have hb1 : (t1 == 1) = false := by rw [beq_eq_false_iff_ne]; exact h1
    by_cases h2 : g1 = 2
    · subst h2
      rw [if_pos rfl]
      have hz := hx.alloc (.cells #[.int .i64 2, .int .i64 0, .string ⟨#[]⟩] 45)
      have hb := BxT.new ((W.alloc (.cells #[.int .i64 2, .int .i64 g2, .string g3] 45)).alloc (.cells #[.int .i64 t1, .int .i64 t2, .string t3] 45)) 45 #[.int .i64 2, .int .i64 0, .string ⟨#[]⟩]
      rw [size_alloc, size_alloc] at hb
      clear h1
      go_enter Tryd.func40, Tryd.ntmps40
      go_wp2_with fail
      refine bodyPost_ret (results_cell_row rfl _ _ (W.heap.size + 1 + 1) _ _ (0, 0) _ rfl hb Tryd.underlying45 rfl (by kernel_rfl)) rfl ?_
      exact ⟨rfl, hz⟩
    · rw [if_neg h2]
      have hb2 : (g1 == 2) = false := by rw [beq_eq_false_iff_ne]; exact h2
      have hz := hx.alloc (.cells #[.int .i64 t1, .int .i64 t2, .string t3] 45)
      have hb := BxT.new ((W.alloc (.cells #[.int .i64 g1, .int .i64 g2, .string g3] 45)).alloc (.cells #[.int .i64 t1, .int .i64 t2, .string t3] 45)) 45 #[.int .i64 t1, .int .i64 t2, .string t3]
      rw [size_alloc, size_alloc] at hb
      clear h1 h2
      go_enter Tryd.func40, Tryd.ntmps40
      go_wp2_with fail
      refine bodyPost_ret (results_cell_row rfl _ _ (W.heap.size + 1 + 1) _ _ (0, 0) _ rfl hb Tryd.underlying45 rfl (by kernel_rfl)) rfl ?_
      exact ⟨rfl, hz⟩
/-- What piece leaves. -/
def Pieced (x : Nat) (A : Option Addr) (q c : Nat) (l L : List Sp) (W W' : World) : Prop :=
  KS W.heap.size x x W W' ∧ ∃ A' q' c', RBox W' x (rstV (hdS L) (.slice A' q' c')) ∧ (∀ V, RdO V A q c l → RdO V A' q' c' L.tail) ∧ ∀ y, Awy y q A → Awy y q' A'
theorem text_cut (t : ByteArray) (us : List Nat) (n : Nat) (hu : dec (bs t) = some us) :
    (encs (us.take n)).length ≤ t.size ∧ t.extract 0 (encs (us.take n)).length = mkS (encs (us.take n)) ∧ t.extract (encs (us.take n)).length t.size = mkS (encs (us.drop n)) ∧
      (us.length ≤ n → mkS (encs (us.drop n)) = ⟨#[]⟩) ∧ (¬ us.length ≤ n → mkS (encs (us.drop n)) ≠ ⟨#[]⟩) := by
  have hub := (dec_some hu).2
  have hb2 : bs t = encs (us.take n) ++ encs (us.drop n) := by rw [← encs_append, List.take_append_drop]; exact hub
  have hlen : (bs t).length = (encs (us.take n)).length + (encs (us.drop n)).length := by rw [hb2, List.length_append]
  rw [bs_length] at hlen
  refine ⟨by omega, mkS_of ?_, mkS_of ?_, fun h => ?_, fun h he => ?_⟩
  · rw [bs_extract, hb2, List.drop_zero, Nat.sub_zero, List.take_left]
  · rw [bs_extract, hb2, List.drop_left, List.take_of_length_le (by omega)]
  · rw [List.drop_of_length_le h]; rfl
  · have h2 := congrArg ByteArray.size he
    rw [size_mkS] at h2
    have h3 := length_le_encs (us.drop n)
    rw [List.length_drop] at h3
    have h4 : (⟨#[]⟩ : ByteArray).size = 0 := rfl
    omega
theorem pieceT_c (x : Nat) (t S1 S2 : ByteArray) (n E M : Nat) (A : Option Addr) (q c : Nat) (l : List Sp) (W : World) (hb : RBox W x (rstV (2, 0, t) (.slice A q c))) (hr : RdO W A q c l) (ha : Awy x q A)
    (hO : ∀ w, Calls Tryd.prog 52 #[.string t, .int .i64 n] w fun e w' => e = .returned (.tuple #[.int .i64 (E : Int), .int .i64 (M : Int)]) ∧ Ext w w')
    (hE : E ≤ t.size) (_hM : M ≤ 2000000000) (_hsz : t.size ≤ 1000000000) (_hn : n ≤ 2000000000) (h1 : t.extract 0 E = S1) (h2 : t.extract E t.size = S2) :
    Calls Tryd.prog 39 #[.pointer (some ⟨x, 0, none⟩), .int .i64 n] W fun e W' =>
      e = .returned (.tuple #[.agg #[.int .i64 2, .int .i64 0, .string S1], .int .i64 (M : Int)]) ∧
      Pieced x A q c l (if S2 = ⟨#[]⟩ then l else (2, 0, S2) :: l) W W' := by
  obtain ⟨L, hL⟩ : ∃ L, (if S2 = ⟨#[]⟩ then l else (2, 0, S2) :: l) = L := ⟨_, rfl⟩
  rw [hL]
  have HQ := Lib.hid hL.symm
  clear hL
  have HO := Lib.hid hO; have HB := Lib.hid hb; have HR := Lib.hid hr; have HA := Lib.hid ha
  have c0 : W.cell? ⟨x, 0, none⟩ = some (.int .i64 2) := hb.cell rfl; have c1 : W.cell? ⟨x, 1, none⟩ = some (.int .i64 0) := hb.cell rfl; have c2 : W.cell? ⟨x, 2, none⟩ = some (.string t) := hb.cell rfl
  have hw := (Ext.refl W).alloc (.cells #[.int .i64 0, .int .i64 0, .string ⟨#[]⟩] 45)
  have hw2 := hw.alloc (.cells #[.int .i64 0, .int .i64 0, .string ⟨#[]⟩] 45)
  have d0 := ext_cell hw c0; have d1 := ext_cell hw c1; have d2 := ext_cell hw c2
  have e0 := ext_cell hw2 c0; have e1 := ext_cell hw2 c1; have e2 := ext_cell hw2 c2
  have hlt := HB.out.lt
  clear hb hr ha hO
  go_enter Tryd.func39, Tryd.ntmps39
  go_wp2_with fail
  have hx2 := hw.alloc (.cells #[.int .i64 2, .int .i64 0, .string t] 45)
  have b0 := (BxT.new W 45 #[.int .i64 0, .int .i64 0, .string ⟨#[]⟩]).ext ((Ext.refl _).alloc (.cells #[.int .i64 2, .int .i64 0, .string t] 45))
  have b1 := BxT.new (W.alloc (.cells #[.int .i64 0, .int .i64 0, .string ⟨#[]⟩] 45)) 45 #[.int .i64 2, .int .i64 0, .string t]
  rw [size_alloc] at b1
  have hz2 : ((W.alloc (.cells #[.int .i64 0, .int .i64 0, .string ⟨#[]⟩] 45)).alloc (.cells #[.int .i64 2, .int .i64 0, .string t] 45)).heap.size = W.heap.size + 2 := by rw [size_alloc, size_alloc]
  obtain ⟨W2, hW2⟩ : ∃ W2, (W.alloc (.cells #[.int .i64 0, .int .i64 0, .string ⟨#[]⟩] 45)).alloc (.cells #[.int .i64 2, .int .i64 0, .string t] 45) = W2 := ⟨_, rfl⟩
  rw [hW2] at hx2 b0 b1 hz2 ⊢
  refine (HO.out W2).mono ?_; rintro e W3 ⟨rfl, hx3⟩
  have hx23 := hx2.trans hx3
  have B0 := Lib.hid (b0.ext hx3); have B1 := Lib.hid (b1.ext hx3); have BR := Lib.hid (HB.out.ext hx23)
  have HX := Lib.hid hx23; have HR3 := Lib.hid (HR.out.ext hx23)
  have hz3 := hx3.size
  rw [hz2] at hz3
  have HZ3 := Lib.hid hz3
  clear hx2 hx3 hx23 b0 b1 hz2 hz3 hw hw2 c0 c1 c2 d0 d1 d2 e0 e1 e2 HO hW2
  have c0 : W3.cell? ⟨x, 0, none⟩ = some (.int .i64 2) := BR.out.cell rfl; have c1 : W3.cell? ⟨x, 1, none⟩ = some (.int .i64 0) := BR.out.cell rfl; have c2 : W3.cell? ⟨x, 2, none⟩ = some (.string t) := BR.out.cell rfl
  have p0 : W3.cell? ⟨W.heap.size + 1, 0, none⟩ = some (.int .i64 2) := B1.out.cell rfl; have p1 : W3.cell? ⟨W.heap.size + 1, 1, none⟩ = some (.int .i64 0) := B1.out.cell rfl; have p2 : W3.cell? ⟨W.heap.size + 1, 2, none⟩ = some (.string t) := B1.out.cell rfl
  have fx := BR.out.frozen 2; have fp := B1.out.frozen 2
  have g0 : (0 : Int) ≤ (E : Int) := by omega
  have g1 : (E : Int) ≤ (t.size : Int) := by omega
  have hne : x ≠ W.heap.size + 1 := by omega
  go_wp2_with fail
-- BEGIN REGION
  go_region
  obtain ⟨W4, hW4⟩ : ∃ W4, ((W3.setCell ⟨W.heap.size + 1, 2, none⟩ (.string S1)).setCell ⟨x, 2, none⟩ (.string S2)).drew = W4 := ⟨_, rfl⟩
  rw [hW4]
  have hd3 := (Ext.refl ((W3.setCell ⟨W.heap.size + 1, 2, none⟩ (.string S1)).setCell ⟨x, 2, none⟩ (.string S2))).drew
  have BR4 : Hid (RBox W4 x (rstV (2, 0, S2) (.slice A q c))) := Lib.hid (by rw [← hW4]; exact BxT.ext ((BxT.other BR.out ⟨W.heap.size + 1, 2, none⟩ hne _).set 2 (.string S2)) hd3)
  have B14 : Hid (BxT 45 W4 (W.heap.size + 1) #[.int .i64 2, .int .i64 0, .string S1]) := Lib.hid (by rw [← hW4]; exact BxT.ext ((B1.out.set 2 (.string S1)).other ⟨x, 2, none⟩ (Ne.symm hne) _) hd3)
  have B04 : Hid (BxT 45 W4 W.heap.size #[.int .i64 0, .int .i64 0, .string ⟨#[]⟩]) := Lib.hid (by rw [← hW4]; exact BxT.ext ((B0.out.other ⟨W.heap.size + 1, 2, none⟩ (by simp only; omega) _).other ⟨x, 2, none⟩ (by simp only; omega) _) hd3)
  have HK4 : Hid (KS W.heap.size x x W W4) := Lib.hid (by rw [← hW4]; exact KS.ext (((KS.of_ext x x (Nat.le_refl _) HX.out).set ⟨W.heap.size + 1, 2, none⟩ _ (.inr (.inr (Nat.le_succ _)))).set ⟨x, 2, none⟩ _ (.inl rfl)) hd3 (Nat.le_refl _))
  have HZ4 : Hid (W.heap.size + 2 ≤ W4.heap.size) := Lib.hid (by rw [← hW4]; have := HZ3.out; simpa [World.setCell] using this)
  have HR4 : Hid (RdO W4 A q c l) := Lib.hid (rdO_ks HR.out HA.out HA.out HK4.out)
  clear hd3 hW4 c0 c1 c2 p0 p1 p2 fx fp g0 g1 BR B1 B0
  have c0 : W4.cell? ⟨x, 0, none⟩ = some (.int .i64 2) := BR4.out.cell rfl; have c1 : W4.cell? ⟨x, 1, none⟩ = some (.int .i64 0) := BR4.out.cell rfl; have c2 : W4.cell? ⟨x, 2, none⟩ = some (.string S2) := BR4.out.cell rfl
  by_cases hd : S2 = ⟨#[]⟩
  · rw [if_pos hd] at HQ
    have ht : S2.toList.isEmpty = true := by rw [ByteArray.toList_eq]; rw [hd]; rfl
    have HST := Lib.hid (step_c x (2, 0, S2) A q c l W4 BR4.out HR4.out HA.out)
    clear hd
    go_wp2_with fail
    refine HST.out.mono ?_; rintro e W5 ⟨⟨v, rfl⟩, hk, A', q', c', r1, r2, r3⟩
    have HK5 : Hid (KS W.heap.size x x W W5) := Lib.hid (HK4.out.trans (hk.mono HK4.out.size))
    have HR1 := Lib.hid r1
    have hz := HZ4.out
    clear c0 c1 c2 r1
    have n0 := B04.out.ks hk B04.out.lt (by omega) (by omega); have n1 := B14.out.ks hk B14.out.lt (by omega) (by omega)
    have k0 : W5.cell? ⟨W.heap.size, 0, none⟩ = some (.int .i64 0) := n0.cell rfl; have k1 : W5.cell? ⟨W.heap.size, 1, none⟩ = some (.int .i64 0) := n0.cell rfl; have k2 : W5.cell? ⟨W.heap.size, 2, none⟩ = some (.string ⟨#[]⟩) := n0.cell rfl
    have m0 : W5.cell? ⟨W.heap.size + 1, 0, none⟩ = some (.int .i64 2) := n1.cell rfl; have m1 : W5.cell? ⟨W.heap.size + 1, 1, none⟩ = some (.int .i64 0) := n1.cell rfl; have m2 : W5.cell? ⟨W.heap.size + 1, 2, none⟩ = some (.string S1) := n1.cell rfl
    have f0 := n0.frozen 0; have f1 := n0.frozen 1; have f2 := n0.frozen 2
    have HN0 := Lib.hid n0
    clear n0 n1
    go_wp2_with fail
    have h1 := ((HN0.out.set 0 (.int .i64 2)).set 1 (.int .i64 0)).set 2 (.string S1)
    refine bodyPost_ret (results_box_tmp rfl _ _ W.heap.size _ _ (0, 0) _ rfl h1 Tryd.underlying45 rfl (by kernel_rfl)) rfl ?_
    rw [HQ.out]
    exact ⟨rfl, (((HK5.out).set ⟨W.heap.size, 0, none⟩ _ (.inr (.inr (Nat.le_refl _)))).set ⟨W.heap.size, 1, none⟩ _ (.inr (.inr (Nat.le_refl _)))).set ⟨W.heap.size, 2, none⟩ _ (.inr (.inr (Nat.le_refl _))), A', q', c', (((HR1.out).other ⟨W.heap.size, 0, none⟩ (Nat.ne_of_lt hlt) _).other ⟨W.heap.size, 1, none⟩ (Nat.ne_of_lt hlt) _).other ⟨W.heap.size, 2, none⟩ (Nat.ne_of_lt hlt) _, r2, r3⟩
  · rw [if_neg hd] at HQ
    have ht : S2.toList.isEmpty = false := by
      rw [ByteArray.toList_eq, List.isEmpty_eq_false_iff]
      exact fun h => hd (bs_inj h)
    clear hd
    have n0 := B04.out; have n1 := B14.out
    have k0 : W4.cell? ⟨W.heap.size, 0, none⟩ = some (.int .i64 0) := n0.cell rfl; have k1 : W4.cell? ⟨W.heap.size, 1, none⟩ = some (.int .i64 0) := n0.cell rfl; have k2 : W4.cell? ⟨W.heap.size, 2, none⟩ = some (.string ⟨#[]⟩) := n0.cell rfl
    have m0 : W4.cell? ⟨W.heap.size + 1, 0, none⟩ = some (.int .i64 2) := n1.cell rfl; have m1 : W4.cell? ⟨W.heap.size + 1, 1, none⟩ = some (.int .i64 0) := n1.cell rfl; have m2 : W4.cell? ⟨W.heap.size + 1, 2, none⟩ = some (.string S1) := n1.cell rfl
    have f0 := n0.frozen 0; have f1 := n0.frozen 1; have f2 := n0.frozen 2
    have HN0 := Lib.hid n0
    clear n0 n1
    go_wp2_with fail
    have h1 := ((HN0.out.set 0 (.int .i64 2)).set 1 (.int .i64 0)).set 2 (.string S1)
    refine bodyPost_ret (results_box_tmp rfl _ _ W.heap.size _ _ (0, 0) _ rfl h1 Tryd.underlying45 rfl (by kernel_rfl)) rfl ?_
    rw [HQ.out]
    exact ⟨rfl, (((HK4.out).set ⟨W.heap.size, 0, none⟩ _ (.inr (.inr (Nat.le_refl _)))).set ⟨W.heap.size, 1, none⟩ _ (.inr (.inr (Nat.le_refl _)))).set ⟨W.heap.size, 2, none⟩ _ (.inr (.inr (Nat.le_refl _))), A, q, c, (((BR4.out).other ⟨W.heap.size, 0, none⟩ (Nat.ne_of_lt hlt) _).other ⟨W.heap.size, 1, none⟩ (Nat.ne_of_lt hlt) _).other ⟨W.heap.size, 2, none⟩ (Nat.ne_of_lt hlt) _, fun _ h => h, fun _ h => h⟩
theorem pieceN_c (x : Nat) (k : Int) (n N M D : Nat) (A : Option Addr) (q c : Nat) (l : List Sp) (W : World) (hb : RBox W x (rstV (k, (N : Int), ⟨#[]⟩) (.slice A q c))) (hr : RdO W A q c l) (ha : Awy x q A) (hk : k ≠ 2)
    (hN : N ≤ 2000000000) (hM : M = min n N) (hD : D = N - M) :
    Calls Tryd.prog 39 #[.pointer (some ⟨x, 0, none⟩), .int .i64 n] W fun e W' =>
      e = .returned (.tuple #[.agg #[.int .i64 k, .int .i64 (M : Int), .string ⟨#[]⟩], .int .i64 (M : Int)]) ∧
      Pieced x A q c l (if D = 0 then l else (k, (D : Int), ⟨#[]⟩) :: l) W W' := by
  obtain ⟨L, hL⟩ : ∃ L, (if D = 0 then l else (k, (D : Int), ⟨#[]⟩) :: l) = L := ⟨_, rfl⟩
  rw [hL]
  have HQ := Lib.hid hL.symm
  clear hL
  have HB := Lib.hid hb; have HR := Lib.hid hr; have HA := Lib.hid ha
  have hkk : (k == 2) = false := by rw [beq_eq_false_iff_ne]; exact hk
  have hmin : min (n : Int) (N : Int) = (M : Int) := by omega
  have hmin2 : min n N = M := hM.symm
  have hsub : (N : Int) - (M : Int) = (D : Int) := by omega
  have hw64 : wrap64 ((N : Int) - (M : Int)) = (D : Int) := by unfold wrap64; omega
  have he : (⟨#[]⟩ : ByteArray).toList.isEmpty = true := by rw [toList_bs]; rfl
  have c0 : W.cell? ⟨x, 0, none⟩ = some (.int .i64 k) := hb.cell rfl; have c1 : W.cell? ⟨x, 1, none⟩ = some (.int .i64 (N : Int)) := hb.cell rfl; have c2 : W.cell? ⟨x, 2, none⟩ = some (.string ⟨#[]⟩) := hb.cell rfl
  have hw := (Ext.refl W).alloc (.cells #[.int .i64 0, .int .i64 0, .string ⟨#[]⟩] 45)
  have hw2 := hw.alloc (.cells #[.int .i64 0, .int .i64 0, .string ⟨#[]⟩] 45)
  have d0 := ext_cell hw c0; have d1 := ext_cell hw c1; have d2 := ext_cell hw c2
  have e0 := ext_cell hw2 c0; have e1 := ext_cell hw2 c1; have e2 := ext_cell hw2 c2
  have hlt := HB.out.lt
  have hDb : D ≤ 2000000000 := by omega
  have hMb : M ≤ 2000000000 := by omega
  clear hb hr ha hk hM hD
  have hzV : (W.setCell ⟨x, 1, none⟩ (.int .i64 (D : Int))).heap.size = W.heap.size := by simp [World.setCell]
  have hKV : KS W.heap.size x x W (W.setCell ⟨x, 1, none⟩ (.int .i64 (D : Int))) := (KS.refl _ _ _ _).set ⟨x, 1, none⟩ _ (.inl rfl)
  have hBV : RBox (W.setCell ⟨x, 1, none⟩ (.int .i64 (D : Int))) x (rstV (k, (D : Int), ⟨#[]⟩) (.slice A q c)) := HB.out.set 1 (.int .i64 (D : Int))
  have hE1 := (Ext.refl (W.setCell ⟨x, 1, none⟩ (.int .i64 (D : Int)))).alloc (.cells #[.int .i64 0, .int .i64 0, .string ⟨#[]⟩] 45)
  have hE2 := hE1.alloc (.cells #[.int .i64 k, .int .i64 (M : Int), .string ⟨#[]⟩] 45)
  have hb0 := (BxT.new (W.setCell ⟨x, 1, none⟩ (.int .i64 (D : Int))) 45 #[.int .i64 0, .int .i64 0, .string ⟨#[]⟩]).ext ((Ext.refl _).alloc (.cells #[.int .i64 k, .int .i64 (M : Int), .string ⟨#[]⟩] 45))
  have hb1 := BxT.new ((W.setCell ⟨x, 1, none⟩ (.int .i64 (D : Int))).alloc (.cells #[.int .i64 0, .int .i64 0, .string ⟨#[]⟩] 45)) 45 #[.int .i64 k, .int .i64 (M : Int), .string ⟨#[]⟩]
  rw [size_alloc, hzV] at hb1
  rw [hzV] at hb0
  have hz2 : (((W.setCell ⟨x, 1, none⟩ (.int .i64 (D : Int))).alloc (.cells #[.int .i64 0, .int .i64 0, .string ⟨#[]⟩] 45)).alloc (.cells #[.int .i64 k, .int .i64 (M : Int), .string ⟨#[]⟩] 45)).heap.size = W.heap.size + 2 := by rw [size_alloc, size_alloc, hzV]
  have hK4 := hKV.ext hE2 (Nat.le_refl _)
  have HK4 := Lib.hid hK4; have B04 := Lib.hid hb0; have B14 := Lib.hid hb1; have BR4 := Lib.hid (hBV.ext hE2); have HZ4 := Lib.hid hz2
  clear hzV hKV hBV hE1 hE2 hb0 hb1 hz2 hK4
  have hfx := (HB.out.ext (hw.alloc (.cells #[.int .i64 k, .int .i64 (M : Int), .string ⟨#[]⟩] 45))).frozen 1
  by_cases hd : D = 0
  · rw [if_pos hd] at HQ
    have dn : ((D : Int) == 0) = true := by rw [hd]; rfl
    clear hd
    go_enter Tryd.func39, Tryd.ntmps39
    go_wp2_with fail
    obtain ⟨W4, hW4⟩ : ∃ W4, ((W.setCell ⟨x, 1, none⟩ (.int .i64 (D : Int))).alloc (.cells #[.int .i64 0, .int .i64 0, .string ⟨#[]⟩] 45)).alloc (.cells #[.int .i64 k, .int .i64 (M : Int), .string ⟨#[]⟩] 45) = W4 := ⟨_, rfl⟩
    rw [hW4] at HK4 B04 B14 BR4 HZ4 ⊢
    refine (step_c x (k, (D : Int), ⟨#[]⟩) A q c l W4 BR4.out (rdO_ks HR.out HA.out HA.out HK4.out) HA.out).mono ?_; rintro e W5 ⟨⟨v, rfl⟩, hk, A', q', c', r1, r2, r3⟩
    have HK5 : Hid (KS W.heap.size x x W W5) := Lib.hid (HK4.out.trans (hk.mono HK4.out.size))
    have HR1 := Lib.hid r1
    have hz := HZ4.out
    have n0 := B04.out.ks hk B04.out.lt (by omega) (by omega); have n1 := B14.out.ks hk B14.out.lt (by omega) (by omega)
    have k0 : W5.cell? ⟨W.heap.size, 0, none⟩ = some (.int .i64 0) := n0.cell rfl; have k1 : W5.cell? ⟨W.heap.size, 1, none⟩ = some (.int .i64 0) := n0.cell rfl; have k2 : W5.cell? ⟨W.heap.size, 2, none⟩ = some (.string ⟨#[]⟩) := n0.cell rfl
    have m0 : W5.cell? ⟨W.heap.size + 1, 0, none⟩ = some (.int .i64 k) := n1.cell rfl; have m1 : W5.cell? ⟨W.heap.size + 1, 1, none⟩ = some (.int .i64 (M : Int)) := n1.cell rfl; have m2 : W5.cell? ⟨W.heap.size + 1, 2, none⟩ = some (.string ⟨#[]⟩) := n1.cell rfl
    have f0 := n0.frozen 0; have f1 := n0.frozen 1; have f2 := n0.frozen 2
    have HN0 := Lib.hid n0
    clear c0 c1 c2 d0 d1 d2 e0 e1 e2 hw hw2 r1 n0 n1 hW4 hk
    go_wp2_with fail
    have h1 := ((HN0.out.set 0 (.int .i64 k)).set 1 (.int .i64 (M : Int))).set 2 (.string ⟨#[]⟩)
    refine bodyPost_ret (results_box_tmp rfl _ _ W.heap.size _ _ (0, 0) _ rfl h1 Tryd.underlying45 rfl (by kernel_rfl)) rfl ?_
    rw [HQ.out]
    exact ⟨rfl, (((HK5.out).set ⟨W.heap.size, 0, none⟩ _ (.inr (.inr (Nat.le_refl _)))).set ⟨W.heap.size, 1, none⟩ _ (.inr (.inr (Nat.le_refl _)))).set ⟨W.heap.size, 2, none⟩ _ (.inr (.inr (Nat.le_refl _))), A', q', c', (((HR1.out).other ⟨W.heap.size, 0, none⟩ (Nat.ne_of_lt hlt) _).other ⟨W.heap.size, 1, none⟩ (Nat.ne_of_lt hlt) _).other ⟨W.heap.size, 2, none⟩ (Nat.ne_of_lt hlt) _, r2, r3⟩
  · rw [if_neg hd] at HQ
    have dn : ((D : Int) == 0) = false := by rw [beq_eq_false_iff_ne]; omega
    clear hd
    go_enter Tryd.func39, Tryd.ntmps39
    go_wp2_with fail
    have hzV : (W.setCell ⟨x, 1, none⟩ (.int .i64 (D : Int))).heap.size = W.heap.size := by simp [World.setCell]
    have hKV : KS W.heap.size x x W (W.setCell ⟨x, 1, none⟩ (.int .i64 (D : Int))) := (KS.refl _ _ _ _).set ⟨x, 1, none⟩ _ (.inl rfl)
    have hBV : RBox (W.setCell ⟨x, 1, none⟩ (.int .i64 (D : Int))) x (rstV (k, (D : Int), ⟨#[]⟩) (.slice A q c)) := HB.out.set 1 (.int .i64 (D : Int))
    have hE1 := (Ext.refl (W.setCell ⟨x, 1, none⟩ (.int .i64 (D : Int)))).alloc (.cells #[.int .i64 k, .int .i64 (M : Int), .string ⟨#[]⟩] 45)
    have hE2 := hE1.alloc (.cells #[.int .i64 k, .int .i64 (M : Int), .string ⟨#[]⟩] 45)
    have h1 := (BxT.new (W.setCell ⟨x, 1, none⟩ (.int .i64 (D : Int))) 45 #[.int .i64 k, .int .i64 (M : Int), .string ⟨#[]⟩]).ext ((Ext.refl _).alloc (.cells #[.int .i64 k, .int .i64 (M : Int), .string ⟨#[]⟩] 45))
    rw [hzV] at h1
    refine bodyPost_ret (results_box_tmp rfl _ _ W.heap.size _ _ (0, 0) _ rfl h1 Tryd.underlying45 rfl (by kernel_rfl)) rfl ?_
    rw [HQ.out]
    exact ⟨rfl, hKV.ext hE2 (Nat.le_refl _), A, q, c, hBV.ext hE2, fun _ h => h, fun _ h => h⟩
/-- The beginning of the next span, as many code points as there are. -/
theorem piece_c (x : Nat) (s : Sp) (n M : Nat) (A : Option Addr) (q c : Nat) (l : List Sp) (W : World) (hb : RBox W x (rstV s (.slice A q c))) (hr : RdO W A q c l) (ha : Awy x q A)
    (hok : OkW s) (hsz : s.2.2.size ≤ 1000000000) (hN : s.2.1 ≤ 2000000000) (hn : n ≤ 2000000000) (hM : M = min n (tokS s).length) :
    Calls Tryd.prog 39 #[.pointer (some ⟨x, 0, none⟩), .int .i64 n] W fun e W' =>
      e = .returned (.tuple #[.agg #[.int .i64 (cutA s M).1, .int .i64 (cutA s M).2.1, .string (cutA s M).2.2], .int .i64 (M : Int)]) ∧ Pieced x A q c l (left s M l) W W' := by
  rcases hok with ⟨k1, n1, us, hu⟩ | ⟨k1, n1, t1⟩
  · obtain ⟨a1, a2, a3⟩ := s
    simp only at k1 n1 hu hsz
    subst k1; subst n1
    have hL : (tokS (2, 0, a3)).length = us.length := by rw [tokS_text _ _ hu, List.length_map]
    rw [hL] at hM
    obtain ⟨t0, t1, t2, t3, t4⟩ := text_cut a3 us n hu
    have eA : cutA (2, 0, a3) M = (2, 0, mkS (encs (us.take n))) := by
      unfold cutA
      rw [if_pos rfl, hM]
      simp only [hu, Option.getD_some]
      rw [← List.take_eq_take_min]
    have eL : left (2, 0, a3) M l = if mkS (encs (us.drop n)) = ⟨#[]⟩ then l else (2, 0, mkS (encs (us.drop n))) :: l := by
      unfold left
      rw [hL]
      by_cases h : us.length ≤ n
      · rw [if_pos (by omega), if_pos (t3 h)]
      · rw [if_neg (by omega), if_neg (t4 h)]
        unfold cutB
        rw [if_pos rfl, show M = n by omega]
        simp only [hu, Option.getD_some]
    rw [eA, eL]
    exact pieceT_c x a3 _ _ n _ M A q c l W hb hr ha (fun w => by rw [hM]; exact off9_c a3 n w hsz hn us hu) t0 (by omega) hsz hn t1 t2
  · obtain ⟨a1, a2, a3⟩ := s
    simp only at k1 n1 t1 hN
    obtain ⟨N, rfl⟩ := Int.eq_ofNat_of_zero_le n1
    subst t1
    have hk : a1 ≠ 2 := by omega
    have hL : (tokS (a1, (N : Int), ⟨#[]⟩)).length = N := by rw [tokS_num _ _ _ hk, List.length_replicate, Int.toNat_natCast]
    rw [hL] at hM
    have eA : cutA (a1, (N : Int), ⟨#[]⟩) M = (a1, (M : Int), ⟨#[]⟩) := by unfold cutA; rw [if_neg hk]
    have eL : left (a1, (N : Int), ⟨#[]⟩) M l = if N - M = 0 then l else (a1, ((N - M : Nat) : Int), ⟨#[]⟩) :: l := by
      unfold left cutB
      rw [hL, if_neg hk]
      by_cases h : N = M
      · rw [if_pos h, if_pos (by omega)]
      · rw [if_neg h, if_neg (by omega)]
        simp only
        rw [show ((N - M : Nat) : Int) = (N : Int) - M by omega]
    rw [eA, eL]
    exact pieceN_c x a1 n N M (N - M) A q c l W hb hr ha hk (by omega) hM rfl
end Go.Proofs.YtmfeggeinoaheaaDoor
