/- Layer 12, the program: asFirst, Of, Meet. -/
import Derived.Test.YtfjiookndleaeaaDoorC12
import Derived.Test.YtfjiookndleaeaaDoorP12a
namespace Go.Proofs.YtfjiookndleaeaaDoor
open Go.RowKit
set_option maxRecDepth 100000
set_option maxHeartbeats 4000000
set_option linter.unusedSimpArgs false
/-- No two spans that put stand next to each other. -/
def NP : List Sp → Prop
  | [] => True
  | s :: r => (s.1 = 2 → ∀ t q, r = t :: q → t.1 ≠ 2) ∧ NP r
theorem isN_np : ∀ l : List Sp, isN l → NP l
  | [], _ => trivial
  | [_], _ => ⟨fun _ t q h => (by cases h), trivial⟩
  | s :: t :: r, h => ⟨fun h2 t' q e => (by injection e with e1 _; subst e1; intro h3; exact h.2.1 (h2.trans h3.symm)), isN_np (t :: r) h.2.2⟩
theorem NP.left {s : Sp} {l : List Sp} {n : Nat} (h : NP (s :: l)) (hk : s.1 ≠ 2) : NP (left s n l) := by
  unfold Go.Proofs.YtfjiookndleaeaaDoor.left
  split
  · exact h.2
  · exact ⟨fun h2 => absurd (by rw [← cutB_kind s n]; exact h2) hk, h.2⟩
theorem own_ks2 {w w' : World} {B x u : Nat} {e : TypeId} {size : Nat} {v : Value} {n : Nat} {xs : List Value} (h : Own w B e size v n xs) (hk : KS w.heap.size x u w w') (hx : x < B) (hu : u < B) : Own w' B e size v n xs :=
  ⟨ownsRow_kept h.1 fun k h1 h2 => hk.block k h2 (by omega) (by omega), Nat.le_trans h.2 hk.size⟩
/-- What the loop keeps. -/
structure StU (w0 w : World) (x y u v : Nat) (F G : Value) (TT : List Tok) (wr : World) (vl : Value) (xs ys os : List Sp) : Prop where
  sx : ∃ A q c, Sd wr w0.heap.size w.heap.size x y u A q c xs F
  sy : ∃ A q c, Sd wr w0.heap.size w.heap.size y x v A q c ys G
  uv : xs ≠ [] → ys ≠ [] → u ≠ v
  o : Own wr w.heap.size 48 3 vl os.length (spCells os)
  row : RowO 1000000000 900000000 2000 xs ys os
  tt : tok os ++ underT (tok xs) (tok ys) = TT
  sid : tin (tok xs) = tin (tok ys)
  b : Ext w0 wr
  np : NP xs ∧ NP ys
/-- The boxes lie apart, and behind all that was there. -/
structure ApU (w0 w : World) (x y : Nat) : Prop where
  ne : x ≠ y
  x0 : w0.heap.size ≤ x
  y0 : w0.heap.size ≤ y
  x1 : x < w.heap.size
  y1 : y < w.heap.size
theorem Sd.pos {W : World} {lo hi x y u : Nat} {A : Option Addr} {q c : Nat} {s : Sp} {l : List Sp} {F : Value} (h : Sd W lo hi x y u A q c (s :: l) F) : 0 < q := by
  have := h.row.1; simp only [List.length_cons] at this; omega
theorem Sd.ne {W : World} {lo hi x y u : Nat} {A : Option Addr} {q c : Nat} {l : List Sp} {F : Value} (h : Sd W lo hi x y u A q c l F) (hq : 0 < q) : l ≠ [] := by
  rintro rfl; have := h.row.1; simp only [List.length_nil] at this; omega
theorem StU.ext {w0 w : World} {x y u v : Nat} {F G : Value} {TT : List Tok} {wr wd : World} {vl : Value} {xs ys os : List Sp} (h : StU w0 w x y u v F G TT wr vl xs ys os) (hx : Ext wr wd) : StU w0 w x y u v F G TT wd vl xs ys os := by
  obtain ⟨A, q, c, h1⟩ := h.sx
  obtain ⟨B, r, d, h2⟩ := h.sy
  exact ⟨⟨A, q, c, h1.ext hx⟩, ⟨B, r, d, h2.ext hx⟩, h.uv, h.o.ext hx, h.row, h.tt, h.sid, h.b.trans hx, h.np⟩
/-- A piece is taken from the first side. -/
theorem StU.pieceX {w0 w : World} {x y u v : Nat} {F G : Value} {TT : List Tok} {wr w1 : World} {vl : Value} {s : Sp} {xs ys os L : List Sp} (h : StU w0 w x y u v F G TT wr vl (s :: xs) ys os) (ap : ApU w0 w x y) (hp : PiecedU w0.heap.size w.heap.size x y u L F wr w1) :
    (∃ A q c, Sd w1 w0.heap.size w.heap.size x y u A q c L F) ∧ (∃ A q c, Sd w1 w0.heap.size w.heap.size y x v A q c ys G) ∧ Own w1 w.heap.size 48 3 vl os.length (spCells os) ∧ Ext w0 w1 := by
  obtain ⟨hk, hs⟩ := hp
  obtain ⟨A, q, c, h1⟩ := h.sx
  obtain ⟨B, r, d, h2⟩ := h.sy
  obtain ⟨_, g1, g2, g3, g4, _⟩ := h1.blk h1.pos
  refine ⟨hs, ⟨B, r, d, h2.ks hk (Ne.symm ap.ne) (Ne.symm g4) (fun hq => ?_) (fun hq => ?_)⟩, own_ks2 h.o hk ap.x1 g2, Below.trans h.b (hk.below h.b.size ap.x0 g1)⟩
  · obtain ⟨_, _, _, _, k5, _⟩ := h2.blk hq; exact k5
  · exact Ne.symm (h.uv (by simp) (h2.ne hq))
theorem StU.pieceY {w0 w : World} {x y u v : Nat} {F G : Value} {TT : List Tok} {wr w1 : World} {vl : Value} {s : Sp} {xs ys os L : List Sp} (h : StU w0 w x y u v F G TT wr vl xs (s :: ys) os) (ap : ApU w0 w x y) (hp : PiecedU w0.heap.size w.heap.size y x v L G wr w1) :
    (∃ A q c, Sd w1 w0.heap.size w.heap.size x y u A q c xs F) ∧ (∃ A q c, Sd w1 w0.heap.size w.heap.size y x v A q c L G) ∧ Own w1 w.heap.size 48 3 vl os.length (spCells os) ∧ Ext w0 w1 := by
  obtain ⟨hk, hs⟩ := hp
  obtain ⟨A, q, c, h1⟩ := h.sx
  obtain ⟨B, r, d, h2⟩ := h.sy
  obtain ⟨_, g1, g2, g3, g4, _⟩ := h2.blk h2.pos
  refine ⟨⟨A, q, c, h1.ks hk ap.ne (Ne.symm g4) (fun hq => ?_) (fun hq => ?_)⟩, hs, own_ks2 h.o hk ap.y1 g2, Below.trans h.b (hk.below h.b.size ap.y0 g1)⟩
  · obtain ⟨_, _, _, _, k5, _⟩ := h1.blk hq; exact k5
  · exact h.uv (h1.ne hq) (by simp)
/-- What the first side puts goes out as it is. -/
theorem StU.putX {w0 w : World} {x y u v : Nat} {F G : Value} {TT : List Tok} {wr w1 wk w2 : World} {vl v' : Value} {s : Sp} {xs ys os : List Sp} (h : StU w0 w x y u v F G TT wr vl (s :: xs) ys os) (ap : ApU w0 w x y) (hk : s.1 = 2) (hp : PiecedU w0.heap.size w.heap.size x y u xs F wr w1)
    (hx : Ext w1 wk) (hb : Below w.heap.size wk w2) (hw : w0.heap.size ≤ w.heap.size) (ho : Own w2 w.heap.size 48 3 v' (os ++ [s]).length (spCells (os ++ [s]))) : StU w0 w x y u v F G TT w2 v' xs ys (os ++ [s]) := by
  obtain ⟨⟨A, q, c, h1⟩, ⟨B, r, d, h2⟩, _, h4⟩ := h.pieceX ap hp
  have huo := (h.row.x _ (List.mem_cons_self ..)).1
  refine ⟨⟨A, q, c, (h1.ext hx).below hb (Nat.le_refl _) ap.x1⟩, ⟨B, r, d, (h2.ext hx).below hb (Nat.le_refl _) ap.y1⟩, fun _ h6 => h.uv (by simp) h6, ho, h.row.putX, ?_, ?_, Below.trans (h4.trans hx) (Below.mono hb hw), h.np.1.2, h.np.2⟩
  · rw [under_putX xs ys os _ huo hk]; exact h.tt
  · have h5 := h.sid; rw [tok_cons, tin_append, (sides _ huo).1, if_pos hk] at h5; omega
/-- What the other side puts is kept. -/
theorem StU.putY {w0 w : World} {x y u v : Nat} {F G : Value} {TT : List Tok} {wr w1 wk w2 : World} {vl v' : Value} {s : Sp} {xs ys os : List Sp} (h : StU w0 w x y u v F G TT wr vl xs (s :: ys) os) (ap : ApU w0 w x y) (hk : s.1 = 2) (hn : ∀ t q, xs = t :: q → t.1 ≠ 2) (hp : PiecedU w0.heap.size w.heap.size y x v ys G wr w1)
    (hx : Ext w1 wk) (hb : Below w.heap.size wk w2) (hw : w0.heap.size ≤ w.heap.size) {N : Nat} (hN : (tokS s).length = N) (ho : Own w2 w.heap.size 48 3 v' (os ++ [(1, (N : Int), (⟨#[]⟩ : ByteArray))]).length (spCells (os ++ [(1, (N : Int), (⟨#[]⟩ : ByteArray))]))) :
    StU w0 w x y u v F G TT w2 v' xs ys (os ++ [(1, (N : Int), ⟨#[]⟩)]) := by
  obtain ⟨⟨A, q, c, h1⟩, ⟨B, r, d, h2⟩, _, h4⟩ := h.pieceY ap hp
  have huo := (h.row.y _ (List.mem_cons_self ..)).1
  have hpl := put_len _ huo hk
  subst hN
  refine ⟨⟨A, q, c, (h1.ext hx).below hb (Nat.le_refl _) ap.x1⟩, ⟨B, r, d, (h2.ext hx).below hb (Nat.le_refl _) ap.y1⟩, fun h6 _ => h.uv h6 (by simp), ho, h.row.putY _ hpl.1, ?_, ?_, Below.trans (h4.trans hx) (Below.mono hb hw), h.np.1, h.np.2.2⟩
  · rw [under_putY xs ys os _ huo hk (noIns_tok xs h.row.x hn)]; exact h.tt
  · have h5 := h.sid; rw [tok_cons, tin_append, (sides _ huo).1, if_pos hk] at h5; omega
theorem StU.own2 {w0 w : World} {x y u v : Nat} {F G : Value} {TT : List Tok} {wr w1 w2 : World} {vl : Value} {s t : Sp} {xs ys os L M : List Sp} (h : StU w0 w x y u v F G TT wr vl (s :: xs) (t :: ys) os) (ap : ApU w0 w x y)
    (hp : PiecedU w0.heap.size w.heap.size x y u L F wr w1) (hq : PiecedU w0.heap.size w.heap.size y x v M G w1 w2) : Own w2 w.heap.size 48 3 vl os.length (spCells os) := by
  obtain ⟨B0, r0, d0, g2⟩ := h.sy
  obtain ⟨_, b1, b2, b3, b4, _⟩ := g2.blk g2.pos
  exact own_ks2 (h.pieceX ap hp).2.2.1 hq.1 ap.y1 b2
/-- Both begin with as many code points. -/
theorem StU.pieces {w0 w : World} {x y u v : Nat} {F G : Value} {TT : List Tok} {wr w1 w2 wk w4 : World} {vl v' : Value} {s t m : Sp} {xs ys os : List Sp} {n : Nat} (h : StU w0 w x y u v F G TT wr vl (s :: xs) (t :: ys) os) (ap : ApU w0 w x y) (ks : s.1 ≠ 2) (kt : t.1 ≠ 2)
    (hn : n = min (tokS s).length (tokS t).length) (hm : m = if t.1 = 3 then (1, 0, ⟨#[]⟩) else cutA s n) (hp : PiecedU w0.heap.size w.heap.size x y u (left s n xs) F wr w1) (hq : PiecedU w0.heap.size w.heap.size y x v (left t n ys) G w1 w2)
    (hx : Ext w2 wk) (hb : Below w.heap.size wk w4) (hw : w0.heap.size ≤ w.heap.size) (ho : Own w4 w.heap.size 48 3 v' (os ++ [m]).length (spCells (os ++ [m]))) :
    StU w0 w x y u v F G TT w4 v' (left s n xs) (left t n ys) (os ++ [m]) ∧ (left s n xs).length + (left t n ys).length < (s :: xs).length + (t :: ys).length := by
  obtain ⟨hk1, A, q, c, h1⟩ := hp
  obtain ⟨hk2, B, r, d, h2⟩ := hq
  obtain ⟨A0, q0, c0, g1⟩ := h.sx
  obtain ⟨B0, r0, d0, g2⟩ := h.sy
  obtain ⟨_, a1, a2, a3, a4, _⟩ := g1.blk g1.pos
  obtain ⟨_, b1, b2, b3, b4, _⟩ := g2.blk g2.pos
  have huv := h.uv (by simp) (by simp)
  obtain ⟨k1, k2, k3, k4⟩ := under_stepE h.row h.tt h.sid ks kt hn m hm
  have e1 : Ext w0 w1 := Below.trans h.b (hk1.below h.b.size ap.x0 a1)
  have e2 : Ext w0 w2 := Below.trans e1 (hk2.below e1.size ap.y0 b1)
  refine ⟨⟨⟨A, q, c, ((h1.ks hk2 ap.ne (Ne.symm b4) (fun _ => a4) (fun _ => huv)).ext hx).below hb (Nat.le_refl _) ap.x1⟩, ⟨B, r, d, (h2.ext hx).below hb (Nat.le_refl _) ap.y1⟩, fun _ _ => huv, ho, k1, k2, k3, Below.trans (e2.trans hx) (Below.mono hb hw), h.np.1.left ks, h.np.2.left kt⟩, k4⟩
theorem pieceU_c (lo hi x y u : Nat) (k : Int) (N M : Nat) (A : Option Addr) (q c : Nat) (l L : List Sp) (F : Value) (W : World) (h : Sd W lo hi x y u A q c ((k, (N : Int), ⟨#[]⟩) :: l) F) (hM : M ≤ N) (hN : N ≤ 2000000000) (hL : L = if N = M then l else (k, (N : Int) - (M : Int), ⟨#[]⟩) :: l) :
    Calls Tryd.prog 84 #[.pointer (some ⟨x, 0, none⟩), .int .i64 (M : Int)] W fun e W' => e = .returned (.agg #[.int .i64 k, .int .i64 (M : Int), .string ⟨#[]⟩]) ∧ PiecedU lo hi x y u L F W W' := by
  by_cases hc : N = M
  · subst hc; rw [if_pos rfl] at hL; subst hL
    exact pieceUE_c lo hi x y u k N ⟨#[]⟩ A q c L F W h
  · rw [if_neg hc] at hL; subst hL
    exact pieceUL_c lo hi x y u k N M A q c l F W h (by omega) hN
/-- One span more. -/
theorem appU {B : Nat} {vl : Value} (W : World) (os : List Sp) (s : Sp) (ho : Own W B 48 3 vl os.length (spCells os)) (hl : os.length ≤ 2000) :
    ∃ v' w', (Builtin.append_ #[22, 22] 22 #[vl, .slice (some ⟨W.heap.size, 0, none⟩) 1 1]).run Tryd.prog (W.alloc (.cells #[.int .i64 s.1, .int .i64 s.2.1, .string s.2.2] 48)) = .ok v' w' ∧
      (Own w' B 48 3 v' (os ++ [s]).length (spCells (os ++ [s])) ∧ Below B W w') := by
  obtain ⟨i, hi, hz0, hz1, hz2⟩ := info_parts info_sp5
  obtain ⟨v', w', h1, h2, h3⟩ := app_new (P := Tryd.prog) 22 22 48 i _ 3 32 Tryd.underlying22 hi hz0 hz1 hz2 rfl (by omega) (by omega)
    (Below.refl B W) ho (by omega) 1 #[.int .i64 s.1, .int .i64 s.2.1, .string s.2.2] rfl (by omega) (by simp [Value.oneCell']) 48
  exact ⟨v', w', h1, by rw [spCells_append, List.length_append]; exact h2, h3⟩
theorem asFirst_c (x y u v : Nat) (xs0 ys0 : List Sp) (w w0 : World) [Tab w0] (hap : ApU w0 w x y) (hw : w0.heap.size ≤ w.heap.size)
    (hst : StU w0 w x y u v (.func (.func 53) #[] #[]) (.func (.func 54) #[] #[]) (underT (tok xs0) (tok ys0)) w (.slice none 0 0) xs0 ys0 []) :
    Calls Tryd.prog 51 #[.pointer (some ⟨x, 0, none⟩), .pointer (some ⟨y, 0, none⟩)] w fun e w' => Ext w0 w' ∧ ∃ vl os, e = .returned vl ∧
      Own w' w.heap.size 48 3 vl os.length (spCells os) ∧ RowO 1000000000 900000000 2000 [] [] os ∧ tok os = underT (tok xs0) (tok ys0) := by
  obtain ⟨i, hi, hz0, hz1, hz2⟩ := info_parts info_sp5
  obtain ⟨TT, hTT⟩ : ∃ TT, underT (tok xs0) (tok ys0) = TT := ⟨_, rfl⟩
  rw [hTT] at hst ⊢
  have HST := Lib.hid hst; have HAP := Lib.hid hap; have HW := Lib.hid hw
  have i0 : ∀ W : World, (Instr.index 94 (.agg #[.pointer (some ⟨x, 0, none⟩), .pointer (some ⟨y, 0, none⟩)]) (.int .i64 0)).run Tryd.prog W = .ok (.pointer (some ⟨x, 0, none⟩)) W := fun _ => by kernel_rfl
  have i1 : ∀ W : World, (Instr.index 94 (.agg #[.pointer (some ⟨x, 0, none⟩), .pointer (some ⟨y, 0, none⟩)]) (.int .i64 1)).run Tryd.prog W = .ok (.pointer (some ⟨y, 0, none⟩)) W := fun _ => by kernel_rfl
  clear hst hap hw hTT
  go_enter Tryd.func51, Tryd.ntmps51
  go_wp2_with fail
  go_loopw [5] (fun vl wr => ∃ (xs ys os : List Sp), Hid (StU w0 w x y u v (.func (.func 53) #[] #[]) (.func (.func 54) #[] #[]) TT wr vl xs ys os)) (fun _ wr => leftU x wr + leftU y wr)
  case atStart => exact ⟨xs0, ys0, [], HST⟩
  case round =>
    obtain ⟨xs1, ys1, os1, HS1⟩ := hrel
    clear HST
    obtain ⟨N0, hN0⟩ : ∃ N0, leftU x wr + leftU y wr = N0 := ⟨_, rfl⟩
    have hN1 : xs1.length + ys1.length = N0 := by
      obtain ⟨_, _, _, g1⟩ := HS1.out.sx
      obtain ⟨_, _, _, g2⟩ := HS1.out.sy
      rw [← hN0, g1.left, g2.left]
    rw [hN0]
    clear hN0
    obtain ⟨wo, hwo⟩ : ∃ wo, wr = wo := ⟨_, rfl⟩
    subst hwo
    go_wp2_with fail
    go_loopw [5, 12] (fun vl z wi => ∃ (k : Nat) (xs ys os : List Sp), z = .int .i64 k ∧ k ≤ 2 ∧ xs.length + ys.length ≤ N0 ∧ Hid (StU w0 w x y u v (.func (.func 53) #[] #[]) (.func (.func 54) #[] #[]) TT wi vl xs ys os) ∧ Hid ((1 ≤ k → ∀ t q, xs = t :: q → t.1 ≠ 2) ∧ (2 ≤ k → ∀ t q, ys = t :: q → t.1 ≠ 2))) (fun _ z _ => 2 - (intOf z).toNat)
    case atStart => exact ⟨0, xs1, ys1, os1, rfl, by omega, by omega, HS1, Lib.hid ⟨fun h => by omega, fun h => by omega⟩⟩
    case round =>
      obtain ⟨k, xs, ys, os, rfl, hk2, hln, HSK, HNP⟩ := hrel
      clear HS1 hN1
      obtain ⟨A, q, c, hx⟩ := HSK.out.sx
      obtain ⟨B, r, d, hy⟩ := HSK.out.sy
      have HX := Lib.hid hx; have HY := Lib.hid hy
      rcases (by omega : k = 0 ∨ k = 1 ∨ k = 2) with hk | hk | hk
-- BEGIN ROUND
      · have hz : ((k : Nat) : Int) = 0 := by omega
        rw [hz]
        have HPU := Lib.hid (putsU_c _ _ _ _ _ _ _ _ _ _ _ hx)
        clear hx hy hk2
        by_cases hput : (hdS xs).1 = 2
        · rw [decide_eq_true hput] at HPU
          obtain ⟨a1, a2, a3, zt, rfl⟩ : ∃ a1 a2 a3 zt, xs = (a1, a2, a3) :: zt := by
            rcases xs with _ | ⟨⟨a1, a2, a3⟩, zt⟩
            · exact absurd hput (by decide)
            · exact ⟨a1, a2, a3, zt, rfl⟩
          have hput : a1 = 2 := hput
          subst hput
          obtain rfl : a2 = 0 := by
            rcases (HSK.out.row.x _ (List.mem_cons_self ..)).1 with ⟨_, h, _⟩ | ⟨h, _⟩
            · exact h
            · simp only at h; omega
          have hlo : os.length ≤ 2000 := by have := HSK.out.row.l; omega
          have hux : x < w.heap.size ∧ y < w.heap.size := ⟨HAP.out.x1, HAP.out.y1⟩
          have HT := Lib.hid (fun W => itselfU_c 2 0 a3 W)
          go_wp2_with fail
          refine HPU.out.mono ?_; rintro e w' ⟨rfl, rfl⟩
          obtain ⟨wd, hwd⟩ : ∃ W, w'.drew = W := ⟨_, rfl⟩
          have ed : Ext w' wd := by rw [← hwd]; exact (Ext.refl _).drew
          have HED := Lib.hid ed
          have hF : w'.drew.cell? ⟨x, 1, none⟩ = some (.func (.func 53) #[] #[]) := by rw [hwd]; exact ext_cell ed (HX.out.box.cell rfl)
          have HSD := Lib.hid (HSK.out.ext ed)
          have HPI := Lib.hid (pieceUE_c _ _ x y u 2 0 a3 _ _ _ zt _ wd (HX.out.ext ed))
          clear HPU ed
          go_wp2_with fail
          rw [hwd] at hF
          refine region_T (fun W => W.cell? ⟨x, 1, none⟩ = some (.func (.func 53) #[] #[])) 10 (by kernel_rfl) ((by rw [hwd]; exact hF)) (fun hHeld => ?_)
          refine wpAnyT_take (i := 0) (v := ?_) rfl (by kernel_rfl) (fun _ _ _ h => h) (Or.inl ⟨by rfl, ?_⟩) (by assumption) ?_
          rotate_left
          · (intro W hSw; (try dsimp only at hSw); go_simp; (try with_reducible rfl))
          try simp only [Act.put, List.setIfInBounds_toArray, List.set_cons_zero, List.set_cons_succ]
          refine wpAnyT_take (i := 1) (v := ?_) rfl (by kernel_rfl) (fun _ _ _ h => h) (Or.inl ⟨by rfl, ?_⟩) (by assumption) ?_
          rotate_left
          · (intro W hSw; (try dsimp only at hSw); go_simp; (try with_reducible rfl))
          try simp only [Act.put, List.setIfInBounds_toArray, List.set_cons_zero, List.set_cons_succ]
          refine wpAnyT_take (i := 2) (v := ?_) rfl (by kernel_rfl) (fun _ _ _ h => h) (Or.inl ⟨by rfl, ?_⟩) (by assumption) ?_
          rotate_left
          · (intro W hSw; (try dsimp only at hSw); go_simp; (try with_reducible rfl))
          try simp only [Act.put, List.setIfInBounds_toArray, List.set_cons_zero, List.set_cons_succ]
          refine wpAnyT_take (i := 3) (v := ?_) rfl (by kernel_rfl) (fun _ _ _ h => h) (Or.inl ⟨by rfl, ?_⟩) (by assumption) ?_
          rotate_left
          · (intro W hSw; (try dsimp only at hSw); go_simp; (try with_reducible rfl))
          try simp only [Act.put, List.setIfInBounds_toArray, List.set_cons_zero, List.set_cons_succ]
          refine wpAnyT_take (i := 4) (v := ?_) rfl (by kernel_rfl) (fun _ _ _ h => h) (Or.inl ⟨by rfl, ?_⟩) (by assumption) ?_
          rotate_left
          · (intro W hSw; (try dsimp only at hSw); go_simp; (try with_reducible rfl))
          try simp only [Act.put, List.setIfInBounds_toArray, List.set_cons_zero, List.set_cons_succ]
          refine wpAnyT_take (i := 5) (v := ?_) rfl (by kernel_rfl) (fun _ _ _ h => h) (Or.inl ⟨by rfl, ?_⟩) (by assumption) ?_
          rotate_left
          · (intro W hSw; (try dsimp only at hSw); go_simp; (try with_reducible rfl))
          try simp only [Act.put, List.setIfInBounds_toArray, List.set_cons_zero, List.set_cons_succ]
          refine wpAnyT_one (i := 6) rfl (by kernel_rfl) (fun K hK => ?_)
          go_simp
          refine HPI.out.mono ?_; rintro e w1 ⟨rfl, hp1⟩
          have hf1 : w1.cell? ⟨x, 1, none⟩ = some (.func (.func 53) #[] #[]) := by obtain ⟨_, _, _, _, h⟩ := hp1; exact h.box.cell rfl
          have HP1 := Lib.hid hp1
          clear hp1
          refine hK.out _ _ (fun _ => hf1) (fun hH => ?_)
          replace hHeld := hH (by decide)
          clear hK K hH
          try simp only [Act.put, List.setIfInBounds_toArray, List.set_cons_zero, List.set_cons_succ]
          refine wpAnyT_one (i := 7) rfl (by kernel_rfl) (fun K hK => ?_)
          go_simp
          refine (HT.out w1).mono ?_; rintro e wk ⟨rfl, hxk⟩
          have hfk := ext_cell hxk hf1
          refine hK.out _ _ (fun _ => hfk) (fun hH => ?_)
          replace hHeld := hH (by decide)
          clear hK K hH
          try simp only [Act.put, List.setIfInBounds_toArray, List.set_cons_zero, List.set_cons_succ]
          refine wpAnyT_one (i := 8) rfl (by kernel_rfl) (fun K hK => ?_)
          go_simp
          refine hK.out _ _ (fun _ => ext_cell ((Ext.refl _).alloc _) hfk) (fun hH => ?_)
          replace hHeld := hH (by decide)
          clear hK K hH
          try simp only [Act.put, List.setIfInBounds_toArray, List.set_cons_zero, List.set_cons_succ]
          refine wpAnyT_one (i := 9) rfl (by kernel_rfl) (fun K hK => ?_)
          have HOK := Lib.hid ((HSD.out.pieceX HAP.out HP1.out).2.2.1.ext hxk)
          have HAPP := Lib.hid (appU wk os ((2, 0, a3)) HOK.out hlo)
          refine step_append_ex (by rfl) _ _ _ (by rfl) (by rfl) (by rfl) HAPP.out ?_
          rintro v' w2 ⟨hown, hbel⟩
          have hf2 : w2.cell? ⟨x, 1, none⟩ = some (.func (.func 53) #[] #[]) := (hbel.cell (p := ⟨x, 1, none⟩) (by simp only; omega)).trans hfk
          refine hK.out _ _ (fun _ => hf2) (fun hH => ?_)
          replace hHeld := hH (by decide)
          clear hK K hH
          try simp only [Act.put, List.setIfInBounds_toArray, List.set_cons_zero, List.set_cons_succ]
          refine wpAnyT_one (i := 10) rfl (by kernel_rfl) (fun K hK => ?_)
          go_simp
          refine hK.out _ _ (fun h => absurd rfl h) (fun _ => ?_)
          clear hK K hHeld
          try simp only [Act.put, List.setIfInBounds_toArray, List.set_cons_zero, List.set_cons_succ]
          refine wpAnyT_done (by kernel_rfl) ?_ _
          go_wp2_with fail
          go_roundw
          case rel =>
            exact ⟨1, zt, ys, os ++ [(2, 0, a3)], by rfl, by omega, by simp only [List.length_cons] at hln; omega, Lib.hid (HSD.out.putX HAP.out rfl HP1.out hxk hbel HW.out hown), Lib.hid ⟨fun _ => HSD.out.np.1.1 rfl, fun h => absurd h (by omega)⟩⟩
          case measure => (simp [intOf]; try omega)
        · rw [decide_eq_false hput] at HPU
          go_wp2_with fail
          refine HPU.out.mono ?_; rintro e w' ⟨rfl, rfl⟩
          go_wp2_with fail
          go_roundw
          case rel => exact ⟨1, xs, ys, os, by rfl, by omega, hln, HSK, Lib.hid ⟨fun _ t q h => by subst h; exact hput, fun h => absurd h (by omega)⟩⟩
          case measure => (simp [intOf]; try omega)
      · have hz : ((k : Nat) : Int) = 1 := by omega
        rw [hz]
        have HPU := Lib.hid (putsU_c _ _ _ _ _ _ _ _ _ _ _ hy)
        clear hx hy hk2
        by_cases hput : (hdS ys).1 = 2
        · rw [decide_eq_true hput] at HPU
          obtain ⟨a1, a2, a3, zt, rfl⟩ : ∃ a1 a2 a3 zt, ys = (a1, a2, a3) :: zt := by
            rcases ys with _ | ⟨⟨a1, a2, a3⟩, zt⟩
            · exact absurd hput (by decide)
            · exact ⟨a1, a2, a3, zt, rfl⟩
          have hput : a1 = 2 := hput
          subst hput
          obtain rfl : a2 = 0 := by
            rcases (HSK.out.row.y _ (List.mem_cons_self ..)).1 with ⟨_, h, _⟩ | ⟨h, _⟩
            · exact h
            · simp only at h; omega
          have hlo : os.length ≤ 2000 := by have := HSK.out.row.l; omega
          have hux : x < w.heap.size ∧ y < w.heap.size := ⟨HAP.out.x1, HAP.out.y1⟩
          have huo := (HSK.out.row.y _ (List.mem_cons_self ..)).1
          have hpl := put_len _ huo rfl
          simp only at hpl
          have hbt := HSK.out.row.n
          obtain ⟨n1, n2, n3⟩ := HSK.out.row.pops
          have hyn0 := sumN_pos zt fun s hs => (HSK.out.row.y s (List.mem_cons_of_mem _ hs)).1.nonneg
          rw [sumN_cons, sumT_cons] at hbt
          simp only at hbt
          have hpl2 : outL [(2, 0, a3)] = ((tokS (2, 0, a3)).length : Int) := by have h := outL_cons (2, 0, a3) []; have e0 : outL ([] : List Sp) = 0 := rfl; rw [e0] at h; simp only at h; rw [h, hpl.2]; omega
          have hpl1 := hpl.1
          obtain ⟨N, hN⟩ : ∃ N, (tokS (2, 0, a3)).length = N := ⟨_, rfl⟩
          rw [hN] at hpl1 hpl2
          have hbs : a3.size ≤ 1000000000 := by omega
          have hNb : N ≤ 1000000000 := by omega
          have HT := Lib.hid (fun (W : World) (hx : Ext w0 W) => have hTb := tab_ext hx; keptU_c 2 0 a3 N W hbs hpl2 hNb)
          have HN := Lib.hid hN
          clear huo hpl hbt n1 n2 n3 hyn0 hpl2 hpl1 hN hbs hNb
          go_wp2_with fail
          refine HPU.out.mono ?_; rintro e w' ⟨rfl, rfl⟩
          obtain ⟨wd, hwd⟩ : ∃ W, w'.drew = W := ⟨_, rfl⟩
          have ed : Ext w' wd := by rw [← hwd]; exact (Ext.refl _).drew
          have HED := Lib.hid ed
          have hF : w'.drew.cell? ⟨y, 1, none⟩ = some (.func (.func 54) #[] #[]) := by rw [hwd]; exact ext_cell ed (HY.out.box.cell rfl)
          have HSD := Lib.hid (HSK.out.ext ed)
          have HPI := Lib.hid (pieceUE_c _ _ y x v 2 0 a3 _ _ _ zt _ wd (HY.out.ext ed))
          clear HPU ed
          go_wp2_with fail
          rw [hwd] at hF
          refine region_T (fun W => W.cell? ⟨y, 1, none⟩ = some (.func (.func 54) #[] #[])) 10 (by kernel_rfl) ((by rw [hwd]; exact hF)) (fun hHeld => ?_)
          refine wpAnyT_take (i := 0) (v := ?_) rfl (by kernel_rfl) (fun _ _ _ h => h) (Or.inl ⟨by rfl, ?_⟩) (by assumption) ?_
          rotate_left
          · (intro W hSw; (try dsimp only at hSw); go_simp; (try with_reducible rfl))
          try simp only [Act.put, List.setIfInBounds_toArray, List.set_cons_zero, List.set_cons_succ]
          refine wpAnyT_take (i := 1) (v := ?_) rfl (by kernel_rfl) (fun _ _ _ h => h) (Or.inl ⟨by rfl, ?_⟩) (by assumption) ?_
          rotate_left
          · (intro W hSw; (try dsimp only at hSw); go_simp; (try with_reducible rfl))
          try simp only [Act.put, List.setIfInBounds_toArray, List.set_cons_zero, List.set_cons_succ]
          refine wpAnyT_take (i := 2) (v := ?_) rfl (by kernel_rfl) (fun _ _ _ h => h) (Or.inl ⟨by rfl, ?_⟩) (by assumption) ?_
          rotate_left
          · (intro W hSw; (try dsimp only at hSw); go_simp; (try with_reducible rfl))
          try simp only [Act.put, List.setIfInBounds_toArray, List.set_cons_zero, List.set_cons_succ]
          refine wpAnyT_take (i := 3) (v := ?_) rfl (by kernel_rfl) (fun _ _ _ h => h) (Or.inl ⟨by rfl, ?_⟩) (by assumption) ?_
          rotate_left
          · (intro W hSw; (try dsimp only at hSw); go_simp; (try with_reducible rfl))
          try simp only [Act.put, List.setIfInBounds_toArray, List.set_cons_zero, List.set_cons_succ]
          refine wpAnyT_take (i := 4) (v := ?_) rfl (by kernel_rfl) (fun _ _ _ h => h) (Or.inl ⟨by rfl, ?_⟩) (by assumption) ?_
          rotate_left
          · (intro W hSw; (try dsimp only at hSw); go_simp; (try with_reducible rfl))
          try simp only [Act.put, List.setIfInBounds_toArray, List.set_cons_zero, List.set_cons_succ]
          refine wpAnyT_take (i := 5) (v := ?_) rfl (by kernel_rfl) (fun _ _ _ h => h) (Or.inl ⟨by rfl, ?_⟩) (by assumption) ?_
          rotate_left
          · (intro W hSw; (try dsimp only at hSw); go_simp; (try with_reducible rfl))
          try simp only [Act.put, List.setIfInBounds_toArray, List.set_cons_zero, List.set_cons_succ]
          refine wpAnyT_one (i := 6) rfl (by kernel_rfl) (fun K hK => ?_)
          go_simp
          refine HPI.out.mono ?_; rintro e w1 ⟨rfl, hp1⟩
          have hf1 : w1.cell? ⟨y, 1, none⟩ = some (.func (.func 54) #[] #[]) := by obtain ⟨_, _, _, _, h⟩ := hp1; exact h.box.cell rfl
          have HP1 := Lib.hid hp1
          clear hp1
          refine hK.out _ _ (fun _ => hf1) (fun hH => ?_)
          replace hHeld := hH (by decide)
          clear hK K hH
          try simp only [Act.put, List.setIfInBounds_toArray, List.set_cons_zero, List.set_cons_succ]
          refine wpAnyT_one (i := 7) rfl (by kernel_rfl) (fun K hK => ?_)
          go_simp
          refine (HT.out w1 (HSD.out.pieceY HAP.out HP1.out).2.2.2).mono ?_; rintro e wk ⟨rfl, hxk⟩
          have hfk := ext_cell hxk hf1
          refine hK.out _ _ (fun _ => hfk) (fun hH => ?_)
          replace hHeld := hH (by decide)
          clear hK K hH
          try simp only [Act.put, List.setIfInBounds_toArray, List.set_cons_zero, List.set_cons_succ]
          refine wpAnyT_one (i := 8) rfl (by kernel_rfl) (fun K hK => ?_)
          go_simp
          refine hK.out _ _ (fun _ => ext_cell ((Ext.refl _).alloc _) hfk) (fun hH => ?_)
          replace hHeld := hH (by decide)
          clear hK K hH
          try simp only [Act.put, List.setIfInBounds_toArray, List.set_cons_zero, List.set_cons_succ]
          refine wpAnyT_one (i := 9) rfl (by kernel_rfl) (fun K hK => ?_)
          have HOK := Lib.hid ((HSD.out.pieceY HAP.out HP1.out).2.2.1.ext hxk)
          have HAPP := Lib.hid (appU wk os ((1, (N : Int), (⟨#[]⟩ : ByteArray))) HOK.out hlo)
          refine step_append_ex (by rfl) _ _ _ (by rfl) (by rfl) (by rfl) HAPP.out ?_
          rintro v' w2 ⟨hown, hbel⟩
          have hf2 : w2.cell? ⟨y, 1, none⟩ = some (.func (.func 54) #[] #[]) := (hbel.cell (p := ⟨y, 1, none⟩) (by simp only; omega)).trans hfk
          refine hK.out _ _ (fun _ => hf2) (fun hH => ?_)
          replace hHeld := hH (by decide)
          clear hK K hH
          try simp only [Act.put, List.setIfInBounds_toArray, List.set_cons_zero, List.set_cons_succ]
          refine wpAnyT_one (i := 10) rfl (by kernel_rfl) (fun K hK => ?_)
          go_simp
          refine hK.out _ _ (fun h => absurd rfl h) (fun _ => ?_)
          clear hK K hHeld
          try simp only [Act.put, List.setIfInBounds_toArray, List.set_cons_zero, List.set_cons_succ]
          refine wpAnyT_done (by kernel_rfl) ?_ _
          go_wp2_with fail
          go_roundw
          case rel =>
            exact ⟨2, xs, zt, os ++ [(1, (N : Int), (⟨#[]⟩ : ByteArray))], by rfl, by omega, by simp only [List.length_cons] at hln; omega, Lib.hid (HSD.out.putY HAP.out rfl (HNP.out.1 (by omega)) HP1.out hxk hbel HW.out HN.out hown), Lib.hid ⟨fun _ => HNP.out.1 (by omega), fun _ => HSD.out.np.2.1 rfl⟩⟩
          case measure => (simp [intOf]; try omega)
        · rw [decide_eq_false hput] at HPU
          go_wp2_with fail
          refine HPU.out.mono ?_; rintro e w' ⟨rfl, rfl⟩
          go_wp2_with fail
          go_roundw
          case rel => exact ⟨2, xs, ys, os, by rfl, by omega, hln, HSK, Lib.hid ⟨fun _ => HNP.out.1 (by omega), fun _ t q h => by subst h; exact hput⟩⟩
          case measure => (simp [intOf]; try omega)
      · have hz : ((k : Nat) : Int) = 2 := by omega
        rw [hz]
        have hnx := HNP.out.1 (by omega); have hny := HNP.out.2 (by omega)
        rcases underC xs ys HSK.out.row.x HSK.out.row.y HSK.out.sid with ⟨rfl, rfl⟩ | ⟨a1, a2, a3, r, rfl, h2⟩ | ⟨b1, b2, b3, r, rfl, h2, _⟩ | ⟨a1, a2, a3, xt, b1, b2, b3, yt, rfl, rfl, hka, hkb⟩
        · have hq0 := hx.row.1
          simp only [List.length_nil] at hq0
          subst hq0
          have x0 : wr.cell? ⟨x, 0, none⟩ = some (.slice A 0 c) := HX.out.box.cell rfl
          have htt := HSK.out.tt
          rw [tok_nil, underT_nil, List.append_nil] at htt
          have HTE := Lib.hid htt
          clear hx hy hnx hny htt
          go_wp2_with fail
          (try rw [Exit.noGoto_ret])
          go_ret
          exact ⟨HSK.out.b, _, os, rfl, HSK.out.o, HSK.out.row, HTE.out⟩
        · exact absurd h2 (hnx _ _ rfl)
        · exact absurd h2 (hny _ _ rfl)
        · have hso := (HSK.out.row.x _ (List.mem_cons_self ..)).1
          have huo := (HSK.out.row.y _ (List.mem_cons_self ..)).1
          obtain ⟨n1, n2, n3⟩ := HSK.out.row.pops
          have hbn := HSK.out.row.n
          have hbt := HSK.out.row.t
          have hx0 := hso.nonneg
          have hy0 := huo.nonneg
          have hxn0 := sumN_pos xt fun s hs => (HSK.out.row.x s (List.mem_cons_of_mem _ hs)).1.nonneg
          have hyn0 := sumN_pos yt fun s hs => (HSK.out.row.y s (List.mem_cons_of_mem _ hs)).1.nonneg
          rw [sumN_cons, sumN_cons, sumT_cons] at hbn
          rw [sumT_cons] at hbt
          simp only at hbn hbt hx0 hy0 hka hkb
          obtain ⟨N1, rfl⟩ := Int.eq_ofNat_of_zero_le hx0
          obtain ⟨N2, rfl⟩ := Int.eq_ofNat_of_zero_le hy0
          have hN1 : (tokS (a1, (N1 : Int), a3)).length = N1 := by rw [tokS_num _ _ _ hka, List.length_replicate, Int.toNat_natCast]
          have hN2 : (tokS (b1, (N2 : Int), b3)).length = N2 := by rw [tokS_num _ _ _ hkb, List.length_replicate, Int.toNat_natCast]
          obtain rfl : a3 = ⟨#[]⟩ := by rcases hso with ⟨k1, _⟩ | ⟨_, _, k1⟩; exact absurd k1 hka; exact k1
          obtain rfl : b3 = ⟨#[]⟩ := by rcases huo with ⟨k1, _⟩ | ⟨_, _, k1⟩; exact absurd k1 hkb; exact k1
          obtain ⟨M, hM⟩ : ∃ M, M = min N1 N2 := ⟨_, rfl⟩
          obtain ⟨mm, hmm⟩ : ∃ mm : Sp, mm = if b1 = 3 then (1, 0, ⟨#[]⟩) else cutA (a1, (N1 : Int), ⟨#[]⟩) M := ⟨_, rfl⟩
          have hM1 : M ≤ N1 := by omega
          have hM2 : M ≤ N2 := by omega
          have hNb1 : N1 ≤ 2000000000 := by omega
          have hNb2 : N2 ≤ 2000000000 := by omega
          have hLx : left (a1, (N1 : Int), ⟨#[]⟩) M xt = if N1 = M then xt else (a1, (N1 : Int) - (M : Int), ⟨#[]⟩) :: xt := by unfold left; rw [hN1]; split; rfl; unfold cutB; rw [if_neg hka]
          have hLy : left (b1, (N2 : Int), ⟨#[]⟩) M yt = if N2 = M then yt else (b1, (N2 : Int) - (M : Int), ⟨#[]⟩) :: yt := by unfold left; rw [hN2]; split; rfl; unfold cutB; rw [if_neg hkb]
          have HP := Lib.hid (fun (W : World) (h : Sd W w0.heap.size w.heap.size x y u A q c ((a1, (N1 : Int), ⟨#[]⟩) :: xt) (.func (.func 53) #[] #[])) => pieceU_c _ _ x y u a1 N1 M A q c xt _ _ W h hM1 hNb1 hLx)
          have HPY := Lib.hid (fun (W : World) (A : Option Addr) (q c : Nat) (h : Sd W w0.heap.size w.heap.size y x v A q c ((b1, (N2 : Int), ⟨#[]⟩) :: yt) (.func (.func 54) #[] #[])) => pieceU_c _ _ y x v b1 N2 M A q c yt _ _ W h hM2 hNb2 hLy)
          have HME := Lib.hid (fun W => meetU_c (a1, (M : Int), ⟨#[]⟩) (b1, (M : Int), ⟨#[]⟩) W)
          have hval : (if (b1, (M : Int), (⟨#[]⟩ : ByteArray)).1 = 3 then Value.agg #[.int .i64 1, .int .i64 0, .string ⟨#[]⟩] else .agg #[.int .i64 (a1, (M : Int), (⟨#[]⟩ : ByteArray)).1, .int .i64 (a1, (M : Int), (⟨#[]⟩ : ByteArray)).2.1, .string (a1, (M : Int), (⟨#[]⟩ : ByteArray)).2.2]) = .agg #[.int .i64 mm.1, .int .i64 mm.2.1, .string mm.2.2] := by
            rw [hmm]
            simp only
            split
            · rfl
            · unfold cutA; rw [if_neg hka]
          rw [hval] at HME
          simp only at HME
          have hmin : min (N1 : Int) (N2 : Int) = (M : Int) := by omega
          have hmin2 : (if (N1 : Int) ≤ (N2 : Int) then (N1 : Int) else (N2 : Int)) = (M : Int) := by split <;> omega
          have hlo : os.length ≤ 2000 := by have := HSK.out.row.l; omega
          have HKA := Lib.hid hka; have HKB := Lib.hid hkb; have HMM := Lib.hid hmm
          have HMN : Hid (M = min (tokS (a1, (N1 : Int), ⟨#[]⟩)).length (tokS (b1, (N2 : Int), ⟨#[]⟩)).length) := Lib.hid (by rw [hN1, hN2]; exact hM)
          have hlX := hx.row.1; have hlY := hy.row.1
          simp only [List.length_cons] at hlX hlY
          obtain ⟨m, hm⟩ : ∃ m, xt.length = m := ⟨_, rfl⟩
          obtain ⟨n, hn⟩ : ∃ n, yt.length = n := ⟨_, rfl⟩
          rw [hm] at hlX; rw [hn] at hlY
          subst hlX; subst hlY
          obtain ⟨b, o, hA, hbb, q0, q1, -⟩ := sp_at hx.row.2 hx.row.1 (show 0 < m + 1 by omega)
          obtain ⟨b', o', hB, hbb', r0, r1, -⟩ := sp_at hy.row.2 hy.row.1 (show 0 < n + 1 by omega)
          subst hA; subst hB
          simp only [List.getElem_cons_zero, Nat.zero_mul, Nat.add_zero] at q0 q1 r0 r1
          have x0 : wr.cell? ⟨x, 0, none⟩ = some (.slice (some ⟨b, o, none⟩) (m + 1) c) := hx.box.cell rfl
          have y0 : wr.cell? ⟨y, 0, none⟩ = some (.slice (some ⟨b', o', none⟩) (n + 1) d) := hy.box.cell rfl
          have e0 : ((m : Int) + 1 == 0) = false := by rw [beq_eq_false_iff_ne]; omega
          have e1 : (0 : Int) < (m : Int) + 1 := by omega
          have e2 : (0 : Int) < (n : Int) + 1 := by omega
          have hmb : M ≤ 2000000000 := by omega
          have hln2 : xt.length + 1 + (yt.length + 1) ≤ N0 := by simpa only [List.length_cons] using hln
          have HLN := Lib.hid hln2
          have hrr := Ext.refl wr
          clear hx hy hnx hny hso huo n1 n2 n3 hbn hbt hx0 hy0 hxn0 hyn0 hka hkb hN1 hN2 hM hmm hLx hLy hval hm hn hln hln2 q0 r0 hk2 HNP hz hM1 hM2
          go_wp2_with fail
          go_region_held3 (fun W => Ext wr W ∧ W.cell? ⟨x, 0, none⟩ = some (.slice (some ⟨b, o, none⟩) (m + 1) c) ∧ W.cell? ⟨b, o + 1, none⟩ = some (.int .i64 (N1 : Int)) ∧ W.cell? ⟨y, 0, none⟩ = some (.slice (some ⟨b', o', none⟩) (n + 1) d) ∧ W.cell? ⟨b', o' + 1, none⟩ = some (.int .i64 (N2 : Int))) ((go_split_ands; refine ⟨?_, ?_, ?_, ?_, ?_⟩ <;> first | (exact Ext.drew ‹_›) | go_keep)) (fail)
          go_split_ands
          have er : Ext wr wr.drew := by assumption
          obtain ⟨wd, hwd⟩ : ∃ x, wr.drew = x := ⟨_, rfl⟩
          rw [hwd] at er ⊢
          clear hwd
          have HSD := Lib.hid (HSK.out.ext er)
          have HPX := Lib.hid (HP.out wd (HX.out.ext er))
          clear x0 y0 q1 r1 HP HX HY
          go_wp2_with fail
          refine HPX.out.mono ?_; rintro e w1 ⟨rfl, hp1⟩
          have HP1 := Lib.hid hp1
          obtain ⟨-, ⟨B', r', d', hy1⟩, -, -⟩ := HSD.out.pieceX HAP.out hp1
          have HPZ := Lib.hid (HPY.out w1 B' r' d' hy1)
          clear hp1 hy1
          go_wp2_with fail
          refine HPZ.out.mono ?_; rintro e w2 ⟨rfl, hp2⟩
          have HP2 := Lib.hid hp2
          clear hp2
          go_wp2_with fail
          refine (HME.out _).mono ?_; rintro e w3 ⟨rfl, hx3⟩
          have HX3 := Lib.hid hx3
          have HOK := Lib.hid ((HSD.out.own2 HAP.out HP1.out HP2.out).ext hx3)
          clear hx3
          obtain ⟨v', w4, happ, hown, hbel⟩ := appU w3 os mm HOK.out hlo
          have HA4 := Lib.hid happ
          obtain ⟨hfin, hlt⟩ := HSD.out.pieces HAP.out HKA.out HKB.out HMN.out HMM.out HP1.out HP2.out HX3.out hbel HW.out hown
          have HFIN := Lib.hid hfin; have HLT := Lib.hid hlt
          clear happ hown hbel hfin hlt
          obtain ⟨m1, m2, m3⟩ := mm
          go_wp2_with (at_builtin; refine wpList_append_run rfl rfl HA4.out rfl rfl ?_)
          go_roundw
          case rel => exact ⟨_, _, _, HFIN⟩
          case measure =>
            obtain ⟨_, _, _, g1⟩ := HFIN.out.sx
            obtain ⟨_, _, _, g2⟩ := HFIN.out.sy
            rw [g1.left, g2.left]
            have h1 := HLT.out; have h2 := HLN.out
            simp only [List.length_cons] at h1
            omega
theorem underWP_c (A : Option Addr) (q c : Nat) (a : List Sp) (B : Option Addr) (q' c' : Nat) (b : List Sp) (w : World) [Tab w] (h : RdO w A q c a) (h' : RdO w B q' c' b) (hq : q ≤ 1000) (hq' : q' ≤ 1000)
    (hta : ∀ s ∈ a, s.2.2.size ≤ 1000000000) (htb : ∀ s ∈ b, s.2.2.size ≤ 1000000000) (hT : sumT a + sumT b ≤ 900000000) (hma : mayL a = 0) (hmb : mayL b = 0) (hf : inL a = inL b) :
    Calls Tryd.prog 24 #[.slice A q c, .slice B q' c'] w fun e w' => Ext w w' ∧ ∃ A n c, e = .returned (.tuple #[.slice A n c, .int .i64 0]) ∧ RdO w' A n c (underL a b) := by
  obtain ⟨alla, ai0, ai1⟩ := mayL_all hma (by have := h.1; omega)
  obtain ⟨allb, bi0, bi1⟩ := mayL_all hmb (by have := h'.1; omega)
  have oka : ∀ s ∈ a, OkW s := fun s hs => okW_of_may (alla s hs)
  have okb : ∀ s ∈ b, OkW s := fun s hs => okW_of_may (allb s hs)
  have hna : sumN a = inL a := (may_sum a alla).2
  have hnb : sumN b = inL b := (may_sum b allb).2
  have Oka : Ok a := ⟨(may_sum a alla).1, by omega, by omega⟩
  have Okb : Ok b := ⟨(may_sum b allb).1, by omega, by omega⟩
  have HM := Lib.hid (mayU_c A q c a B q' c' b w h h' hq hq' hta htb)
  have hE : overE a b = 0 := by unfold overE; rw [if_pos hma, if_pos hmb, if_pos hf]
  rw [hE] at HM
  have HRA : Hid (∀ w', Ext w w' → _) := Lib.hid fun w' hx => sideOf_c A q c a 53 w' (h.ext hx) hq Oka
  have HRB : Hid (∀ w', Ext w w' → _) := Lib.hid fun w' hx => sideOf_c B q' c' b 54 w' (h'.ext hx) hq' Okb
  have hnx := norm_okW a oka
  have hny := norm_okW b okb
  have hix := isN_ne _ (norm_is a Oka.pos)
  have hiy := isN_ne _ (norm_is b Okb.pos)
  have hlx := norm_len a
  have hly := norm_len b
  have hti := (tin_ok b okb).1
  have hto := (tin_ok a oka).1
  have h1 := h.1
  have h1' := h'.1
  have hrow : RowO 1000000000 900000000 2000 (normL a) (normL b) [] := by
    have Z : sumN ([] : List Sp) = 0 ∧ sumT ([] : List Sp) = 0 := ⟨rfl, rfl⟩
    refine ⟨fun s hs => ⟨hnx.1 s hs, hix s hs⟩, fun s hs => ⟨hny.1 s hs, hiy s hs⟩, fun s hs => (by cases hs), ?_, ?_, ?_⟩
    · rw [sumN_norm, sumN_norm, sumT_norm]; omega
    · rw [sumT_norm]; omega
    · simp only [List.length_nil]; omega
  have hsid : tin (tok (normL a)) = tin (tok (normL b)) := by rw [hnx.2, hny.2]; omega
  have hcl : spT (underT (tok (normL a)) (tok (normL b))) = underL a b := by rw [hnx.2, hny.2]; rfl
  have HNP : Hid (NP (normL a) ∧ NP (normL b)) := Lib.hid ⟨isN_np _ (norm_is a Oka.pos), isN_np _ (norm_is b Okb.pos)⟩
  have HROW := Lib.hid hrow; have HSID := Lib.hid hsid; have HCL := Lib.hid hcl
  clear h h' hta htb hT hma hmb hf alla allb oka okb hna hnb Oka Okb hnx hny hix hiy hlx hly hti hto hrow hsid hcl h1 h1' hE ai0 ai1 bi0 bi1
  generalize underL a b = CL at *
  generalize normL a = X0 at *
  generalize normL b = Y0 at *
  go_enter Tryd.func24, Tryd.ntmps24
  go_wp2_with fail
  refine HM.out.mono ?_; rintro e w1 ⟨rfl, hx1⟩
  go_wp2_with fail
  refine (HRA.out _ hx1).mono ?_; rintro e w2 ⟨hx2, x, u, ax, nx, cx, rfl, xl, xh, ul, uh, bx, rx, kx⟩
  have hx12 := hx1.trans hx2
  go_wp2_with fail
  refine (HRB.out _ hx12).mono ?_; rintro e w3 ⟨hx3, y, v, ay, ny, cy, rfl, yl, yh, vl, vh, by', ry, ky⟩
  have hx13 := hx12.trans hx3
  have hs1 := hx1.size
  have hs12 := hx12.size
  have hs3 := hx3.size
  have hap : ApU w w3 x y := ⟨by omega, by omega, by omega, by omega, by omega⟩
  have hst : StU w w3 x y u v (.func (.func 53) #[] #[]) (.func (.func 54) #[] #[]) (underT (tok X0) (tok Y0)) w3 (.slice none 0 0) X0 Y0 [] := by
    refine ⟨⟨ax, nx, cx, ⟨bx.ext hx3, rx.ext hx3, fun hq => ?_⟩⟩, ⟨ay, ny, cy, ⟨by', ry, fun hq => ?_⟩⟩, fun h1 h2 => ?_, Own.nil w3 _ _ _ (Nat.le_refl _), HROW.out, by rw [tok_nil, List.nil_append], HSID.out, hx13, HNP.out⟩
    · have g1 := ul hq; have g2 := uh hq
      obtain ⟨k1, cs, k2⟩ := kx hq
      exact ⟨k1, by omega, by omega, by omega, by omega, cs, k2.ext hx3⟩
    · have g1 := vl hq; have g2 := vh hq
      obtain ⟨k1, cs, k2⟩ := ky hq
      exact ⟨k1, by omega, by omega, by omega, by omega, cs, k2⟩
    · have p1 : 0 < nx := by rw [← rx.1]; exact List.length_pos_iff.2 h1
      have p2 : 0 < ny := by rw [← ry.1]; exact List.length_pos_iff.2 h2
      have g1 := ul p1; have g2 := uh p1; have g3 := vl p2; have g4 := vh p2
      omega
  have HBO := Lib.hid (asFirst_c x y u v X0 Y0 w3 w hap (by omega) hst)
  clear bx rx kx xl xh ul uh by' ry ky yl yh vl vh hx2 hx3 hx12 hx1 hap hst hs1 hs12 hs3 hx13
  go_wp2_with fail
  refine HBO.out.mono ?_; rintro e w4 ⟨hx14, vl, os, rfl, ho, hr, ht⟩
  have hok := okW_pos os hr.o
  have Z : sumN ([] : List Sp) = 0 ∧ sumT ([] : List Sp) = 0 := ⟨rfl, rfl⟩
  have hOk : Ok os := ⟨hok, by have := hr.n; omega, by have := hr.t; omega⟩
  have hres : normL os = CL := by rw [norm_tok os hr.o, ht]; exact HCL.out
  obtain ⟨ao, co, rfl, hoc⟩ := ho.len
  have HOF := Lib.hid (of5_c ao os.length co os w4 ho.rd rfl (by have := hr.l; simp only [List.length_nil] at this; omega) hOk)
  rw [hres] at HOF
  have HX := Lib.hid hx14
  clear hok hOk hres ho hx14 hr ht hoc
  go_wp2_with fail
  refine HOF.out.mono ?_; rintro e w7 ⟨v7, rfl, hx7, o7⟩
  obtain ⟨a7, n7, c7, rfl, r7⟩ := rdO_own o7
  go_wp2_with fail
  go_ret2
  exact ⟨HX.out.trans hx7, _, _, _, rfl, r7⟩
theorem underP_c (A : Option Addr) (q c : Nat) (a : List Sp) (B : Option Addr) (q' c' : Nat) (b : List Sp) (w : World) [Tab w] (h : RdO w A q c a) (h' : RdO w B q' c' b) (hq : q ≤ 1000) (hq' : q' ≤ 1000)
    (hta : ∀ s ∈ a, s.2.2.size ≤ 1000000000) (htb : ∀ s ∈ b, s.2.2.size ≤ 1000000000) (hT : sumT a + sumT b ≤ 900000000) :
    Calls Tryd.prog 24 #[.slice A q c, .slice B q' c'] w (OpR w (overE a b) (underL a b)) := by
  by_cases hE : overE a b = 0
  · have hall := overE_ok hE
    refine (underWP_c A q c a B q' c' b w h h' hq hq' hta htb hT hall.1 hall.2.1 hall.2.2).mono ?_
    rintro e w' ⟨hx, A', n', c'', rfl, hr⟩
    refine ⟨hx, A', n', c'', by rw [hE], ?_⟩
    rw [hE, if_pos rfl]; exact hr
  · have HM := Lib.hid (mayU_c A q c a B q' c' b w h h' hq hq' hta htb)
    have HN := Lib.hid hE
    have hb : (overE a b != 0) = true := by rw [bne_iff_ne]; exact hE
    have hb2 : (overE a b == 0) = false := by rw [beq_eq_false_iff_ne]; exact hE
    clear h h' hta htb hT hE
    generalize overE a b = EE at *
    generalize underL a b = CL at *
    go_enter Tryd.func24, Tryd.ntmps24
    go_wp2_with fail
    refine HM.out.mono ?_; rintro e w1 ⟨rfl, hx1⟩
    go_wp2_with fail
    go_ret2
    refine ⟨hx1, none, 0, 0, rfl, ?_⟩
    rw [if_neg HN.out]; exact ⟨rfl, Rd.nil _ _⟩
/-- What Meet tells. -/
def MeetR (w : World) (a s : List Sp) (e : Ending) (w' : World) : Prop :=
  Ext w w' ∧ ∃ A n c B m d, e = .returned (.tuple #[.slice A n c, .slice B m d, .int .i64 (overE a s)]) ∧ RdO w' A n c (if overE a s = 0 then overL a s else []) ∧ RdO w' B m d (if overE a s = 0 then underL s a else [])
end Go.Proofs.YtfjiookndleaeaaDoor
