/- Layer 9, the program: may, restOf, both, Of. -/
import Derived.Laws.Rows
import Derived.RegionTactic
import Derived.ChangeAlike
import Derived.BigRegion
import Derived.Test.YtggoimakbadbkaaDoorBs
import Derived.Test.YtggoimakbadbkaaDoorMc
import Derived.Test.YtggoimakbadbkaaDoorC1f
import Derived.Test.YtggoimakbadbkaaDoorC6
import Derived.Test.YtggoimakbadbkaaDoorC9b
import Derived.Test.YtggoimakbadbkaaDoorP4
import Derived.Test.YtggoimakbadbkaaDoorP5
namespace Go.Proofs.YtggoimakbadbkaaDoor
open Go.RowKit
set_option maxRecDepth 100000
set_option maxHeartbeats 2000000
set_option linter.unusedSimpArgs false
/-- What comes next, of no kind if nothing does. -/
def hdS (l : List Sp) : Sp := l.headD (0, 0, ⟨#[]⟩)
def rstV (s : Sp) (v : Value) : Array Value := #[.int .i64 s.1, .int .i64 s.2.1, .string s.2.2, v]
end Go.Proofs.YtggoimakbadbkaaDoor
namespace Go.Proofs.YtggoimakbadbkaaDoor
open Go.RowKit
set_option maxRecDepth 100000
set_option maxHeartbeats 4000000
set_option linter.unusedSimpArgs false
theorem rdO_new {w : World} {A : Option Addr} {n c : Nat} {l : List Sp} (h : RdO w A n c l) : Awy w.heap.size n A := by
  intro hn b off hA
  obtain ⟨_, _, A', c', hv, _, h2⟩ := h
  obtain ⟨b', off', hA', hb', _⟩ := h2 hn
  injection hv with e1 e2 e3
  subst e1
  rw [hA] at hA'
  injection hA' with hA'
  injection hA' with e4 e5
  omega
theorem rdO_awy {w : World} {A : Option Addr} {n c y : Nat} {l : List Sp} (h : RdO w A n c l) (hy : w.heap.size ≤ y) : Awy y n A := by
  intro hn b off hA
  obtain ⟨_, _, A', c', hv, _, h2⟩ := h
  obtain ⟨b', off', hA', hb', _⟩ := h2 hn
  injection hv with e1 e2 e3
  subst e1
  rw [hA] at hA'
  injection hA' with hA'
  injection hA' with e4 e5
  omega
theorem own_awy {w : World} {B : Nat} {e : TypeId} {size : Nat} {a : Option Addr} {n c m : Nat} {xs : List Value} (h : Own w B e size (.slice a n c) m xs) {z : Nat} (hz : z < B) : Awy z n a := by
  intro hn b off hA
  subst hA
  rcases h.1.2 with ⟨h, _⟩ | ⟨g, cap, cur, hv, hg, _⟩
  · cases h
  · injection hv with e1 e2 e3
    injection e1 with e1
    injection e1 with e1 e2
    omega
theorem KS.of_below {n : Nat} (x y : Nat) {A B : World} (h : Below n A B) : KS n x y A B := ⟨h.os, h.tape, h.output, h.size, fun k hk _ _ => h.block k hk⟩
theorem own_ks {w w' : World} {B x : Nat} {e : TypeId} {size : Nat} {v : Value} {n : Nat} {xs : List Value} (h : Own w B e size v n xs) (hk : KS w.heap.size x x w w') (hx : x < B) : Own w' B e size v n xs :=
  ⟨ownsRow_kept h.1 fun k h1 h2 => hk.block k h2 (by omega) (by omega), Nat.le_trans h.2 hk.size⟩
theorem BxT.at_ {t : TypeId} {W W' : World} {n B : Nat} {v : Array Value} (h : BxT t W B v) (hk : Below n W W') (hn : B < n) : BxT t W' B v := (hk.block B hn).trans h
/-- How many spans a box has left, by its cells. -/
def leftN (x : Nat) (w : World) : Nat :=
  (match w.cell? ⟨x, 0, none⟩ with | some (.int _ k) => (if k = 0 then 0 else 1) | _ => 0) + (match w.cell? ⟨x, 3, none⟩ with | some (.slice _ n _) => n | _ => 0)
/-- Put and dropped again: an empty span is put in its place. -/
theorem comp_stepE {TT : List Tok} {s u : Sp} {xs ys os : List Sp} {n : Nat} (h : Row3 1000000000 900000000 2000 (s :: xs) (u :: ys) os) (htt : tok os ++ compT (tok (s :: xs)) (tok (u :: ys)) = TT) (hsid : tout (tok (s :: xs)) = tin (tok (u :: ys))) (ks : s.1 ≠ 3) (ku : u.1 ≠ 2) (hn : n = min (tokS s).length (tokS u).length) (m : Sp)
    (hm : m = if u.1 = 1 then cutA s n else if s.1 = 2 then (2, 0, ⟨#[]⟩) else cutA u n) :
    Row3 1000000000 900000000 2000 (left s n xs) (left u n ys) (os ++ [m]) ∧ tok (os ++ [m]) ++ compT (tok (left s n xs)) (tok (left u n ys)) = TT ∧ tout (tok (left s n xs)) = tin (tok (left u n ys)) ∧
      (left s n xs).length + (left u n ys).length < (s :: xs).length + (u :: ys).length := by
  have hs := (h.x s (List.mem_cons_self ..)).1
  have hlt := (h.both hn [] (.inl rfl)).2
  obtain ⟨h1, h2, h3⟩ := comp_step h htt hsid ks ku hn
  have k12 : s.1 = 1 ∨ s.1 = 2 := by
    rcases hs with ⟨k1, _⟩ | ⟨k1, _⟩ <;> omega
  by_cases hu1 : u.1 = 1
  · rw [if_pos hu1] at h1 h2 hm
    subst hm
    exact ⟨h1, h2, h3, hlt⟩
  · rw [if_neg hu1] at h1 h2 hm
    rcases k12 with k | k
    · rw [if_pos k] at h1 h2
      rw [if_neg (by omega)] at hm
      subst hm
      exact ⟨h1, h2, h3, hlt⟩
    · rw [if_neg (by omega)] at h1 h2
      rw [if_pos k] at hm
      subst hm
      have hE : OkW (2, 0, (⟨#[]⟩ : ByteArray)) := .inl ⟨rfl, rfl, [], rfl⟩
      have hT : tokS (2, 0, (⟨#[]⟩ : ByteArray)) = [] := tokS_emp _ ⟨rfl, rfl⟩
      rw [List.append_nil] at h1 h2
      have hl := h.l
      refine ⟨⟨h1.x, h1.y, fun v hv => ?_, ?_, ?_, ?_⟩, ?_, h3, hlt⟩
      · rcases List.mem_append.1 hv with hv | hv
        · exact h1.o v hv
        · rw [List.mem_singleton] at hv; subst hv; exact hE
      · have := h1.n; rw [sumN_append, sumN_one]; simp only; omega
      · have := h1.t; rw [sumT_append, sumT_sing]; have e : (⟨#[]⟩ : ByteArray).size = 0 := rfl; simp only; omega
      · simp only [List.length_append, List.length_cons, List.length_nil] at *; omega
      · rw [tok_append, tok_cons, tok_nil, hT, List.append_nil, List.append_nil]; exact h2
end Go.Proofs.YtggoimakbadbkaaDoor
