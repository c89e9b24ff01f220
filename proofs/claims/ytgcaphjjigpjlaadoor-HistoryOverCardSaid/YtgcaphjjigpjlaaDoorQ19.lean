/- Packed: C9b. -/
import Derived.ArgAppend
import Derived.BigQuiet
import Derived.BigRegion
import Derived.ChangeAlike
import Derived.Deep.Cut
import Derived.Deep.CutRange
import Derived.Deep.DrawnRows
import Derived.Deep.MidRow
import Derived.Deep.QuietTactic
import Derived.Deep.RegionHeld3
import Derived.Deep.RegionWith
import Derived.Deep.Upon
import Derived.Laws.AppendOwnNone
import Derived.Laws.BytesArg
import Derived.Laws.IdiomCopy
import Derived.Laws.MakeOwn
import Derived.Laws.ResultCell
import Derived.Lib.AppendStr
import Derived.Lib.Builder
import Derived.Lib.DecodeN
import Derived.Lib.Hide
import Derived.Lib.Strings
import Derived.Lib.UnsafeStr
import Derived.RegionTactic
import Derived.StillTail
import Derived.StillTailTactics
import Derived.Test.YtgcaphjjigpjlaaDoorProg
import Derived.Test.YtgcaphjjigpjlaaDoorShelf
import Derived.WalkKit
import Derived.WalkLawsBesides
import Derived.WalkSpells
import Derived.Test.YtgcaphjjigpjlaaDoorQ00
import Derived.Test.YtgcaphjjigpjlaaDoorQ01
import Derived.Test.YtgcaphjjigpjlaaDoorQ02
import Derived.Test.YtgcaphjjigpjlaaDoorQ03
import Derived.Test.YtgcaphjjigpjlaaDoorQ04
import Derived.Test.YtgcaphjjigpjlaaDoorQ05
import Derived.Test.YtgcaphjjigpjlaaDoorQ06
import Derived.Test.YtgcaphjjigpjlaaDoorQ07
namespace Go.Proofs.YtgcaphjjigpjlaaDoor
open Go.RowKit
set_option maxRecDepth 100000
set_option maxHeartbeats 6000000
set_option linter.unusedSimpArgs false
theorem compC (xs ys : List Sp) (hx : ∀ s ∈ xs, OkW s ∧ ¬ emp s) (hy : ∀ s ∈ ys, OkW s ∧ ¬ emp s) (h : tout (tok xs) = tin (tok ys)) :
    (xs = [] ∧ ys = []) ∨ (∃ b1 b2 b3 r, ys = (b1, b2, b3) :: r ∧ b1 = 2) ∨ (∃ a1 a2 a3 r, xs = (a1, a2, a3) :: r ∧ a1 = 3 ∧ ∀ s q, ys = s :: q → s.1 ≠ 2) ∨
      (∃ a1 a2 a3 r b1 b2 b3 q, xs = (a1, a2, a3) :: r ∧ ys = (b1, b2, b3) :: q ∧ a1 ≠ 3 ∧ b1 ≠ 2) := by
  rcases ys with _ | ⟨⟨b1, b2, b3⟩, q⟩
  · rcases xs with _ | ⟨⟨a1, a2, a3⟩, r⟩
    · exact .inl ⟨rfl, rfl⟩
    · right; right; left
      refine ⟨a1, a2, a3, r, rfl, ?_, fun s q hs => by cases hs⟩
      obtain ⟨h1, h2⟩ := hx _ (List.mem_cons_self ..)
      have h3 := tokS_pos _ h1 h2
      rw [tok_cons, tout_append, (sides _ h1).2, tok_nil] at h
      by_cases hk : a1 = 3
      · exact hk
      · exfalso
        rw [if_neg hk] at h
        have : tin ([] : List Tok) = 0 := rfl
        omega
  · by_cases hb : b1 = 2
    · right; left; exact ⟨b1, b2, b3, q, rfl, hb⟩
    · rcases xs with _ | ⟨⟨a1, a2, a3⟩, r⟩
      · exfalso
        obtain ⟨h1, h2⟩ := hy _ (List.mem_cons_self ..)
        have h3 := tokS_pos _ h1 h2
        rw [tok_cons, tin_append, (sides _ h1).1, if_neg hb] at h
        have : tout (tok ([] : List Sp)) = 0 := rfl
        omega
      · by_cases ha : a1 = 3
        · right; right; left
          exact ⟨a1, a2, a3, r, rfl, ha, fun s q' hs => by injection hs with e1 e2; subst e1; exact hb⟩
        · right; right; right
          exact ⟨a1, a2, a3, r, b1, b2, b3, q, rfl, rfl, ha, hb⟩
theorem comp_step {K1 : Int} {K2 K3 : Nat} {TT : List Tok} {s u : Sp} {xs ys os : List Sp} {n : Nat} (h : Row3 K1 K2 K3 (s :: xs) (u :: ys) os) (htt : tok os ++ compT (tok (s :: xs)) (tok (u :: ys)) = TT) (hsid : tout (tok (s :: xs)) = tin (tok (u :: ys))) (ks : s.1 ≠ 3) (ku : u.1 ≠ 2) (hn : n = min (tokS s).length (tokS u).length) :
    Row3 K1 K2 K3 (left s n xs) (left u n ys) (os ++ (if u.1 = 1 then [cutA s n] else if s.1 = 1 then [cutA u n] else [])) ∧ tok (os ++ (if u.1 = 1 then [cutA s n] else if s.1 = 1 then [cutA u n] else [])) ++ compT (tok (left s n xs)) (tok (left u n ys)) = TT ∧ tout (tok (left s n xs)) = tin (tok (left u n ys)) := by
  have hs := (h.x s (List.mem_cons_self ..)).1
  have hu := (h.y u (List.mem_cons_self ..)).1
  have hp : (if u.1 = 1 then [cutA s n] else if s.1 = 1 then [cutA u n] else []) = [] ∨ (if u.1 = 1 then [cutA s n] else if s.1 = 1 then [cutA u n] else []) = [cutA s n] ∨ (if u.1 = 1 then [cutA s n] else if s.1 = 1 then [cutA u n] else []) = [cutA u n] := by
    by_cases h1 : u.1 = 1
    · rw [if_pos h1]; exact .inr (.inl rfl)
    · rw [if_neg h1]
      by_cases h2 : s.1 = 1
      · rw [if_pos h2]; exact .inr (.inr rfl)
      · rw [if_neg h2]; exact .inl rfl
  refine ⟨(h.both hn _ hp).1, ?_, ?_⟩
  · rw [comp_both xs ys os s u n hs hu ks ku (by omega) (by omega)]; exact htt
  · have d1 := (drop_tok s hs n (by omega)).2
    have d2 := (drop_tok u hu n (by omega)).1
    have s1 := (sides s hs).2
    have s2 := (sides u hu).1
    rw [if_neg ks] at d1 s1
    rw [if_neg ku] at d2 s2
    rw [tok_cons, tok_cons, tout_append, tin_append] at hsid
    rw [left_tok s n xs hs (by omega), left_tok u n ys hu (by omega), tout_append, tin_append]
    omega
def OpR (w : World) (E : Int) (L : List Sp) (e : Ending) (w' : World) : Prop :=
  Ext w w' ∧ ∃ A n c, e = .returned (.tuple #[.slice A n c, .int .i64 E]) ∧ RdO w' A n c (if E = 0 then L else [])
end Go.Proofs.YtgcaphjjigpjlaaDoor
