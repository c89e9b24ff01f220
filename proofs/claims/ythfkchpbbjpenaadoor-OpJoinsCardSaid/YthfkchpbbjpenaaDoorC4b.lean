/- Layer 4, the reference: Keep. -/
import Derived.Test.YthfkchpbbjpenaaDoorC4
namespace Go.Proofs.YthfkchpbbjpenaaDoor
open Go.RowKit
set_option maxRecDepth 100000
set_option maxHeartbeats 1000000
/-- What Keep answers. -/
def keepL (n : Int) : List Sp := if n = 0 then [] else [(1, n, ⟨#[]⟩)]
def KeepR (w : World) (n : Int) (e : Ending) (w' : World) : Prop :=
  Ext w w' ∧ (((n < 0 ∨ 1048576 < n) ∧ e = .returned (.tuple #[.slice none 0 0, .int .i64 2])) ∨
    (0 ≤ n ∧ n ≤ 1048576 ∧ ∃ v, e = .returned (.tuple #[v, .int .i64 0]) ∧ Rd w' 3 v (keepL n).length (spCells (keepL n))))
theorem keepR4_c (n : Int) (w : World) : Calls Tryd.prog 10 #[.int .i64 n] w (KeepR w n) := by
  rcases (by omega : n < 0 ∨ (0 ≤ n ∧ 1048576 < n) ∨ n = 0 ∨ (0 < n ∧ n ≤ 1048576)) with h | ⟨h0, h⟩ | h | ⟨h0, h⟩
  · have H := Lib.hid h
    go_enter Tryd.func10, Tryd.ntmps10
    go_wp2_with fail
    go_ret2
    exact ⟨Ext.refl _, .inl ⟨.inl H.out, rfl⟩⟩
  · have H := Lib.hid h
    go_enter Tryd.func10, Tryd.ntmps10
    go_wp2_with fail
    go_ret2
    exact ⟨Ext.refl _, .inl ⟨.inr H.out, rfl⟩⟩
  · subst h
    go_enter Tryd.func10, Tryd.ntmps10
    go_wp2_with fail
    go_ret2
    exact ⟨Ext.refl _, .inr ⟨by omega, by omega, _, rfl, Rd.nil _ _⟩⟩
  · have hk : keepL n = [(1, n, ⟨#[]⟩)] := by unfold keepL; rw [if_neg (by omega)]
    have HK := Lib.hid hk
    have hn : (n == 0) = false := by rw [beq_eq_false_iff_ne]; omega
    clear hk
    go_enter Tryd.func10, Tryd.ntmps10
    go_wp2_with fail
    go_ret2
    refine ⟨(Ext.refl w).alloc _, .inr ⟨by omega, h, _, rfl, ?_⟩⟩
    rw [HK.out]
    exact (Own.made w w.heap.size 34 3 1 #[.int .i64 1, .int .i64 n, .string ⟨#[]⟩] (Nat.le_refl _) (by omega) rfl).rd
end Go.Proofs.YthfkchpbbjpenaaDoor
