/- Layer 6, the program: Spans. -/
import Derived.Test.YtejgkhmpmnjgaaaDoorBk
import Derived.Test.YtejgkhmpmnjgaaaDoorC6
import Derived.Test.YtejgkhmpmnjgaaaDoorBf
import Derived.Test.YtejgkhmpmnjgaaaDoorP4
import Derived.Test.YtejgkhmpmnjgaaaDoorC1f
import Derived.Test.YtejgkhmpmnjgaaaDoorP5
namespace Go.Proofs.YtejgkhmpmnjgaaaDoor
open Go.RowKit
set_option maxRecDepth 100000
set_option maxHeartbeats 4000000
attribute [local go_sem ↓] Go.wp_at_zero Go.wp_at_succ

theorem ownsRow_at {w w' : World} {B : Nat} {e : TypeId} {k : Nat} {v : Value} {n : Nat} {xs : List Value} (h : w.ownsRow B e k v n xs) (hk : ∀ g, v.ownBlock = some g → w'.heap[g]? = w.heap[g]?) : w'.ownsRow B e k v n xs := by
  refine ⟨h.1, ?_⟩
  rcases h.2 with h | ⟨g, cap, cur, hv, hg, hc, r⟩
  · exact .inl h
  · exact .inr ⟨g, cap, cur, hv, hg, by rw [hk g (by rw [hv]; rfl)]; exact hc, r⟩
theorem strCells_append (a b : ByteArray) : Lib.strCells (a ++ b) = Lib.strCells a ++ Lib.strCells b := by
  simp [Lib.strCells]

end Go.Proofs.YtejgkhmpmnjgaaaDoor
namespace Go.Proofs.YtejgkhmpmnjgaaaDoor
open Go.RowKit
set_option maxRecDepth 100000
set_option maxHeartbeats 4000000
attribute [local go_sem ↓] Go.wp_at_zero Go.wp_at_succ

end Go.Proofs.YtejgkhmpmnjgaaaDoor
namespace Go.Proofs.YtejgkhmpmnjgaaaDoor
open Go.RowKit
set_option maxRecDepth 100000
set_option maxHeartbeats 4000000
set_option linter.unusedSimpArgs false
attribute [local go_sem ↓] Go.wp_at_zero Go.wp_at_succ

end Go.Proofs.YtejgkhmpmnjgaaaDoor
namespace Go.Proofs.YtejgkhmpmnjgaaaDoor
open Go.RowKit
set_option maxRecDepth 100000
set_option maxHeartbeats 4000000
attribute [local go_sem ↓] Go.wp_at_zero Go.wp_at_succ

theorem wpList_alloc_at {P : Program} {ops : Array Oper} {rest : List Oper} {o : Oper} {a : Act} {w : World} {Q : Exit → Act → World → Prop} (hgd : o.guard = none) {T : TypeId} (ho : o.op = .alloc T)
    {Z : Array Value} (hz : (P.info? T).map (fun i => i.zero.map Value.cells) = some (some Z))
    (h : wpList P ops Q rest (a.put o.dst (.pointer (some ⟨w.heap.size, 0, none⟩))) (w.alloc (.cells Z T))) : wpList P ops Q (o :: rest) a w := by
  cases hi : P.info? T with
  | none => simp [hi] at hz
  | some i =>
    cases hzz : i.zero with
    | none => simp [hi, hzz] at hz
    | some z =>
      have hZ : z.cells = Z := by simpa [hi, hzz] using hz
      refine wpList_plain hgd fun K hK => ?_
      unfold Oper.wp execOp
      simp [ho, Instr.alloc, zeroValue, typeInfo, hi, hzz, newVar, newRow, hZ]
      exact hK _ _ h

theorem rd_keep {w w' : World} {b o n m c k : Nat} {xs : List Value} (h : Rd w k (.slice (some ⟨b, o, none⟩) n c) m xs) (hs : w.heap.size ≤ w'.heap.size) (hb : ∀ j, w'.cell? ⟨b, j, none⟩ = w.cell? ⟨b, j, none⟩) : Rd w' k (.slice (some ⟨b, o, none⟩) n c) m xs := by
  obtain ⟨hl, A, c', hv, hc, hcell⟩ := h
  refine ⟨hl, A, c', hv, hc, fun hm => ?_⟩
  obtain ⟨b', off, hA, hbs, hx⟩ := hcell hm
  injection hv with e1 e2 e3
  rw [hA] at e1
  injection e1 with e1
  injection e1 with e1 e4
  subst e1
  exact ⟨b, off, hA, by omega, fun j u hu => by rw [hb]; exact hx j u hu⟩
theorem Ext.trans' {a b c : World} {o : Obj} (h : Ext a b) (k : Below a.heap.size (b.alloc o) c) : Ext a c := Below.trans (Below.alloc h h.size o) k

end Go.Proofs.YtejgkhmpmnjgaaaDoor
namespace Go.Proofs.YtejgkhmpmnjgaaaDoor
open Go.RowKit
set_option maxRecDepth 100000
set_option maxHeartbeats 4000000
attribute [local go_sem ↓] Go.wp_at_zero Go.wp_at_succ

end Go.Proofs.YtejgkhmpmnjgaaaDoor
namespace Go.Proofs.YtejgkhmpmnjgaaaDoor
open Go.RowKit
set_option maxRecDepth 100000
set_option maxHeartbeats 4000000
attribute [local go_sem ↓] Go.wp_at_zero Go.wp_at_succ

theorem sumN_mem (l : List Sp) (hp : pos l) : ∀ s ∈ l, s.2.1 ≤ sumN l := by
  induction l with
  | nil => intro s hs; cases hs
  | cons a t ih =>
    have ht : pos t := fun s hs => hp s (by simp [hs])
    have h0 := sumN_pos t ht
    have h1 := hp a (by simp)
    intro s hs
    show s.2.1 ≤ a.2.1 + sumN t
    rcases List.mem_cons.1 hs with rfl | hs
    · omega
    · have := ih ht s hs; omega
theorem big_norm (X : List Sp) (hp : pos X) (h : sumN X ≤ 1000) : ∀ s ∈ normL X, 0 ≤ s.2.1 ∧ s.2.1 ≤ 1000000000 := fun s hs => by
  have h1 := sumN_mem _ (norm_pos X hp) s hs
  rw [sumN_norm] at h1
  exact ⟨norm_pos X hp s hs, by omega⟩
/-- The last one puts nothing. -/
def noPut (xs : List Sp) : Prop := ∀ ys t, xs = ys ++ [t] → t.1 ≠ 2
theorem noPut_snoc (xs : List Sp) (s : Sp) (h : ¬ emp s) (hk : s.1 ≠ 2) : noPut (snocN xs s) := by
  intro zs u hu
  rcases List.eq_nil_or_concat xs with rfl | ⟨ys, t, rfl⟩
  · rw [snocN_nil _ h] at hu
    have := List.append_inj_right' (s₁ := []) hu rfl
    injection this with e
    subst e; exact hk
  · rw [List.concat_eq_append, snocN_last _ _ _ h] at hu
    by_cases e : t.1 = s.1
    · rw [if_pos e] at hu
      have := List.append_inj_right' hu rfl
      injection this with e2
      subst e2
      show t.1 ≠ 2
      rw [e]; exact hk
    · rw [if_neg e, show [t, s] = [t] ++ [s] from rfl, ← List.append_assoc] at hu
      have := List.append_inj_right' hu rfl
      injection this with e2
      subst e2; exact hk
theorem snocN_put (xs : List Sp) (t : ByteArray) (h : ¬ t.size = 0) (hp : noPut xs) : snocN xs (2, 0, t) = xs ++ [(2, 0, t)] := by
  have hne : ¬ emp ((2, 0, t) : Sp) := fun e => h e.2
  rcases List.eq_nil_or_concat xs with rfl | ⟨ys, u, rfl⟩
  · rw [snocN_nil _ hne]; rfl
  · rw [List.concat_eq_append] at hp ⊢
    rw [snocN_last _ _ _ hne, if_neg (hp ys u rfl), List.append_assoc]; rfl
theorem snocN_none (xs : List Sp) : snocN xs (2, 0, ⟨#[]⟩) = xs := snocN_emp _ _ ⟨rfl, rfl⟩

end Go.Proofs.YtejgkhmpmnjgaaaDoor
