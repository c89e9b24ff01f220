/- Appends inside a region that draws its order. -/
import Derived.Test.YthlhjjgmncbplaaBf
import Derived.Deep.RegionHeld3
import Derived.Deep.DrawnRows
import Derived.Deep.Upon
namespace Go.Proofs.Ythlhjjgmncbplaa
open Go.RowKit

/-- append from any slice, nil or not, onto one that was made empty, or that is the call's own. -/
theorem app_erd {P : Program} (t ty e : TypeId) (i : TypeInfo) (z : Value) (size bytes : Nat) (ht : P.underlying t = some (.slice e)) (hi : P.info? e = some i) (hz : i.zero = some z)
    (hsize : i.size = size) (hby : i.bytes = bytes) (hzs : z.cells.size = size) (hsz : 0 < size) (hbl : bytes ≤ 64)
    {a w : World} {B : Nat} {v : Value} {n : Nat} {xs : List Value} (hb : Below B a w) (hB : B ≤ w.heap.size) (ho : OwnE w B e size v n xs) (hn : n ≤ 1000000000)
    {y : Value} {m : Nat} {ys : List Value} (hr : Rd w size y m ys) (hm' : m ≤ 1000000000) (h1 : ∀ u ∈ ys, u.oneCell' = true) :
    ∃ v' w', (Builtin.append_ #[t, t] ty #[v, y]).run P w = .ok v' w' ∧ OwnE w' B e size v' (n + m) (xs ++ ys) ∧ Below B a w' := by
  rcases ho with ⟨rfl, rfl, g, rfl⟩ | ho
  · obtain ⟨hl, A, c, rfl, hc, hcell⟩ := hr
    by_cases h0 : 0 < m
    · obtain ⟨b, off, rfl, hbb, hx⟩ := hcell h0
      obtain ⟨v', w', hrun, h2, h3⟩ := run_append_arg_grows (P := P) w t ty e i z size bytes ht hi hz hsize hby hzs hsz ⟨g, 0, none⟩ 0 0 [] (by simp) (by simp) ⟨b, off, none⟩ m c ys hl (fun j u hu => by
          have : (⟨b, off, none⟩ : Addr).add j = ⟨b, off + j, none⟩ := by
            unfold Addr.add; split
            · rename_i h; subst h; rfl
            · rfl
          rw [this]; exact hx j u hu)
        (by omega) (by unfold maxLen; omega) (by
          have : (0 + m) * bytes ≤ 2000000000 * 64 := Nat.mul_le_mul (by omega) hbl
          omega)
      exact ⟨v', w', hrun, .inr (Own.more ⟨h2, h3.size⟩ hB), hb.grown h3 hB (fun k hk => by cases hk)⟩
    · obtain rfl : m = 0 := by omega
      have hys : ys = [] := List.eq_nil_of_length_eq_zero (by simpa using hl)
      subst hys
      refine ⟨.slice (some ⟨g, 0, none⟩) 0 0, w, ?_, .inl ⟨rfl, rfl, g, rfl⟩, hb⟩
      exact run_append_nothing w t t ty e i ht hi (some ⟨g, 0, none⟩) 0 0 (Nat.le_refl _) (.slice A 0 c) (by
        cases A with
        | none => exact Src.ofNil w ht c
        | some x => exact Src.ofSlice w ht x 0 c [] (by simp) (by simp) (by simp))
  · obtain ⟨v', w', h1, h2, h3⟩ := app_rd (P := P) t ty e i z size bytes ht hi hz hsize hby hzs hsz hbl hb ho hn hr hm' h1
    exact ⟨v', w', h1, .inr h2, h3⟩
/-- An append at a step of a region that draws. -/
theorem step_append_ex {P : Program} {ops : Array Oper} {o : Oper} {a : Act} {w : World} {K : Act → World → Prop} {Q : Exit → Act → World → Prop} {E : Prop} (hgd : o.guard = none) (s x : Operand) (t : TypeId)
    (ho : o.op = .call { callee := .builtin .append, args := #[s, x], argTypes := #[t, t] }) {v y : Value} (hs : a.eval s = v) (hx : a.eval x = y) {Post : Value → World → Prop}
    (hr : ∃ v' w', (Builtin.append_ #[t, t] o.type #[v, y]).run P w = .ok v' w' ∧ Post v' w') (h : ∀ v' w', Post v' w' → K (a.put o.dst v') w') :
    if Region.wanted o (yielded ops a.tmps) = true then Oper.wp P o a w K Q else E := by
  have hw : Region.wanted o (yielded ops a.tmps) = true := by simp [Region.wanted, hgd]
  rw [if_pos hw]
  obtain ⟨v', w', hrun, hp⟩ := hr
  unfold Oper.wp execOp
  simp only [ho, resolve, invoke, builtin, Sem.run_bind, Sem.run_pure, Result.andThen_ok, List.map_toArray, List.map_cons, List.map_nil, hs, hx, hrun]
  exact h _ _ hp
theorem OwnE.more {w : World} {B B' : Nat} {e : TypeId} {size : Nat} {v : Value} {n : Nat} {xs : List Value} (h : OwnE w B e size v n xs) (hB : B' ≤ B) : OwnE w B' e size v n xs := by
  rcases h with h | h
  · exact .inl h
  · exact .inr (h.more hB)
/-- A slice over a block that was just made reads, in each later world. -/
theorem rd_made (w W : World) (H : Nat) (hH : w.heap.size = H) (cur : Array Value) (e : TypeId) {size n : Nat} (hx : Ext (w.alloc (.cells cur e)) W) (hs : cur.size = n * size) (hn : n ≤ 1000000000) : Rd W size (.slice (some ⟨H, 0, none⟩) n n) n cur.toList := by
  subst hH
  exact (Own.made w w.heap.size e size n cur (Nat.le_refl _) hn hs).rd.ext hx
/-- One span in a block that was just made. -/
theorem rd_made3 {w W : World} {H : Nat} (hH : w.heap.size = H) {k n : Int} {t : ByteArray} {e : TypeId} (hx : Ext (w.alloc (.cells #[.int .i64 k, .int .i64 n, .string t] e)) W) : Rd W 3 (.slice (some ⟨H, 0, none⟩) 1 1) 1 [.int .i64 k, .int .i64 n, .string t] :=
  rd_made w W H hH _ e hx rfl (by omega)
theorem OwnE.own {w : World} {B : Nat} {e : TypeId} {size : Nat} {v : Value} {n : Nat} {xs : List Value} (h : OwnE w B e size v n xs) (hn : 0 < n) : Own w B e size v n xs := by
  rcases h with ⟨h, _⟩ | h
  · omega
  · exact h
/-- Two spans in a block that was just made. -/
theorem rd_made6 {w W : World} {H : Nat} (hH : w.heap.size = H) {k n k' n' : Int} {t t' : ByteArray} {e : TypeId} (hx : Ext (w.alloc (.cells #[.int .i64 k, .int .i64 n, .string t, .int .i64 k', .int .i64 n', .string t'] e)) W) :
    Rd W 3 (.slice (some ⟨H, 0, none⟩) 2 2) 2 [.int .i64 k, .int .i64 n, .string t, .int .i64 k', .int .i64 n', .string t'] :=
  rd_made w W H hH _ e hx rfl (by omega)
end Go.Proofs.Ythlhjjgmncbplaa
