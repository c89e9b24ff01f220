/- Packed: Ft. -/
import Derived.BigQuiet
import Derived.ChangeOld
import Derived.Deep.QuietTactic
import Derived.Deep.Slices
import Derived.LaidMore
import Derived.Laws.AppendOwnNone
import Derived.Laws.BytesArg
import Derived.Lib.DecodeN
import Derived.Lib.Hide
import Derived.Lib.LaidTab
import Derived.Lib.Strings
import Derived.Lib.UnsafeStr
import Derived.OpenShut
import Derived.ProofKit
import Derived.ShutString
import Derived.StillTailTactics
import Derived.Stop.Joined
import Derived.Test.YtgcaphjjigpjlaaGreatDoorProg
import Derived.Test.YtgcaphjjigpjlaaGreatDoorRows
import Derived.WalkKit
import Derived.WalkLawsBesides
import Derived.WalkSpells
import Derived.Test.YtgcaphjjigpjlaaGreatDoorQ00
import Derived.Test.YtgcaphjjigpjlaaGreatDoorQ01
import Derived.Test.YtgcaphjjigpjlaaGreatDoorQ02
import Derived.Test.YtgcaphjjigpjlaaGreatDoorQ09
namespace Go.Proofs.YtgcaphjjigpjlaaGreatDoor
open Go.ChangeShapes Go.WideShapes Go.ChangeAt Go.RowKit
set_option maxRecDepth 100000
theorem gRules : Tryz.prog.globalNamed "epitome/span.rules" = some 0 := by kernel_rfl
theorem tRules : (Tryz.prog.globals[0]?).map (·.type) = some 133 := by kernel_rfl
theorem cRule : Tryz.prog.cellsOf 121 = 5 := by kernel_rfl
theorem five_cells {H : Type} {enc : TypeId × Value → H} {P : Program} {w : World} {sp : Nat → Bool} {held : Bool} {m : Nat} {t : TypeId} {f0 f1 f2 f3 f4 : Field} {cs : List Value} {a b c p : Bool} {n : Int} {q : List MemPlace}
    (ht : P.underlying t = some (.struct #[f0, f1, f2, f3, f4])) (hct : P.cellsOf t = 5)
    (o0 : f0.offset = 0) (o1 : f1.offset = 1) (o2 : f2.offset = 2) (o3 : f3.offset = 3) (o4 : f4.offset = 4)
    (t0 : P.underlying f0.type = some .bool) (t1 : P.underlying f1.type = some (.int .i64)) (t2 : P.underlying f2.type = some .bool) (t3 : P.underlying f3.type = some .bool) (t4 : P.underlying f4.type = some .bool)
    (c0 : P.cellsOf f0.type = 1) (c1 : P.cellsOf f1.type = 1) (c2 : P.cellsOf f2.type = 1) (c3 : P.cellsOf f3.type = 1) (c4 : P.cellsOf f4.type = 1)
    (h : DataW.trod enc P w 0 sp held m t cs = some (.agg [.lit (.bool a), .lit (.int .i64 n), .lit (.bool b), .lit (.bool c), .lit (.bool p)], q)) :
    cs = [.bool a, .int .i64 n, .bool b, .bool c, .bool p] := by
  obtain ⟨xs, k, _, hx, hl, hlen, hel⟩ := DataW.trod_struct ht h
  have hx5 : xs.length = 5 := hlen
  have hl5 : cs.length = 5 := by rw [hl, hct]
  obtain ⟨x0, x1, x2, x3, x4, rfl⟩ : ∃ x0 x1 x2 x3 x4, xs = [x0, x1, x2, x3, x4] := by
    match xs, hx5 with
    | [x0, x1, x2, x3, x4], _ => exact ⟨x0, x1, x2, x3, x4, rfl⟩
  obtain ⟨d0, d1, d2, d3, d4, rfl⟩ : ∃ c0 c1 c2 c3 c4, cs = [c0, c1, c2, c3, c4] := by
    match cs, hl5 with
    | [x0, x1, x2, x3, x4], _ => exact ⟨x0, x1, x2, x3, x4, rfl⟩
  have e0 := hel 0 f0 rfl
  have e1 := hel 1 f1 rfl
  have e2 := hel 2 f2 rfl
  have e3 := hel 3 f3 rfl
  have e4 := hel 4 f4 rfl
  rw [o0, c0] at e0
  rw [o1, c1] at e1
  rw [o2, c2] at e2
  rw [o3, c3] at e3
  rw [o4, c4] at e4
  simp only [List.drop_zero, List.drop_succ_cons, List.take_succ_cons, List.take_zero, List.getElem?_cons_zero, List.getElem?_cons_succ] at e0 e1 e2 e3 e4
  simp only [List.map_cons, List.map_nil, Prod.mk.injEq, DataW.agg.injEq, List.cons.injEq, and_true] at hx
  obtain ⟨⟨h0, h1, h2, h3, h4⟩, _⟩ := hx
  obtain ⟨y0, k0, z0⟩ := DataW.trod_bool t0 e0
  obtain ⟨y1, k1, z1, _⟩ := DataW.trod_int t1 e1
  obtain ⟨y2, k2, z2⟩ := DataW.trod_bool t2 e2
  obtain ⟨y3, k3, z3⟩ := DataW.trod_bool t3 e3
  obtain ⟨y4, k4, z4⟩ := DataW.trod_bool t4 e4
  simp only [List.cons.injEq, and_true] at k0 k1 k2 k3 k4
  subst k0; subst k1; subst k2; subst k3; subst k4
  subst z0; subst z1; subst z2; subst z3; subst z4
  simp only [DataW.lit.injEq, Lit.bool.injEq, Lit.int.injEq, true_and] at h0 h1 h2 h3 h4
  subst h0; subst h1; subst h2; subst h3; subst h4
  rfl
theorem rule_cells {H : Type} {enc : TypeId × Value → H} {w : World} {sp : Nat → Bool} {held : Bool} {m : Nat} {cs : List Value} {a b c p : Bool} {n : Int} {q : List MemPlace}
    (h : DataW.trod enc Tryz.prog w 0 sp held m 121 cs = some (.agg [.lit (.bool a), .lit (.int .i64 n), .lit (.bool b), .lit (.bool c), .lit (.bool p)], q)) :
    cs = [.bool a, .int .i64 n, .bool b, .bool c, .bool p] :=
  five_cells Tryz.underlying121 cRule rfl rfl rfl rfl rfl (by kernel_rfl) (by kernel_rfl) (by kernel_rfl) (by kernel_rfl) (by kernel_rfl) (by kernel_rfl) (by kernel_rfl) (by kernel_rfl) (by kernel_rfl) (by kernel_rfl) h
theorem rules_cells {w : World} {g t : Nat} {cs : Array Value} {fuel : Nat} {p : List MemPlace} (hg : Tryz.prog.globalNamed "epitome/span.rules" = some g) (ht : (Tryz.prog.globals[g]?).map (·.type) = some t)
    (hv : w.var? Tryz.prog "epitome/span.rules" = some cs) (hd : DataW.trod (fun _ => ()) Tryz.prog w 0 (fun _ => true) false fuel t cs.toList = some (Rows.laid_epitome_span_rules, p)) :
    ∀ (i : Nat) (u : Value), rulesL[i]? = some u → w.cell? ⟨0, i, none⟩ = some u := by
  obtain rfl := Option.some.inj (gRules.symm.trans hg)
  obtain rfl := Option.some.inj (tRules.symm.trans ht)
  obtain ⟨xs, m, rfl, hx, hl, hlen, hel⟩ := DataW.trod_array Tryz.underlying133 hd
  simp only [cRule] at hel
  have c20 : Tryz.prog.cellsOf 133 = 20 := by kernel_rfl
  rw [c20] at hl
  obtain ⟨x0, x1, x2, x3, rfl⟩ : ∃ x0 x1 x2 x3, xs = [x0, x1, x2, x3] := by
    match xs, hlen with
    | [x0, x1, x2, x3], _ => exact ⟨x0, x1, x2, x3, rfl⟩
  unfold Rows.laid_epitome_span_rules at hx
  simp only [List.map_cons, List.map_nil, Prod.mk.injEq, DataW.agg.injEq, List.cons.injEq, and_true] at hx
  obtain ⟨⟨h0, h1, h2, h3⟩, _⟩ := hx
  have e0 := hel 0 (by decide)
  have e1 := hel 1 (by decide)
  have e2 := hel 2 (by decide)
  have e3 := hel 3 (by decide)
  obtain ⟨a0, b0⟩ := x0; obtain ⟨a1, b1⟩ := x1; obtain ⟨a2, b2⟩ := x2; obtain ⟨a3, b3⟩ := x3
  simp only at h0 h1 h2 h3
  subst h0; subst h1; subst h2; subst h3
  have r0 := rule_cells e0
  have r1 := rule_cells e1
  have r2 := rule_cells e2
  have r3 := rule_cells e3
  have hcs : cs.toList = rulesL := by
    generalize cs.toList = l at *
    have e : l = (l.drop (0 * 5)).take 5 ++ ((l.drop (1 * 5)).take 5 ++ ((l.drop (2 * 5)).take 5 ++ ((l.drop (3 * 5)).take 5))) := by
      match l, hl with
      | [_, _, _, _, _, _, _, _, _, _, _, _, _, _, _, _, _, _, _, _], _ => rfl
    rw [e, r0, r1, r2, r3]; rfl
  intro i u hu
  rw [World.var?_cell hg hv i, ← hu, ← hcs]
  simp
theorem tab_of_laid {W : World} (h : laidMetH Tryz.prog [("epitome/span.rules", Rows.laid_epitome_span_rules)] W) : Tab W := by
  rw [MakeChecks.laidMetH_plain _ _ _ (by kernel_rfl)] at h
  obtain ⟨ps, ⟨g0, t0, cs0, f0, p0, q0, hg0, ht0, hv0, hd0, _, _⟩, _, _⟩ := h
  exact ⟨rules_cells hg0 ht0 hv0 hd0⟩
end Go.Proofs.YtgcaphjjigpjlaaGreatDoor
