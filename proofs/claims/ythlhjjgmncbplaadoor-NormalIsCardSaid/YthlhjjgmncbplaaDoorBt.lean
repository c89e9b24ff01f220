/- The program's tables: package-level variables that hold what their own text lays. -/
import Derived.Test.YthlhjjgmncbplaaDoorBe
namespace Go.Proofs.YthlhjjgmncbplaaDoor
open Go.RowKit
set_option maxRecDepth 100000

/-- The cells of span.rules: a row of five for each kind. -/
def rulesL : List Value :=
  [.bool false, .int .i64 0, .bool false, .bool false, .bool false,
   .bool true, .int .i64 1048576, .bool true, .bool true, .bool false,
   .bool true, .int .i64 0, .bool false, .bool false, .bool true,
   .bool true, .int .i64 1048576, .bool true, .bool false, .bool false]
/-- What the tables of the program hold. -/
def TabP (w : World) : Prop := ∀ (i : Nat) (u : Value), rulesL[i]? = some u → w.cell? ⟨0, i, none⟩ = some u
class Tab (w : World) : Prop where
  out : TabP w
theorem tab_ext {w w' : World} [h : Tab w] (hx : Ext w w') : Tab w' := ⟨fun i u hu => ext_cell hx (h.out i u hu)⟩
instance tab_alloc {w : World} {o : Obj} [Tab w] : Tab (w.alloc o) := tab_ext ((Ext.refl w).alloc o)
instance tab_drew {w : World} [Tab w] : Tab w.drew := tab_ext (Ext.refl w).drew
instance tab_drewN {w : World} {n : Nat} [Tab w] : Tab (w.drewN n) := tab_ext ((Ext.refl w).drewN n)
instance tab_iter {w : World} {s : ByteArray} {p : Nat} [Tab w] : Tab (w.iter s p) := tab_ext ((Ext.refl w).iter s p)
theorem tab_rules {w : World} (h : Tab w) (i : Nat) (u : Value) (hu : rulesL[i]? = some u) : w.cell? ⟨0, i, none⟩ = some u := h.out i u hu
end Go.Proofs.YthlhjjgmncbplaaDoor
