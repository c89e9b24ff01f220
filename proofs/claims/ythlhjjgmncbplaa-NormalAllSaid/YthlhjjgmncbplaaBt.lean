/- The program's tables: package-level variables that hold what their own text lays. -/
import Derived.Test.YthlhjjgmncbplaaBe
namespace Go.Proofs.Ythlhjjgmncbplaa
open Go.RowKit
set_option maxRecDepth 100000

/-- The program has no tables here. -/
class Tab (w : World) : Prop where
  out : w = w
instance tab_none (w : World) : Tab w := ⟨rfl⟩
theorem tab_ext {w w' : World} [Tab w] (_hx : Ext w w') : Tab w' := inferInstance
instance tab_alloc {w : World} {o : Obj} [Tab w] : Tab (w.alloc o) := tab_ext ((Ext.refl w).alloc o)
instance tab_drew {w : World} [Tab w] : Tab w.drew := tab_ext (Ext.refl w).drew
instance tab_drewN {w : World} {n : Nat} [Tab w] : Tab (w.drewN n) := tab_ext ((Ext.refl w).drewN n)
instance tab_iter {w : World} {s : ByteArray} {p : Nat} [Tab w] : Tab (w.iter s p) := tab_ext ((Ext.refl w).iter s p)
end Go.Proofs.Ythlhjjgmncbplaa
