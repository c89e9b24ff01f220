/- Packed: C16. -/
import Derived.ArgAppend
import Derived.BigQuiet
import Derived.ChangeOld
import Derived.Deep.Cut
import Derived.Deep.CutRange
import Derived.Deep.DrawnRows
import Derived.Deep.MidRow
import Derived.Deep.QuietTactic
import Derived.Deep.RegionHeld3
import Derived.Deep.RegionWith
import Derived.Deep.Slices
import Derived.Deep.Upon
import Derived.Laws.AppendOwnNone
import Derived.Laws.BytesArg
import Derived.Laws.IdiomCopy
import Derived.Laws.MakeOwn
import Derived.Laws.ResultCell
import Derived.Lib.AppendStr
import Derived.Lib.Builder
import Derived.Lib.DecodeN
import Derived.Lib.Hide
import Derived.Lib.Strings
import Derived.Lib.UnsafeStr
import Derived.OpenShut
import Derived.ProofKit
import Derived.ShutString
import Derived.StillTail
import Derived.StillTailTactics
import Derived.Test.YtgcaphjjigpjlaaDoorProg
import Derived.Test.YtgcaphjjigpjlaaDoorShelf
import Derived.WalkKit
import Derived.WalkLawsBesides
import Derived.WalkSpells
import Derived.Test.YtgcaphjjigpjlaaDoorQ00
import Derived.Test.YtgcaphjjigpjlaaDoorQ01
import Derived.Test.YtgcaphjjigpjlaaDoorQ02
import Derived.Test.YtgcaphjjigpjlaaDoorQ03
import Derived.Test.YtgcaphjjigpjlaaDoorQ04
import Derived.Test.YtgcaphjjigpjlaaDoorQ05
import Derived.Test.YtgcaphjjigpjlaaDoorQ06
import Derived.Test.YtgcaphjjigpjlaaDoorQ07
import Derived.Test.YtgcaphjjigpjlaaDoorQ08
import Derived.Test.YtgcaphjjigpjlaaDoorQ09
import Derived.Test.YtgcaphjjigpjlaaDoorQ10
namespace Go.Proofs.YtgcaphjjigpjlaaDoor
open Go.RowKit
set_option maxRecDepth 100000
set_option maxHeartbeats 4000000
set_option linter.unusedSimpArgs false
def SizesR (w : World) (s : ByteArray) (rv : List Int) (ls : List (List Sp)) (e : Ending) (w' : World) : Prop :=
  Ext w w' ∧ ∃ A n c, e = .returned (.tuple #[.slice A n c, .int .i64 (logE s rv ls)]) ∧ Rd w' 1 (.slice A n c) n (nV (if logE s rv ls = 0 then sizesL s ls else []))
end Go.Proofs.YtgcaphjjigpjlaaDoor
