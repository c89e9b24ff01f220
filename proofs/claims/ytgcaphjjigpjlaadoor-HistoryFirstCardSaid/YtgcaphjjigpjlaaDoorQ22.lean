/- Packed: M17b H17b. -/
import Derived.ArgAppend
import Derived.BigQuiet
import Derived.BigRegion
import Derived.ChangeAlike
import Derived.ChangeOld
import Derived.Deep.Cut
import Derived.Deep.CutRange
import Derived.Deep.DrawnRows
import Derived.Deep.MidRow
import Derived.Deep.QuietTactic
import Derived.Deep.RegionHeld3
import Derived.Deep.RegionWith
import Derived.Deep.Slices
import Derived.Deep.Upon
import Derived.Laws.AppendOwnNone
import Derived.Laws.BytesArg
import Derived.Laws.IdiomCopy
import Derived.Laws.MakeOwn
import Derived.Laws.ResultCell
import Derived.Laws.Rows
import Derived.Lib.AppendStr
import Derived.Lib.Builder
import Derived.Lib.DecodeN
import Derived.Lib.Hide
import Derived.Lib.Strings
import Derived.Lib.UnsafeStr
import Derived.LoopIn
import Derived.LoopNIn
import Derived.OpenShut
import Derived.OwnWalkIn
import Derived.ProofKit
import Derived.RangeFuncBound
import Derived.RangeFuncCalls
import Derived.RangeFuncLeaves
import Derived.RangeFuncNested
import Derived.RegionTactic
import Derived.ScopeJumps
import Derived.Shelf.Abstract
import Derived.Shelf.RegionOpen
import Derived.ShutString
import Derived.Sort.CutIn
import Derived.StillTail
import Derived.StillTailTactics
import Derived.TacticsInMore
import Derived.Test.YtgcaphjjigpjlaaDoorProg
import Derived.Test.YtgcaphjjigpjlaaDoorShelf
import Derived.WalkKit
import Derived.WalkLawsBesides
import Derived.WalkMore
import Derived.WalkSpells
import Derived.Test.YtgcaphjjigpjlaaDoorQ00
import Derived.Test.YtgcaphjjigpjlaaDoorQ01
import Derived.Test.YtgcaphjjigpjlaaDoorQ02
import Derived.Test.YtgcaphjjigpjlaaDoorQ03
import Derived.Test.YtgcaphjjigpjlaaDoorQ04
import Derived.Test.YtgcaphjjigpjlaaDoorQ05
import Derived.Test.YtgcaphjjigpjlaaDoorQ06
import Derived.Test.YtgcaphjjigpjlaaDoorQ07
import Derived.Test.YtgcaphjjigpjlaaDoorQ08
import Derived.Test.YtgcaphjjigpjlaaDoorQ09
import Derived.Test.YtgcaphjjigpjlaaDoorQ10
import Derived.Test.YtgcaphjjigpjlaaDoorQ11
import Derived.Test.YtgcaphjjigpjlaaDoorQ12
import Derived.Test.YtgcaphjjigpjlaaDoorQ13
import Derived.Test.YtgcaphjjigpjlaaDoorQ14
import Derived.Test.YtgcaphjjigpjlaaDoorQ15
import Derived.Test.YtgcaphjjigpjlaaDoorQ16
import Derived.Test.YtgcaphjjigpjlaaDoorQ17
import Derived.Test.YtgcaphjjigpjlaaDoorQ18
import Derived.Test.YtgcaphjjigpjlaaDoorQ19
import Derived.Test.YtgcaphjjigpjlaaDoorQ20
import Derived.Test.YtgcaphjjigpjlaaDoorQ21
namespace Go.Proofs.YtgcaphjjigpjlaaDoor
open Go.RowKit
set_option maxRecDepth 100000
set_option maxHeartbeats 4000000
set_option linter.unusedSimpArgs false
def overH (s : ByteArray) (ls : List (List Sp)) (a : List Sp) (r : Int) : Int :=
  if r < 0 ∨ (ls.length : Int) < r then 6 else if mayL a ≠ 0 then mayL a else if inL a ≠ cntF (bs (txt17 s ls r.toNat)) then 5 else thruE a (ls.drop r.toNat)
def overHL (ls : List (List Sp)) (a : List Sp) (r : Int) : List Sp := thruL a (ls.drop r.toNat)
def runH (s : ByteArray) (ls : List (List Sp)) (r t : Int) : Int :=
  if r < 0 ∨ t < r ∨ (ls.length : Int) < t then 6 else chainE (cntF (bs (txt17 s ls r.toNat))) ((ls.take t.toNat).drop r.toNat)
def runHL (s : ByteArray) (ls : List (List Sp)) (r t : Int) : List Sp := fuseL (cntF (bs (txt17 s ls r.toNat))) ((ls.take t.toNat).drop r.toNat)
def atH (s : ByteArray) (ls : List (List Sp)) (r : Int) : Value := if r < 0 ∨ (ls.length : Int) < r then .tuple #[.string ⟨#[]⟩, .int .i64 6] else .tuple #[.string (txt17 s ls r.toNat), .int .i64 0]
def newH (s : ByteArray) : Int := if dec (bs s) = none then 3 else if 1048576 < cntF (bs s) then 4 else 0
def NewR (H : World → Nat → (Nat → Prop) → ByteArray → List (List Sp) → Prop) (w : World) (s : ByteArray) (e : Ending) (w' : World) : Prop :=
  Ext w w' ∧ (newH s ≠ 0 → e = .returned (.tuple #[.pointer none, .int .i64 (newH s)])) ∧ (newH s = 0 → ∃ x F, e = .returned (.tuple #[.pointer (some ⟨x, 0, none⟩), .int .i64 0]) ∧ H w' x F s [] ∧ ∀ k, F k → w.heap.size ≤ k)
def AppR (H : World → Nat → (Nat → Prop) → ByteArray → List (List Sp) → Prop) (w : World) (x : Nat) (F : Nat → Prop) (s : ByteArray) (ls : List (List Sp)) (l : List Sp) (e : Ending) (w' : World) : Prop :=
  e = .returned (.int .i64 (appE s ls l)) ∧ Kp F w w' ∧ H w' x (Gr F w w') s (appLs s ls l)
def LogR (w : World) (s : ByteArray) (ls : List (List Sp)) (e : Ending) (w' : World) : Prop :=
  Ext w w' ∧ ∃ A n c B m d, e = .returned (.agg #[.string s, .slice A n c, .slice B m d]) ∧ Own w' w.heap.size 3 1 (.slice A n c) n (nV (revL ls.length)) ∧ OwnSS w' w.heap.size 37 50 (.slice B m d) ls
end Go.Proofs.YtgcaphjjigpjlaaDoor
namespace Go.Proofs.YtgcaphjjigpjlaaDoor
open Go.RowKit
set_option maxRecDepth 100000
set_option maxHeartbeats 4000000
set_option linter.unusedSimpArgs false
theorem push17 {P : Program} {i : TypeInfo} {z : Value} {tSS tS : TypeId} (hu : P.underlying tSS = some (.slice tS)) (hi : P.info? tS = some i) (hz : i.zero = some z) (hsize : i.size = 1) (hby : i.bytes = 24) (hzs : z.cells.size = 1)
    {w1 : World} {lv : Value} {n : Nat} {vs : List Value} (hro : Own w1 0 tS 1 lv n vs) (hn : n ≤ 1000) (u : Value) (h1 : u.oneCell' = true) :
    ∃ v' w', (Builtin.append_ #[tSS, tSS] tSS #[lv, .slice (some ⟨w1.heap.size, 0, none⟩) 1 1]).run P (w1.alloc (.cells #[u] tS)) = .ok v' w' ∧ (Own w' 0 tS 1 v' (n + 1) (vs ++ [u]) ∧ Below 0 w1 w' ∧ (∀ k, k < w1.heap.size → lv.ownBlock ≠ some k → w'.heap[k]? = w1.heap[k]?) ∧ w1.heap.size ≤ w'.heap.size ∧ (∀ k, v'.ownBlock = some k → lv.ownBlock = some k ∨ w1.heap.size ≤ k)) := by
  obtain ⟨v', w', happ, g1, g2, g3, g4, g5⟩ := app_newg (P := P) tSS tSS tS i z 1 24 hu hi hz hsize hby hzs (by omega) (by omega) hro (by omega) 1 #[u] rfl (by omega) (by simp [h1]) tS
  exact ⟨v', w', happ, g1, g2 (Below.refl 0 w1), g3, g4, g5⟩
theorem opR_err {w w' : World} {E : Int} {L : List Sp} (hx : Ext w w') (hE : E ≠ 0) : OpR w E L (.returned (.tuple #[.slice none 0 0, .int .i64 E])) w' := ⟨hx, none, 0, 0, rfl, by rw [if_neg hE]; exact ⟨rfl, Rd.nil _ _⟩⟩
theorem kp_app {F : Nat → Prop} {w W' : World} {v : Value} (hb : Below 0 w W') (hk : ∀ k, k < w.heap.size → v.ownBlock ≠ some k → W'.heap[k]? = w.heap[k]?) (hF : ∀ k, v.ownBlock = some k → F k) : Kp F w W' :=
  ⟨hb.os, hb.tape, hb.output, hb.size, fun k hk2 hn => hk k hk2 fun e => hn (hF k e)⟩
end Go.Proofs.YtgcaphjjigpjlaaDoor
