/- Packed: M17d. -/
import Derived.ArgAppend
import Derived.BigQuiet
import Derived.BigRegion
import Derived.ChangeAlike
import Derived.ChangeOld
import Derived.Deep.Cut
import Derived.Deep.CutRange
import Derived.Deep.DrawnRows
import Derived.Deep.MidRow
import Derived.Deep.QuietTactic
import Derived.Deep.RegionHeld3
import Derived.Deep.RegionWith
import Derived.Deep.Slices
import Derived.Deep.Upon
import Derived.Laws.AppendOwnNone
import Derived.Laws.BytesArg
import Derived.Laws.IdiomCopy
import Derived.Laws.MakeOwn
import Derived.Laws.ResultCell
import Derived.Laws.Rows
import Derived.Lib.AppendStr
import Derived.Lib.AppendZerosOnto
import Derived.Lib.Builder
import Derived.Lib.DecodeN
import Derived.Lib.Hide
import Derived.Lib.Strings
import Derived.Lib.UnsafeStr
import Derived.LoopIn
import Derived.LoopNIn
import Derived.OpenShut
import Derived.OwnWalkIn
import Derived.ProofKit
import Derived.RangeFuncBound
import Derived.RangeFuncCalls
import Derived.RangeFuncLeaves
import Derived.RangeFuncNested
import Derived.RegionTactic
import Derived.ScopeJumps
import Derived.Shelf.Abstract
import Derived.Shelf.RegionOpen
import Derived.ShutString
import Derived.Sort.CutIn
import Derived.StillTail
import Derived.StillTailTactics
import Derived.TacticsInMore
import Derived.Test.YtgcaphjjigpjlaaGreatDoorProg
import Derived.Test.YtgcaphjjigpjlaaGreatDoorShelf
import Derived.WalkKit
import Derived.WalkLawsBesides
import Derived.WalkMore
import Derived.WalkSpells
import Derived.Test.YtgcaphjjigpjlaaGreatDoorQ00
import Derived.Test.YtgcaphjjigpjlaaGreatDoorQ01
import Derived.Test.YtgcaphjjigpjlaaGreatDoorQ02
import Derived.Test.YtgcaphjjigpjlaaGreatDoorQ03
import Derived.Test.YtgcaphjjigpjlaaGreatDoorQ04
import Derived.Test.YtgcaphjjigpjlaaGreatDoorQ05
import Derived.Test.YtgcaphjjigpjlaaGreatDoorQ06
import Derived.Test.YtgcaphjjigpjlaaGreatDoorQ07
import Derived.Test.YtgcaphjjigpjlaaGreatDoorQ08
import Derived.Test.YtgcaphjjigpjlaaGreatDoorQ09
import Derived.Test.YtgcaphjjigpjlaaGreatDoorQ10
import Derived.Test.YtgcaphjjigpjlaaGreatDoorQ11
import Derived.Test.YtgcaphjjigpjlaaGreatDoorQ12
import Derived.Test.YtgcaphjjigpjlaaGreatDoorQ13
import Derived.Test.YtgcaphjjigpjlaaGreatDoorQ14
import Derived.Test.YtgcaphjjigpjlaaGreatDoorQ15
import Derived.Test.YtgcaphjjigpjlaaGreatDoorQ16
import Derived.Test.YtgcaphjjigpjlaaGreatDoorQ17
import Derived.Test.YtgcaphjjigpjlaaGreatDoorQ18
import Derived.Test.YtgcaphjjigpjlaaGreatDoorQ19
namespace Go.Proofs.YtgcaphjjigpjlaaGreatDoor
open Go.RowKit
set_option maxRecDepth 100000
set_option maxHeartbeats 4000000
set_option linter.unusedSimpArgs false
theorem segE_chE {n : Int} {ls : List (List Sp)} (h : segE n ls = 0) : chE n ls = 0 := by
  induction ls generalizing n with
  | nil => rfl
  | cons l r ih =>
    obtain ⟨⟨h1, h2, h3, h4⟩, h5⟩ := segE_cons.1 h
    unfold chE
    rw [if_pos h1, if_pos h2]
    exact ih h5
theorem run17_base {S : ByteArray} {FL : List (List Sp)} (h : Hok S FL) (hl : ∀ l ∈ FL, l.length ≤ 1000) (hS : Small FL) (k : Nat) :
    chainE (cntF (bs S)) (FL.take k) = 0 ∧ (fuseL (cntF (bs S)) (FL.take k)).length ≤ 1000 ∧ sumT (fuseL (cntF (bs S)) (FL.take k)) ≤ 400000000 ∧ toE (fuseL (cntF (bs S)) (FL.take k)) S = 0 ∧ toS (fuseL (cntF (bs S)) (FL.take k)) S = txt17 S FL k := by
  obtain ⟨cs, h1, h2, h3⟩ := h
  rw [cntF_some h1]
  have hp := segE_take k h3
  have hl2 : ∀ l ∈ FL.take k, l.length ≤ 1000 := fun l hx => hl l (List.mem_of_mem_take hx)
  have hT := chE_thru (segE_chE hp) (by omega) hl2
  have hch : chainE (cs.length : Int) (FL.take k) = 0 := by unfold chainE; rw [if_pos (by omega)]; exact segE_chE hp
  obtain ⟨f1, f2, f3, f4, f5, f6, f7⟩ := fR_small hT (by omega)
  have hL : fuseL (cs.length : Int) (FL.take k) = spT (fR (cs.length : Int) (FL.take k)) := by unfold fuseL; rw [if_pos hch]
  have b1 := lenS_take FL k
  have b3 := hS.len
  have b4 := hS.txt
  have hd := dec_some h1
  have hs : mkS (encs cs) = S := (mkS_of hd.2).symm
  obtain ⟨t1, t2⟩ := toE10 f1 cs hd.1 (by rw [f4]) (by rw [f4]; omega)
  obtain ⟨a1, _, _⟩ := all_fR hT cs hd.1 rfl
  rw [hs] at t1 t2 a1
  rw [hL]
  refine ⟨hch, by omega, by omega, t1, ?_⟩
  rw [t2, f2]
  show _ = (allL S (FL.take k)).1
  rw [a1]
theorem Hok.size {S : ByteArray} {FL : List (List Sp)} (h : Hok S FL) (hl : ∀ l ∈ FL, l.length ≤ 1000) (hn : FL.length ≤ 900) {k : Nat} (hk : k < FL.length) :
    cntF (bs (txt17 S FL (k + 1))) = outL FL[k] ∧ normL FL[k] = FL[k] ∧ mayL FL[k] = 0 ∧ outL FL[k] ≤ 1048576 := by
  obtain ⟨ds, h1, h2, _⟩ := h.txt hl (j := k) (Nat.le_of_lt hk) hn
  obtain ⟨cs, c1, c2, c3⟩ := h
  have h4 : segE (ds.length : Int) (FL.drop k) = 0 := by
    have hr := log_rest (hok_log ⟨cs, c1, c2, c3⟩ hn) hl (Nat.le_of_lt hk)
    obtain ⟨ds2, g1, _, _, _, g5⟩ := logE_ok hr
    have e : (allL S (FL.take k)).1 = txt17 S FL k := rfl
    rw [e, h1] at g1
    injection g1 with g1
    rw [g1]; exact g5
  rw [List.drop_eq_getElem_cons hk] at h4
  obtain ⟨⟨m1, m2, m3, m4⟩, _⟩ := segE_cons.1 h4
  obtain ⟨_, tb, tc⟩ := seg_to h1 m1 m2 (hl _ (List.getElem_mem hk))
  have hst : txt17 S FL (k + 1) = toS FL[k] (txt17 S FL k) := (log_step (hok_log ⟨cs, c1, c2, c3⟩ hn) hl hk).2
  exact ⟨by rw [hst, cntF_some tb, tc], m4, m1, m3⟩
end Go.Proofs.YtgcaphjjigpjlaaGreatDoor
