/- Layer 7, ApplyNormal. -/
import Derived.Test.YtcelgdoaohkgnaaDoorL7a
import Derived.Test.YtcelgdoaohkgnaaDoorL6b
import Derived.Test.YtcelgdoaohkgnaaDoorBs
namespace Go.Proofs.YtcelgdoaohkgnaaDoor
open Go.RowKit
set_option maxRecDepth 100000
set_option maxHeartbeats 4000000
theorem sumT_gt (l : List Sp) : ∀ s ∈ l, s.2.2.size ≤ sumT l := by
  induction l with
  | nil => intro s hs; cases hs
  | cons a t ih =>
    intro s hs
    have e : sumT (a :: t) = a.2.2.size + sumT t := rfl
    rcases List.mem_cons.1 hs with rfl | hs
    · omega
    · have := ih s hs; omega
theorem to_norm (X : List Sp) (U : ByteArray) (h : ∀ s ∈ X, mayS s.1 s.2.1 s.2.2 = 0) (h0 : 0 ≤ inL X) (h1 : inL X ≤ 1048576) : toV (normL X) U = toV X U := by
  have hs : sumN X = inL X := (may_sum X h).2
  have hm := norm_may X h (by omega)
  have ha : mayL X = 0 := mayL_ok X h h0 h1
  have hb : mayL (normL X) = 0 := mayL_ok _ hm (by rw [inL_norm]; exact h0) (by rw [inL_norm]; exact h1)
  have ht : tok (normL X) = tok X := tok_norm X fun s hs => okW_of_may (h s hs)
  have he : toE (normL X) U = toE X U := by unfold toE; rw [ha, hb, inL_norm]
  unfold toV toS
  rw [he, ht]
end Go.Proofs.YtcelgdoaohkgnaaDoor
