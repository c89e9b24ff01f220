/- Layer 11, the statements' own functions: few, spans, shown; what over tells of small operations. -/
import Derived.Test.YtfjiookndleaeaaDoorNu
import Derived.Test.YtfjiookndleaeaaDoorC11
import Derived.Test.YtfjiookndleaeaaDoorP11
import Derived.Test.YtfjiookndleaeaaDoorG9
import Derived.Test.YtfjiookndleaeaaDoorFr
import Derived.Test.YtfjiookndleaeaaDoorC5
import Derived.Test.YtfjiookndleaeaaDoorL6b
namespace Go.Proofs.YtfjiookndleaeaaDoor
open Go.RowKit
set_option maxRecDepth 100000
set_option maxHeartbeats 4000000
/-- What is said of two that take the same. -/
theorem good_over {X Y : List Sp} (gX : Good X) (gY : Good Y) (hf : inL X = inL Y) (hl : X.length + Y.length ≤ 300) (hb : outL Y ≤ 100000) :
    Good (overL X Y) ∧ tok (overL X Y) = overT (tok X) (tok Y) ∧ isN (overL X Y) ∧ inL (overL X Y) = outL Y ∧ (overL X Y).length ≤ X.length + Y.length ∧ sumT (overL X Y) ≤ sumT X := by
  obtain ⟨h1, h2, h3, h4, h5, h6⟩ := overL_all X Y gX.ok gY.ok hf
  have e1 := norm_len X
  have e2 := norm_len Y
  have e3 := gX.txt
  exact ⟨⟨h1, by omega, by omega, by omega⟩, h2, h3, h4, by omega, h6⟩
theorem overG {X Y : List Sp} (gX : Good X) (gY : Good Y) (hf : inL X = inL Y) {w w' : World} [Tab w] (hx : Ext w w') {A B : Option Addr} {n c k d : Nat} (hX : RdO w' A n c X) (hY : RdO w' B k d Y) :
    Calls Tryd.prog 23 #[.slice A n c, .slice B k d] w' (TellsE w' (overL X Y)) := by
  have hTb := tab_ext hx
  have hE : overE X Y = 0 := by unfold overE; rw [if_pos gX.may, if_pos gY.may, if_pos hf]
  have h1 := hX.1; have h2 := hY.1; have h3 := gX.len; have h4 := gY.len; have h5 := gX.txt; have h6 := gY.txt
  refine (overP_c A n c X B k d Y w' hX hY (by omega) (by omega) gX.size gY.size (by omega)).mono ?_
  rintro e w'' ⟨hx, A', n', c', rfl, hr⟩
  rw [hE, if_pos rfl] at hr
  rw [hE]
  exact ⟨hx, A', n', c', rfl, hr⟩
theorem overRG {X Y : List Sp} (gX : Good X) (gY : Good Y) (hf : inL X = inL Y) {w' : World} {A B : Option Addr} {n c k d : Nat} (hX : RdO w' A n c X) (hY : RdO w' B k d Y) :
    Calls Tryd.prog 33 #[.slice A n c, .slice B k d] w' (TellsE w' (overL X Y)) := by
  have hE : overE X Y = 0 := by unfold overE; rw [if_pos gX.may, if_pos gY.may, if_pos hf]
  have h1 := hX.1; have h2 := hY.1; have h3 := gX.len; have h4 := gY.len; have h5 := gX.txt; have h6 := gY.txt
  refine (overR_c A n c X B k d Y w' hX hY (by omega) (by omega) gX.size gY.size (by omega)).mono ?_
  rintro e w'' ⟨hx, A', n', c', rfl, hr⟩
  rw [hE, if_pos rfl] at hr
  rw [hE]
  exact ⟨hx, A', n', c', rfl, hr⟩
end Go.Proofs.YtfjiookndleaeaaDoor
