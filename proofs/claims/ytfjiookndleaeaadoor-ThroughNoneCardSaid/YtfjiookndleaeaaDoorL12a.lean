/- Layer 12, the statements' own functions: few, shown; what under tells of small operations. -/
import Derived.Test.YtfjiookndleaeaaDoorNu
import Derived.Test.YtfjiookndleaeaaDoorC12
import Derived.Test.YtfjiookndleaeaaDoorP12
import Derived.Test.YtfjiookndleaeaaDoorL11a
import Derived.Test.YtfjiookndleaeaaDoorG9
import Derived.Test.YtfjiookndleaeaaDoorFr
import Derived.Test.YtfjiookndleaeaaDoorC5
import Derived.Test.YtfjiookndleaeaaDoorL6b
namespace Go.Proofs.YtfjiookndleaeaaDoor
open Go.RowKit
set_option maxRecDepth 100000
set_option maxHeartbeats 4000000
theorem good_under {X Y : List Sp} (gX : Good X) (gY : Good Y) (hf : inL X = inL Y) (hl : X.length + Y.length ≤ 300) (hb : outL Y ≤ 100000) :
    Good (underL X Y) ∧ tok (underL X Y) = underT (tok X) (tok Y) ∧ isN (underL X Y) ∧ inL (underL X Y) = outL Y ∧ (underL X Y).length ≤ X.length + Y.length ∧ sumT (underL X Y) ≤ sumT X := by
  obtain ⟨h1, h2, h3, h4, h5, h6⟩ := underL_all X Y gX.ok gY.ok hf
  have e1 := norm_len X
  have e2 := norm_len Y
  have e3 := gX.txt
  exact ⟨⟨h1, by omega, by omega, by omega⟩, h2, h3, h4, by omega, h6⟩
def TellsM (w : World) (L K : List Sp) (e : Ending) (w' : World) : Prop := Ext w w' ∧ ∃ A n c B m d, e = .returned (.tuple #[.slice A n c, .slice B m d, .int .i64 0]) ∧ RdO w' A n c L ∧ RdO w' B m d K
theorem underG {X Y : List Sp} (gX : Good X) (gY : Good Y) (hf : inL X = inL Y) {w w' : World} [Tab w] (hx : Ext w w') {A B : Option Addr} {n c k d : Nat} (hX : RdO w' A n c X) (hY : RdO w' B k d Y) :
    Calls Tryd.prog 24 #[.slice A n c, .slice B k d] w' (TellsE w' (underL X Y)) := by
  have hTb := tab_ext hx
  have hE : overE X Y = 0 := by unfold overE; rw [if_pos gX.may, if_pos gY.may, if_pos hf]
  have h1 := hX.1; have h2 := hY.1; have h3 := gX.len; have h4 := gY.len; have h5 := gX.txt; have h6 := gY.txt
  refine (underP_c A n c X B k d Y w' hX hY (by omega) (by omega) gX.size gY.size (by omega)).mono ?_
  rintro e w'' ⟨hx, A', n', c', rfl, hr⟩
  rw [hE, if_pos rfl] at hr
  rw [hE]
  exact ⟨hx, A', n', c', rfl, hr⟩
theorem underRG {X Y : List Sp} (gX : Good X) (gY : Good Y) (hf : inL X = inL Y) {w' : World} {A B : Option Addr} {n c k d : Nat} (hX : RdO w' A n c X) (hY : RdO w' B k d Y) :
    Calls Tryd.prog 36 #[.slice A n c, .slice B k d] w' (TellsE w' (underL X Y)) := by
  have hE : overE X Y = 0 := by unfold overE; rw [if_pos gX.may, if_pos gY.may, if_pos hf]
  have h1 := hX.1; have h2 := hY.1; have h3 := gX.len; have h4 := gY.len; have h5 := gX.txt; have h6 := gY.txt
  refine (underR_c A n c X B k d Y w' hX hY (by omega) (by omega) gX.size gY.size (by omega)).mono ?_
  rintro e w'' ⟨hx, A', n', c', rfl, hr⟩
  rw [hE, if_pos rfl] at hr
  rw [hE]
  exact ⟨hx, A', n', c', rfl, hr⟩
def ex12s : List Sp := [(1, 1, ⟨#[]⟩), (2, 0, ⟨#[120]⟩), (1, 2, ⟨#[]⟩)]
def ex12a : List Sp := [(1, 1, ⟨#[]⟩), (2, 0, ⟨#[121]⟩), (3, 1, ⟨#[]⟩), (1, 1, ⟨#[]⟩)]
theorem ex12s_g : Good ex12s := ⟨fun s hs => okW_of_may ((by decide +kernel : ∀ s ∈ ex12s, mayS s.1 s.2.1 s.2.2 = 0) s hs), by decide +kernel, by decide +kernel, by decide +kernel⟩
theorem ex12a_g : Good ex12a := ⟨fun s hs => okW_of_may ((by decide +kernel : ∀ s ∈ ex12a, mayS s.1 s.2.1 s.2.2 = 0) s hs), by decide +kernel, by decide +kernel, by decide +kernel⟩
theorem ex12_e : underL ex12s ex12a = ex12s := by decide +kernel
theorem rdO_made (w : World) (cur : Array Value) (T : TypeId) {n : Nat} {l : List Sp} (hl : l.length = n) (hc : cur.toList = spCells l) (hs : cur.size = n * 3) (hn : n ≤ 1000) : RdO (w.alloc (.cells cur T)) (some ⟨w.heap.size, 0, none⟩) n n l :=
  ⟨hl, by rw [← hc]; exact (Own.made w w.heap.size T 3 n cur (Nat.le_refl _) (by omega) hs).rd⟩
end Go.Proofs.YtfjiookndleaeaaDoor
