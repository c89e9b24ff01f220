/- Layer 4, the statements' own functions: shown, few. -/
import Derived.Test.YtfjiookndleaeaaDoorP4
import Derived.Test.YtfjiookndleaeaaDoorBa
import Derived.Test.YtfjiookndleaeaaDoorFr
namespace Go.Proofs.YtfjiookndleaeaaDoor
open Go.RowKit
set_option maxRecDepth 100000
set_option maxHeartbeats 1000000
theorem keep_ok (n : Int) (h0 : 0 ≤ n) (h1 : n ≤ 1048576) (w : World) : Calls Tryd.prog 22 #[.int .i64 n] w fun e w' => ∃ A c, e = .returned (.tuple #[.slice A (keepL n).length c, .int .i64 0]) ∧ Ext w w' ∧ Rd w' 3 (.slice A (keepL n).length c) (keepL n).length (spCells (keepL n)) := by
  refine (keep4_c n w).mono ?_
  rintro e w' ⟨hx, ⟨h, _⟩ | ⟨_, _, v, rfl, hr⟩⟩
  · omega
  · obtain ⟨A, c, rfl, _⟩ := hr.len
    exact ⟨A, c, rfl, hx, hr⟩
theorem keep_no (n : Int) (h : n < 0 ∨ 1048576 < n) (w : World) : Calls Tryd.prog 22 #[.int .i64 n] w fun e w' => e = .returned (.tuple #[.slice none 0 0, .int .i64 2]) ∧ Ext w w' := by
  refine (keep4_c n w).mono ?_
  rintro e w' ⟨hx, ⟨_, rfl⟩ | ⟨_, _, v, rfl, hr⟩⟩
  · exact ⟨rfl, hx⟩
  · omega
end Go.Proofs.YtfjiookndleaeaaDoor
