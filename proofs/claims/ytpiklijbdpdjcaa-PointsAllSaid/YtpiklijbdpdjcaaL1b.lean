/- Layer 1, PointsAll. -/
import Derived.Test.YtpiklijbdpdjcaaL1a
namespace Go.Proofs.Ytpiklijbdpdjcaa
open Go.RowKit
set_option maxRecDepth 100000
set_option maxHeartbeats 1000000

theorem pointsAll_c (s : ByteArray) (a b : Int) (w : World) (hs : s.size ≤ maxLen) (_wa : (Lit.int .i64 a).wf = true) (_wb : (Lit.int .i64 b).wf = true) :
    Calls Try.prog 3 #[.string s, .int .i64 a, .int .i64 b] w fun e w' => e = .returned (.bool true) ∧ Below w.heap.size w w' := by
  have hf := few1_size s
  have H1 := Lib.hid (fun w' => cut_c (few1 s) a b w' (by omega))
  have H2 := Lib.hid (fun w' => cutR_c (few1 s) a b w' (by omega))
  have H3 := Lib.hid (fun w' => valid_c (few1 s) w' (by omega))
  have H4 := Lib.hid (fun w' => validR_c (few1 s) w' (by omega))
  have H5 := Lib.hid (fun w' => count_c (few1 s) w' (by omega))
  have H6 := Lib.hid (fun w' => countR_c (few1 s) w' (by omega))
  have HF := Lib.hid (fun w' => few_c s w' hs)
  unfold cutV at H1 H2
  generalize few1 s = t at *
  generalize (cutF (bs t) a b).1 = c1 at *
  generalize (cutF (bs t) a b).2 = c2 at *
  generalize (dec (bs t)).isSome = v at *
  generalize cntF (bs t) = n at *
  clear hf
  go_enter Try.func3, Try.ntmps3
  go_wp2_with (first
    | (go_at_call 9; refine (shown_c _).mono ?_; rintro e w1 ⟨rfl, hx1⟩)
    | (go_at_call 10; refine (HF.out _).mono ?_; rintro e w' ⟨rfl, rfl⟩)
    | (go_at_call 11; refine (H1.out _).mono ?_; rintro e w2 ⟨rfl, hx2⟩)
    | (go_at_call 12; refine (H2.out _).mono ?_; rintro e w3 ⟨rfl, hx3⟩)
    | (go_at_call 13; refine (H3.out _).mono ?_; rintro e w4 ⟨rfl, hx4⟩)
    | (go_at_call 14; refine (H4.out _).mono ?_; rintro e w5 ⟨rfl, hx5⟩)
    | (go_at_call 15; refine (H5.out _).mono ?_; rintro e w6 ⟨rfl, hx6⟩)
    | (go_at_call 16; refine (H6.out _).mono ?_; rintro e w7 ⟨rfl, hx7⟩))
  go_ret
  exact ⟨rfl, (((((hx1.trans hx2).trans hx3).trans hx4).trans hx5).trans hx6).trans hx7⟩
end Go.Proofs.Ytpiklijbdpdjcaa
