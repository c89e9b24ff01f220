/- Layer 7, the statements' own functions: shown, few; texts that are made. -/
import Derived.Test.YtcelgdoaohkgnaaDoorP7
import Derived.Test.YtcelgdoaohkgnaaDoorC1h
import Derived.Test.YtcelgdoaohkgnaaDoorC1g
import Derived.Test.YtcelgdoaohkgnaaDoorFr
namespace Go.Proofs.YtcelgdoaohkgnaaDoor
open Go.RowKit
set_option maxRecDepth 100000
set_option maxHeartbeats 2000000
/-- A string is cut, and made a text. -/
theorem cut_fit (s : ByteArray) (k : Nat) (K : Int) (hK : K = k) (hk : k ≤ 1000) (hs : s.size ≤ maxLen) : ∃ (T : Nat) (cs : List Nat), min (s.size : Int) K = (T : Int) ∧ (if K < (s.size : Int) then K else (s.size : Int)) = (T : Int) ∧ (T : Int) ≤ (s.size : Int) ∧ (0 : Int) ≤ (T : Int) ∧ s.size ≤ 9223372036854775807 ∧
    Hid (∀ w', Calls Tryd.prog 27 #[.string (s.extract 0 T)] w' fun e w'' => e = .returned (.string (mkS (encs cs))) ∧ Ext w' w'') ∧ Hid (∀ c ∈ cs, IsCp c) ∧ cs.length ≤ k ∧ (mkS (encs cs)).size ≤ 4 * k ∧ Hid (dec (bs (mkS (encs cs))) = some cs) := by
  unfold maxLen at hs
  have hz : (s.extract 0 (min s.size k)).size ≤ k := by simp; omega
  have hcp := fitC_cp (bs (s.extract 0 (min s.size k)))
  have hl : (fitC (bs (s.extract 0 (min s.size k)))).length ≤ k := by rw [fitC_length, bs_length]; exact hz
  refine ⟨min s.size k, fitC (bs (s.extract 0 (min s.size k))), by omega, by split <;> omega, by omega, by omega, by omega, Lib.hid fun w' => fit_c _ w' (by omega), Lib.hid hcp, hl, ?_, Lib.hid (by rw [bs_mkS, dec_encs hcp])⟩
  rw [size_mkS]
  have := encs_le (fitC (bs (s.extract 0 (min s.size k)))); omega
/-- An operation that is made for a text: what it gives. -/
theorem to_fit (l : List Sp) (cs : List Nat) (U : ByteArray) (hU : dec (bs U) = some cs) (hn : cs.length ≤ 1000) : toV (fitL l cs.length) U = .tuple #[.string (mkS (encs (apT (tok (fitL l cs.length)) cs))), .int .i64 0] := by
  obtain ⟨h1, h2⟩ := fitL_all l (cs.length : Int) (by omega) (by omega)
  obtain ⟨g1, g2⟩ := to_ok (l := fitL l cs.length) (s := U) (fitL_may l (cs.length : Int) (by omega) (by omega)) hU (by rw [h2])
  unfold toV
  rw [g1, g2]
theorem cnt_U (cs : List Nat) (U : ByteArray) (hU : dec (bs U) = some cs) : cntF (bs U) = (cs.length : Int) := cntF_some hU
end Go.Proofs.YtcelgdoaohkgnaaDoor
