/- Layer 11, OverPuts. -/
import Derived.Test.YtmhkglkpkpkpoaaDoorL11a
namespace Go.Proofs.YtmhkglkpkpkpoaaDoor
open Go.RowKit
set_option maxRecDepth 100000
set_option maxHeartbeats 4000000
def putL (a : Int) (U : ByteArray) (b : Int) : List Sp := [(1, a, ⟨#[]⟩), (2, 0, U), (1, b, ⟨#[]⟩)]
theorem putL_all (a b : Nat) (cs : List Nat) (hc : ∀ c ∈ cs, IsCp c) (hl : (encs cs).length ≤ 1000) (hab : a + b ≤ 50000) :
    Good (putL a (mkS (encs cs)) b) ∧ inL (putL a (mkS (encs cs)) b) = ((a + b : Nat) : Int) ∧ tok (putL a (mkS (encs cs)) b) = List.replicate a Tok.keep ++ (cs.map Tok.ins ++ List.replicate b Tok.keep) := by
  have hd : dec (bs (mkS (encs cs))) = some cs := by rw [bs_mkS]; exact dec_encs hc
  have hi : inL (putL a (mkS (encs cs)) b) = ((a + b : Nat) : Int) := by
    show (a : Int) + ((0 : Int) + ((b : Int) + 0)) = _
    omega
  have ht : sumT (putL a (mkS (encs cs)) b) = (encs cs).length := by
    show (⟨#[]⟩ : ByteArray).size + ((mkS (encs cs)).size + ((⟨#[]⟩ : ByteArray).size + 0)) = _
    rw [size_mkS, show (⟨#[]⟩ : ByteArray).size = 0 from rfl]; omega
  refine ⟨⟨fun s hs => ?_, (show (3 : Nat) ≤ 300 by omega), by omega, by omega⟩, hi, ?_⟩
  · rcases List.mem_cons.1 hs with rfl | hs
    · exact .inr ⟨.inl rfl, by simp only; omega, rfl⟩
    · rcases List.mem_cons.1 hs with rfl | hs
      · exact .inl ⟨rfl, rfl, cs, hd⟩
      · rw [List.mem_singleton] at hs; subst hs; exact .inr ⟨.inl rfl, by simp only; omega, rfl⟩
  · unfold putL
    rw [tok_cons, tok_cons, tok_cons, tok_nil, tokS_text _ _ hd, tokS_num _ _ _ (by decide), tokS_num _ _ _ (by decide), if_neg (by decide), Int.toNat_natCast, Int.toNat_natCast, List.append_nil]
theorem puts11 {Y : List Sp} (gY : Good Y) {N a b e at_ d : Nat} (hN : inL Y = (N : Int)) (hab : a + b = N) (hNb : N ≤ 63) (he : tout (tok Y) = e) (hat : whereT (tok Y) a = at_) (hd : at_ + d = e) (heb : e ≤ 10000) (cs : List Nat) (hc : ∀ c ∈ cs, IsCp c) (hl : (encs cs).length ≤ 1000) :
    Good (putL a (mkS (encs cs)) b) ∧ inL (putL a (mkS (encs cs)) b) = inL Y ∧ Good (putL at_ (mkS (encs cs)) d) ∧ overL (putL a (mkS (encs cs)) b) Y = normL (putL at_ (mkS (encs cs)) d) := by
  obtain ⟨a1, a2, a3⟩ := putL_all a b cs hc hl (by omega)
  obtain ⟨b1, b2, b3⟩ := putL_all at_ d cs hc hl (by omega)
  have ht := gY.tin
  refine ⟨a1, by omega, b1, ?_⟩
  have h := over_onePut cs (tok Y) a (by omega)
  rw [show tin (tok Y) - a = b by omega, hat, he, show e - at_ = d by omega] at h
  unfold overL
  rw [a3, h, norm_tok _ b1.ok, b3]
theorem rdO_put (w : World) (T : TypeId) (a b : Int) (U : ByteArray) : RdO (w.alloc (.cells #[.int .i64 1, .int .i64 a, .string ⟨#[]⟩, .int .i64 2, .int .i64 0, .string U, .int .i64 1, .int .i64 b, .string ⟨#[]⟩] T)) (some ⟨w.heap.size, 0, none⟩) 3 3 (putL a U b) :=
  ⟨rfl, (Own.made w w.heap.size T 3 3 _ (Nat.le_refl _) (by omega) rfl).rd⟩
end Go.Proofs.YtmhkglkpkpkpoaaDoor
