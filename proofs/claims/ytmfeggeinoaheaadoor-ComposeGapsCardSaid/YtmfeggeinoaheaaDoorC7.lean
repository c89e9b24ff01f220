/- Layer 7, the reference: All. -/
import Derived.Test.YtmfeggeinoaheaaDoorM7
import Derived.Test.YtmfeggeinoaheaaDoorC6
import Derived.Deep.QuietTactic
import Derived.BigQuiet
import Derived.Test.YtmfeggeinoaheaaDoorBs
import Derived.Test.YtmfeggeinoaheaaDoorC4d
namespace Go.Proofs.YtmfeggeinoaheaaDoor
open Go.RowKit
set_option maxRecDepth 100000
set_option maxHeartbeats 4000000
end Go.Proofs.YtmfeggeinoaheaaDoor
namespace Go.Proofs.YtmfeggeinoaheaaDoor
open Go.RowKit
set_option maxRecDepth 100000
set_option maxHeartbeats 4000000
end Go.Proofs.YtmfeggeinoaheaaDoor
namespace Go.Proofs.YtmfeggeinoaheaaDoor
open Go.RowKit
set_option maxRecDepth 100000
set_option maxHeartbeats 4000000
def sumTT (ls : List (List Sp)) : Nat := (ls.map sumT).sum
def allL : ByteArray → List (List Sp) → ByteArray × Int
  | s, [] => (s, 0)
  | s, l :: r => if toE l s = 0 then allL (toS l s) r else (⟨#[]⟩, toE l s)
open Classical in
noncomputable def allR (s : ByteArray) (ls : List (List Sp)) : ByteArray × Int := if ls = [] ∧ dec (bs s) = none then (⟨#[]⟩, 3) else allL s ls
noncomputable def allV (s : ByteArray) (ls : List (List Sp)) : Value := .tuple #[.string (allR s ls).1, .int .i64 (allR s ls).2]
theorem errL_zero (l : List Sp) (h : errL l = 0) : ∀ s ∈ l, mayS s.1 s.2.1 s.2.2 = 0 := by
  induction l with
  | nil => intro s hs; cases hs
  | cons a t ih =>
    unfold errL at h
    by_cases ha : mayS a.1 a.2.1 a.2.2 = 0
    · rw [if_pos ha] at h
      intro s hs
      rcases List.mem_cons.1 hs with rfl | hs
      · exact ha
      · exact ih h s hs
    · rw [if_neg ha] at h; exact absurd h ha
theorem toS_size (l : List Sp) (s : ByteArray) : (toS l s).size ≤ s.size + sumT l := by
  unfold toS
  split
  · rename_i h
    unfold toE at h
    by_cases hm : mayL l = 0
    · rw [if_pos hm] at h
      cases hd : dec (bs s) with
      | none => rw [hd] at h; cases h
      | some cs =>
        have he : ∀ s ∈ l, mayS s.1 s.2.1 s.2.2 = 0 := by
          unfold mayL at hm
          by_cases h0 : errL l = 0
          · exact errL_zero l h0
          · rw [if_neg h0] at hm; exact absurd hm h0
        have h1 := apT_size (tok l) cs
        have h2 := insT_sum l fun s hs => okW_of_may (he s hs)
        have h4 : (encs cs).length = s.size := by rw [← (dec_some hd).2, bs_length]
        rw [size_mkS]
        show (encs (apT (tok l) cs)).length ≤ _
        omega
    · rw [if_neg hm] at h; exact absurd h hm
  · have : (⟨#[]⟩ : ByteArray).size = 0 := rfl
    omega
end Go.Proofs.YtmfeggeinoaheaaDoor
