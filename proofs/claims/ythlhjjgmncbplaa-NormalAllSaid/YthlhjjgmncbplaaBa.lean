/- Small words for all walks of this seat: what a call leaves as it was; strings as lists of bytes. -/
import Derived.Test.YthlhjjgmncbplaaProg
import Derived.Test.YthlhjjgmncbplaaMa
import Derived.WalkKit
import Derived.WalkSpells
import Derived.WalkLawsBesides
import Derived.Lib.Hide
import Derived.Lib.Strings
namespace Go.Proofs.Ythlhjjgmncbplaa
open Go.RowKit

/-- All that was there reads as it did. -/
def Ext (w w' : World) : Prop := Below w.heap.size w w'
theorem Ext.refl (w : World) : Ext w w := Below.refl _ _
theorem Ext.trans {a b c : World} (h : Ext a b) (k : Ext b c) : Ext a c := Below.trans h (Below.mono k h.size)
theorem Ext.alloc {a b : World} (h : Ext a b) (o : Obj) : Ext a (b.alloc o) := Below.alloc h h.size o
theorem Ext.drew {a b : World} (h : Ext a b) : Ext a b.drew := Below.drew h
theorem Ext.below {a b : World} (h : Ext a b) : Below a.heap.size a b := h
theorem Ext.iter {a b : World} (h : Ext a b) (s : ByteArray) (p : Nat) : Ext a (b.iter s p) := h.alloc _

theorem ret_int {k : IntKind} {a b : Int} (h : a = b) : Ending.returned (.int k a) = .returned (.int k b) := by rw [h]
theorem ret_int2 {k j : IntKind} {a b c d : Int} (h : a = b) (h' : c = d) : Ending.returned (.tuple #[.int k a, .int j c]) = .returned (.tuple #[.int k b, .int j d]) := by rw [h, h']
theorem ret_bool {a b : Bool} (h : a = b) : Ending.returned (.bool a) = .returned (.bool b) := by rw [h]

/-- The bytes of a Go string. -/
def bs (s : ByteArray) : List UInt8 := s.data.toList
theorem bs_length (s : ByteArray) : (bs s).length = s.size := by simp [bs]
theorem bs_inj {a b : ByteArray} (h : bs a = bs b) : a = b := by
  cases a; cases b; simp only [bs] at h; congr 1; exact Array.toList_inj.1 h
theorem bs_extract (s : ByteArray) (i j : Nat) : bs (s.extract i j) = ((bs s).drop i).take (j - i) := by
  simp [bs]
theorem nth_bs (s : ByteArray) (i : Nat) (h : i < s.size) : nth (bs s) i = (s[i]'h).toNat := by
  have h' : i < (bs s).length := by rw [bs_length]; exact h
  unfold nth
  rw [List.getD_eq_getElem?_getD, List.getElem?_eq_getElem h']
  rfl
/-- The string of some bytes. -/
def mkS (l : List UInt8) : ByteArray := ⟨l.toArray⟩
theorem bs_mkS (l : List UInt8) : bs (mkS l) = l := by simp [bs, mkS]
theorem mkS_bs (s : ByteArray) : mkS (bs s) = s := bs_inj (bs_mkS _)
theorem mkS_of {s : ByteArray} {l : List UInt8} (h : bs s = l) : s = mkS l := by rw [← h, mkS_bs]
theorem size_mkS (l : List UInt8) : (mkS l).size = l.length := by rw [← bs_length, bs_mkS]
end Go.Proofs.Ythlhjjgmncbplaa
