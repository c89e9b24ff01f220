/- Layer 5, NormalOrder. -/
import Derived.Test.YthlhjjgmncbplaaL5a
import Derived.Test.YthlhjjgmncbplaaMm
import Derived.Test.YthlhjjgmncbplaaL4d
import Derived.OpenShut
namespace Go.Proofs.Ythlhjjgmncbplaa
open Go.RowKit
set_option maxRecDepth 100000
set_option maxHeartbeats 1000000
/-- Two rows, just made, one behind the other. -/
theorem two_rows (W : World) (xs ys : Array Value) (e : TypeId) (n m B : Nat) (hx : xs.size = n * 3) (hy : ys.size = m * 3) (hn : n ≤ 1000000) (hm : m ≤ 1000000) (hB : W.heap.size = B) :
    Rd ((W.alloc (.cells xs e)).alloc (.cells ys e)) 3 (.slice (some ⟨B, 0, none⟩) n n) n xs.toList ∧ Rd ((W.alloc (.cells xs e)).alloc (.cells ys e)) 3 (.slice (some ⟨B + 1, 0, none⟩) m m) m ys.toList := by
  subst hB
  have h1 := (Own.made W W.heap.size e 3 n xs (Nat.le_refl _) (by omega) hx).rd
  have h2 := (Own.made (W.alloc (.cells xs e)) (W.alloc (.cells xs e)).heap.size e 3 m ys (Nat.le_refl _) (by omega) hy).rd
  rw [size_alloc] at h2
  exact ⟨h1.ext ((Ext.refl _).alloc _), h2⟩
theorem normalOrder_c (z : List Int) (ch : Int) (w : World) (hz : z.length = 3) (hw : ∀ x ∈ z, (Lit.int .u8 x).wf = true) (hch : (Lit.int .u8 ch).wf = true) :
    Calls Try.prog 5 #[.agg (z.map (Value.int .u8)).toArray, .int .u8 ch] w fun e w' => e = .returned (.bool true) ∧ Below w.heap.size w w' := by
  match z, hz with
  | [z0, z1, z2], _ =>
    obtain ⟨a0, a1⟩ := bounds_u8 (hw z0 (by simp))
    obtain ⟨b0, b1⟩ := bounds_u8 (hw z1 (by simp))
    obtain ⟨d0, d1⟩ := bounds_u8 (hw z2 (by simp))
    obtain ⟨c0, c1⟩ := bounds_u8 hch
    obtain ⟨o, ho, ho1⟩ : ∃ o : UInt8, 97 + ch % 26 = (o.toNat : Int) ∧ o.toNat < 128 := by
      refine ⟨u8 (97 + ch % 26).toNat, ?_, ?_⟩
      · rw [u8_toNat (by omega)]; omega
      · rw [u8_toNat (by omega)]; omega
    obtain ⟨k, hk⟩ : ∃ k, 1 + z0 % 64 = k := ⟨_, rfl⟩
    obtain ⟨d, hd⟩ : ∃ d, 1 + z1 % 64 = d := ⟨_, rfl⟩
    obtain ⟨t, ht⟩ : ∃ t, 1 + z2 % 64 = t := ⟨_, rfl⟩
    have hk1 : 1 ≤ k ∧ k ≤ 64 := by omega
    have hd1 : 1 ≤ d ∧ d ≤ 64 := by omega
    have ht1 : 1 ≤ t ∧ t ≤ 64 := by omega
    have hsz : (mkS [o]).size = 1 := by rw [size_mkS]; rfl
    have HRUN := Lib.hid (fun w' : World => run_str (P := Try.prog) (w'.alloc (.cells #[.int .u8 (o.toNat : Int)] 5)) 33 9 5 Try.underlying33 Try.underlying5 Try.underlying9
      (v := .slice (some ⟨w'.heap.size, 0, none⟩) 1 1) (n := 1) (l := [o]) (Own.made w' w'.heap.size 5 1 1 #[.int .u8 (o.toNat : Int)] (Nat.le_refl _) (by omega) rfl).rd)
    have HBX : Hid (∀ (w' : World), Ext (w.alloc (.cells #[.int .u8 z0, .int .u8 z1, .int .u8 z2] 29)) w' → ∀ (q : Nat) (u : Value), (#[Value.int .u8 z0, Value.int .u8 z1, Value.int .u8 z2])[q]? = some u → w'.cell? ⟨w.heap.size, q, none⟩ = some u) :=
      Lib.hid fun w' hx q u hu => box_at _ _ _ _ hx q u hu
    generalize mkS [o] = S at *
    have hla : isN [((1 : Int), k, (⟨#[]⟩ : ByteArray)), (3, d, ⟨#[]⟩), (2, 0, S), (1, t, ⟨#[]⟩)] := by
      refine ⟨?_, by simp, ?_, by simp, ?_, by simp, ?_⟩
      · intro h; have := h.1; simp only at this; omega
      · intro h; have := h.1; simp only at this; omega
      · intro h; have := h.2; simp only at this; omega
      · intro h; have := h.1; simp only at this; omega
    have hlb : isN [((1 : Int), k, (⟨#[]⟩ : ByteArray)), (2, 0, S), (3, d, ⟨#[]⟩), (1, t, ⟨#[]⟩)] := by
      refine ⟨?_, by simp, ?_, by simp, ?_, by simp, ?_⟩
      · intro h; have := h.1; simp only at this; omega
      · intro h; have := h.2; simp only at this; omega
      · intro h; have := h.1; simp only at this; omega
      · intro h; have := h.1; simp only at this; omega
    have hoa : Ok [((1 : Int), k, (⟨#[]⟩ : ByteArray)), (3, d, ⟨#[]⟩), (2, 0, S), (1, t, ⟨#[]⟩)] := by
      refine ⟨?_, ?_, ?_⟩
      · intro s hs
        simp only [List.mem_cons, List.not_mem_nil, or_false] at hs
        rcases hs with rfl | rfl | rfl | rfl <;> simp only <;> omega
      · simp [sumN]; omega
      · have e0 : (⟨#[]⟩ : ByteArray).size = 0 := rfl
        simp [sumT, hsz, e0]
    have hob : Ok [((1 : Int), k, (⟨#[]⟩ : ByteArray)), (2, 0, S), (3, d, ⟨#[]⟩), (1, t, ⟨#[]⟩)] := by
      refine ⟨?_, ?_, ?_⟩
      · intro s hs
        simp only [List.mem_cons, List.not_mem_nil, or_false] at hs
        rcases hs with rfl | rfl | rfl | rfl <;> simp only <;> omega
      · simp [sumN]; omega
      · have e0 : (⟨#[]⟩ : ByteArray).size = 0 := rfl
        simp [sumT, hsz, e0]
    have HOA : Hid (∀ A c w', Rd w' 3 (.slice A 4 c) 4 (spCells [((1 : Int), k, (⟨#[]⟩ : ByteArray)), (3, d, ⟨#[]⟩), (2, 0, S), (1, t, ⟨#[]⟩)]) → _) := Lib.hid fun A c w' hr => of5_c A 4 c _ w' hr rfl (by omega) hoa
    have HOB : Hid (∀ A c w', Rd w' 3 (.slice A 4 c) 4 (spCells [((1 : Int), k, (⟨#[]⟩ : ByteArray)), (2, 0, S), (3, d, ⟨#[]⟩), (1, t, ⟨#[]⟩)]) → _) := Lib.hid fun A c w' hr => of5_c A 4 c _ w' hr rfl (by omega) hob
    rw [is_norm _ hla] at HOA
    rw [is_norm _ hlb] at HOB
    have HSA : Hid (∀ A B c d' w', Rd w' 3 (.slice A 4 c) 4 (spCells [((1 : Int), k, (⟨#[]⟩ : ByteArray)), (3, d, ⟨#[]⟩), (2, 0, S), (1, t, ⟨#[]⟩)]) → Rd w' 3 (.slice B 4 d') 4 (spCells [((1 : Int), k, (⟨#[]⟩ : ByteArray)), (3, d, ⟨#[]⟩), (2, 0, S), (1, t, ⟨#[]⟩)]) → _) :=
      Lib.hid fun A B c d' w' h1 h2 => sameR4_c A B 4 c d' _ w' h1 h2 rfl (by omega)
    have HSB : Hid (∀ A B c d' w', Rd w' 3 (.slice A 4 c) 4 (spCells [((1 : Int), k, (⟨#[]⟩ : ByteArray)), (2, 0, S), (3, d, ⟨#[]⟩), (1, t, ⟨#[]⟩)]) → Rd w' 3 (.slice B 4 d') 4 (spCells [((1 : Int), k, (⟨#[]⟩ : ByteArray)), (2, 0, S), (3, d, ⟨#[]⟩), (1, t, ⟨#[]⟩)]) → _) :=
      Lib.hid fun A B c d' w' h1 h2 => sameR4_c A B 4 c d' _ w' h1 h2 rfl (by omega)
    have hne : ¬ ([((1 : Int), k, (⟨#[]⟩ : ByteArray)), (3, d, ⟨#[]⟩), (2, 0, S), (1, t, ⟨#[]⟩)] = [((1 : Int), k, (⟨#[]⟩ : ByteArray)), (2, 0, S), (3, d, ⟨#[]⟩), (1, t, ⟨#[]⟩)]) := by
      intro e
      injection e with _ e
      injection e with e _
      injection e with e _
      exact absurd e (by omega)
    have HSN : Hid (∀ A B c d' w', Rd w' 3 (.slice A 4 c) 4 (spCells [((1 : Int), k, (⟨#[]⟩ : ByteArray)), (3, d, ⟨#[]⟩), (2, 0, S), (1, t, ⟨#[]⟩)]) → Rd w' 3 (.slice B 4 d') 4 (spCells [((1 : Int), k, (⟨#[]⟩ : ByteArray)), (2, 0, S), (3, d, ⟨#[]⟩), (1, t, ⟨#[]⟩)]) → Calls Try.prog 10 #[.slice A 4 c, .slice B 4 d'] w' fun e w'' => e = .returned (.bool false) ∧ Ext w' w'') :=
      Lib.hid fun A B c d' w' h1 h2 => by
        have g := sameG_c A B 4 c 4 d' _ _ w' h1 h2 rfl rfl (by omega)
        rw [decide_eq_false hne] at g; exact g
    clear hla hlb hoa hob hne hsz hk1 hd1 ht1
    go_enter Try.func5, Try.ntmps5
    go_wp2_with fail
    refine (shown5_c _).mono ?_; rintro e w1 ⟨rfl, hx1⟩
    have q0 := HBX.out w1 hx1 0 _ rfl
    have q1 := HBX.out w1 hx1 1 _ rfl
    have q2 := HBX.out w1 hx1 2 _ rfl
    have hlt1 : w.heap.size < w1.heap.size := by have := hx1.size; rw [size_alloc] at this; omega
    have hlt2 : w.heap.size < w1.heap.size + 1 := by omega
    have hlt3 : w.heap.size < w1.heap.size + 1 + 1 := by omega
    have hlt4 : w.heap.size < w1.heap.size + 1 + 1 + 1 := by omega
    go_wp2_with (with_reducible refine wpList_convert_run rfl rfl (HRUN.out _) rfl ?_)
    obtain ⟨hra, hrb⟩ := two_rows (((((w1.alloc (.cells #[.int .u8 (o.toNat : Int)] 5)).alloc (.cells #[.int .i64 1, .int .i64 k, .string ⟨#[]⟩] 31)).alloc (.cells #[.int .i64 3, .int .i64 d, .string ⟨#[]⟩] 31)).alloc (.cells #[.int .i64 1, .int .i64 t, .string ⟨#[]⟩] 31)).alloc (.cells #[.int .i64 2, .int .i64 0, .string S] 31)) #[.int .i64 1, .int .i64 k, .string ⟨#[]⟩, .int .i64 3, .int .i64 d, .string ⟨#[]⟩, .int .i64 2, .int .i64 0, .string S, .int .i64 1, .int .i64 t, .string ⟨#[]⟩] #[.int .i64 1, .int .i64 k, .string ⟨#[]⟩, .int .i64 2, .int .i64 0, .string S, .int .i64 3, .int .i64 d, .string ⟨#[]⟩, .int .i64 1, .int .i64 t, .string ⟨#[]⟩] 31 4 4 (w1.heap.size + 1 + 1 + 1 + 1 + 1) rfl rfl (by omega) (by omega) (by simp only [size_alloc])
    have hxw : Ext w (((((((w1.alloc (.cells #[.int .u8 (o.toNat : Int)] 5)).alloc (.cells #[.int .i64 1, .int .i64 k, .string ⟨#[]⟩] 31)).alloc (.cells #[.int .i64 3, .int .i64 d, .string ⟨#[]⟩] 31)).alloc (.cells #[.int .i64 1, .int .i64 t, .string ⟨#[]⟩] 31)).alloc (.cells #[.int .i64 2, .int .i64 0, .string S] 31)).alloc (.cells #[.int .i64 1, .int .i64 k, .string ⟨#[]⟩, .int .i64 3, .int .i64 d, .string ⟨#[]⟩, .int .i64 2, .int .i64 0, .string S, .int .i64 1, .int .i64 t, .string ⟨#[]⟩] 31)).alloc (.cells #[.int .i64 1, .int .i64 k, .string ⟨#[]⟩, .int .i64 2, .int .i64 0, .string S, .int .i64 3, .int .i64 d, .string ⟨#[]⟩, .int .i64 1, .int .i64 t, .string ⟨#[]⟩] 31)) :=
      ((((((((Ext.refl w).alloc _).trans hx1).alloc _).alloc _).alloc _).alloc _).alloc _ |>.alloc _).alloc _
    generalize ((((((w1.alloc (.cells #[.int .u8 (o.toNat : Int)] 5)).alloc (.cells #[.int .i64 1, .int .i64 k, .string ⟨#[]⟩] 31)).alloc (.cells #[.int .i64 3, .int .i64 d, .string ⟨#[]⟩] 31)).alloc (.cells #[.int .i64 1, .int .i64 t, .string ⟨#[]⟩] 31)).alloc (.cells #[.int .i64 2, .int .i64 0, .string S] 31)).alloc (.cells #[.int .i64 1, .int .i64 k, .string ⟨#[]⟩, .int .i64 3, .int .i64 d, .string ⟨#[]⟩, .int .i64 2, .int .i64 0, .string S, .int .i64 1, .int .i64 t, .string ⟨#[]⟩] 31)).alloc (.cells #[.int .i64 1, .int .i64 k, .string ⟨#[]⟩, .int .i64 2, .int .i64 0, .string S, .int .i64 3, .int .i64 d, .string ⟨#[]⟩, .int .i64 1, .int .i64 t, .string ⟨#[]⟩] 31) = W2 at *
    have HRA := Lib.hid hra; have HRB := Lib.hid hrb
    clear hra hrb
    refine (HOA.out _ _ _ HRA.out).mono ?_; rintro e w3 ⟨v3, rfl, hx3, hown3⟩
    obtain ⟨a3, c3, rfl, _⟩ := hown3.len
    have HR3 := Lib.hid hown3.rd
    clear hown3
    simp only [List.length_cons, List.length_nil, Nat.zero_add, Nat.reduceAdd] at HR3 ⊢
    go_wp2_with fail
    refine (HSA.out _ _ _ _ _ HR3.out (HRA.out.ext hx3)).mono ?_; rintro e w4 ⟨rfl, hx4⟩
    have e24 := hx3.trans hx4
    go_wp2_with fail
    refine (HOB.out _ _ _ (HRB.out.ext e24)).mono ?_; rintro e w5 ⟨v5, rfl, hx5, hown5⟩
    obtain ⟨a5, c5, rfl, _⟩ := hown5.len
    have HR5 := Lib.hid hown5.rd
    clear hown5
    have e25 := e24.trans hx5
    simp only [List.length_cons, List.length_nil, Nat.zero_add, Nat.reduceAdd] at HR5 ⊢
    go_wp2_with fail
    refine (HSB.out _ _ _ _ _ HR5.out (HRB.out.ext e25)).mono ?_; rintro e w6 ⟨rfl, hx6⟩
    have e26 := e25.trans hx6
    go_wp2_with fail
    refine (HOA.out _ _ _ (HRA.out.ext e26)).mono ?_; rintro e w7 ⟨v7, rfl, hx7, hown7⟩
    obtain ⟨a7, c7, rfl, _⟩ := hown7.len
    have HR7 := Lib.hid hown7.rd
    clear hown7
    have e27 := e26.trans hx7
    simp only [List.length_cons, List.length_nil, Nat.zero_add, Nat.reduceAdd] at HR7 ⊢
    go_wp2_with fail
    refine (HOB.out _ _ _ (HRB.out.ext e27)).mono ?_; rintro e w8 ⟨v8, rfl, hx8, hown8⟩
    obtain ⟨a8, c8, rfl, _⟩ := hown8.len
    have HR8 := Lib.hid hown8.rd
    clear hown8
    simp only [List.length_cons, List.length_nil, Nat.zero_add, Nat.reduceAdd] at HR8 ⊢
    go_wp2_with fail
    refine (HSN.out _ _ _ _ _ (HR7.out.ext hx8) HR8.out).mono ?_; rintro e w9 ⟨rfl, hx9⟩
    go_wp2_with fail
    go_ret
    exact ⟨rfl, hxw.trans ((e27.trans hx8).trans hx9)⟩
end Go.Proofs.Ythlhjjgmncbplaa
