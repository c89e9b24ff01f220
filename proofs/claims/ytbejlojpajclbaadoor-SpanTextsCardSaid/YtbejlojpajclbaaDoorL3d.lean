/- Layer 3, SpanTexts. -/
import Derived.Test.YtbejlojpajclbaaDoorL3c
import Derived.Deep.QuietTactic
namespace Go.Proofs.YtbejlojpajclbaaDoor
open Go.RowKit
set_option maxRecDepth 100000
set_option maxHeartbeats 4000000
attribute [local go_sem ↓] Go.wp_at_zero Go.wp_at_succ
theorem mkS_append3 (a b : List UInt8) : mkS a ++ mkS b = mkS (a ++ b) := by
  apply bs_inj; rw [bs_mkS]; simp [bs, mkS]
theorem odd_none3 (cs : List Nat) (hcp : ∀ c ∈ cs, IsCp c) (o : UInt8) (ho : 128 ≤ o.toNat) (r : List UInt8) : dec (encs cs ++ (o :: 97 :: r)) = none := by
  rw [dec_append_some hcp, dec_none_of (by simp)]
  · rfl
  · obtain ⟨n, k, e⟩ : ∃ n k, firstL (o :: 97 :: r) = (n, k) := ⟨_, _, rfl⟩
    rw [e]
    rcases Nat.eq_zero_or_pos k with hk | hk
    · exact hk
    · exfalso
      have h := first4_some (nth_lt _ 1) (nth_lt _ 2) (nth_lt _ 3) e hk
      have h0 : nth (o :: 97 :: r) 0 = o.toNat := rfl
      have h1 : nth (o :: 97 :: r) 1 = 97 := rfl
      rw [h0, h1] at h
      omega

/-- The boxes of SpanTexts. -/
def BY (B : Nat) (X Y O : ByteArray) (W : World) : Prop := W.cell? ⟨B, 0, none⟩ = some (.int .i64 2) ∧ W.cell? ⟨B, 1, none⟩ = some (.int .i64 0) ∧ W.cell? ⟨B, 2, none⟩ = some (.string X) ∧ W.cell? ⟨B + 1, 0, none⟩ = some (.int .i64 2) ∧ W.cell? ⟨B + 1, 1, none⟩ = some (.int .i64 0) ∧ W.cell? ⟨B + 1, 2, none⟩ = some (.string Y) ∧ W.cell? ⟨B + 1 + 1, 0, none⟩ = some (.int .i64 2) ∧ W.cell? ⟨B + 1 + 1, 1, none⟩ = some (.int .i64 0) ∧ W.cell? ⟨B + 1 + 1, 2, none⟩ = some (.string (X ++ Y)) ∧ W.cell? ⟨B + 1 + 1 + 1 + 1, 0, none⟩ = some (.int .i64 2) ∧ W.cell? ⟨B + 1 + 1 + 1 + 1, 1, none⟩ = some (.int .i64 0) ∧ W.cell? ⟨B + 1 + 1 + 1 + 1, 2, none⟩ = some (.string (X ++ O ++ ⟨#[97]⟩))
theorem BY.ext {B : Nat} {X Y O : ByteArray} {W W' : World} (h : BY B X Y O W) (hx : Ext W W') : BY B X Y O W' := by
  obtain ⟨g00, g01, g02, g10, g11, g12, g20, g21, g22, g30, g31, g32⟩ := h
  exact ⟨ext_cell hx g00, ext_cell hx g01, ext_cell hx g02, ext_cell hx g10, ext_cell hx g11, ext_cell hx g12, ext_cell hx g20, ext_cell hx g21, ext_cell hx g22, ext_cell hx g30, ext_cell hx g31, ext_cell hx g32⟩
theorem BY.made (w : World) (X Y O : ByteArray) (o : UInt8) (e e' : TypeId) : BY w.heap.size X Y O (((((w.alloc (.cells #[.int .i64 2, .int .i64 0, .string X] e)).alloc (.cells #[.int .i64 2, .int .i64 0, .string Y] e)).alloc (.cells #[.int .i64 2, .int .i64 0, .string (X ++ Y)] e)).alloc (.cells #[.int .u8 o.toNat] e')).alloc (.cells #[.int .i64 2, .int .i64 0, .string (X ++ O ++ ⟨#[97]⟩)] e)) := by
  have a0 := fun q u hu => box_at w _ #[.int .i64 2, .int .i64 0, .string X] e (((((Ext.refl _).alloc (.cells #[.int .i64 2, .int .i64 0, .string Y] e)).alloc (.cells #[.int .i64 2, .int .i64 0, .string (X ++ Y)] e)).alloc (.cells #[.int .u8 o.toNat] e')).alloc (.cells #[.int .i64 2, .int .i64 0, .string (X ++ O ++ ⟨#[97]⟩)] e)) q u hu
  have a1 := fun q u hu => box_at (w.alloc (.cells #[.int .i64 2, .int .i64 0, .string X] e)) _ #[.int .i64 2, .int .i64 0, .string Y] e ((((Ext.refl _).alloc (.cells #[.int .i64 2, .int .i64 0, .string (X ++ Y)] e)).alloc (.cells #[.int .u8 o.toNat] e')).alloc (.cells #[.int .i64 2, .int .i64 0, .string (X ++ O ++ ⟨#[97]⟩)] e)) q u hu
  have a2 := fun q u hu => box_at ((w.alloc (.cells #[.int .i64 2, .int .i64 0, .string X] e)).alloc (.cells #[.int .i64 2, .int .i64 0, .string Y] e)) _ #[.int .i64 2, .int .i64 0, .string (X ++ Y)] e (((Ext.refl _).alloc (.cells #[.int .u8 o.toNat] e')).alloc (.cells #[.int .i64 2, .int .i64 0, .string (X ++ O ++ ⟨#[97]⟩)] e)) q u hu
  have a3 := fun q u hu => box_at ((((w.alloc (.cells #[.int .i64 2, .int .i64 0, .string X] e)).alloc (.cells #[.int .i64 2, .int .i64 0, .string Y] e)).alloc (.cells #[.int .i64 2, .int .i64 0, .string (X ++ Y)] e)).alloc (.cells #[.int .u8 o.toNat] e')) _ #[.int .i64 2, .int .i64 0, .string (X ++ O ++ ⟨#[97]⟩)] e (Ext.refl _) q u hu
  simp only [size_alloc] at a1 a2 a3
  exact ⟨a0 0 _ rfl, a0 1 _ rfl, a0 2 _ rfl, a1 0 _ rfl, a1 1 _ rfl, a1 2 _ rfl, a2 0 _ rfl, a2 1 _ rfl, a2 2 _ rfl, a3 0 _ rfl, a3 1 _ rfl, a3 2 _ rfl⟩

theorem spanTexts_c (a b : ByteArray) (c : Int) (w : World) [Tab w] (ha : a.size ≤ maxLen) (hb : b.size ≤ maxLen) (hc : (Lit.int .u8 c).wf = true) :
    Calls Tryd.prog 5 #[.string a, .string b, .int .u8 c] w fun e w' => e = .returned (.bool true) ∧ Below w.heap.size w w' := by
  obtain ⟨c0, c1⟩ := bounds_u8 hc
  obtain ⟨o, ho, ho1, ho2⟩ : ∃ o : UInt8, bits .or .u8 128 c = (o.toNat : Int) ∧ 128 ≤ o.toNat ∧ o.toNat < 256 := by
    have h : bits .or .u8 128 c = ((128 ||| c.toNat : Nat) : Int) := u8_or 128 c (by omega) (by omega) c0 (by omega)
    have hlt : 128 ||| c.toNat < 2 ^ 8 := Nat.or_lt_two_pow (by omega) (by omega)
    have hge : 128 ≤ 128 ||| c.toNat := Nat.left_le_or
    refine ⟨u8 (128 ||| c.toNat), ?_, ?_, ?_⟩
    · rw [h, u8_toNat (by omega)]
    · rw [u8_toNat (by omega)]; exact hge
    · rw [u8_toNat (by omega)]; omega
  unfold maxLen at ha hb
  have hma : (min (a.size : Int) 100).toNat = min a.size 100 := by omega
  have hmb : (min (b.size : Int) 100).toNat = min b.size 100 := by omega
  have hfa := few100_size a
  have hfb := few100_size b
  have hFA := fun w' => fit_c (few100 a) w' (by omega)
  have hFB := fun w' => fit_c (few100 b) w' (by omega)
  have hxa := fitC_cp (bs (few100 a))
  have hxb := fitC_cp (bs (few100 b))
  have hla : (fitC (bs (few100 a))).length ≤ 100 := by rw [fitC_length, bs_length]; exact hfa
  have hlb : (fitC (bs (few100 b))).length ≤ 100 := by rw [fitC_length, bs_length]; exact hfb
  unfold few100 at hFA hFB hxa hxb hla hlb
  rw [← hma] at hFA hxa hla
  rw [← hmb] at hFB hxb hlb
  generalize fitC (bs (a.extract 0 (min (a.size : Int) 100).toNat)) = xs at *
  generalize fitC (bs (b.extract 0 (min (b.size : Int) 100).toNat)) = ys at *
  have HFA := Lib.hid hFA; have HFB := Lib.hid hFB
  clear hFA hFB hma hmb hfa hfb
  have hxy : ∀ c ∈ xs ++ ys, IsCp c := fun c hc => (List.mem_append.1 hc).elim (hxa c) (hxb c)
  have hl1 : (encs xs).length ≤ 400 := by have := encs_le xs; omega
  have hl2 : (encs ys).length ≤ 400 := by have := encs_le ys; omega
  have hdx : dec (bs (mkS (encs xs))) = some xs := by rw [bs_mkS, dec_encs hxa]
  have hdy : dec (bs (mkS (encs ys))) = some ys := by rw [bs_mkS, dec_encs hxb]
  have hdxy : dec (bs (mkS (encs xs) ++ mkS (encs ys))) = some (xs ++ ys) := by rw [mkS_append3, ← encs_append, bs_mkS, dec_encs hxy]
  have hodd : dec (bs (mkS (encs xs) ++ mkS [o] ++ mkS [97])) = none := by
    rw [mkS_append3, mkS_append3, bs_mkS]
    have := odd_none3 xs hxa o ho1 []
    simpa using this
  have hos : (mkS (encs xs) ++ mkS [o] ++ mkS [97]).size ≤ 1000 := by
    rw [mkS_append3, mkS_append3, size_mkS]; simp; omega
  have hxys : (mkS (encs xs) ++ mkS (encs ys)).size ≤ 1000 := by
    rw [mkS_append3, size_mkS]; simp; omega
  have hsx : (mkS (encs xs)).size ≤ 480 := by rw [size_mkS]; omega
  have hsy : (mkS (encs ys)).size ≤ 480 := by rw [size_mkS]; omega
  have hso : (mkS [o]).size ≤ 1 := by rw [size_mkS]; exact Nat.le_refl _
  have e97 : mkS [97] = ⟨#[97]⟩ := rfl
  rw [e97] at hodd hos
  have HRUN := Lib.hid (fun w' : World => run_str (P := Tryd.prog) (w'.alloc (.cells #[.int .u8 o.toNat] 5)) 33 9 5 Tryd.underlying33 Tryd.underlying5 Tryd.underlying9
    (v := .slice (some ⟨w'.heap.size, 0, none⟩) 1 1) (n := 1) (l := [o]) (Own.made w' w'.heap.size 5 1 1 #[.int .u8 o.toNat] (Nat.le_refl _) (by omega) rfl).rd)
  clear e97 hxa hxb hxy hl1 hl2
  have hlx := hla; have hly := hlb
  generalize mkS (encs xs) = X at *
  generalize mkS (encs ys) = Y at *
  generalize mkS [o] = O at *
  have ox : outS 2 0 X = xs.length := by unfold outS cntF; rw [if_neg (by omega), if_pos rfl, hdx]; simp only; omega
  have oy : outS 2 0 Y = ys.length := by unfold outS cntF; rw [if_neg (by omega), if_pos rfl, hdy]; simp only; omega
  have oxy : outS 2 0 (X ++ Y) = (xs.length : Int) + ys.length := by unfold outS cntF; rw [if_neg (by omega), if_pos rfl, hdxy]; simp only [List.length_append, Int.natCast_add]; omega
  have oo : outS 2 0 (X ++ O ++ ⟨#[97]⟩) = 0 := by unfold outS cntF; rw [if_neg (by omega), if_pos rfl, hodd]; rfl
  have my : mayS 2 0 (X ++ Y) = 0 := by unfold mayS; rw [if_neg (by omega), if_pos rfl, if_pos rfl, hdxy]; rfl
  have mo : mayS 2 0 (X ++ O ++ ⟨#[97]⟩) = 3 := by unfold mayS; rw [if_neg (by omega), if_pos rfl, if_pos rfl, hodd]; rfl
  have HOX := Lib.hid (fun (w' : World) [Tab w'] => out_c 2 0 X w' (by omega))
  have HOY := Lib.hid (fun (w' : World) [Tab w'] => out_c 2 0 Y w' (by omega))
  have HOXY := Lib.hid (fun (w' : World) [Tab w'] => out_c 2 0 (X ++ Y) w' (by omega))
  have HOO := Lib.hid (fun (w' : World) [Tab w'] => out_c 2 0 (X ++ O ++ ⟨#[97]⟩) w' (by omega))
  have HMXY := Lib.hid (fun (w' : World) [Tab w'] => may_c 2 0 (X ++ Y) w' (by omega))
  have HMO := Lib.hid (fun (w' : World) [Tab w'] => may_c 2 0 (X ++ O ++ ⟨#[97]⟩) w' (by omega))
  have HIXY := Lib.hid (fun (w' : World) [Tab w'] => in_c 2 0 (X ++ Y) w')
  rw [ox] at HOX
  rw [oy] at HOY
  rw [oxy] at HOXY
  rw [oo] at HOO
  rw [my] at HMXY
  rw [mo] at HMO
  clear ox oy oxy oo my mo hodd hos hdx hdy hdxy hxys
  unfold spanV at *
  unfold inS at HIXY
  rw [if_neg (by omega)] at HIXY
  generalize hnx : xs.length = nx at *
  generalize hny : ys.length = ny at *
  clear hnx hny
  go_enter Tryd.func5, Tryd.ntmps5
  go_wp2_with fail
  refine (shown3_c _).mono ?_; rintro e w1 ⟨rfl, hx1⟩; have ht1 := tab_ext hx1
  go_wp2_with fail
  refine (HFA.out _).mono ?_; rintro e w2 ⟨rfl, hx2⟩; have ht2 := tab_ext hx2
  go_wp2_with fail
  refine (HFB.out _).mono ?_; rintro e w3 ⟨rfl, hx3⟩; have ht3 := tab_ext hx3
  have hr := HRUN.out (((w3.alloc (.cells #[.int .i64 2, .int .i64 0, .string X] 23)).alloc (.cells #[.int .i64 2, .int .i64 0, .string Y] 23)).alloc (.cells #[.int .i64 2, .int .i64 0, .string (X ++ Y)] 23))
  simp only [size_alloc] at hr
  have HR := Lib.hid hr
  have hx0 := (((((hx1.trans hx2).trans hx3).alloc (.cells #[.int .i64 2, .int .i64 0, .string X] 23)).alloc (.cells #[.int .i64 2, .int .i64 0, .string Y] 23)).alloc (.cells #[.int .i64 2, .int .i64 0, .string (X ++ Y)] 23)).alloc (.cells #[.int .u8 o.toNat] 5)
  have hx0' := hx0.alloc (.cells #[.int .i64 2, .int .i64 0, .string (X ++ O ++ ⟨#[97]⟩)] 23)
  have HX0 := Lib.hid hx0'
  have ht0 := tab_ext hx0'
  have hbx := BY.made w3 X Y O o 23 5
  have HBX := Lib.hid hbx
  clear hr hx0 hx0' hx1 hx2 hx3 hbx
  go_wp2_with (with_reducible refine wpList_convert_run rfl rfl HR.out rfl ?_)
  generalize (((((w3.alloc (.cells #[.int .i64 2, .int .i64 0, .string X] 23)).alloc (.cells #[.int .i64 2, .int .i64 0, .string Y] 23)).alloc (.cells #[.int .i64 2, .int .i64 0, .string (X ++ Y)] 23)).alloc (.cells #[.int .u8 o.toNat] 5)).alloc (.cells #[.int .i64 2, .int .i64 0, .string (X ++ O ++ ⟨#[97]⟩)] 23)) = W0 at *
  generalize w3.heap.size = B at *
  have hbx := HBX.out
  have hxx := Ext.refl W0
  obtain ⟨g00, g01, g02, g10, g11, g12, g20, g21, g22, g30, g31, g32⟩ := id hbx
  clear HBX hbx HR HRUN
  generalize X ++ O ++ ⟨#[97]⟩ = V at *
  generalize X ++ Y = U at *
  have hw : IntKind.i64.wrap ((nx : Int) + ny) = (nx : Int) + ny := by rw [IntKind.wrap_i64]; omega
  go_region_held3 (fun W => Tab W ∧ Ext W0 W ∧ W.cell? ⟨B, 0, none⟩ = some (.int .i64 2) ∧ W.cell? ⟨B, 1, none⟩ = some (.int .i64 0) ∧ W.cell? ⟨B, 2, none⟩ = some (.string X) ∧ W.cell? ⟨B + 1, 0, none⟩ = some (.int .i64 2) ∧ W.cell? ⟨B + 1, 1, none⟩ = some (.int .i64 0) ∧ W.cell? ⟨B + 1, 2, none⟩ = some (.string Y) ∧ W.cell? ⟨B + 1 + 1, 0, none⟩ = some (.int .i64 2) ∧ W.cell? ⟨B + 1 + 1, 1, none⟩ = some (.int .i64 0) ∧ W.cell? ⟨B + 1 + 1, 2, none⟩ = some (.string U) ∧ W.cell? ⟨B + 1 + 1 + 1 + 1, 0, none⟩ = some (.int .i64 2) ∧ W.cell? ⟨B + 1 + 1 + 1 + 1, 1, none⟩ = some (.int .i64 0) ∧ W.cell? ⟨B + 1 + 1 + 1 + 1, 2, none⟩ = some (.string V))
    ((go_split_ands; refine ⟨?_, ?_, ?_, ?_, ?_, ?_, ?_, ?_, ?_, ?_, ?_, ?_, ?_, ?_⟩ <;> first | (exact Ext.drew ‹_›) | (exact Ext.trans ‹_› hxk) | (exact ext_cell hxk ‹_›) | (exact tab_ext hxk) | (exact inferInstance) | go_keep))
    (first
    | (go_at_call_of 12 X; go_split_ands; refine (HOX.out _).mono ?_; rintro e w' ⟨rfl, hxk⟩)
    | (go_at_call_of 12 Y; go_split_ands; refine (HOY.out _).mono ?_; rintro e w' ⟨rfl, hxk⟩)
    | (go_at_call_of 12 U; go_split_ands; refine (HOXY.out _).mono ?_; rintro e w' ⟨rfl, hxk⟩)
    | (go_at_call_of 12 V; go_split_ands; refine (HOO.out _).mono ?_; rintro e w' ⟨rfl, hxk⟩)
    | (go_at_call_of 8 U; go_split_ands; refine (HMXY.out _).mono ?_; rintro e w' ⟨rfl, hxk⟩)
    | (go_at_call_of 8 V; go_split_ands; refine (HMO.out _).mono ?_; rintro e w' ⟨rfl, hxk⟩)
    | (go_at_call_of 10 U; go_split_ands; refine (HIXY.out _).mono ?_; rintro e w' ⟨rfl, hxk⟩))
  go_split_ands
  go_wp2_with fail
  go_ret
  first | exact ⟨rfl, HX0.out.trans ‹Ext W0 _›⟩ | exact ⟨rfl, HX0.out.trans (Ext.trans ‹Ext W0 _› hxk)⟩
end Go.Proofs.YtbejlojpajclbaaDoor
