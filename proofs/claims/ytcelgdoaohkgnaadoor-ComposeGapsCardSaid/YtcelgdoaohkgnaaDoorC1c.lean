/- Layer 1, the reference: Cut. -/
import Derived.Test.YtcelgdoaohkgnaaDoorC1a
import Derived.Test.YtcelgdoaohkgnaaDoorBa
import Derived.Deep.QuietTactic
import Derived.BigQuiet
namespace Go.Proofs.YtcelgdoaohkgnaaDoor
open Go.RowKit
set_option maxRecDepth 100000
set_option maxHeartbeats 1000000

/-- The places at which code points begin, and the end. -/
def startsL (cs : List Nat) : List Nat := (List.range (cs.length + 1)).map fun i => (encs (cs.take i)).length
def startsV (cs : List Nat) : List Value := (startsL cs).map fun (i : Nat) => Value.int .i64 i
theorem startsL_length (cs : List Nat) : (startsL cs).length = cs.length + 1 := by simp [startsL]
theorem startsV_length (cs : List Nat) : (startsV cs).length = cs.length + 1 := by simp [startsV, startsL_length]
theorem startsL_snoc (cs : List Nat) (c : Nat) : startsL (cs ++ [c]) = startsL cs ++ [(encs (cs ++ [c])).length] := by
  unfold startsL
  rw [List.length_append, List.length_singleton, List.range_succ, List.map_append]
  congr 1
  · apply List.map_congr_left
    intro i hi
    rw [List.mem_range] at hi
    rw [List.take_append_of_le_length (by omega)]
  · simp only [List.map_cons, List.map_nil]
    rw [List.take_of_length_le (by simp)]
theorem startsV_snoc (cs : List Nat) (c : Nat) : startsV (cs ++ [c]) = startsV cs ++ [Value.int .i64 ((encs (cs ++ [c])).length : Nat)] := by
  simp [startsV, startsL_snoc]

def StartsR (w : World) (l : List UInt8) (e : Ending) (w' : World) : Prop :=
  Ext w w' ∧ ((dec l = none ∧ e = .returned (.tuple #[.slice none 0 0, .bool false])) ∨
    ∃ cs v, dec l = some cs ∧ e = .returned (.tuple #[v, .bool true]) ∧ Own w' w.heap.size 3 1 v (cs.length + 1) (startsV cs))

theorem first_at (s : ByteArray) (w : World) (hs : s.size ≤ 1000000000) (p : Nat) (n k : Nat) (h : firstL ((bs s).drop p) = (n, k)) :
    Calls Tryd.prog 99 #[.string (s.extract p s.size)] w fun e w' => e = .returned (.tuple #[.int .i64 n, .int .i64 k]) ∧ w = w' := by
  have h1 := first_c (s.extract p s.size) w (by simp; omega)
  have h2 : bs (s.extract p s.size) = (bs s).drop p := by
    rw [bs_extract, List.take_of_length_le]; rw [List.length_drop, bs_length]; omega
  rw [h2, h] at h1
  exact h1

theorem info_int : (Tryd.prog.info? 3).map (fun i => (i.zero, i.size, i.bytes)) = some (some (.int .i64 0), 1, 8) := by kernel_rfl

theorem starts_c (s : ByteArray) (w : World) (hs : s.size ≤ 1000000000) :
    Calls Tryd.prog 98 #[.string s] w (StartsR w (bs s)) := by
  obtain ⟨i, hi, hz0, hz1, hz2⟩ := info_parts info_int
  have hown0 : Own (w.alloc (.cells #[.int .i64 0] 3)) w.heap.size 3 1 (.slice (some ⟨w.heap.size, 0, none⟩) 1 1) 1 (startsV []) :=
    Own.made w w.heap.size 3 1 1 #[.int .i64 0] (Nat.le_refl _) (by omega) rfl
  have hbel0 : Below w.heap.size w (w.alloc (.cells #[.int .i64 0] 3)) := (Below.refl _ _).alloc (Nat.le_refl _) _
  have HI := Lib.hid hi; have HZ0 := Lib.hid hz0; have HZ1 := Lib.hid hz1; have HZ2 := Lib.hid hz2
  have HO := Lib.hid hown0; have HB := Lib.hid hbel0
  clear hi hz0 hz1 hz2 hown0 hbel0
  go_enter Tryd.func98, Tryd.ntmps98
  go_wp2
  go_loopw [4, 5] (fun o a wr => ∃ (cs : List Nat) (rest : List UInt8), (∀ c ∈ cs, IsCp c) ∧ bs s = encs cs ++ rest ∧ a = .int .i64 ((encs cs).length : Nat) ∧ Own wr w.heap.size 3 1 o (cs.length + 1) (startsV cs) ∧ Below w.heap.size w wr) (fun _ a _ => s.size - (intOf a).toNat)
  case atStart => exact ⟨[], bs s, by simp, by simp [encs], rfl, HO.out, HB.out⟩
  case round =>
    obtain ⟨cs, rest, hcp, hbs, rfl, hown, hbel⟩ := hrel
    have hlen : (encs cs).length + rest.length = s.size := by rw [← bs_length, hbs, List.length_append]
    have hcl := length_le_encs cs
    have hdrop : (bs s).drop (encs cs).length = rest := by rw [hbs, List.drop_left]
    have HBS := Lib.hid hbs; have HDR := Lib.hid hdrop; have HCP := Lib.hid hcp
    clear hbs hdrop hcp
    by_cases hr : rest = []
    · have hz : (encs cs).length = s.size := by rw [← hlen, hr]; rfl
      have hd : decide ((encs cs).length < s.size) = false := by rw [decide_eq_false_iff_not]; omega
      have hdec : dec (bs s) = some cs := by rw [HBS.out, hr, List.append_nil]; exact dec_encs HCP.out
      have HDEC := Lib.hid hdec
      clear hz hlen hr hdec
      go_wp2
      go_ret2
      exact ⟨hbel, .inr ⟨cs, u4, HDEC.out, rfl, hown⟩⟩
    · obtain ⟨n, k, hf⟩ : ∃ n k, firstL rest = (n, k) := ⟨_, _, rfl⟩
      have hpos : 0 < rest.length := List.length_pos_iff.2 hr
      have hd : decide ((encs cs).length < s.size) = true := by rw [decide_eq_true_eq]; omega
      have hcall := fun w' => first_at s w' hs (encs cs).length n k (by rw [HDR.out]; exact hf)
      have HF := Lib.hid hf; have HC := Lib.hid hcall; have HR := Lib.hid hr
      clear hf hcall hr
      by_cases hk : k = 0
      · have hq : ((k : Int) == 0) = true := by rw [hk]; rfl
        have hdec : dec (bs s) = none := by
          rw [HBS.out, dec_append_some HCP.out, dec_none_of HR.out (by rw [HF.out]; exact hk)]; rfl
        have HDEC := Lib.hid hdec
        clear hk hdec
        go_wp2_with (go_at_call 99; refine (HC.out _).mono ?_; rintro e w' ⟨rfl, rfl⟩)
        go_ret2
        exact ⟨hbel, .inl ⟨HDEC.out, rfl⟩⟩
      · have hq : ((k : Int) == 0) = false := by rw [beq_eq_false_iff_ne]; omega
        obtain ⟨hcp, hw, r, hr⟩ := firstL_some HF.out (Nat.pos_of_ne_zero hk)
        have hkle : k ≤ rest.length := by rw [hr, List.length_append, enc1_length, hw]; omega
        have henc : encs (cs ++ [n]) = encs cs ++ enc1 n := by rw [encs_append, encs_single]
        have hl2 : (encs (cs ++ [n])).length = (encs cs).length + k := by rw [henc, List.length_append, enc1_length, hw]
        obtain ⟨v', w', happ, hown', hbel'⟩ := app_new (P := Tryd.prog) 133 133 3 i _ 1 8 Tryd.underlying133 HI.out HZ0.out HZ1.out HZ2.out rfl (by omega) (by omega)
          hbel hown (by omega) 1 #[.int .i64 (((encs cs).length : Int) + (k : Int))] rfl (by omega) (by simp [Value.oneCell']) 3
        have hown2 : Own w' w.heap.size 3 1 v' ((cs ++ [n]).length + 1) (startsV (cs ++ [n])) := by
          rw [startsV_snoc, hl2, List.length_append, Int.natCast_add]; exact hown'
        have HR2 := Lib.hid hr; have HCP2 := Lib.hid hcp; have HL2 := Lib.hid hl2; have HE := Lib.hid henc
        have HK := Lib.hid hk
        clear hr hcp hl2 henc hw hk
        have HAP := Lib.hid happ; clear happ
        go_wp2_with (first | (go_at_call 99; refine (HC.out _).mono ?_; rintro e w' ⟨rfl, rfl⟩) | (at_builtin; refine wpList_append_run rfl rfl HAP.out rfl rfl ?_))
        go_roundw
        case rel => exact ⟨cs ++ [n], r, fun c hc => by
            rcases List.mem_append.1 hc with h | h
            · exact HCP.out c h
            · rw [List.mem_singleton.1 h]; exact HCP2.out, by rw [HBS.out, HR2.out, HE.out, List.append_assoc], by rw [HL2.out]; go_num, hown2, hbel'⟩
        case measure => have := HK.out; simp [intOf]; omega
end Go.Proofs.YtcelgdoaohkgnaaDoor
namespace Go.Proofs.YtcelgdoaohkgnaaDoor
open Go.RowKit
set_option maxRecDepth 100000
set_option maxHeartbeats 1000000

def cntF (l : List UInt8) : Int := match dec l with | none => -1 | some cs => (cs.length : Int)
def cutF (l : List UInt8) (a b : Int) : List UInt8 × Int :=
  match dec l with
  | none => ([], 3)
  | some cs => if 0 ≤ a ∧ a ≤ b ∧ b ≤ cs.length then (encs ((cs.take b.toNat).drop a.toNat), 0) else ([], 6)

theorem validR_c (s : ByteArray) (w : World) (hs : s.size ≤ 1000000000) :
    Calls Tryd.prog 96 #[.string s] w fun e w' => e = .returned (.bool (dec (bs s)).isSome) ∧ Ext w w' := by
  go_enter Tryd.func96, Tryd.ntmps96
  go_wp2_with fail
  refine (starts_c s _ hs).mono ?_
  rintro e w1 ⟨hx, ⟨hd, rfl⟩ | ⟨cs, v, hd, rfl, hown⟩⟩
  all_goals
    have HD := Lib.hid hd; clear hd
    go_wp2_with fail
    go_ret
    rw [HD.out]
    exact ⟨rfl, hx⟩
theorem countR_c (s : ByteArray) (w : World) (hs : s.size ≤ 1000000000) :
    Calls Tryd.prog 94 #[.string s] w fun e w' => e = .returned (.int .i64 (cntF (bs s))) ∧ Ext w w' := by
  go_enter Tryd.func94, Tryd.ntmps94
  go_wp2_with fail
  refine (starts_c s _ hs).mono ?_
  rintro e w1 ⟨hx, ⟨hd, rfl⟩ | ⟨cs, v, hd, rfl, hown⟩⟩
  · have HD : Hid (cntF (bs s) = -1) := Lib.hid (by unfold cntF; rw [hd])
    clear hd
    go_wp2_with fail
    go_ret
    rw [HD.out]
    exact ⟨rfl, hx⟩
  · have HD : Hid (cntF (bs s) = cs.length) := Lib.hid (by unfold cntF; rw [hd])
    have hl : cs.length ≤ 1000000000 := by
      have := (dec_some hd).2; have h2 := length_le_encs cs; rw [← this, bs_length] at h2; omega
    clear hd
    obtain ⟨a, c, rfl, hc⟩ := hown.len
    go_wp2_with fail
    go_ret
    rw [HD.out]
    exact ⟨ret_int (by omega), hx⟩
end Go.Proofs.YtcelgdoaohkgnaaDoor
namespace Go.Proofs.YtcelgdoaohkgnaaDoor
open Go.RowKit
set_option maxRecDepth 100000
set_option maxHeartbeats 1000000

theorem startsV_at (cs : List Nat) (i : Nat) (h : i ≤ cs.length) : (startsV cs)[i]? = some (Value.int .i64 ((encs (cs.take i)).length : Nat)) := by
  unfold startsV startsL
  rw [List.map_map, List.getElem?_map, List.getElem?_range (by omega)]
  rfl
theorem encs_take_drop (cs : List Nat) (i : Nat) : encs cs = encs (cs.take i) ++ encs (cs.drop i) := by rw [← encs_append, List.take_append_drop]
theorem encs_cut (cs : List Nat) (i j : Nat) (h : i ≤ j) :
    ((encs cs).drop (encs (cs.take i)).length).take ((encs (cs.take j)).length - (encs (cs.take i)).length) = encs ((cs.take j).drop i) := by
  have e1 : cs.take j = cs.take i ++ (cs.take j).drop i := by
    rw [show cs.take i = (cs.take j).take i from by rw [List.take_take, Nat.min_eq_left h]]; exact (List.take_append_drop i (cs.take j)).symm
  have e2 : encs cs = encs (cs.take i) ++ (encs ((cs.take j).drop i) ++ encs (cs.drop j)) := by
    rw [encs_take_drop cs j, e1, encs_append, List.append_assoc]
    congr 2
    rw [← e1]
  have e3 : (encs (cs.take j)).length - (encs (cs.take i)).length = (encs ((cs.take j).drop i)).length := by
    conv => lhs; rw [e1, encs_append, List.length_append]
    omega
  rw [e3]
  conv => lhs; rw [e2]
  rw [List.drop_left, List.take_left]
theorem encs_take_le (cs : List Nat) (i j : Nat) (h : i ≤ j) : (encs (cs.take i)).length ≤ (encs (cs.take j)).length := by
  have e : cs.take i = (cs.take j).take i := by rw [List.take_take, Nat.min_eq_left h]
  have := congrArg List.length (encs_take_drop (cs.take j) i)
  rw [List.length_append, ← e] at this
  omega

def cutV (r : List UInt8 × Int) : Value := .tuple #[.string (mkS r.1), .int .i64 r.2]

theorem cutR_c (s : ByteArray) (a b : Int) (w : World) (hs : s.size ≤ 1000000000) :
    Calls Tryd.prog 95 #[.string s, .int .i64 a, .int .i64 b] w fun e w' => e = .returned (cutV (cutF (bs s) a b)) ∧ Ext w w' := by
  go_enter Tryd.func95, Tryd.ntmps95
  go_wp2_with fail
  refine (starts_c s _ hs).mono ?_
  rintro e w1 ⟨hx, ⟨hd, rfl⟩ | ⟨cs, v, hd, rfl, hown⟩⟩
  · have HD : Hid (cutF (bs s) a b = ([], 3)) := Lib.hid (by unfold cutF; rw [hd])
    clear hd
    go_wp2_with fail
    go_ret2
    rw [HD.out]
    exact ⟨rfl, hx⟩
  obtain ⟨hcp, hbs⟩ := dec_some hd
  have hl : cs.length ≤ 1000000000 := by have h2 := length_le_encs cs; rw [← hbs, bs_length] at h2; omega
  by_cases hr : 0 ≤ a ∧ a ≤ b ∧ b ≤ cs.length
  · have hcut : cutF (bs s) a b = (encs ((cs.take b.toNat).drop a.toNat), 0) := by unfold cutF; rw [hd]; simp only; rw [if_pos hr]
    obtain ⟨h0, h1, h2⟩ := hr
    obtain ⟨i, rfl⟩ := Int.eq_ofNat_of_zero_le h0
    obtain ⟨j, rfl⟩ := Int.eq_ofNat_of_zero_le (Int.le_trans h0 h1)
    rw [Int.toNat_natCast, Int.toNat_natCast] at hcut
    obtain ⟨g, c, rfl, hc, _, _, hcell⟩ := hown.cells (by omega)
    have c1 := hcell i _ (startsV_at cs i (by omega))
    have c2 := hcell j _ (startsV_at cs j (by omega))
    have hle := encs_take_le cs i j (by omega)
    have hle2 : (encs (cs.take j)).length ≤ s.size := by
      have := encs_take_le cs j cs.length (by omega); rw [List.take_length, ← hbs, bs_length] at this; exact this
    have hout : s.extract (encs (cs.take i)).length (encs (cs.take j)).length = mkS (encs ((cs.take j).drop i)) :=
      mkS_of (by rw [bs_extract, hbs, encs_cut cs i j (by omega)])
    have HC := Lib.hid hcut; have HO := Lib.hid hout
    clear hcut hout hd hbs hcp hcell
    generalize (encs (cs.take i)).length = p at *
    generalize (encs (cs.take j)).length = q at *
    go_wp2_with fail
    go_quiet (fail)
    go_wp2_with fail
    go_ret2
    rw [HC.out, HO.out]
    exact ⟨rfl, hx.drewN _⟩
  · have hcut : cutF (bs s) a b = ([], 6) := by unfold cutF; rw [hd]; simp only; rw [if_neg hr]
    have HC := Lib.hid hcut; clear hcut hd hbs
    have hr' : a < 0 ∨ (0 ≤ a ∧ b < a) ∨ (0 ≤ a ∧ a ≤ b ∧ (cs.length : Int) < b) := by omega
    obtain ⟨aa, c, rfl, hc⟩ := hown.len
    clear hr
    rcases hr' with h | ⟨h, h'⟩ | ⟨h, h', h''⟩
    all_goals
      go_wp2_with fail
      go_ret2
      rw [HC.out]
      exact ⟨rfl, hx⟩
end Go.Proofs.YtcelgdoaohkgnaaDoor
