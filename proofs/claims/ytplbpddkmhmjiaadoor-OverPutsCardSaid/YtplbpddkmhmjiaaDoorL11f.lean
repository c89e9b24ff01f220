/- Layer 11, OverPuts. -/
import Derived.Test.YtplbpddkmhmjiaaDoorL11a
namespace Go.Proofs.YtplbpddkmhmjiaaDoor
open Go.RowKit
set_option maxRecDepth 100000
set_option maxHeartbeats 4000000
def putL (a : Int) (U : ByteArray) (b : Int) : List Sp := [(1, a, ⟨#[]⟩), (2, 0, U), (1, b, ⟨#[]⟩)]
theorem putL_all (a b : Nat) (cs : List Nat) (hc : ∀ c ∈ cs, IsCp c) (hl : (encs cs).length ≤ 1000) (hab : a + b ≤ 50000) :
    Good (putL a (mkS (encs cs)) b) ∧ inL (putL a (mkS (encs cs)) b) = ((a + b : Nat) : Int) ∧ tok (putL a (mkS (encs cs)) b) = List.replicate a Tok.keep ++ (cs.map Tok.ins ++ List.replicate b Tok.keep) := by
  have hd : dec (bs (mkS (encs cs))) = some cs := by rw [bs_mkS]; exact dec_encs hc
  have hi : inL (putL a (mkS (encs cs)) b) = ((a + b : Nat) : Int) := by
    show (a : Int) + ((0 : Int) + ((b : Int) + 0)) = _
    omega
  have ht : sumT (putL a (mkS (encs cs)) b) = (encs cs).length := by
    show (⟨#[]⟩ : ByteArray).size + ((mkS (encs cs)).size + ((⟨#[]⟩ : ByteArray).size + 0)) = _
    rw [size_mkS, show (⟨#[]⟩ : ByteArray).size = 0 from rfl]; omega
  refine ⟨⟨fun s hs => ?_, (show (3 : Nat) ≤ 300 by omega), by omega, by omega⟩, hi, ?_⟩
  · rcases List.mem_cons.1 hs with rfl | hs
    · exact .inr ⟨.inl rfl, by simp only; omega, rfl⟩
    · rcases List.mem_cons.1 hs with rfl | hs
      · exact .inl ⟨rfl, rfl, cs, hd⟩
      · rw [List.mem_singleton] at hs; subst hs; exact .inr ⟨.inl rfl, by simp only; omega, rfl⟩
  · unfold putL
    rw [tok_cons, tok_cons, tok_cons, tok_nil, tokS_text _ _ hd, tokS_num _ _ _ (by decide), tokS_num _ _ _ (by decide), if_neg (by decide), Int.toNat_natCast, Int.toNat_natCast, List.append_nil]
theorem puts11 {Y : List Sp} (gY : Good Y) {N a b e at_ d : Nat} (hN : inL Y = (N : Int)) (hab : a + b = N) (hNb : N ≤ 63) (he : tout (tok Y) = e) (hat : whereT (tok Y) a = at_) (hd : at_ + d = e) (heb : e ≤ 10000) (cs : List Nat) (hc : ∀ c ∈ cs, IsCp c) (hl : (encs cs).length ≤ 1000) :
    Good (putL a (mkS (encs cs)) b) ∧ inL (putL a (mkS (encs cs)) b) = inL Y ∧ Good (putL at_ (mkS (encs cs)) d) ∧ overL (putL a (mkS (encs cs)) b) Y = normL (putL at_ (mkS (encs cs)) d) := by
  obtain ⟨a1, a2, a3⟩ := putL_all a b cs hc hl (by omega)
  obtain ⟨b1, b2, b3⟩ := putL_all at_ d cs hc hl (by omega)
  have ht := gY.tin
  refine ⟨a1, by omega, b1, ?_⟩
  have h := over_onePut cs (tok Y) a (by omega)
  rw [show tin (tok Y) - a = b by omega, hat, he, show e - at_ = d by omega] at h
  unfold overL
  rw [a3, h, norm_tok _ b1.ok, b3]
theorem rdO_put (w : World) (T : TypeId) (a b : Int) (U : ByteArray) : RdO (w.alloc (.cells #[.int .i64 1, .int .i64 a, .string ⟨#[]⟩, .int .i64 2, .int .i64 0, .string U, .int .i64 1, .int .i64 b, .string ⟨#[]⟩] T)) (some ⟨w.heap.size, 0, none⟩) 3 3 (putL a U b) :=
  ⟨rfl, (Own.made w w.heap.size T 3 3 _ (Nat.le_refl _) (by omega) rfl).rd⟩
theorem overPuts_c (s : ByteArray) (A1 : Option Addr) (q1 c1 : Nat) (l1 : List Sp) (z : List Int) (w : World) [Tab w] (hs : s.size ≤ maxLen) (h1 : Rd w 3 (.slice A1 q1 c1) q1 (spCells l1)) (hl1 : l1.length = q1) (hls1 : ∀ s ∈ l1, s.2.2.size ≤ maxLen) (hz : z.length = 2) (hw : ∀ x ∈ z, (Lit.int .u8 x).wf = true) :
    Calls Tryd.prog 8 #[.string s, .slice A1 q1 c1, .agg (z.map (Value.int .u8)).toArray] w fun e w' => e = .returned (.bool true) ∧ Below w.heap.size w w' := by
  match z, hz with
  | [z0, z1], _ =>
    obtain ⟨a0, a1⟩ := bounds_u8 (hw z0 (by simp))
    obtain ⟨b0, b1⟩ := bounds_u8 (hw z1 (by simp))
    unfold maxLen at hs
    obtain ⟨MN, hMN⟩ : ∃ MN, MN = min s.size 20 := ⟨_, rfl⟩
    have hmin1 : min (s.size : Int) 20 = (MN : Int) := by omega
    have hmin2 : (if (20 : Int) < (s.size : Int) then (20 : Int) else (s.size : Int)) = (MN : Int) := by split <;> omega
    have hML : (MN : Int) ≤ (s.size : Int) := by omega
    have hFT := fun w' => fit_c (s.extract 0 MN) w' (by simp; omega)
    have hcp := fitC_cp (bs (s.extract 0 MN))
    have hln : (fitC (bs (s.extract 0 MN))).length ≤ 20 := by rw [fitC_length, bs_length]; simp; omega
    generalize fitC (bs (s.extract 0 MN)) = cs at *
    have hel : (encs cs).length ≤ 1000 := by have := encs_le cs; omega
    obtain ⟨N, hN⟩ : ∃ N : Nat, z0 % 64 = (N : Int) := ⟨(z0 % 64).toNat, by omega⟩
    have hN63 : N ≤ 63 := by omega
    obtain ⟨a, ha⟩ : ∃ a : Nat, z1 % ((N : Int) + 1) = (a : Int) := ⟨(z1 % ((N : Int) + 1)).toNat, by have := Int.emod_nonneg z1 (show ((N : Int) + 1) ≠ 0 by omega); omega⟩
    have haN : a ≤ N := by have := Int.emod_lt_of_pos z1 (show 0 < ((N : Int) + 1) by omega); omega
    obtain ⟨b, hb⟩ : ∃ b : Nat, (N : Int) - (a : Int) = (b : Int) := ⟨N - a, by omega⟩
    have hab : a + b = N := by omega
    have HFY : Hid (∀ w', Ext w w' → Calls Tryd.prog 13 #[.slice A1 q1 c1, .int .i64 (N : Int)] w' (TellsL w' (fitL l1 (N : Int)))) := Lib.hid fun w' hx => fitG A1 q1 c1 l1 (N : Int) h1 hl1 hls1 (by omega) (by omega) hx
    obtain ⟨gY, iY, oY0, oY1, lY, tY⟩ := good_fit l1 (N : Int) (by omega) (by omega)
    clear h1 hl1 hls1
    generalize fitL l1 (N : Int) = Y at *
    have hto := gY.tout
    have hti := gY.tin
    obtain ⟨e, he⟩ : ∃ e, tout (tok Y) = e := ⟨_, rfl⟩
    obtain ⟨at_, hat⟩ : ∃ x, whereT (tok Y) a = x := ⟨_, rfl⟩
    have hle : at_ ≤ e := by rw [← he, ← hat]; exact whereT_le _ _
    obtain ⟨d, hd⟩ : ∃ d : Nat, (e : Int) - (at_ : Int) = (d : Int) := ⟨e - at_, by omega⟩
    have heb : e ≤ 10000 := by omega
    obtain ⟨gO, iO, gW, heq⟩ := puts11 (d := d) gY iY hab hN63 he hat (by omega) heb cs hcp hel
    have HW1 : Hid (∀ A n k w', Ext w w' → RdO w' A n k Y → Calls Tryd.prog 23 #[.slice A n k, .int .i64 (a : Int)] w' fun r w'' => r = .returned (.tuple #[.int .i64 (at_ : Int), .int .i64 0]) ∧ Ext w' w'') := Lib.hid fun A n k w' hx hr => by
      have h := @whereG Y gY a (by omega) w w' _ hx A n k hr
      rw [hat] at h; exact h
    have HW2 : Hid (∀ A n k w', Ext w w' → RdO w' A n k Y → Calls Tryd.prog 23 #[.slice A n k, .int .i64 (N : Int)] w' fun r w'' => r = .returned (.tuple #[.int .i64 (e : Int), .int .i64 0]) ∧ Ext w' w'') := Lib.hid fun A n k w' hx hr => by
      have h := @whereG Y gY N (by omega) w w' _ hx A n k hr
      rw [whereT_last (tok Y) N (by omega), he] at h; exact h
    have HFT := Lib.hid hFT
    generalize hU : mkS (encs cs) = U at *
    have HOV : Hid (∀ A n k B m d' w', Ext w w' → RdO w' A n k (putL a U b) → RdO w' B m d' Y → Calls Tryd.prog 12 #[.slice A n k, .slice B m d'] w' (TellsE w' (normL (putL at_ U d)))) := Lib.hid fun A n k B m d' w' hx hr hs => by
      have h := overG gO gY iO hx hr hs
      rw [heq] at h; exact h
    have LN : Hid ((normL (putL at_ U d)).length ≤ 300) := Lib.hid (by have := norm_len (putL at_ U d); have e3 : (putL at_ U d).length = 3 := rfl; omega)
    have hb63 : b ≤ 63 := by omega
    have ha63 : a ≤ 63 := by omega
    have hdb : d ≤ 10000 := by omega
    have hab2 : at_ ≤ 10000 := by omega
    have dle : decide (at_ ≤ e) = true := by rw [decide_eq_true_eq]; exact hle
    have dle2 : (at_ : Int) ≤ (e : Int) := by omega
    have HBX : Hid (∀ (w' : World), Ext (w.alloc (.cells #[.int .u8 z0, .int .u8 z1] 52)) w' → ∀ (q : Nat) (u : Value), (#[Value.int .u8 z0, Value.int .u8 z1])[q]? = some u → w'.cell? ⟨w.heap.size, q, none⟩ = some u) :=
      Lib.hid fun w' hx q u hu => box_at _ _ _ _ hx q u hu
    clear hFT hcp hln hel hMN iY oY0 oY1 lY tY hto hti he hat heb gO iO heq hU hab hle
    have HA := Lib.hid ha
    clear ha
    go_enter Tryd.func8, Tryd.ntmps8
    go_wp2_with fail
    refine (shown11_c _).mono ?_; rintro r w1 ⟨rfl, hx1⟩
    have q0 := HBX.out w1 hx1 0 _ rfl
    have q1 := HBX.out w1 hx1 1 _ rfl
    have e1 : Ext w w1 := ((Ext.refl w).alloc _).trans hx1
    have ha := HA.out
    clear hx1 HBX
    go_wp2_with fail
    (try simp only [HA.out])
    refine (HFT.out _).mono ?_; rintro e w2 ⟨rfl, hx2⟩
    have e2 : Ext w w2 := e1.trans hx2
    clear hx2
    clear ha q0 q1
    go_wp2_with fail
    (try simp only [HA.out])
    refine (HFY.out _ e2).mono ?_; rintro e w3 ⟨hx3, aY, nY, cY, rfl, rY⟩
    have e3 : Ext w w3 := e2.trans hx3
    have RY := Lib.hid rY
    clear hx3 rY
    go_wp2_with fail
    (try simp only [HA.out])
    have RO := Lib.hid (rdO_put w3 49 a b U)
    replace RY := Lib.hid (RY.out.ext ((Ext.refl w3).alloc (.cells #[.int .i64 1, .int .i64 (a : Int), .string ⟨#[]⟩, .int .i64 2, .int .i64 0, .string U, .int .i64 1, .int .i64 (b : Int), .string ⟨#[]⟩] 49)))
    have e4 : Ext w (w3.alloc (.cells #[.int .i64 1, .int .i64 (a : Int), .string ⟨#[]⟩, .int .i64 2, .int .i64 0, .string U, .int .i64 1, .int .i64 (b : Int), .string ⟨#[]⟩] 49)) := e3.alloc _
    refine (HW1.out _ _ _ _ e4 RY.out).mono ?_; rintro e w5 ⟨rfl, hx5⟩
    have e5 : Ext w w5 := e4.trans hx5
    replace RY := Lib.hid (RY.out.ext hx5)
    replace RO := Lib.hid (RO.out.ext hx5)
    clear hx5
    go_wp2_with fail
    (try simp only [HA.out])
    refine (HW2.out _ _ _ _ e5 RY.out).mono ?_; rintro e w6 ⟨rfl, hx6⟩
    have e6 : Ext w w6 := e5.trans hx6
    replace RY := Lib.hid (RY.out.ext hx6)
    replace RO := Lib.hid (RO.out.ext hx6)
    clear hx6
    go_wp2_with fail
    (try simp only [HA.out])
    refine (HOV.out _ _ _ _ _ _ _ e6 RO.out RY.out).mono ?_; rintro e w7 ⟨hx7, aL, nL, cL, rfl, rL⟩
    have e7 : Ext w w7 := e6.trans hx7
    replace RY := Lib.hid (RY.out.ext hx7)
    replace RO := Lib.hid (RO.out.ext hx7)
    have RL := Lib.hid rL
    clear hx7 rL
    clear RO RY
    go_wp2_with fail
    (try simp only [HA.out])
    have RW := Lib.hid (rdO_put w7 49 at_ d U)
    replace RL := Lib.hid (RL.out.ext ((Ext.refl w7).alloc (.cells #[.int .i64 1, .int .i64 (at_ : Int), .string ⟨#[]⟩, .int .i64 2, .int .i64 0, .string U, .int .i64 1, .int .i64 (d : Int), .string ⟨#[]⟩] 49)))
    have e8 : Ext w (w7.alloc (.cells #[.int .i64 1, .int .i64 (at_ : Int), .string ⟨#[]⟩, .int .i64 2, .int .i64 0, .string U, .int .i64 1, .int .i64 (d : Int), .string ⟨#[]⟩] 49)) := e7.alloc _
    refine (normG gW RW.out).mono ?_; rintro e w9 ⟨hx9, aN, nN, cN, rfl, rN⟩
    have e9 : Ext w w9 := e8.trans hx9
    replace RL := Lib.hid (RL.out.ext hx9)
    replace RW := Lib.hid (RW.out.ext hx9)
    have RN := Lib.hid rN
    clear hx9 rN
    go_wp2_with fail
    refine (sameTrueG rfl LN.out RL.out RN.out).mono ?_; rintro e w10 ⟨rfl, hx10⟩
    have e10 : Ext w w10 := e9.trans hx10
    replace RL := Lib.hid (RL.out.ext hx10)
    replace RW := Lib.hid (RW.out.ext hx10)
    replace RN := Lib.hid (RN.out.ext hx10)
    clear hx10
    go_wp2_with fail
    go_ret
    exact ⟨rfl, e10⟩
end Go.Proofs.YtplbpddkmhmjiaaDoor
