/- Layer 10, FuseCancels. -/
import Derived.Test.YtcelgdoaohkgnaaDoorL10b
import Derived.Test.YtcelgdoaohkgnaaDoorL7a
namespace Go.Proofs.YtcelgdoaohkgnaaDoor
open Go.RowKit
set_option maxRecDepth 100000
set_option maxHeartbeats 4000000
theorem rdO_made3 {w W : World} {H : Nat} (hH : w.heap.size = H) {a1 a2 b1 b2 c1 c2 : Int} {a3 b3 c3 : ByteArray} {e : TypeId} (hx : Ext (w.alloc (.cells #[.int .i64 a1, .int .i64 a2, .string a3, .int .i64 b1, .int .i64 b2, .string b3, .int .i64 c1, .int .i64 c2, .string c3] e)) W) :
    RdO W (some ⟨H, 0, none⟩) 3 3 [(a1, a2, a3), (b1, b2, b3), (c1, c2, c3)] :=
  ⟨rfl, rd_made w W H hH #[.int .i64 a1, .int .i64 a2, .string a3, .int .i64 b1, .int .i64 b2, .string b3, .int .i64 c1, .int .i64 c2, .string c3] e (size := 3) (n := 3) hx rfl (by omega)⟩
def putX (K J : Nat) (U : ByteArray) : List Sp := [(1, (K : Int), ⟨#[]⟩), (2, 0, U), (1, (J : Int), ⟨#[]⟩)]
def drpX (K J L : Nat) : List Sp := [(1, (K : Int), ⟨#[]⟩), (3, (L : Int), ⟨#[]⟩), (1, (J : Int), ⟨#[]⟩)]
theorem tok_num (k : Int) (n : Nat) (t : ByteArray) (hk : k ≠ 2) : tokS (k, (n : Int), t) = List.replicate n (if k = 3 then Tok.del else Tok.keep) := by
  rw [tokS_num _ _ _ hk, Int.toNat_natCast]
theorem cancels10 (K J : Nat) (cs : List Nat) (hcp : ∀ c ∈ cs, IsCp c) (hK : K + J ≤ 100) (hl : cs.length ≤ 20) :
    Thru ((K + J : Nat) : Int) [putX K J (mkS (encs cs))] ((K + J + cs.length : Nat) : Int) ∧ Small [putX K J (mkS (encs cs))] ∧ Good (putX K J (mkS (encs cs))) ∧ spT (fR ((K + J : Nat) : Int) [putX K J (mkS (encs cs))]) = normL (putX K J (mkS (encs cs))) ∧
    Thru ((K + J : Nat) : Int) [keepL ((K + J : Nat) : Int), putX K J (mkS (encs cs)), drpX K J cs.length, keepL ((K + J : Nat) : Int)] ((K + J : Nat) : Int) ∧ Small [keepL ((K + J : Nat) : Int), putX K J (mkS (encs cs)), drpX K J cs.length, keepL ((K + J : Nat) : Int)] ∧
    spT (fR ((K + J : Nat) : Int) [keepL ((K + J : Nat) : Int), putX K J (mkS (encs cs)), drpX K J cs.length, keepL ((K + J : Nat) : Int)]) = keepL ((K + J : Nat) : Int) := by
  have hd : dec (bs (mkS (encs cs))) = some cs := by rw [bs_mkS]; exact dec_encs hcp
  have hu : (mkS (encs cs)).size ≤ 80 := by rw [size_mkS]; have := encs_le cs; omega
  have okP : ∀ s ∈ putX K J (mkS (encs cs)), OkW s := by
    intro s hs
    unfold putX at hs
    simp only [List.mem_cons, List.not_mem_nil, or_false] at hs
    rcases hs with rfl | rfl | rfl
    · exact .inr ⟨.inl rfl, by show (0 : Int) ≤ (K : Int); omega, rfl⟩
    · exact .inl ⟨rfl, rfl, cs, hd⟩
    · exact .inr ⟨.inl rfl, by show (0 : Int) ≤ (J : Int); omega, rfl⟩
  have okD : ∀ s ∈ drpX K J cs.length, OkW s := by
    intro s hs
    unfold drpX at hs
    simp only [List.mem_cons, List.not_mem_nil, or_false] at hs
    rcases hs with rfl | rfl | rfl
    · exact .inr ⟨.inl rfl, by show (0 : Int) ≤ (K : Int); omega, rfl⟩
    · exact .inr ⟨.inr rfl, by show (0 : Int) ≤ (cs.length : Int); omega, rfl⟩
    · exact .inr ⟨.inl rfl, by show (0 : Int) ≤ (J : Int); omega, rfl⟩
  have tP : tok (putX K J (mkS (encs cs))) = List.replicate K Tok.keep ++ (cs.map Tok.ins ++ List.replicate J Tok.keep) := by
    unfold putX
    rw [tok_cons, tok_cons, tok_cons, tok_nil, tok_num _ _ _ (by decide), tokS_text _ _ hd, tok_num _ _ _ (by decide), List.append_nil]
    rfl
  have tD : tok (drpX K J cs.length) = List.replicate K Tok.keep ++ (List.replicate cs.length Tok.del ++ List.replicate J Tok.keep) := by
    unfold drpX
    rw [tok_cons, tok_cons, tok_cons, tok_nil, tok_num _ _ _ (by decide), tok_num _ _ _ (by decide), tok_num _ _ _ (by decide), List.append_nil]
    rfl
  have tin_app : ∀ a b : List Tok, tin (a ++ b) = tin a + tin b := fun a b => by simp [tin]
  have tout_app : ∀ a b : List Tok, tout (a ++ b) = tout a + tout b := fun a b => by simp [tout]
  have pP := tin_ok _ okP
  have pD := tin_ok _ okD
  rw [tP, tin_app, tin_app, tout_app, tout_app, tin_keeps, tin_keeps, tout_keeps, tout_keeps, tin_map_ins, tout_inss] at pP
  rw [tD, tin_app, tin_app, tout_app, tout_app, tin_keeps, tin_keeps, tout_keeps, tout_keeps, tin_rep .del (.inr rfl), tout_rep] at pD
  rw [if_pos rfl] at pD
  obtain ⟨gF, F2, F3, F4, F5, F6⟩ := good_keep ((K + J : Nat) : Int) (by omega) (by omega)
  have sP : sumT (putX K J (mkS (encs cs))) ≤ 80 := by
    have e : sumT (putX K J (mkS (encs cs))) = 0 + ((mkS (encs cs)).size + (0 + 0)) := rfl
    omega
  have sD : sumT (drpX K J cs.length) = 0 := rfl
  have lP : (putX K J (mkS (encs cs))).length = 3 := rfl
  have lD : (drpX K J cs.length).length = 3 := rfl
  have hone : Thru ((K + J : Nat) : Int) [putX K J (mkS (encs cs))] ((K + J + cs.length : Nat) : Int) := ⟨okP, by omega, by omega, by omega, by omega, by omega⟩
  have hdk : Thru ((K + J + cs.length : Nat) : Int) [drpX K J cs.length, keepL ((K + J : Nat) : Int)] ((K + J : Nat) : Int) := by
    refine ⟨okD, by omega, by omega, by omega, ?_⟩
    refine ⟨gF.ok, by omega, by omega, by omega, by omega, by omega⟩
  have hrest : Thru ((K + J : Nat) : Int) [putX K J (mkS (encs cs)), drpX K J cs.length, keepL ((K + J : Nat) : Int)] ((K + J : Nat) : Int) := by
    refine ⟨okP, by omega, by omega, by omega, ?_⟩
    have e : outL (putX K J (mkS (encs cs))) = ((K + J + cs.length : Nat) : Int) := by omega
    rw [e]
    exact hdk
  obtain ⟨hall, hfr⟩ := thru_keep hrest (by omega)
  refine ⟨hone, ⟨?_, ?_, ?_⟩, ⟨okP, by omega, by omega, by omega⟩, ?_, hall, ⟨?_, ?_, ?_⟩, ?_⟩
  · show (putX K J (mkS (encs cs))).length + 0 ≤ 800; omega
  · show sumT (putX K J (mkS (encs cs))) + 0 ≤ 400000000; omega
  · show 1 ≤ 100000; omega
  · have e : inL (putX K J (mkS (encs cs))) = ((K + J : Nat) : Int) := by omega
    rw [← e, fR_one okP, norm_tok _ okP]
  · show (keepL ((K + J : Nat) : Int)).length + ((putX K J (mkS (encs cs))).length + ((drpX K J cs.length).length + ((keepL ((K + J : Nat) : Int)).length + 0))) ≤ 800; omega
  · show sumT (keepL ((K + J : Nat) : Int)) + (sumT (putX K J (mkS (encs cs))) + (sumT (drpX K J cs.length) + (sumT (keepL ((K + J : Nat) : Int)) + 0))) ≤ 400000000; omega
  · show 4 ≤ 100000; omega
  · rw [hfr]
    have e2 : fR ((K + J : Nat) : Int) [putX K J (mkS (encs cs)), drpX K J cs.length, keepL ((K + J : Nat) : Int)] = List.replicate (K + J) Tok.keep := by
      show compT (tok (putX K J (mkS (encs cs)))) (compT (tok (drpX K J cs.length)) (fR (outL (drpX K J cs.length)) [keepL ((K + J : Nat) : Int)])) = _
      have e3 : fR (outL (drpX K J cs.length)) [keepL ((K + J : Nat) : Int)] = List.replicate (K + J) Tok.keep := by
        have g := fR_one gF.ok
        rw [F2] at g
        rw [show outL (drpX K J cs.length) = ((K + J : Nat) : Int) by omega, g, F4, Int.toNat_natCast]
      rw [e3, ck_r (K + J) (tok (drpX K J cs.length)) (by rw [tD, tout_app, tout_app, tout_keeps, tout_keeps, tout_rep, if_pos rfl]; omega), tP, tD, comp_kk, comp_id, ck_l J _ (tin_keeps J), List.replicate_append_replicate]
    rw [e2]
    have g := fR_nil ((K + J : Nat) : Int) (by omega)
    have e4 : fR ((K + J : Nat) : Int) [] = List.replicate (K + J) Tok.keep := by show List.replicate ((K + J : Nat) : Int).toNat Tok.keep = _; rw [Int.toNat_natCast]
    rw [e4] at g
    exact g
theorem fuseCancels_c (s : ByteArray) (at_ m : Int) (w : World) [Tab w] (hs : s.size ≤ maxLen) (ha : (Lit.int .u8 at_).wf = true) (hm : (Lit.int .u8 m).wf = true) :
    Calls Tryd.prog 7 #[.string s, .int .u8 at_, .int .u8 m] w fun e w' => e = .returned (.bool true) ∧ Below w.heap.size w w' := by
  obtain ⟨n0, n1⟩ := bounds_u8 hm
  obtain ⟨o0, o1⟩ := bounds_u8 ha
  obtain ⟨T, cs, hm1, hm2, hTl, hT0, hsz, HFIT, HCP, hcl, hUs, HD⟩ := cut_fit s 20 20 rfl (by omega) hs
  obtain ⟨M, hM, hM1⟩ : ∃ M : Nat, m % 64 = (M : Int) ∧ M ≤ 63 := ⟨(m % 64).toNat, by omega, by omega⟩
  obtain ⟨K, hK, hKM⟩ : ∃ K : Nat, at_ % ((M : Int) + 1) = (K : Int) ∧ K ≤ M := by
    have h1 := Int.emod_nonneg at_ (show ((M : Int) + 1) ≠ 0 by omega)
    have h2 := Int.emod_lt_of_pos at_ (show (0 : Int) < (M : Int) + 1 by omega)
    exact ⟨(at_ % ((M : Int) + 1)).toNat, by omega, by omega⟩
  have hK2 : at_.tmod ((M : Int) + 1) = (K : Int) := by rw [Int.tmod_eq_emod_of_nonneg o0]; exact hK
  obtain ⟨J, hJ⟩ : ∃ J : Nat, M = K + J := ⟨M - K, by omega⟩
  have hJ2 : (M : Int) - (K : Int) = (J : Int) := by omega
  obtain ⟨t1, S1, g1, e1, t2, S2, e2⟩ := cancels10 K J cs HCP.out (by omega) hcl
  rw [← hJ] at t1 e1 t2 S2 e2
  obtain ⟨L, hL⟩ : ∃ L, cs.length = L := ⟨_, rfl⟩
  rw [hL] at t1 t2 S2 e2
  have OA : Hid (∀ A n c w', Ext w w' → RdSS w' A n c [keepL (M : Int), putX K J (mkS (encs cs)), drpX K J L, keepL (M : Int)] → Calls Tryd.prog 20 #[.int .i64 (M : Int), .slice A n c] w' (TellsE w' (keepL (M : Int)))) := Lib.hid fun A n c w' hx hr => by
    have h := fuseG S2 t2 (by omega) hx hr
    rw [e2] at h
    exact h
  have OB : Hid (∀ A n c w', Ext w w' → RdSS w' A n c [putX K J (mkS (encs cs))] → Calls Tryd.prog 20 #[.int .i64 (M : Int), .slice A n c] w' (TellsE w' (normL (putX K J (mkS (encs cs)))))) := Lib.hid fun A n c w' hx hr => by
    have h := fuseG S1 t1 (by omega) hx hr
    rw [e1] at h
    exact h
  have CK : Hid (∀ w', Calls Tryd.prog 33 #[.int .i64 (M : Int)] w' (TellsE w' (keepL (M : Int)))) := Lib.hid fun w' => keepG (M : Int) (by omega) (by omega) w'
  have hcn := cnt_U cs _ HD.out
  have HC : Hid (∀ w', Calls Tryd.prog 15 #[.string (mkS (encs cs))] w' fun e w'' => e = .returned (.int .i64 (L : Int)) ∧ Ext w' w'') := Lib.hid fun w' => by
    have h := count_c (mkS (encs cs)) w' (by omega); rw [hcn, hL] at h; exact h
  have LK : Hid ((keepL (M : Int)).length ≤ 300) := Lib.hid (by have := keepL_len (M : Int); omega)
  have LN : Hid ((normL (putX K J (mkS (encs cs)))).length ≤ 300) := Lib.hid (by have := norm_len (putX K J (mkS (encs cs))); have e : (putX K J (mkS (encs cs))).length = 3 := rfl; omega)
  have CN : Hid (∀ A n c w', RdO w' A n c (putX K J (mkS (encs cs))) → _) := Lib.hid fun A n c w' hr => @normG _ g1 w' A n c hr
  have PX : Hid (∀ (w : World) (B : Nat), w.heap.size = B → RdO (w.alloc (.cells #[.int .i64 1, .int .i64 (K : Int), .string ⟨#[]⟩, .int .i64 2, .int .i64 0, .string (mkS (encs cs)), .int .i64 1, .int .i64 (J : Int), .string ⟨#[]⟩] 60)) (some ⟨B, 0, none⟩) 3 3 (putX K J (mkS (encs cs)))) := Lib.hid fun w B hB => rdO_made3 hB (Ext.refl _)
  have DX : Hid (∀ (w : World) (B : Nat), w.heap.size = B → RdO (w.alloc (.cells #[.int .i64 1, .int .i64 (K : Int), .string ⟨#[]⟩, .int .i64 3, .int .i64 (L : Int), .string ⟨#[]⟩, .int .i64 1, .int .i64 (J : Int), .string ⟨#[]⟩] 60)) (some ⟨B, 0, none⟩) 3 3 (drpX K J L)) := Lib.hid fun w B hB => rdO_made3 hB (Ext.refl _)
  have hKi : (0 : Int) ≤ (K : Int) := by omega
  have hKn : (K : Int) ≤ (M : Int) := by omega
  have hM63 : (M : Int) ≤ 63 := by omega
  have hLb : L ≤ 20 := by omega
  clear t1 S1 g1 e1 t2 S2 e2 hcn hL hJ HCP HD hs hm ha hcl
  generalize normL (putX K J (mkS (encs cs))) = NP at *
  generalize keepL (M : Int) = KP at *
  generalize putX K J (mkS (encs cs)) = PP at *
  generalize drpX K J L = DP at *
  generalize mkS (encs cs) = U at *
  go_enter Tryd.func7, Tryd.ntmps7
  go_wp2_with fail
  refine (shown10_c _).mono ?_; rintro e w1 ⟨rfl, hx1⟩
  have e1 : Ext w w1 := hx1
  clear hx1
  go_wp2_with fail
  refine (HFIT.out _).mono ?_; rintro e w2 ⟨rfl, hx2⟩
  have e2 : Ext w w2 := e1.trans hx2
  clear hx2
  go_wp2_with fail
  refine (CK.out _).mono ?_; rintro e w3 ⟨hx3, aF, nF, cF, rfl, rF⟩
  have e3 : Ext w w3 := e2.trans hx3
  have RF := Lib.hid rF
  clear hx3 rF
  have RP := Lib.hid (PX.out w3 _ rfl)
  replace RF := Lib.hid (RF.out.ext ((Ext.refl w3).alloc (.cells #[.int .i64 1, .int .i64 (K : Int), .string ⟨#[]⟩, .int .i64 2, .int .i64 0, .string U, .int .i64 1, .int .i64 (J : Int), .string ⟨#[]⟩] 60)))
  have e4 : Ext w (w3.alloc (.cells #[.int .i64 1, .int .i64 (K : Int), .string ⟨#[]⟩, .int .i64 2, .int .i64 0, .string U, .int .i64 1, .int .i64 (J : Int), .string ⟨#[]⟩] 60)) := e3.alloc _
  go_wp2_with fail
  refine (HC.out _).mono ?_; rintro e w5 ⟨rfl, hx5⟩
  have e5 : Ext w w5 := e4.trans hx5
  replace RF := Lib.hid (RF.out.ext hx5)
  replace RP := Lib.hid (RP.out.ext hx5)
  clear hx5
  have RD := Lib.hid (DX.out w5 _ rfl)
  replace RF := Lib.hid (RF.out.ext ((Ext.refl w5).alloc (.cells #[.int .i64 1, .int .i64 (K : Int), .string ⟨#[]⟩, .int .i64 3, .int .i64 (L : Int), .string ⟨#[]⟩, .int .i64 1, .int .i64 (J : Int), .string ⟨#[]⟩] 60)))
  replace RP := Lib.hid (RP.out.ext ((Ext.refl w5).alloc (.cells #[.int .i64 1, .int .i64 (K : Int), .string ⟨#[]⟩, .int .i64 3, .int .i64 (L : Int), .string ⟨#[]⟩, .int .i64 1, .int .i64 (J : Int), .string ⟨#[]⟩] 60)))
  have e6 : Ext w (w5.alloc (.cells #[.int .i64 1, .int .i64 (K : Int), .string ⟨#[]⟩, .int .i64 3, .int .i64 (L : Int), .string ⟨#[]⟩, .int .i64 1, .int .i64 (J : Int), .string ⟨#[]⟩] 60)) := e5.alloc _
  have RSS := Lib.hid (rdSS4 22 RF.out RP.out RD.out RF.out)
  replace RF := Lib.hid (RF.out.ext ((Ext.refl (w5.alloc (.cells #[.int .i64 1, .int .i64 (K : Int), .string ⟨#[]⟩, .int .i64 3, .int .i64 (L : Int), .string ⟨#[]⟩, .int .i64 1, .int .i64 (J : Int), .string ⟨#[]⟩] 60))).alloc (.cells #[.slice aF nF cF, .slice (some ⟨w3.heap.size, 0, none⟩) 3 3, .slice (some ⟨w5.heap.size, 0, none⟩) 3 3, .slice aF nF cF] 22)))
  replace RP := Lib.hid (RP.out.ext ((Ext.refl (w5.alloc (.cells #[.int .i64 1, .int .i64 (K : Int), .string ⟨#[]⟩, .int .i64 3, .int .i64 (L : Int), .string ⟨#[]⟩, .int .i64 1, .int .i64 (J : Int), .string ⟨#[]⟩] 60))).alloc (.cells #[.slice aF nF cF, .slice (some ⟨w3.heap.size, 0, none⟩) 3 3, .slice (some ⟨w5.heap.size, 0, none⟩) 3 3, .slice aF nF cF] 22)))
  replace RD := Lib.hid (RD.out.ext ((Ext.refl (w5.alloc (.cells #[.int .i64 1, .int .i64 (K : Int), .string ⟨#[]⟩, .int .i64 3, .int .i64 (L : Int), .string ⟨#[]⟩, .int .i64 1, .int .i64 (J : Int), .string ⟨#[]⟩] 60))).alloc (.cells #[.slice aF nF cF, .slice (some ⟨w3.heap.size, 0, none⟩) 3 3, .slice (some ⟨w5.heap.size, 0, none⟩) 3 3, .slice aF nF cF] 22)))
  have e7 : Ext w ((w5.alloc (.cells #[.int .i64 1, .int .i64 (K : Int), .string ⟨#[]⟩, .int .i64 3, .int .i64 (L : Int), .string ⟨#[]⟩, .int .i64 1, .int .i64 (J : Int), .string ⟨#[]⟩] 60)).alloc (.cells #[.slice aF nF cF, .slice (some ⟨w3.heap.size, 0, none⟩) 3 3, .slice (some ⟨w5.heap.size, 0, none⟩) 3 3, .slice aF nF cF] 22)) := e6.alloc _
  have hh := RSS.out
  simp only [size_alloc] at hh
  replace RSS := Lib.hid hh
  clear hh
  go_wp2_with fail
  refine (OA.out _ _ _ _ e7 RSS.out).mono ?_; rintro e w8 ⟨hx8, aA, nA, cA, rfl, rA⟩
  have e8 : Ext w w8 := e7.trans hx8
  replace RF := Lib.hid (RF.out.ext hx8)
  replace RP := Lib.hid (RP.out.ext hx8)
  replace RD := Lib.hid (RD.out.ext hx8)
  have RA := Lib.hid rA
  clear hx8 rA
  clear RSS
  clear RD
  have RS1 := Lib.hid (rdSS1 22 RP.out)
  replace RF := Lib.hid (RF.out.ext ((Ext.refl w8).alloc (.cells #[.slice (some ⟨w3.heap.size, 0, none⟩) 3 3] 22)))
  replace RP := Lib.hid (RP.out.ext ((Ext.refl w8).alloc (.cells #[.slice (some ⟨w3.heap.size, 0, none⟩) 3 3] 22)))
  replace RA := Lib.hid (RA.out.ext ((Ext.refl w8).alloc (.cells #[.slice (some ⟨w3.heap.size, 0, none⟩) 3 3] 22)))
  have e9 : Ext w (w8.alloc (.cells #[.slice (some ⟨w3.heap.size, 0, none⟩) 3 3] 22)) := e8.alloc _
  go_wp2_with fail
  refine (OB.out _ _ _ _ e9 RS1.out).mono ?_; rintro e w10 ⟨hx10, aB, nB, cB, rfl, rB⟩
  have e10 : Ext w w10 := e9.trans hx10
  replace RF := Lib.hid (RF.out.ext hx10)
  replace RP := Lib.hid (RP.out.ext hx10)
  replace RA := Lib.hid (RA.out.ext hx10)
  have RB := Lib.hid rB
  clear hx10 rB
  clear RS1
  go_wp2_with fail
  refine (sameTrueG rfl LK.out RA.out RF.out).mono ?_; rintro e w11 ⟨rfl, hx11⟩
  have e11 : Ext w w11 := e10.trans hx11
  replace RF := Lib.hid (RF.out.ext hx11)
  replace RP := Lib.hid (RP.out.ext hx11)
  replace RA := Lib.hid (RA.out.ext hx11)
  replace RB := Lib.hid (RB.out.ext hx11)
  clear hx11
  go_wp2_with fail
  refine (CN.out _ _ _ _ RP.out).mono ?_; rintro e w12 ⟨hx12, aN, nN, cN, rfl, rN⟩
  have e12 : Ext w w12 := e11.trans hx12
  replace RF := Lib.hid (RF.out.ext hx12)
  replace RP := Lib.hid (RP.out.ext hx12)
  replace RA := Lib.hid (RA.out.ext hx12)
  replace RB := Lib.hid (RB.out.ext hx12)
  have RN := Lib.hid rN
  clear hx12 rN
  go_wp2_with fail
  refine (sameTrueG rfl LN.out RB.out RN.out).mono ?_; rintro e w13 ⟨rfl, hx13⟩
  have e13 : Ext w w13 := e12.trans hx13
  replace RF := Lib.hid (RF.out.ext hx13)
  replace RP := Lib.hid (RP.out.ext hx13)
  replace RA := Lib.hid (RA.out.ext hx13)
  replace RB := Lib.hid (RB.out.ext hx13)
  replace RN := Lib.hid (RN.out.ext hx13)
  clear hx13
  go_wp2_with fail
  go_ret
  exact ⟨rfl, e13⟩
end Go.Proofs.YtcelgdoaohkgnaaDoor
