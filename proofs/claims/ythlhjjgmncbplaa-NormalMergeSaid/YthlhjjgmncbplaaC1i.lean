/- Layer 1, the reference: Fit. -/
import Derived.Test.YthlhjjgmncbplaaC1h
namespace Go.Proofs.Ythlhjjgmncbplaa
open Go.RowKit
set_option maxRecDepth 100000
set_option maxHeartbeats 1000000

def tab8 : List Nat := [97, 98, 99, 120, 121, 233, 8364, 128512]
def fit1 (b : UInt8) : Nat := tab8.getD (b.toNat % 8) 0
/-- The code points that Fit makes of some bytes. -/
def fitC (l : List UInt8) : List Nat := l.map fit1
theorem tab8_cp (i : Nat) : IsCp (tab8.getD i 0) := by
  match i with
  | 0 | 1 | 2 | 3 | 4 | 5 | 6 | 7 => decide
  | i + 8 => exact (by decide : IsCp 0)
theorem fitC_cp (l : List UInt8) : ∀ c ∈ fitC l, IsCp c := by
  intro c hc
  obtain ⟨b, _, rfl⟩ := List.mem_map.1 hc
  exact tab8_cp _
theorem fitC_length (l : List UInt8) : (fitC l).length = l.length := by simp [fitC]
theorem dec_fit (l : List UInt8) : dec (encs (fitC l)) = some (fitC l) := dec_encs (fitC_cp l)
theorem ofL_cps (cs : List Nat) (h : ∀ c ∈ cs, IsCp c) : ofL (cs.map fun (c : Nat) => (c : Int)) = encs cs := by
  induction cs with
  | nil => rfl
  | cons c cs ih =>
    have h1 : of1 (c : Int) = enc1 c := by unfold of1; rw [Int.toNat_natCast, if_pos ⟨by omega, h c (by simp)⟩]
    rw [encs_cons, ← ih (fun x hx => h x (by simp [hx])), ← h1]; simp [ofL]
def fitR (l : List UInt8) : List Int := (fitC l).map fun (c : Nat) => (c : Int)
theorem fitR_le (l : List UInt8) : ∀ r ∈ fitR l, -2147483648 ≤ r ∧ r ≤ 2147483647 := by
  intro r hr
  obtain ⟨c, hc, rfl⟩ := List.mem_map.1 hr
  have := (fitC_cp l c hc).1
  omega
theorem info_i32 : (Try.prog.info? 21).map (fun i => (i.zero, i.size, i.bytes)) = some (some (.int .i32 0), 1, 4) := by kernel_rfl
def tabV : Array Value := #[.int .i32 97, .int .i32 98, .int .i32 99, .int .i32 120, .int .i32 121, .int .i32 233, .int .i32 8364, .int .i32 128512]
theorem tabV_at (i : Nat) (h : i < 8) : tabV[i]? = some (.int .i32 (tab8.getD i 0 : Nat)) := by
  match i, h with
  | 0, _ | 1, _ | 2, _ | 3, _ | 4, _ | 5, _ | 6, _ | 7, _ => rfl
theorem fitR_snoc (s : ByteArray) (k : Nat) (h : k < s.size) : fitR ((bs s).take (k + 1)) = fitR ((bs s).take k) ++ [((tab8.getD ((s[k]'h).toNat % 8) 0 : Nat) : Int)] := by
  have h' : k < (bs s).length := by rw [bs_length]; exact h
  rw [List.take_succ_eq_append_getElem h']
  simp only [fitR, fitC, List.map_append, List.map_cons, List.map_nil]
  rfl

theorem fit_c (s : ByteArray) (w : World) (hs : s.size ≤ 10000000) :
    Calls Try.prog 14 #[.string s] w fun e w' => e = .returned (.string (mkS (encs (fitC (bs s))))) ∧ Ext w w' := by
  obtain ⟨i, hi, hz0, hz1, hz2⟩ := info_parts info_i32
  have HI := Lib.hid hi; have HZ0 := Lib.hid hz0; have HZ1 := Lib.hid hz1; have HZ2 := Lib.hid hz2
  clear hi hz0 hz1 hz2
  have hrel0 : Own ((w.alloc (.cells tabV 41)).alloc (.cells #[] 21)) (w.heap.size + 1) 21 1 (.slice (some ⟨w.heap.size + 1, 0, none⟩) 0 0) 0 (runesV (fitR ((bs s).take 0))) ∧
      Below (w.heap.size + 1) (w.alloc (.cells tabV 41)) ((w.alloc (.cells tabV 41)).alloc (.cells #[] 21)) := by
    have h := Own.made (w.alloc (.cells tabV 41)) (w.heap.size + 1) 21 1 0 #[] (by simp) (by omega) rfl
    exact ⟨by simpa [fitR, fitC, runesV] using h, (Below.refl _ _).alloc (by simp) _⟩
  have HR0 := Lib.hid hrel0; clear hrel0
  go_enter Try.func14, Try.ntmps14
  go_wp2_with fail
  go_loopw [4, 5] (fun o j wr => ∃ k : Nat, k ≤ s.size ∧ j = .int .i64 k ∧ Own wr (w.heap.size + 1) 21 1 o k (runesV (fitR ((bs s).take k))) ∧ Below (w.heap.size + 1) (w.alloc (.cells tabV 41)) wr) (fun _ j _ => s.size - (intOf j).toNat)
  case atStart => exact ⟨0, by omega, rfl, HR0.out.1, HR0.out.2⟩
  case round =>
    obtain ⟨k, hk, rfl, hown, hbel⟩ := hrel
    by_cases hlt : k < s.size
    · have hb := (s[k]'hlt).toNat_lt
      have hm : (s[k]'hlt).toNat % 8 < 8 := Nat.mod_lt _ (by decide)
      have hcell : wr.cell? ⟨w.heap.size, (s[k]'hlt).toNat % 8, none⟩ = some (.int .i32 (tab8.getD ((s[k]'hlt).toNat % 8) 0 : Nat)) := by
        rw [hbel.cell (p := ⟨w.heap.size, (s[k]'hlt).toNat % 8, none⟩) (by simp)]
        rw [cell_of_row (w.alloc (.cells tabV 41)) w.heap.size _ tabV 41 (0, 0) (heap_alloc_new w _)]
        exact tabV_at _ hm
      have HSN := Lib.hid (fitR_snoc s k hlt)
      generalize htb : tab8.getD ((s[k]'hlt).toNat % 8) 0 = tb at *
      obtain ⟨v', w', happ, hown', hbel'⟩ := app_new (P := Try.prog) 42 42 21 i _ 1 4 Try.underlying42 HI.out HZ0.out HZ1.out HZ2.out rfl (by omega) (by omega)
        hbel hown (by omega) 1 #[.int .i32 (tb : Int)] rfl (by omega) (by simp [Value.oneCell']) 21
      have hown2 : Own w' (w.heap.size + 1) 21 1 v' (k + 1) (runesV (fitR ((bs s).take (k + 1)))) := by
        rw [HSN.out]; simpa [runesV] using hown'
      have HAP := Lib.hid happ; have HTB := Lib.hid htb
      clear happ htb
      go_wp2_with (at_builtin; refine wpList_append_run rfl rfl HAP.out rfl rfl ?_)
      go_roundw
      case rel => exact ⟨k + 1, by omega, by go_num, hown2, hbel'⟩
      case measure => simp [intOf]; omega
    · have hk2 : k = s.size := by omega
      have hlen : (fitR (bs s)).length = s.size := by simp [fitR, fitC, bs_length]
      have hrd : Rd wr 1 u4 (fitR (bs s)).length (runesV (fitR (bs s))) := by
        have h := hown.rd; rw [hk2, List.take_of_length_le (by rw [bs_length]; omega)] at h; rw [hlen]; exact h
      have HOF := Lib.hid (ofR_c u4 (fitR (bs s)) wr hrd (by omega) (fitR_le _))
      have hres : ofL (fitR (bs s)) = encs (fitC (bs s)) := ofL_cps _ (fitC_cp _)
      have HRES := Lib.hid hres
      have hx : Ext w wr := ((Ext.refl w).alloc _).trans (hbel.mono (by simp))
      clear hk2 hlen hres
      go_wp2_with (go_at_call 19; refine HOF.out.mono ?_; rintro e w' ⟨rfl, hx2⟩)
      go_ret
      rw [HRES.out]
      exact ⟨rfl, hx.trans hx2⟩
end Go.Proofs.Ythlhjjgmncbplaa
