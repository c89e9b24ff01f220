/- Packed: C6 Md. -/
import Derived.ArgAppend
import Derived.BigQuiet
import Derived.Deep.Cut
import Derived.Deep.CutRange
import Derived.Deep.DrawnRows
import Derived.Deep.QuietTactic
import Derived.Deep.RegionHeld3
import Derived.Deep.Upon
import Derived.Laws.AppendOwnNone
import Derived.Laws.BytesArg
import Derived.Laws.MakeOwn
import Derived.Laws.ResultCell
import Derived.Lib.DecodeN
import Derived.Lib.Hide
import Derived.Lib.Strings
import Derived.Lib.UnsafeStr
import Derived.StillTail
import Derived.StillTailTactics
import Derived.Test.YtgcaphjjigpjlaaGreatDoorProg
import Derived.WalkKit
import Derived.WalkLawsBesides
import Derived.WalkSpells
import Derived.Test.YtgcaphjjigpjlaaGreatDoorQ00
import Derived.Test.YtgcaphjjigpjlaaGreatDoorQ01
import Derived.Test.YtgcaphjjigpjlaaGreatDoorQ02
import Derived.Test.YtgcaphjjigpjlaaGreatDoorQ03
namespace Go.Proofs.YtgcaphjjigpjlaaGreatDoor
open Go.RowKit
set_option maxRecDepth 100000
set_option maxHeartbeats 4000000
attribute [local go_sem ↓] Go.wp_at_zero Go.wp_at_succ
theorem results_box_tmp {P : Program} {fn : Func} {p u : Tmp} {ty : TypeId} (h : fn.results = #[.cell p ty, .tmp u]) (tmps : Array Value) (w : World) (g : Nat) (t : TypeId) (cs : Array Value) (fr : Nat × Nat) (d : TypeDesc)
    (hp : tmps.getD p undef = .pointer (some ⟨g, 0, none⟩)) (hg : w.heap[g]? = some (.cells cs t fr))
    (hu : P.underlying ty = some d) (hd : (match d with | .struct _ | .array _ _ => true | _ => false) = true) (hi : (P.info? ty).map (·.size) = some cs.size) :
    (results fn tmps).run P w = .ok (.tuple #[.agg cs, tmps.getD u undef]) w := by
  rw [results_cell_tmp h, hp]
  simp [asAddr, run_loadVar_row w g t ty cs fr d hg hu hd hi]
theorem info_str : (Tryz.prog.info? 9).map (fun i => (i.zero, i.size, i.bytes)) = some (some (.string ⟨#[]⟩), 1, 16) := by kernel_rfl
end Go.Proofs.YtgcaphjjigpjlaaGreatDoor
namespace Go.Proofs.YtgcaphjjigpjlaaGreatDoor
open Go.RowKit
set_option maxRecDepth 100000
set_option maxHeartbeats 4000000
theorem mayL_all {l : List Sp} (h : mayL l = 0) (hq : l.length ≤ 1000) : (∀ s ∈ l, mayS s.1 s.2.1 s.2.2 = 0) ∧ 0 ≤ inL l ∧ inL l ≤ 1048576 := by
  have he : errL l = 0 := by
    unfold mayL at h
    by_cases h0 : errL l = 0
    · exact h0
    · rw [if_neg h0] at h; exact absurd h h0
  have ha : ∀ s ∈ l, mayS s.1 s.2.1 s.2.2 = 0 := by
    intro s hs
    obtain ⟨i, hi, rfl⟩ := List.mem_iff_getElem.1 hs
    clear h hs
    have hall : ∀ k, k ≤ l.length → errL (l.take k) = 0 := by
      intro k hk
      by_cases hne : errL (l.take k) = 0
      · exact hne
      · rw [← errL_pre l k hne, he]
    have h1 := hall (i + 1) (by omega)
    rw [errL_take l i hi, if_pos (hall i (by omega))] at h1
    exact h1
  have hp := may_sum l ha
  have h0 : 0 ≤ inL l := by rw [← hp.2]; exact sumN_pos l hp.1
  have hb : inL l ≤ l.length * 1048576 := by
    clear h he hq hp h0
    induction l with
    | nil => exact Int.le_refl _
    | cons s r ih =>
      have h1 := ih fun x hx => ha x (List.mem_cons_of_mem _ hx)
      have h2 := may_pos s (ha s (List.mem_cons_self ..))
      rw [inL_cons, List.length_cons]
      have : ((r.length + 1 : Nat) : Int) * 1048576 = (r.length : Int) * 1048576 + 1048576 := by omega
      omega
  refine ⟨ha, h0, ?_⟩
  unfold mayL at h
  rw [if_pos he] at h
  have hw : wrap64 (inL l) = inL l := by
    have : (l.length : Int) * 1048576 ≤ 1000 * 1048576 := by omega
    unfold wrap64; omega
  rw [hw] at h
  split at h <;> omega
end Go.Proofs.YtgcaphjjigpjlaaGreatDoor
namespace Go.Proofs.YtgcaphjjigpjlaaGreatDoor
open Go.RowKit
set_option maxRecDepth 100000
set_option maxHeartbeats 4000000
end Go.Proofs.YtgcaphjjigpjlaaGreatDoor
namespace Go.Proofs.YtgcaphjjigpjlaaGreatDoor
open Go.RowKit
set_option maxRecDepth 100000
set_option maxHeartbeats 4000000
end Go.Proofs.YtgcaphjjigpjlaaGreatDoor
namespace Go.Proofs.YtgcaphjjigpjlaaGreatDoor
set_option maxRecDepth 100000
set_option maxHeartbeats 1000000
set_option linter.unusedSimpArgs false
def kd : Tok → Int
  | .keep => 1
  | .ins _ => 2
  | .del => 3
def turn (a b : Int) : Nat := if a = b then 0 else 1
theorem turn_or (a b : Int) : (a = b ∧ turn a b = 0) ∨ (¬ a = b ∧ turn a b = 1) := by
  by_cases h : a = b
  · exact .inl ⟨h, if_pos h⟩
  · exact .inr ⟨h, if_neg h⟩
def chg : Int → List Tok → Nat
  | _, [] => 0
  | k, t :: r => turn (kd t) k + chg (kd t) r
theorem one_kd (t : Tok) : (one t).1 = kd t := by cases t <;> rfl
theorem normC_ne (s : Sp) (r : List Sp) (hs : ¬ emp s) : (normC s r).length = r.length + (if (r.head?.map (·.1)) = some s.1 then 0 else 1) ∧ ((normC s r).head?.map (·.1)) = some s.1 := by
  unfold normC
  rw [if_neg hs]
  cases r with
  | nil => simp
  | cons t r =>
    simp only [List.head?_cons, Option.map_some, Option.some.injEq, List.length_cons]
    by_cases h : s.1 = t.1
    · rw [if_pos h, if_pos h.symm]; exact ⟨rfl, by simp [mrg]⟩
    · rw [if_neg h, if_neg (fun e => h e.symm)]; exact ⟨rfl, by simp⟩
theorem one_ne (ts : List Tok) (h : OkT ts) : ∀ t ∈ ts, ¬ emp (one t) := by
  intro t ht
  have h1 := (map_one ts h).1 (one t) (List.mem_map_of_mem ht)
  intro he
  have h2 := tokS_emp _ he
  have h3 := (map_one [t] (fun c hc => by rw [List.mem_singleton] at hc; subst hc; exact h c ht)).2
  rw [List.map_cons, List.map_nil, tok_cons, tok_nil, h2] at h3; cases h3
theorem spT_len (ts : List Tok) (h : OkT ts) : (spT ts).length = chg 0 ts ∧ ((spT ts).head?.map (·.1)) = ts.head?.map kd := by
  have hn := one_ne ts h
  clear h
  induction ts with
  | nil => exact ⟨rfl, rfl⟩
  | cons t r ih =>
    obtain ⟨h1, h2⟩ := ih (fun u hu => hn u (List.mem_cons_of_mem _ hu))
    obtain ⟨g1, g2⟩ := normC_ne (one t) (spT r) (hn t (by simp))
    have e : spT (t :: r) = normC (one t) (spT r) := rfl
    rw [e, g1, g2, h1, h2, one_kd]
    refine ⟨?_, rfl⟩
    have e0 : kd t ≠ 0 := by cases t <;> simp [kd]
    show _ = turn (kd t) 0 + chg (kd t) r
    have q0 := turn_or (kd t) 0
    cases r with
    | nil => simp [chg]; omega
    | cons u r =>
      have q1 := turn_or (kd u) 0
      have q2 := turn_or (kd u) (kd t)
      have e1 : kd u ≠ 0 := by cases u <;> simp [kd]
      simp only [List.head?_cons, Option.map_some, Option.some.injEq, chg]
      split <;> omega
theorem comp_chg : ∀ (n : Nat) (x y : List Tok) (kx ky ko : Int), x.length + y.length ≤ n → tout x = tin y →
    (kx = 3 → ko = 3 ∧ noIns y) → (ky = 2 → ko = 2 ∨ noIns y) → (kx = 2 → ky = 1 → ko = 2) → (kx = 1 → ky = 1 → ko = 1) → (kx = 1 → ky = 3 → ko = 3) →
    chg ko (compT x y) ≤ chg kx x + chg ky y := by
  intro n
  induction n with
  | zero =>
    intro x y kx ky ko h _ _ _ _ _ _
    cases x <;> cases y <;> simp at h
    simp [compT, chg]
  | succ n ih =>
    intro x y kx ky ko h hf ha hb hc hd he
    have hc' : ¬ kx = 2 ∨ ¬ ky = 1 ∨ ko = 2 := by
      by_cases e : kx = 2
      · by_cases e2 : ky = 1
        · exact .inr (.inr (hc e e2))
        · exact .inr (.inl e2)
      · exact .inl e
    have hd' : ¬ kx = 1 ∨ ¬ ky = 1 ∨ ko = 1 := by
      by_cases e : kx = 1
      · by_cases e2 : ky = 1
        · exact .inr (.inr (hd e e2))
        · exact .inr (.inl e2)
      · exact .inl e
    have he' : ¬ kx = 1 ∨ ¬ ky = 3 ∨ ko = 3 := by
      by_cases e : kx = 1
      · by_cases e2 : ky = 3
        · exact .inr (.inr (he e e2))
        · exact .inr (.inl e2)
      · exact .inl e
    rcases y with _ | ⟨c | _ | _, y⟩
    case cons.ins =>
      have h0 : kx ≠ 3 := fun e => by have := (ha e).2; exact this
      have h1 : ¬ ky = 2 ∨ ko = 2 := by
        by_cases e : ky = 2
        · exact .inr ((hb e).elim id (fun h => h.elim))
        · exact .inl e
      have hi := ih x y kx 2 2 (by simp only [List.length_cons] at h; omega) (by rw [tin_ins] at hf; exact hf) (fun e => absurd e h0) (fun _ => .inl rfl) (fun _ e => by cases e) (fun _ e => by cases e) (fun _ e => by cases e)
      rw [compT_ins]
      simp only [chg, kd]
      have q2 := turn_or 2 ko; have q8 := turn_or 2 ky
      omega
    case nil =>
      rcases x with _ | ⟨d | _ | _, x⟩ <;> simp only [tin_nil, tout_nil, tout_cins, tout_keep, tout_del, List.length_cons, List.length_nil] at hf h
      · simp [compT, chg]
      · omega
      · omega
      · have h0 : ¬ kx = 3 ∨ ko = 3 := by
          by_cases e : kx = 3
          · exact .inr (ha e).1
          · exact .inl e
        have hi := ih x [] 3 ky 3 (by simp only [List.length_nil]; omega) (by rw [tin_nil]; exact hf) (fun _ => ⟨rfl, trivial⟩) (fun _ => .inr trivial) (fun e => by cases e) (fun e => by cases e) (fun e => by cases e)
        rw [compT]
        (try simp only [chg, kd] at hi)
        simp only [chg, kd]
        have q1 := turn_or 1 ko; have q2 := turn_or 2 ko; have q3 := turn_or 3 ko; have q4 := turn_or 1 kx; have q5 := turn_or 2 kx; have q6 := turn_or 3 kx; have q7 := turn_or 1 ky; have q8 := turn_or 2 ky; have q9 := turn_or 3 ky
        omega
    case cons.keep =>
      rcases x with _ | ⟨d | _ | _, x⟩ <;> simp only [tin_keep, tout_nil, tout_cins, tout_keep, tout_del, List.length_cons, List.length_nil] at hf h
      · omega
      · have hi := ih x y 2 1 2 (by omega) (by omega) (fun e => by cases e) (fun e => by cases e) (fun _ _ => rfl) (fun e => by cases e) (fun e => by cases e)
        rw [compT]
        (try simp only [chg, kd] at hi)
        simp only [chg, kd]
        have q1 := turn_or 1 ko; have q2 := turn_or 2 ko; have q3 := turn_or 3 ko; have q4 := turn_or 1 kx; have q5 := turn_or 2 kx; have q6 := turn_or 3 kx; have q7 := turn_or 1 ky; have q8 := turn_or 2 ky; have q9 := turn_or 3 ky
        omega
      · have hi := ih x y 1 1 1 (by omega) (by omega) (fun e => by cases e) (fun e => by cases e) (fun e => by cases e) (fun _ _ => rfl) (fun _ e => by cases e)
        rw [compT]
        (try simp only [chg, kd] at hi)
        simp only [chg, kd]
        have q1 := turn_or 1 ko; have q2 := turn_or 2 ko; have q3 := turn_or 3 ko; have q4 := turn_or 1 kx; have q5 := turn_or 2 kx; have q6 := turn_or 3 kx; have q7 := turn_or 1 ky; have q8 := turn_or 2 ky; have q9 := turn_or 3 ky
        omega
      · have h0 : ¬ kx = 3 ∨ ko = 3 := by
          by_cases e : kx = 3
          · exact .inr (ha e).1
          · exact .inl e
        have hi := ih x (.keep :: y) 3 ky 3 (by simp only [List.length_cons]; omega) (by rw [tin_keep]; omega) (fun _ => ⟨rfl, trivial⟩) (fun _ => .inr trivial) (fun e => by cases e) (fun e => by cases e) (fun e => by cases e)
        rw [compT]
        (try simp only [chg, kd] at hi)
        simp only [chg, kd]
        have q1 := turn_or 1 ko; have q2 := turn_or 2 ko; have q3 := turn_or 3 ko; have q4 := turn_or 1 kx; have q5 := turn_or 2 kx; have q6 := turn_or 3 kx; have q7 := turn_or 1 ky; have q8 := turn_or 2 ky; have q9 := turn_or 3 ky
        omega
    case cons.del =>
      rcases x with _ | ⟨d | _ | _, x⟩ <;> simp only [tin_del, tout_nil, tout_cins, tout_keep, tout_del, List.length_cons, List.length_nil] at hf h
      · omega
      · have hi := ih x y 2 3 ko (by omega) (by omega) (fun e => by cases e) (fun e => by cases e) (fun _ e => by cases e) (fun e => by cases e) (fun e => by cases e)
        rw [compT]
        simp only [chg, kd]
        omega
      · have hi := ih x y 1 3 3 (by omega) (by omega) (fun e => by cases e) (fun e => by cases e) (fun e => by cases e) (fun _ e => by cases e) (fun _ _ => rfl)
        rw [compT]
        (try simp only [chg, kd] at hi)
        simp only [chg, kd]
        have q1 := turn_or 1 ko; have q2 := turn_or 2 ko; have q3 := turn_or 3 ko; have q4 := turn_or 1 kx; have q5 := turn_or 2 kx; have q6 := turn_or 3 kx; have q7 := turn_or 1 ky; have q8 := turn_or 2 ky; have q9 := turn_or 3 ky
        omega
      · have h0 : ¬ kx = 3 ∨ ko = 3 := by
          by_cases e : kx = 3
          · exact .inr (ha e).1
          · exact .inl e
        have hi := ih x (.del :: y) 3 ky 3 (by simp only [List.length_cons]; omega) (by rw [tin_del]; omega) (fun _ => ⟨rfl, trivial⟩) (fun _ => .inr trivial) (fun e => by cases e) (fun e => by cases e) (fun e => by cases e)
        rw [compT]
        (try simp only [chg, kd] at hi)
        simp only [chg, kd]
        have q1 := turn_or 1 ko; have q2 := turn_or 2 ko; have q3 := turn_or 3 ko; have q4 := turn_or 1 kx; have q5 := turn_or 2 kx; have q6 := turn_or 3 kx; have q7 := turn_or 1 ky; have q8 := turn_or 2 ky; have q9 := turn_or 3 ky
        omega
theorem comp_mem (x y : List Tok) (c : Nat) : Tok.ins c ∈ compT x y → Tok.ins c ∈ x ∨ Tok.ins c ∈ y := by
  fun_induction compT x y <;> grind
theorem compT_okT (x y : List Tok) (hx : OkT x) (hy : OkT y) : OkT (compT x y) := fun c hc => (comp_mem x y c hc).elim (hx c) (hy c)
def insW (f : Nat → Nat) (ts : List Tok) : Nat := ((insT ts).map f).sum
theorem insW_ins (f : Nat → Nat) (c : Nat) (r : List Tok) : insW f (.ins c :: r) = f c + insW f r := by simp [insW, insT]
theorem insW_keep (f : Nat → Nat) (r : List Tok) : insW f (.keep :: r) = insW f r := by simp [insW, insT]
theorem insW_del (f : Nat → Nat) (r : List Tok) : insW f (.del :: r) = insW f r := by simp [insW, insT]
theorem insW_nil (f : Nat → Nat) : insW f [] = 0 := rfl
theorem comp_insW (f : Nat → Nat) (x y : List Tok) : insW f (compT x y) ≤ insW f x + insW f y := by
  fun_induction compT x y <;> simp only [insW_ins, insW_keep, insW_del, insW_nil] at * <;> omega
theorem encs_insW (ts : List Tok) : (encs (insT ts)).length = insW (fun c => (enc1 c).length) ts := by
  unfold insW
  induction insT ts with
  | nil => rfl
  | cons c cs ih => rw [encs_cons, List.length_append, ih, List.map_cons, List.sum_cons]
theorem sumT_ones (ts : List Tok) : sumT (ts.map one) = (encs (insT ts)).length := by
  rw [encs_insW]
  induction ts with
  | nil => rfl
  | cons t r ih =>
    rw [List.map_cons, sumT_cons, ih]
    cases t with
    | ins c => rw [insW_ins]; show (mkS (enc1 c)).size + _ = _; rw [size_mkS]
    | keep => rw [insW_keep]; show 0 + _ = _; omega
    | del => rw [insW_del]; show 0 + _ = _; omega
theorem sumT_spT (ts : List Tok) : sumT (spT ts) = (encs (insT ts)).length := by
  unfold spT; rw [sumT_norm, sumT_ones]
theorem okW_N (Z : List Sp) (h : ∀ s ∈ Z, OkW s) : sumN Z = inL Z := by
  induction Z with
  | nil => rfl
  | cons s r ih =>
    rw [sumN_cons, inL_cons, ih fun u hu => h u (List.mem_cons_of_mem _ hu)]
    rcases h s (by simp) with ⟨h1, h2, _⟩ | ⟨h1 | h1, _⟩
    · show s.2.1 + _ = inS s.1 s.2.1 + _; rw [h1, h2]; rfl
    · show s.2.1 + _ = inS s.1 s.2.1 + _; rw [h1]; rfl
    · show s.2.1 + _ = inS s.1 s.2.1 + _; rw [h1]; rfl
theorem okW_le (Z : List Sp) (h : ∀ s ∈ Z, OkW s) : ∀ s ∈ Z, s.2.1 ≤ sumN Z := by
  induction Z with
  | nil => intro s hs; cases hs
  | cons u r ih =>
    intro s hs
    have hp := sumN_pos r fun v hv => (h v (List.mem_cons_of_mem _ hv)).nonneg
    have hu := (h u (by simp)).nonneg
    rw [sumN_cons]
    rcases List.mem_cons.1 hs with rfl | hs
    · omega
    · have := ih (fun v hv => h v (List.mem_cons_of_mem _ hv)) s hs; omega
theorem okW_mayL (Z : List Sp) (h : ∀ s ∈ Z, OkW s) (hb : inL Z ≤ 1048576) : mayL Z = 0 ∧ 0 ≤ inL Z := by
  have hn := okW_N Z h
  have hp := sumN_pos Z fun v hv => (h v hv).nonneg
  refine ⟨mayL_ok Z (fun s hs => ?_) (by omega) hb, by omega⟩
  have hl := okW_le Z h s hs
  unfold mayS
  rcases h s hs with ⟨h1, h2, cs, h3⟩ | ⟨h1, h2, h3⟩
  · rw [if_neg (by omega), if_pos h1, if_pos h2, h3]; rfl
  · rw [if_pos h1, if_neg (by omega), h3]; rfl
def compL (a b : List Sp) : List Sp := spT (compT (tok a) (tok b))
def compE (a b : List Sp) : Int := if mayL a = 0 then (if mayL b = 0 then (if outL a = inL b then 0 else 5) else mayL b) else mayL a
theorem compL_all (X Y : List Sp) (hX : ∀ s ∈ X, OkW s) (hY : ∀ s ∈ Y, OkW s) (hf : outL X = inL Y) (hb : inL X ≤ 1048576) :
    (∀ s ∈ compL X Y, OkW s) ∧ tok (compL X Y) = compT (tok X) (tok Y) ∧ isN (compL X Y) ∧ inL (compL X Y) = inL X ∧ outL (compL X Y) = outL Y ∧ mayL (compL X Y) = 0 ∧
    (compL X Y).length ≤ (normL X).length + (normL Y).length ∧ sumT (compL X Y) ≤ sumT X + sumT Y := by
  have tx := tok_okT X hX
  have ty := tok_okT Y hY
  have tz := compT_okT _ _ tx ty
  obtain ⟨x1, x2⟩ := tin_ok X hX
  obtain ⟨y1, y2⟩ := tin_ok Y hY
  have hft : tout (tok X) = tin (tok Y) := by omega
  have hz : ∀ s ∈ compL X Y, OkW s := spT_okW _ tz
  have htz : tok (compL X Y) = compT (tok X) (tok Y) := tok_spT _ tz
  obtain ⟨z1, z2⟩ := tin_ok _ hz
  obtain ⟨l1, l2⟩ := compT_len _ _ hft
  rw [htz, l1] at z1
  rw [htz, l2] at z2
  refine ⟨hz, htz, spT_is _ tz, by omega, by omega, (okW_mayL _ hz (by omega)).1, ?_, ?_⟩
  · unfold compL
    rw [(spT_len _ tz).1, norm_tok X hX, norm_tok Y hY, (spT_len _ tx).1, (spT_len _ ty).1]
    exact comp_chg _ _ _ 0 0 0 (Nat.le_refl _) hft (fun e => by cases e) (fun e => by cases e) (fun e => by cases e) (fun e => by cases e) (fun e => by cases e)
  · unfold compL
    rw [sumT_spT]
    have h1 := comp_insW (fun c => (enc1 c).length) (tok X) (tok Y)
    have h2 := insT_sum X hX
    have h3 := insT_sum Y hY
    rw [encs_insW] at *
    omega
end Go.Proofs.YtgcaphjjigpjlaaGreatDoor
