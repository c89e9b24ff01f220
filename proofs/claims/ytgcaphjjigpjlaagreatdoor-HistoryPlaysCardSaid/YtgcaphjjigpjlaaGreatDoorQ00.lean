/- Packed: Ma. -/
import Derived.Lib.DecodeN
namespace Go.Proofs.YtgcaphjjigpjlaaGreatDoor
def IsCp (n : Nat) : Prop := n ≤ 1114111 ∧ ¬ (55296 ≤ n ∧ n ≤ 57343)
instance (n : Nat) : Decidable (IsCp n) := by unfold IsCp; infer_instance
def u8 (n : Nat) : UInt8 := UInt8.ofNat n
theorem u8_toNat {n : Nat} (h : n < 256) : (u8 n).toNat = n := by
  unfold u8; rw [UInt8.toNat_ofNat']; exact Nat.mod_eq_of_lt h
theorem u8_of (b : UInt8) : u8 b.toNat = b := by unfold u8; exact UInt8.ofNat_toNat
def wid (n : Nat) : Nat := if n < 128 then 1 else if n < 2048 then 2 else if n < 65536 then 3 else 4
def enc1 (n : Nat) : List UInt8 :=
  if n < 128 then [u8 n]
  else if n < 2048 then [u8 (192 + n / 64), u8 (128 + n % 64)]
  else if n < 65536 then [u8 (224 + n / 4096), u8 (128 + n / 64 % 64), u8 (128 + n % 64)]
  else [u8 (240 + n / 262144), u8 (128 + n / 4096 % 64), u8 (128 + n / 64 % 64), u8 (128 + n % 64)]
def encs (cs : List Nat) : List UInt8 := cs.flatMap enc1
theorem enc1_length (n : Nat) : (enc1 n).length = wid n := by
  unfold enc1 wid; repeat' split
  all_goals rfl
theorem wid_pos (n : Nat) : 1 ≤ wid n := by unfold wid; repeat' split
                                            all_goals omega
theorem wid_le (n : Nat) : wid n ≤ 4 := by unfold wid; repeat' split
                                           all_goals omega
theorem enc1_ne (n : Nat) : enc1 n ≠ [] := by
  intro h; have := enc1_length n; have := wid_pos n; rw [h] at *; simp at *; omega
theorem encs_cons (c : Nat) (cs : List Nat) : encs (c :: cs) = enc1 c ++ encs cs := by simp [encs]
theorem encs_append (a b : List Nat) : encs (a ++ b) = encs a ++ encs b := by simp [encs]
theorem encs_single (c : Nat) : encs [c] = enc1 c := by simp [encs]
theorem length_le_encs (cs : List Nat) : cs.length ≤ (encs cs).length := by
  induction cs with
  | nil => simp
  | cons c cs ih => rw [encs_cons, List.length_append, enc1_length, List.length_cons]; have := wid_pos c; omega
theorem encs_le (cs : List Nat) : (encs cs).length ≤ 4 * cs.length := by
  induction cs with
  | nil => simp [encs]
  | cons c cs ih => rw [encs_cons, List.length_append, enc1_length, List.length_cons]; have := wid_le c; omega
def first4 (n b0 b1 b2 b3 : Nat) : Nat × Nat :=
  if n = 0 then (0, 0)
  else if b0 < 128 then (b0, 1)
  else if 192 ≤ b0 ∧ b0 < 224 ∧ 2 ≤ n ∧ b1 / 64 = 2 ∧ 128 ≤ (b0 - 192) * 64 + (b1 - 128) then ((b0 - 192) * 64 + (b1 - 128), 2)
  else if 224 ≤ b0 ∧ b0 < 240 ∧ 3 ≤ n ∧ b1 / 64 = 2 ∧ b2 / 64 = 2 ∧ 2048 ≤ ((b0 - 224) * 64 + (b1 - 128)) * 64 + (b2 - 128) ∧ IsCp (((b0 - 224) * 64 + (b1 - 128)) * 64 + (b2 - 128)) then
    (((b0 - 224) * 64 + (b1 - 128)) * 64 + (b2 - 128), 3)
  else if 240 ≤ b0 ∧ b0 < 248 ∧ 4 ≤ n ∧ b1 / 64 = 2 ∧ b2 / 64 = 2 ∧ b3 / 64 = 2 ∧ 65536 ≤ (((b0 - 240) * 64 + (b1 - 128)) * 64 + (b2 - 128)) * 64 + (b3 - 128) ∧ IsCp ((((b0 - 240) * 64 + (b1 - 128)) * 64 + (b2 - 128)) * 64 + (b3 - 128)) then
    ((((b0 - 240) * 64 + (b1 - 128)) * 64 + (b2 - 128)) * 64 + (b3 - 128), 4)
  else (0, 0)
def nth (l : List UInt8) (i : Nat) : Nat := (l.getD i 0).toNat
theorem nth_lt (l : List UInt8) (i : Nat) : nth l i < 256 := (l.getD i 0).toNat_lt
def firstL (l : List UInt8) : Nat × Nat := first4 l.length (nth l 0) (nth l 1) (nth l 2) (nth l 3)
theorem firstL_nil : firstL [] = (0, 0) := by simp [firstL, first4]
set_option maxRecDepth 100000 in
theorem firstL_enc (n : Nat) (h : IsCp n) (r : List UInt8) : firstL (enc1 n ++ r) = (n, wid n) := by
  unfold IsCp at h
  unfold firstL enc1 wid
  by_cases h1 : n < 128
  · simp only [h1, if_true, List.cons_append, List.nil_append, nth, List.getD_cons_zero, List.length_cons]
    rw [u8_toNat (by omega)]; unfold first4; rw [if_neg (by omega), if_pos h1]
  · by_cases h2 : n < 2048
    · simp only [h1, h2, if_true, if_false, List.cons_append, List.nil_append, nth, List.getD_cons_zero, List.getD_cons_succ, List.length_cons]
      rw [u8_toNat (by omega), u8_toNat (by omega)]; unfold first4
      rw [if_neg (by omega), if_neg (by omega), if_pos (by omega)]
      apply Prod.ext <;> simp only <;> omega
    · by_cases h3 : n < 65536
      · simp only [h1, h2, h3, if_true, if_false, List.cons_append, List.nil_append, nth, List.getD_cons_zero, List.getD_cons_succ, List.length_cons]
        rw [u8_toNat (by omega), u8_toNat (by omega), u8_toNat (by omega)]; unfold first4
        rw [if_neg (by omega), if_neg (by omega), if_neg (by omega)]
        have e : ((224 + n / 4096 - 224) * 64 + (128 + n / 64 % 64 - 128)) * 64 + (128 + n % 64 - 128) = n := by omega
        rw [e, if_pos ⟨by omega, by omega, by omega, by omega, by omega, by omega, h⟩]
      · simp only [h1, h2, h3, if_false, List.cons_append, List.nil_append, nth, List.getD_cons_zero, List.getD_cons_succ, List.length_cons]
        rw [u8_toNat (by omega), u8_toNat (by omega), u8_toNat (by omega), u8_toNat (by omega)]; unfold first4
        rw [if_neg (by omega), if_neg (by omega), if_neg (by omega), if_neg (by omega)]
        have e : (((240 + n / 262144 - 240) * 64 + (128 + n / 4096 % 64 - 128)) * 64 + (128 + n / 64 % 64 - 128)) * 64 + (128 + n % 64 - 128) = n := by omega
        rw [e, if_pos ⟨by omega, by omega, by omega, by omega, by omega, by omega, by omega, h⟩]
set_option maxRecDepth 100000 in
theorem first4_some {n b0 b1 b2 b3 m k : Nat} (g1 : b1 < 256) (g2 : b2 < 256) (g3 : b3 < 256) (h : first4 n b0 b1 b2 b3 = (m, k)) (hk : 0 < k) :
    (k = 1 ∧ 1 ≤ n ∧ m < 128 ∧ b0 = m) ∨ (k = 2 ∧ 2 ≤ n ∧ 128 ≤ m ∧ m < 2048 ∧ b0 = 192 + m / 64 ∧ b1 = 128 + m % 64) ∨
    (k = 3 ∧ 3 ≤ n ∧ 2048 ≤ m ∧ m < 65536 ∧ IsCp m ∧ b0 = 224 + m / 4096 ∧ b1 = 128 + m / 64 % 64 ∧ b2 = 128 + m % 64) ∨
    (k = 4 ∧ 4 ≤ n ∧ 65536 ≤ m ∧ IsCp m ∧ b0 = 240 + m / 262144 ∧ b1 = 128 + m / 4096 % 64 ∧ b2 = 128 + m / 64 % 64 ∧ b3 = 128 + m % 64) := by
  unfold first4 at h
  split at h
  · simp at h; omega
  split at h
  · simp only [Prod.mk.injEq] at h; exact Or.inl ⟨by omega, by omega, by omega, by omega⟩
  split at h
  · simp only [Prod.mk.injEq] at h; exact Or.inr (Or.inl ⟨by omega, by omega, by omega, by omega, by omega, by omega⟩)
  split at h
  · rename_i q
    obtain ⟨q1, q2, q3, q4, q5, q6, q7⟩ := q
    simp only [Prod.mk.injEq] at h
    generalize hm : ((b0 - 224) * 64 + (b1 - 128)) * 64 + (b2 - 128) = x at *
    obtain ⟨rfl, rfl⟩ := h
    exact Or.inr (Or.inr (Or.inl ⟨rfl, by omega, by omega, by omega, q7, by omega, by omega, by omega⟩))
  split at h
  · rename_i q
    obtain ⟨q1, q2, q3, q4, q5, q5', q6, q7⟩ := q
    simp only [Prod.mk.injEq] at h
    generalize hm : (((b0 - 240) * 64 + (b1 - 128)) * 64 + (b2 - 128)) * 64 + (b3 - 128) = x at *
    obtain ⟨rfl, rfl⟩ := h
    exact Or.inr (Or.inr (Or.inr ⟨rfl, by omega, by omega, q7, by omega, by omega, by omega, by omega⟩))
  · simp at h; omega
theorem firstL_some {l : List UInt8} {n k : Nat} (h : firstL l = (n, k)) (hk : 0 < k) : IsCp n ∧ k = wid n ∧ ∃ r, l = enc1 n ++ r := by
  rcases first4_some (nth_lt l 1) (nth_lt l 2) (nth_lt l 3) h hk with ⟨rfl, hn, hm, e0⟩ | ⟨rfl, hn, hm, hm', e0, e1⟩ | ⟨rfl, hn, hm, hm', hc, e0, e1, e2⟩ | ⟨rfl, hn, hm, hc, e0, e1, e2, e3⟩
  · match l, hn with
    | b :: t, _ =>
      have f0 : u8 n = b := by rw [← e0]; exact u8_of b
      refine ⟨⟨by omega, by omega⟩, by unfold wid; rw [if_pos hm], t, ?_⟩
      unfold enc1; rw [if_pos hm, f0]; rfl
  · match l, hn with
    | b :: c :: t, _ =>
      have f0 : u8 (192 + n / 64) = b := by rw [← e0]; exact u8_of b
      have f1 : u8 (128 + n % 64) = c := by rw [← e1]; exact u8_of c
      refine ⟨⟨by omega, by omega⟩, by unfold wid; rw [if_neg (by omega), if_pos hm'], t, ?_⟩
      unfold enc1; rw [if_neg (by omega), if_pos hm', f0, f1]; rfl
  · match l, hn with
    | b :: c :: d :: t, _ =>
      have f0 : u8 (224 + n / 4096) = b := by rw [← e0]; exact u8_of b
      have f1 : u8 (128 + n / 64 % 64) = c := by rw [← e1]; exact u8_of c
      have f2 : u8 (128 + n % 64) = d := by rw [← e2]; exact u8_of d
      refine ⟨hc, by unfold wid; rw [if_neg (by omega), if_neg (by omega), if_pos hm'], t, ?_⟩
      unfold enc1; rw [if_neg (by omega), if_neg (by omega), if_pos hm', f0, f1, f2]; rfl
  · match l, hn with
    | b :: c :: d :: e :: t, _ =>
      have f0 : u8 (240 + n / 262144) = b := by rw [← e0]; exact u8_of b
      have f1 : u8 (128 + n / 4096 % 64) = c := by rw [← e1]; exact u8_of c
      have f2 : u8 (128 + n / 64 % 64) = d := by rw [← e2]; exact u8_of d
      have f3 : u8 (128 + n % 64) = e := by rw [← e3]; exact u8_of e
      refine ⟨hc, by unfold wid; rw [if_neg (by omega), if_neg (by omega), if_neg (by omega)], t, ?_⟩
      unfold enc1; rw [if_neg (by omega), if_neg (by omega), if_neg (by omega), f0, f1, f2, f3]; rfl
def decF : Nat → List UInt8 → Option (List Nat)
  | 0, l => if l = [] then some [] else none
  | k + 1, l => if l = [] then some [] else if (firstL l).2 = 0 then none else (decF k (l.drop (firstL l).2)).map ((firstL l).1 :: ·)
def dec (l : List UInt8) : Option (List Nat) := decF l.length l
theorem decF_encs (cs : List Nat) (h : ∀ c ∈ cs, IsCp c) : ∀ k, cs.length ≤ k → decF k (encs cs) = some cs := by
  induction cs with
  | nil => intro k _; cases k <;> simp [decF, encs]
  | cons c cs ih =>
    intro k hk
    cases k with
    | zero => simp at hk
    | succ k =>
      have hc := h c (by simp)
      have he : encs (c :: cs) ≠ [] := by rw [encs_cons]; simp [enc1_ne]
      have hw := wid_pos c
      have hd : (enc1 c ++ encs cs).drop (wid c) = encs cs := by rw [← enc1_length]; simp
      simp only [decF, he, if_false]
      rw [encs_cons, firstL_enc c hc]
      simp only [hd]
      rw [if_neg (by omega), ih (fun x hx => h x (by simp [hx])) k (by simpa using hk)]
      rfl
theorem decF_some : ∀ (k : Nat) (l : List UInt8) (cs : List Nat), decF k l = some cs → (∀ c ∈ cs, IsCp c) ∧ l = encs cs := by
  intro k
  induction k with
  | zero => intro l cs h; simp only [decF] at h; split at h <;> simp_all [encs]
  | succ k ih =>
    intro l cs h
    simp only [decF] at h
    split at h
    · rename_i hl; simp at h; subst h; simp [hl, encs]
    obtain ⟨m, j, e⟩ : ∃ m j, firstL l = (m, j) := ⟨_, _, rfl⟩
    rw [e] at h
    split at h
    · simp at h
    rename_i hk
    obtain ⟨cs', h1, rfl⟩ := Option.map_eq_some_iff.1 h
    obtain ⟨hall, hd⟩ := ih _ _ h1
    obtain ⟨hcp, hw, r, rfl⟩ := firstL_some e (Nat.pos_of_ne_zero hk)
    refine ⟨fun c hc => ?_, ?_⟩
    · rcases List.mem_cons.1 hc with rfl | hc
      · exact hcp
      · exact hall c hc
    · rw [encs_cons, ← hd]
      simp only
      rw [hw, ← enc1_length]; simp
theorem dec_some {l : List UInt8} {cs : List Nat} (h : dec l = some cs) : (∀ c ∈ cs, IsCp c) ∧ l = encs cs := decF_some _ _ _ h
theorem dec_encs {cs : List Nat} (h : ∀ c ∈ cs, IsCp c) : dec (encs cs) = some cs := decF_encs cs h _ (length_le_encs cs)
theorem dec_none_of {l : List UInt8} (hl : l ≠ []) (h : (firstL l).2 = 0) : dec l = none := by
  cases hd : dec l with
  | none => rfl
  | some cs =>
    obtain ⟨hall, rfl⟩ := dec_some hd
    cases cs with
    | nil => exact absurd rfl hl
    | cons c cs => rw [encs_cons, firstL_enc c (hall c (by simp))] at h; have := wid_pos c; simp at h; omega
theorem dec_cons {c : Nat} (hc : IsCp c) (r : List UInt8) : dec (enc1 c ++ r) = (dec r).map (c :: ·) := by
  cases hd : dec r with
  | some cs =>
    obtain ⟨hall, rfl⟩ := dec_some hd
    rw [← encs_cons]
    exact dec_encs (fun x hx => by
      rcases List.mem_cons.1 hx with rfl | hx
      · exact hc
      · exact hall x hx)
  | none =>
    cases hd' : dec (enc1 c ++ r) with
    | none => rfl
    | some cs =>
      obtain ⟨hall, he⟩ := dec_some hd'
      cases cs with
      | nil => simp [encs, enc1_ne] at he
      | cons x cs =>
        have h1 := firstL_enc c hc r
        rw [he, encs_cons, firstL_enc x (hall x (by simp))] at h1
        simp only [Prod.mk.injEq] at h1
        obtain ⟨rfl, _⟩ := h1
        rw [encs_cons] at he
        have he := List.append_cancel_left he
        subst he
        rw [dec_encs (fun y hy => hall y (by simp [hy]))] at hd
        cases hd
theorem dec_append_some {cs : List Nat} (h : ∀ c ∈ cs, IsCp c) (r : List UInt8) : dec (encs cs ++ r) = (dec r).map (cs ++ ·) := by
  induction cs with
  | nil => simp [encs]
  | cons c cs ih =>
    rw [encs_cons, List.append_assoc, dec_cons (h c (by simp)), ih (fun x hx => h x (by simp [hx]))]
    cases dec r <;> simp
def rng (l : List UInt8) : Nat × Nat := Lib.decodeN l.length (nth l 0) (nth l 1) (nth l 2) (nth l 3)
set_option maxRecDepth 100000 in
theorem rng_first (l : List UInt8) (hl : l ≠ []) (hk : (firstL l).2 ≠ 0) : rng l = firstL l := by
  obtain ⟨hcp, hw, r, hr⟩ := firstL_some (l := l) (n := (firstL l).1) (k := (firstL l).2) rfl (by omega)
  have h0 := nth_lt l 0; have h1 := nth_lt l 1; have h2 := nth_lt l 2; have h3 := nth_lt l 3
  have hl' : l.length ≠ 0 := by simpa using hl
  revert hk
  unfold rng firstL Lib.decodeN first4 IsCp
  generalize nth l 0 = b0 at *; generalize nth l 1 = b1 at *; generalize nth l 2 = b2 at *; generalize nth l 3 = b3 at *; generalize l.length = n at *
  intro hk
  by_cases c0 : b0 < 128
  · simp only [hl', c0, if_true, if_false]
  by_cases c1 : 192 ≤ b0 ∧ b0 < 224 ∧ 2 ≤ n ∧ b1 / 64 = 2 ∧ 128 ≤ (b0 - 192) * 64 + (b1 - 128)
  · rw [if_neg c0, if_pos (by omega), if_pos (by omega), if_neg hl', if_neg c0, if_pos c1]; apply Prod.ext <;> simp only <;> omega
  rw [if_neg hl', if_neg c0, if_neg c1] at hk ⊢
  split at hk
  · rename_i c2; rw [if_pos c2, if_neg c0, if_neg (by omega), if_pos (by omega), if_pos (by omega)]; apply Prod.ext <;> simp only <;> omega
  · rename_i c2; rw [if_neg c2]
    split at hk
    · rename_i c3; rw [if_pos c3, if_neg c0, if_neg (by omega), if_neg (by omega), if_pos (by omega), if_pos (by omega)]; apply Prod.ext <;> simp only <;> omega
    · simp at hk
set_option maxRecDepth 100000 in
theorem rng_bad (l : List UInt8) (hl : l ≠ []) (hk : (firstL l).2 = 0) : rng l = (65533, 1) ∧ ¬ [239, 191, 189] <+: l := by
  constructor
  · have h0 := nth_lt l 0; have h1 := nth_lt l 1; have h2 := nth_lt l 2; have h3 := nth_lt l 3
    have hl' : l.length ≠ 0 := by simpa using hl
    revert hk
    unfold rng firstL Lib.decodeN first4 IsCp
    generalize nth l 0 = b0 at *; generalize nth l 1 = b1 at *; generalize nth l 2 = b2 at *; generalize nth l 3 = b3 at *; generalize l.length = n at *
    intro hk
    rw [if_neg hl'] at hk
    split at hk
    · simp at hk
    rename_i c0
    split at hk
    · simp at hk
    rename_i c1
    split at hk
    · simp at hk
    rename_i c2
    split at hk
    · simp at hk
    rename_i c3
    rw [if_neg c0]
    split
    · rw [if_neg (by omega)]
    split
    · rw [if_neg (by omega)]
    split
    · rw [if_neg (by omega)]
    rfl
  · rintro ⟨t, rfl⟩
    have := firstL_enc 65533 (by decide) t
    rw [show enc1 65533 = [239, 191, 189] from by decide] at this
    rw [this] at hk
    simp [wid] at hk
theorem get!_getD (s : ByteArray) (i : Nat) : (s.get! i) = s.data.toList.getD i 0 := by
  cases s with
  | mk d =>
    show d[i]! = _
    rw [getElem!_def, List.getD_eq_getElem?_getD, Array.getElem?_toList]
    cases d[i]? <;> rfl
theorem decode_rng (s : ByteArray) (i : Nat) : Utf8.decode s i = rng (s.data.toList.drop i) := by
  rw [Lib.decode_at]
  unfold rng nth
  have h : ∀ j, s.get! (i + j) = (s.data.toList.drop i).getD j 0 := fun j => by
    rw [get!_getD, List.getD_eq_getElem?_getD, List.getD_eq_getElem?_getD, List.getElem?_drop]
  rw [← h 0, ← h 1, ← h 2, ← h 3, List.length_drop]
  rfl
end Go.Proofs.YtgcaphjjigpjlaaGreatDoor
