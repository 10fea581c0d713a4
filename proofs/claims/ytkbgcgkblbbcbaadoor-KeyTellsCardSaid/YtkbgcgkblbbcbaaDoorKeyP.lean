/-
  Plain facts on the bytes of values and of lists: they rise as the values do, none begins with another one's, and they are read back. Of values that may be, whose numbers are of 64 bits. No program is named here.
-/
import Derived.Test.YtkbgcgkblbbcbaaDoorKFix
import Derived.Test.YtkbgcgkblbbcbaaDoorOrd
namespace Go.Proofs.YtkbgcgkblbbcbaaDoor
open Go

/-! ### bytes of numbers -/
theorem numB_foldl : ∀ (l : List UInt8) (a : Nat), l.foldl (fun a b => a * 256 + b.toNat) a = a * 256 ^ l.length + numB l
  | [], a => by simp [numB]
  | b :: l, a => by
    have h1 := numB_foldl l (a * 256 + b.toNat)
    have h2 := numB_foldl l (0 * 256 + b.toNat)
    have h3 : numB (b :: l) = l.foldl (fun a b => a * 256 + b.toNat) (0 * 256 + b.toNat) := rfl
    rw [h3, h2, List.foldl_cons, h1, List.length_cons, Nat.pow_succ, Nat.add_mul, Nat.add_mul, Nat.zero_mul]
    have : a * 256 * 256 ^ l.length = a * (256 ^ l.length * 256) := by rw [Nat.mul_assoc, Nat.mul_comm 256]
    omega
theorem numB_cons (b : UInt8) (l : List UInt8) : numB (b :: l) = b.toNat * 256 ^ l.length + numB l := by
  have h3 : numB (b :: l) = l.foldl (fun a b => a * 256 + b.toNat) (0 * 256 + b.toNat) := rfl
  rw [h3, numB_foldl, Nat.zero_mul, Nat.zero_add]
theorem pow8 (k : Nat) : 2 ^ (8 * k) = 256 ^ k := by rw [Nat.pow_mul]
theorem numB_bits (u : Nat) : ∀ k, numB (bitsB u k) = u % 256 ^ k
  | 0 => by simp [bitsB, numB, Nat.mod_one]
  | k + 1 => by
    have e0 : (256 : Nat) ^ (k + 1) = 256 ^ k * 256 := Nat.pow_succ ..
    rw [bitsB, numB_cons, bitsB_length, numB_bits u k, UInt8.toNat_ofNat', pow8, e0]
    have h := Nat.mod_mul (x := u) (a := 256 ^ k) (b := 256)
    rw [h, Nat.mul_comm (256 ^ k)]
    have e : (2 : Nat) ^ 8 = 256 := rfl
    rw [e]
    omega
theorem bits_mod (u v : Nat) : ∀ k, u % 256 ^ k = v % 256 ^ k → bitsB u k = bitsB v k
  | 0, _ => rfl
  | k + 1, h => by
    have h1 : u % 256 ^ k = v % 256 ^ k := by
      have e : ∀ x : Nat, x % 256 ^ k = x % 256 ^ (k + 1) % 256 ^ k := fun x => by
        rw [Nat.pow_succ]; exact (Nat.mod_mul_right_mod x (256 ^ k) 256).symm
      rw [e u, e v, h]
    have h2 : u / 256 ^ k % 256 = v / 256 ^ k % 256 := by
      have e : ∀ x : Nat, x % 256 ^ (k + 1) = x % 256 ^ k + 256 ^ k * (x / 256 ^ k % 256) := fun x => by
        rw [Nat.pow_succ]; exact Nat.mod_mul
      rw [e u, e v, h1] at h
      exact Nat.eq_of_mul_eq_mul_left (Nat.pow_pos (by omega)) (Nat.add_left_cancel h)
    rw [bitsB, bitsB, bits_mod u v k h1, pow8]
    congr 1
    apply UInt8.toNat_inj.1
    rw [UInt8.toNat_ofNat', UInt8.toNat_ofNat']
    exact h2
theorem bits_numB : ∀ l : List UInt8, bitsB (numB l) l.length = l
  | [] => rfl
  | b :: l => by
    have hlt := numB_lt l
    have hp : 0 < 256 ^ l.length := Nat.pow_pos (by omega)
    rw [List.length_cons, bitsB, pow8, numB_cons]
    have e1 : (b.toNat * 256 ^ l.length + numB l) / 256 ^ l.length = b.toNat := by
      rw [Nat.mul_comm, Nat.mul_add_div hp, Nat.div_eq_of_lt hlt, Nat.add_zero]
    have e2 : (b.toNat * 256 ^ l.length + numB l) % 256 ^ l.length = numB l % 256 ^ l.length := by
      rw [Nat.mul_comm, Nat.mul_add_mod]
    rw [e1, bits_mod _ _ _ e2, bits_numB l]
    congr 1
    exact UInt8.ofNat_toNat
theorem cb_cons (b : UInt8) (p q : List UInt8) : Lib.compareBytes (b :: p) (b :: q) = Lib.compareBytes p q := by
  have h : ¬ b < b := by rw [UInt8.lt_iff_toNat_lt]; omega
  rw [Lib.compareBytes, if_neg h, if_neg h]
theorem cb_less (a b : UInt8) (p q : List UInt8) (h : a.toNat < b.toNat) : Lib.compareBytes (a :: p) (b :: q) = -1 := by
  rw [Lib.compareBytes, if_pos (UInt8.lt_iff_toNat_lt.2 h)]
theorem cb_more (a b : UInt8) (p q : List UInt8) (h : b.toNat < a.toNat) : Lib.compareBytes (a :: p) (b :: q) = 1 := by
  rw [Lib.compareBytes, if_neg (by rw [UInt8.lt_iff_toNat_lt]; omega), if_pos (UInt8.lt_iff_toNat_lt.2 h)]
/-- Bytes of one length compare as their numbers do. -/
theorem cb_num : ∀ (a b p q : List UInt8), a.length = b.length → Lib.compareBytes (a ++ p) (b ++ q) = if numB a < numB b then -1 else if numB b < numB a then 1 else Lib.compareBytes p q
  | [], [], p, q, _ => by simp
  | [], _ :: _, _, _, h => by simp at h
  | _ :: _, [], _, _, h => by simp at h
  | x :: a, y :: b, p, q, h => by
    have hl : a.length = b.length := by simpa using h
    have h1 := numB_lt a
    have h2 := numB_lt b
    rw [numB_cons, numB_cons, hl]
    rw [hl] at h1
    have hM : 0 < 256 ^ b.length := Nat.pow_pos (by omega)
    generalize 256 ^ b.length = M at *
    rw [List.cons_append, List.cons_append]
    rcases Nat.lt_trichotomy x.toNat y.toNat with hxy | hxy | hxy
    · rw [cb_less _ _ _ _ hxy]
      have : (x.toNat + 1) * M ≤ y.toNat * M := Nat.mul_le_mul_right M hxy
      rw [Nat.add_mul] at this
      rw [if_pos (by omega)]
    · have : x = y := UInt8.toNat_inj.1 hxy
      subst this
      rw [cb_cons, cb_num a b p q hl]
      by_cases h3 : numB a < numB b
      · rw [if_pos h3, if_pos (by omega)]
      · by_cases h4 : numB b < numB a
        · rw [if_neg h3, if_pos h4, if_neg (by omega), if_pos (by omega)]
        · rw [if_neg h3, if_neg h4, if_neg (by omega), if_neg (by omega)]
    · rw [cb_more _ _ _ _ hxy]
      have : (y.toNat + 1) * M ≤ x.toNat * M := Nat.mul_le_mul_right M hxy
      rw [Nat.add_mul] at this
      rw [if_neg (by omega), if_pos (by omega)]

/-! ### bytes of texts -/
def encT (s : List UInt8) : List UInt8 := sub1 0 [0, 255] s ++ [0, 1]
theorem encT_nil (p : List UInt8) : encT [] ++ p = 0 :: 1 :: p := rfl
theorem encT_zero (s p : List UInt8) : encT (0 :: s) ++ p = 0 :: 255 :: (encT s ++ p) := by simp [encT, sub1]
theorem encT_other (b : UInt8) (s p : List UInt8) (h : b ≠ 0) : encT (b :: s) ++ p = b :: (encT s ++ p) := by simp [encT, sub1, h]
theorem pos_of {b : UInt8} (h : b ≠ 0) : (0 : UInt8).toNat < b.toNat := by
  show 0 < b.toNat
  rcases Nat.eq_zero_or_pos b.toNat with h0 | h0
  · exact absurd (UInt8.toNat_inj.1 h0) h
  · exact h0
theorem cb_text : ∀ (s t p q : List UInt8), Lib.compareBytes (encT s ++ p) (encT t ++ q) = if Lib.compareBytes s t != 0 then Lib.compareBytes s t else Lib.compareBytes p q
  | [], [], p, q => by rw [encT_nil, encT_nil, cb_cons, cb_cons]; rfl
  | [], b :: t, p, q => by
    rw [encT_nil]
    by_cases hb : b = 0
    · subst hb
      rw [encT_zero, cb_cons, cb_less _ _ _ _ (by decide)]; rfl
    · rw [encT_other _ _ _ hb, cb_less _ _ _ _ (pos_of hb)]; rfl
  | a :: s, [], p, q => by
    rw [encT_nil]
    by_cases ha : a = 0
    · subst ha
      rw [encT_zero, cb_cons, cb_more _ _ _ _ (by decide)]; rfl
    · rw [encT_other _ _ _ ha, cb_more _ _ _ _ (pos_of ha)]; rfl
  | a :: s, b :: t, p, q => by
    by_cases ha : a = 0
    · subst ha
      by_cases hb : b = 0
      · subst hb
        rw [encT_zero, encT_zero, cb_cons, cb_cons, cb_text s t, cb_cons]
      · rw [encT_zero, encT_other _ _ _ hb, cb_less _ _ _ _ (pos_of hb), cb_less _ _ _ _ (pos_of hb)]; rfl
    · by_cases hb : b = 0
      · subst hb
        rw [encT_zero, encT_other _ _ _ ha, cb_more _ _ _ _ (pos_of ha), cb_more _ _ _ _ (pos_of ha)]; rfl
      · rw [encT_other _ _ _ ha, encT_other _ _ _ hb]
        rcases Nat.lt_trichotomy a.toNat b.toNat with h | h | h
        · rw [cb_less _ _ _ _ h, cb_less _ _ _ _ h]; rfl
        · have : a = b := UInt8.toNat_inj.1 h
          subst this
          rw [cb_cons, cb_cons, cb_text s t]
        · rw [cb_more _ _ _ _ h, cb_more _ _ _ _ h]; rfl
theorem cutT_enc : ∀ s p : List UInt8, cutT (encT s ++ p) = some (s, p)
  | [], p => by rw [encT_nil]; rfl
  | b :: s, p => by
    by_cases hb : b = 0
    · subst hb
      rw [encT_zero, cutT_zero _ (by simp [Lib.hasPrefix]), List.drop_succ_cons, List.drop_succ_cons, List.drop_zero, cutT_enc s p]; rfl
    · rw [encT_other _ _ _ hb, cutT_byte _ _ (by simpa using hb), cutT_enc s p]; rfl
theorem enc_cutT : ∀ (n : Nat) (l t r : List UInt8), l.length ≤ n → cutT l = some (t, r) → l = encT t ++ r := by
  intro n
  induction n with
  | zero =>
    intro l t r hl h
    have : l = [] := List.eq_nil_of_length_eq_zero (by omega)
    subst this
    simp [cutT] at h
  | succ n ih =>
    intro l t r hl h
    match l, hl, h with
    | [], _, h => simp [cutT] at h
    | [_], _, h => simp [cutT] at h
    | b :: c :: q, hl, h =>
      rw [cutT] at h
      split at h
      · rename_i hb
        cases hc : cutT (c :: q) with
        | none => rw [hc] at h; cases h
        | some x =>
          obtain ⟨t', r'⟩ := x
          rw [hc] at h
          simp at h
          have := ih (c :: q) t' r' (by simpa using hl) hc
          rw [← h.1, ← h.2, encT_other _ _ _ (by simpa using hb), ← this]
      · rename_i hb
        have hb0 : b = 0 := by simpa using hb
        subst hb0
        split at h
        · rename_i hc255
          have : c = 255 := by simpa using hc255
          subst this
          cases hc : cutT q with
          | none => rw [hc] at h; cases h
          | some x =>
            obtain ⟨t', r'⟩ := x
            rw [hc] at h
            simp at h
            have := ih q t' r' (by simp only [List.length_cons] at hl; omega) hc
            rw [← h.1, ← h.2, encT_zero, ← this]
        · split at h
          · rename_i hc1
            have : c = 1 := by simpa using hc1
            subst this
            simp at h
            rw [h.1, ← h.2, encT_nil]
          · cases h

/-! ### bytes of values -/
theorem enc1_0 : enc1 ⟨0, 0, emp⟩ = [1] := rfl
theorem enc1_1 (n : Int) : enc1 ⟨1, n, emp⟩ = 2 :: bitsB n.toNat 1 := rfl
theorem enc1_2 (n : Int) : enc1 ⟨2, n, emp⟩ = 3 :: bitsB (n + 9223372036854775808).toNat 8 := rfl
theorem enc1_3 (s : ByteArray) : enc1 ⟨3, 0, s⟩ = 4 :: encT s.data.toList := rfl
theorem compareInt_or (a b : Int) (x : Int) : (if (if a < b then (-1 : Int) else if b < a then 1 else 0) != 0 then (if a < b then (-1 : Int) else if b < a then 1 else 0) else x) = if a < b then -1 else if b < a then 1 else x := by
  by_cases h1 : a < b
  · simp [h1]
  · by_cases h2 : b < a
    · simp [h1, h2]
    · simp [h1, h2]
theorem cmpV_num (k n n' : Int) : cmpV ⟨k, n, emp⟩ ⟨k, n', emp⟩ = if n < n' then -1 else if n' < n then 1 else 0 := by
  unfold cmpV
  simp only [bne_self_eq_false, Bool.false_eq_true, if_false]
  by_cases h : n = n'
  · subst h
    simp [cb_self]
  · have : (n != n') = true := by simpa using h
    rw [this]
    simp only [if_true, Lib.compareInt]
theorem cb_bits (u v k : Nat) (hu : u < 256 ^ k) (hv : v < 256 ^ k) (p q : List UInt8) : Lib.compareBytes (bitsB u k ++ p) (bitsB v k ++ q) = if u < v then -1 else if v < u then 1 else Lib.compareBytes p q := by
  rw [cb_num _ _ _ _ (by rw [bitsB_length, bitsB_length]), numB_bits, numB_bits, Nat.mod_eq_of_lt hu, Nat.mod_eq_of_lt hv]
theorem head_byte (k : Int) (h0 : 0 ≤ k) (h3 : k ≤ 3) : (UInt8.ofNat (k + 1).toNat).toNat = k.toNat + 1 := by
  rw [UInt8.toNat_ofNat']; omega
theorem valid_k {x : Val} (h : Valid x) : 0 ≤ x.k ∧ x.k ≤ 3 := by
  rcases h with ⟨hk, _⟩ | ⟨hk, _⟩ | ⟨hk, _⟩ | ⟨hk, _⟩ <;> omega
/-- Bytes of values compare as the values, whatever is behind. -/
theorem cb_enc1 (x y : Val) (hx : Valid x) (hy : Valid y) (ix : In64 x) (iy : In64 y) (p q : List UInt8) :
    Lib.compareBytes (enc1 x ++ p) (enc1 y ++ q) = if cmpV x y != 0 then cmpV x y else Lib.compareBytes p q := by
  by_cases hk : x.k = y.k
  · obtain ⟨k, n, s⟩ := x
    obtain ⟨k', n', s'⟩ := y
    simp only at hk
    subst hk
    unfold In64 at ix iy
    simp only at ix iy
    rcases hx with ⟨hk, h1, h2⟩ | ⟨hk, h1, h2⟩ | ⟨hk, h2⟩ | ⟨hk, h1, h2⟩
    · simp only at hk h1 h2
      subst hk h1 h2
      rcases hy with ⟨_, h1, h2⟩ | ⟨hk, _⟩ | ⟨hk, _⟩ | ⟨hk, _⟩
      · simp only at h1 h2
        subst h1 h2
        rw [cmpV_same, enc1_0]
        exact cb_cons _ _ _
      all_goals (simp only at hk; omega)
    · simp only at hk h1 h2
      subst hk h2
      rcases hy with ⟨hk, _⟩ | ⟨_, h3, h4⟩ | ⟨hk, _⟩ | ⟨hk, _⟩
      · simp only at hk; omega
      · simp only at h3 h4
        subst h4
        rw [enc1_1, enc1_1, List.cons_append, List.cons_append, cb_cons, cb_bits _ _ _ (by omega) (by omega), cmpV_num, compareInt_or]
        have e1 : n.toNat < n'.toNat ↔ n < n' := by omega
        have e2 : n'.toNat < n.toNat ↔ n' < n := by omega
        simp only [e1, e2]
      all_goals (simp only at hk; omega)
    · simp only at hk h2
      subst hk h2
      rcases hy with ⟨hk, _⟩ | ⟨hk, _⟩ | ⟨_, h4⟩ | ⟨hk, _⟩
      · simp only at hk; omega
      · simp only at hk; omega
      · simp only at h4
        subst h4
        have b1 : (n + 9223372036854775808).toNat < 256 ^ 8 := by have : (256 : Nat) ^ 8 = 18446744073709551616 := rfl; omega
        have b2 : (n' + 9223372036854775808).toNat < 256 ^ 8 := by have : (256 : Nat) ^ 8 = 18446744073709551616 := rfl; omega
        rw [enc1_2, enc1_2, List.cons_append, List.cons_append, cb_cons, cb_bits _ _ _ b1 b2, cmpV_num, compareInt_or]
        have e1 : (n + 9223372036854775808).toNat < (n' + 9223372036854775808).toNat ↔ n < n' := by omega
        have e2 : (n' + 9223372036854775808).toNat < (n + 9223372036854775808).toNat ↔ n' < n := by omega
        simp only [e1, e2]
      · simp only at hk; omega
    · simp only at hk h1 h2
      subst hk h1
      rcases hy with ⟨hk, _⟩ | ⟨hk, _⟩ | ⟨hk, _⟩ | ⟨_, h3, h4⟩
      · simp only at hk; omega
      · simp only at hk; omega
      · simp only at hk; omega
      · simp only at h3 h4
        subst h3
        rw [enc1_3, enc1_3, List.cons_append, List.cons_append, cb_cons, cb_text]
        have e : cmpV ⟨3, 0, s⟩ ⟨3, 0, s'⟩ = Lib.compareBytes s.data.toList s'.data.toList := by simp [cmpV]
        rw [e]
  · have e : cmpV x y = Lib.compareInt x.k y.k := by
      unfold cmpV
      have : (x.k != y.k) = true := by simpa using hk
      rw [this]; rfl
    have hne : ¬ Lib.compareInt x.k y.k = 0 := fun h => hk (ci_zero.1 h)
    have hb : (Lib.compareInt x.k y.k != 0) = true := by simpa using hne
    rw [e, hb, if_pos rfl]
    obtain ⟨a0, a3⟩ := valid_k hx
    obtain ⟨b0, b3⟩ := valid_k hy
    unfold enc1
    rw [List.cons_append, List.cons_append]
    unfold Lib.compareInt
    by_cases hlt : x.k < y.k
    · rw [if_pos hlt, cb_less _ _ _ _ (by rw [head_byte _ a0 a3, head_byte _ b0 b3]; omega)]
    · have hgt : x.k > y.k := by omega
      rw [if_neg hlt, if_pos hgt, cb_more _ _ _ _ (by rw [head_byte _ a0 a3, head_byte _ b0 b3]; omega)]
/-- What is known of a list of values that may be. -/
def Good (xs : List Val) : Prop := ∀ x ∈ xs, Valid x ∧ In64 x
theorem Good.cons {x : Val} {xs : List Val} (h : Good (x :: xs)) : Valid x ∧ In64 x ∧ Good xs := ⟨(h x (by simp)).1, (h x (by simp)).2, fun y hy => h y (by simp [hy])⟩
theorem enc1_ne (x : Val) (p : List UInt8) : ∃ b l, enc1 x ++ p = b :: l := ⟨_, _, rfl⟩
theorem cb_encL : ∀ xs ys : List Val, Good xs → Good ys → Lib.compareBytes (encL xs) (encL ys) = cmpL xs ys
  | [], [], _, _ => rfl
  | [], y :: ys, _, _ => by
    obtain ⟨b, l, h⟩ := enc1_ne y (encL ys)
    have : encL (y :: ys) = b :: l := h
    rw [this]; rfl
  | x :: xs, [], _, _ => by
    obtain ⟨b, l, h⟩ := enc1_ne x (encL xs)
    have : encL (x :: xs) = b :: l := h
    rw [this]; rfl
  | x :: xs, y :: ys, hx, hy => by
    have h1 : encL (x :: xs) = enc1 x ++ encL xs := rfl
    have h2 : encL (y :: ys) = enc1 y ++ encL ys := rfl
    rw [h1, h2, cb_enc1 x y hx.cons.1 hy.cons.1 hx.cons.2.1 hy.cons.2.1, cb_encL xs ys hx.cons.2.2 hy.cons.2.2, cmpL]
theorem good_all {xs : List Val} (h : Good xs) : xs.all mayB = true := List.all_eq_true.2 fun x hx => may_of_valid x (h x hx).1
theorem encode_good {xs : List Val} (h : Good xs) : encode xs = encL xs := by
  unfold encode
  rw [good_all h]
  rfl

/-! ### read back -/
theorem cut1_enc (x : Val) (hx : Valid x) (ix : In64 x) (p : List UInt8) : cut1 (enc1 x ++ p) = some (x, p) := by
  have hv := hx
  obtain ⟨k, n, s⟩ := x
  unfold In64 at ix
  simp only at ix
  rcases hx with ⟨hk, h1, h2⟩ | ⟨hk, h1, h2⟩ | ⟨hk, h2⟩ | ⟨hk, h1, h2⟩
  · simp only at hk h1 h2
    subst hk h1 h2
    exact (cut1_1 p).trans (chk_valid _ _ hv)
  · simp only at hk h1 h2
    subst hk h2
    rw [enc1_1, List.cons_append]
    have hl : (bitsB n.toNat 1).length = 1 := bitsB_length _ _
    have e : cut1 (2 :: (bitsB n.toNat 1 ++ p)) = _ := cut1_2 (bitsB n.toNat 1 ++ p) (by rw [List.length_append, hl]; omega)
    rw [e, List.take_left' hl, List.drop_left' hl, numB_bits, Nat.mod_eq_of_lt (by omega)]
    have : ((n.toNat : Nat) : Int) = n := by omega
    rw [this]
    exact chk_valid _ _ hv
  · simp only at hk h2
    subst hk h2
    rw [enc1_2, List.cons_append]
    have hl : (bitsB (n + 9223372036854775808).toNat 8).length = 8 := bitsB_length _ _
    have e : cut1 (3 :: (bitsB (n + 9223372036854775808).toNat 8 ++ p)) = _ := cut1_3 (bitsB (n + 9223372036854775808).toNat 8 ++ p) (by rw [List.length_append, hl]; omega)
    have b1 : (n + 9223372036854775808).toNat < 256 ^ 8 := by have : (256 : Nat) ^ 8 = 18446744073709551616 := rfl; omega
    rw [e, List.take_left' hl, List.drop_left' hl, numB_bits, Nat.mod_eq_of_lt b1]
    have : (((n + 9223372036854775808).toNat : Nat) : Int) - 9223372036854775808 = n := by omega
    rw [this]
    exact chk_valid _ _ hv
  · simp only at hk h1 h2
    subst hk h1
    rw [enc1_3, List.cons_append]
    have e : cut1 (4 :: (encT s.data.toList ++ p)) = _ := cut1_4 (encT s.data.toList ++ p) s.data.toList p (cutT_enc _ _)
    rw [e]
    exact chk_valid _ _ hv
theorem decL_enc : ∀ xs : List Val, Good xs → decL (encL xs) = some xs
  | [], _ => rfl
  | x :: xs, h => by
    have h1 : encL (x :: xs) = enc1 x ++ encL xs := rfl
    rw [h1, decL_some _ _ _ (cut1_enc x h.cons.1 h.cons.2.1 _), decL_enc xs h.cons.2.2]
    rfl
theorem enc_cut1 (l r : List UInt8) (x : Val) (h : cut1 l = some (x, r)) : l = enc1 x ++ r ∧ Valid x ∧ In64 x := by
  cases l with
  | nil => simp [cut1] at h
  | cons t l =>
    rw [cut1] at h
    split at h
    · rename_i ht
      obtain ⟨hm, rfl, rfl⟩ := chk_some h
      subst ht
      exact ⟨rfl, valid_of_may _ hm, by decide, by decide⟩
    · split at h
      · rename_i ht
        subst ht
        split at h
        · cases h
        · rename_i hlen
          obtain ⟨hm, rfl, rfl⟩ := chk_some h
          have hl : (l.take 1).length = 1 := by rw [List.length_take]; omega
          have hb := bits_numB (l.take 1)
          rw [hl] at hb
          refine ⟨?_, valid_of_may _ hm, ?_⟩
          · rw [enc1_1, Int.toNat_natCast, hb, List.cons_append, List.take_append_drop]
          · have := numB_lt (l.take 1)
            rw [hl] at this
            unfold In64
            simp only
            omega
      · split at h
        · rename_i ht
          subst ht
          split at h
          · cases h
          · rename_i hlen
            obtain ⟨hm, rfl, rfl⟩ := chk_some h
            have hl : (l.take 8).length = 8 := by rw [List.length_take]; omega
            have hb := bits_numB (l.take 8)
            rw [hl] at hb
            have hlt := numB_lt (l.take 8)
            rw [hl] at hlt
            have e8 : (256 : Nat) ^ 8 = 18446744073709551616 := rfl
            rw [e8] at hlt
            refine ⟨?_, valid_of_may _ hm, ?_⟩
            · have e : ((numB (l.take 8) : Int) - 9223372036854775808 + 9223372036854775808).toNat = numB (l.take 8) := by omega
              rw [enc1_2, e, hb, List.cons_append, List.take_append_drop]
            · unfold In64
              simp only
              omega
        · split at h
          · rename_i ht
            subst ht
            cases hc : cutT l with
            | none => rw [hc] at h; cases h
            | some z =>
              obtain ⟨t', r'⟩ := z
              rw [hc] at h
              obtain ⟨hm, rfl, rfl⟩ := chk_some h
              have := enc_cutT l.length l t' r (Nat.le_refl _) hc
              refine ⟨?_, valid_of_may _ hm, ⟨show (-9223372036854775808 : Int) ≤ 0 by omega, show (0 : Int) ≤ 9223372036854775807 by omega⟩⟩
              rw [enc1_3, List.cons_append]
              exact congrArg (List.cons 4) this
          · cases h
theorem enc_decL : ∀ (n : Nat) (l : List UInt8) (xs : List Val), l.length ≤ n → decL l = some xs → l = encL xs ∧ Good xs := by
  intro n
  induction n with
  | zero =>
    intro l xs hl h
    have : l = [] := List.eq_nil_of_length_eq_zero (by omega)
    subst this
    rw [decL_nil] at h
    simp at h
    subst h
    exact ⟨rfl, fun x hx => by cases hx⟩
  | succ n ih =>
    intro l xs hl h
    by_cases hnil : l = []
    · subst hnil
      rw [decL_nil] at h
      simp at h
      subst h
      exact ⟨rfl, fun x hx => by cases hx⟩
    · cases hc : cut1 l with
      | none => rw [decL_none l hnil hc] at h; cases h
      | some z =>
        obtain ⟨x, r⟩ := z
        rw [decL_some _ _ _ hc] at h
        cases hd : decL r with
        | none => rw [hd] at h; cases h
        | some ys =>
          rw [hd] at h
          simp at h
          subst h
          have hless := cut1_less _ _ _ hc
          obtain ⟨e1, v1, i1⟩ := enc_cut1 _ _ _ hc
          obtain ⟨e2, g2⟩ := ih r ys (by omega) hd
          refine ⟨?_, ?_⟩
          · rw [e1, e2]; rfl
          · intro y hy
            simp at hy
            rcases hy with rfl | hy
            · exact ⟨v1, i1⟩
            · exact g2 y hy
end Go.Proofs.YtkbgcgkblbbcbaaDoor
