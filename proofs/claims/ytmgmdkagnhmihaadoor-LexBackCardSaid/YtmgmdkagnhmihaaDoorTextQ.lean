/-
  Plain facts on texts of values and of rows: a text tells where it ends, so unlike rows of values that may be have unlike texts. No condition beyond that the values may be.
-/
import Derived.Test.YtmgmdkagnhmihaaDoorMay
import Derived.Test.YtmgmdkagnhmihaaDoorPlain
import Derived.Lib.ItoaNum
import Derived.Lib.Join
namespace Go.Proofs.YtmgmdkagnhmihaaDoor
open Go

/-- What a list of digits says. -/
def num (l : List UInt8) : Nat := l.foldl (fun a c => a * 10 + (c.toNat - 48)) 0
theorem num_snoc (l : List UInt8) (c : UInt8) : num (l ++ [c]) = num l * 10 + (c.toNat - 48) := by simp [num]
theorem dig_toNat (k : Nat) (h : k < 10) : (UInt8.ofNat (48 + k)).toNat = 48 + k := by
  rw [UInt8.toNat_ofNat']; omega
theorem num_dec (u : Nat) : num (Lib.decDigits u) = u := by
  induction u using Nat.strongRecOn with
  | _ u ih =>
    rw [Lib.decDigits]
    by_cases h : u < 10
    · rw [dif_pos h]
      simp [num]; omega
    · rw [dif_neg h, num_snoc, ih (u / 10) (by omega), dig_toNat (u % 10) (by omega)]
      omega
theorem dec_inj {u v : Nat} (h : Lib.decDigits u = Lib.decDigits v) : u = v := by rw [← num_dec u, h, num_dec]
/-- A number's text begins with a digit. -/
theorem dec_head (u : Nat) : ∃ c l, Lib.decDigits u = c :: l ∧ 48 ≤ c.toNat ∧ c.toNat ≤ 57 := by
  induction u using Nat.strongRecOn with
  | _ u ih =>
    rw [Lib.decDigits]
    by_cases h : u < 10
    · rw [dif_pos h]
      exact ⟨_, [], rfl, by rw [dig_toNat u h]; omega, by rw [dig_toNat u h]; omega⟩
    · rw [dif_neg h]
      obtain ⟨c, l, hl, h1, h2⟩ := ih (u / 10) (by omega)
      exact ⟨c, l ++ _, by rw [hl]; rfl, h1, h2⟩
theorem itoa_inj {a b : Int} (h : Lib.itoa a = Lib.itoa b) : a = b := by
  unfold Lib.itoa at h
  by_cases ha : a < 0 <;> by_cases hb : b < 0
  · rw [if_pos ha, if_pos hb] at h
    have := dec_inj (List.cons.inj h).2
    omega
  · rw [if_pos ha, if_neg hb] at h
    obtain ⟨c, l, hl, h1, h2⟩ := dec_head b.toNat
    rw [hl] at h
    have := congrArg UInt8.toNat (List.cons.inj h).1
    simp at this; omega
  · rw [if_neg ha, if_pos hb] at h
    obtain ⟨c, l, hl, h1, h2⟩ := dec_head a.toNat
    rw [hl] at h
    have := congrArg UInt8.toNat (List.cons.inj h).1
    simp at this; omega
  · rw [if_neg ha, if_neg hb] at h
    have := dec_inj h
    omega
theorem itoa_head (a : Int) : ∃ c l, Lib.itoa a = c :: l ∧ 45 ≤ c.toNat ∧ c.toNat ≤ 57 := by
  unfold Lib.itoa
  by_cases ha : a < 0
  · rw [if_pos ha]; exact ⟨45, _, rfl, by decide, by decide⟩
  · rw [if_neg ha]
    obtain ⟨c, l, hl, h1, h2⟩ := dec_head a.toNat
    exact ⟨c, l, hl, by omega, h2⟩

/-- A value's text. -/
def textL (x : Val) : List UInt8 :=
  if x.k == 0 then [110, 117, 108, 108] else if x.k == 1 then (if x.n == 0 then [102, 97, 108, 115, 101] else [116, 114, 117, 101]) else if x.k == 2 then Lib.itoa x.n else if x.k == 3 then [39] ++ sub1 39 [39, 39] x.s.data.toList ++ [39] else [63]
/-- The first byte of a text tells its kind. -/
theorem text_head (x : Val) (h : Valid x) : ∃ c l, textL x = c :: l ∧ ((x.k = 0 ∧ c.toNat = 110) ∨ (x.k = 1 ∧ x.n = 0 ∧ c.toNat = 102) ∨ (x.k = 1 ∧ x.n = 1 ∧ c.toNat = 116) ∨ (x.k = 2 ∧ 45 ≤ c.toNat ∧ c.toNat ≤ 57) ∨ (x.k = 3 ∧ c.toNat = 39)) := by
  unfold textL
  rcases h with ⟨hk, _⟩ | ⟨hk, hn | hn, _⟩ | ⟨hk, _⟩ | ⟨hk, _⟩
  · exact ⟨110, _, by rw [hk]; rfl, .inl ⟨hk, by decide⟩⟩
  · exact ⟨102, _, by rw [hk, hn]; rfl, .inr (.inl ⟨hk, hn, by decide⟩)⟩
  · exact ⟨116, _, by rw [hk, hn]; rfl, .inr (.inr (.inl ⟨hk, hn, by decide⟩))⟩
  · obtain ⟨c, l, hl, h1, h2⟩ := itoa_head x.n
    exact ⟨c, l, by rw [hk]; exact hl, .inr (.inr (.inr (.inl ⟨hk, h1, h2⟩)))⟩
  · exact ⟨39, _, by rw [hk]; rfl, .inr (.inr (.inr (.inr ⟨hk, by decide⟩)))⟩
theorem text_inj {x y : Val} (hx : Valid x) (hy : Valid y) (h : textL x = textL y) : x = y := by
  obtain ⟨c, l, ex, hc⟩ := text_head x hx
  obtain ⟨d, r, ey, hd⟩ := text_head y hy
  have hcd : c = d := by rw [ex, ey] at h; exact (List.cons.inj h).1
  subst hcd
  obtain ⟨k, n, s⟩ := x
  obtain ⟨k', n', s'⟩ := y
  simp only at hc hd
  have hkk : k = k' ∧ (k = 1 → n = n') := by
    rcases hc with hc | hc | hc | hc | hc <;> rcases hd with hd | hd | hd | hd | hd <;> omega
  obtain ⟨rfl, h1⟩ := hkk
  rcases hx with ⟨hk, hn, hs⟩ | ⟨hk, hn, hs⟩ | ⟨hk, hs⟩ | ⟨hk, hn, hs⟩ <;> simp only at hk
  · rcases hy with ⟨_, hn', hs'⟩ | ⟨hk', _⟩ | ⟨hk', _⟩ | ⟨hk', _⟩
    · simp only at hn hs hn' hs'; rw [hn, hs, hn', hs']
    all_goals (simp only at hk'; omega)
  · rcases hy with ⟨hk', _⟩ | ⟨_, hn', hs'⟩ | ⟨hk', _⟩ | ⟨hk', _⟩
    · simp only at hk'; omega
    · simp only at hs hs'; rw [h1 hk, hs, hs']
    all_goals (simp only at hk'; omega)
  · rcases hy with ⟨hk', _⟩ | ⟨hk', _⟩ | ⟨_, hs'⟩ | ⟨hk', _⟩
    · simp only at hk'; omega
    · simp only at hk'; omega
    · simp only at hs hs'
      have : Lib.itoa n = Lib.itoa n' := by unfold textL at h; rw [hk] at h; exact h
      rw [itoa_inj this, hs, hs']
    · simp only at hk'; omega
  · rcases hy with ⟨hk', _⟩ | ⟨hk', _⟩ | ⟨hk', _⟩ | ⟨_, hn', hs'⟩
    · simp only at hk'; omega
    · simp only at hk'; omega
    · simp only at hk'; omega
    · simp only at hn hn'
      have h' : [39] ++ sub1 39 [39, 39] s.data.toList ++ [39] = [39] ++ sub1 39 [39, 39] s'.data.toList ++ [39] := by unfold textL at h; rw [hk] at h; exact h
      have h2 : sub1 39 [39, 39] s.data.toList = sub1 39 [39, 39] s'.data.toList := List.append_cancel_left (List.append_cancel_right h')
      have h3 := sub1_inj 39 _ _ h2
      have hss : s = s' := by
        obtain ⟨⟨a⟩⟩ := s; obtain ⟨⟨b⟩⟩ := s'
        simp at h3; rw [h3]
      rw [hn, hn', hss]

/-- What stands behind a value's text in a row's: nothing, or a comma. -/
def Stop (r : List UInt8) : Prop := r = [] ∨ ∃ l, r = 44 :: l
theorem cut_free : ∀ (a b r s : List UInt8), (∀ c ∈ a, c ≠ 44) → (∀ c ∈ b, c ≠ 44) → Stop r → Stop s → a ++ r = b ++ s → a = b ∧ r = s
  | [], [], r, s, _, _, _, _, h => ⟨rfl, h⟩
  | [], c :: b, r, s, _, hb, hr, _, h => by
    exfalso
    rcases hr with rfl | ⟨l, rfl⟩
    · simp at h
    · simp at h; exact hb c (by simp) h.1.symm
  | c :: a, [], r, s, ha, _, _, hs, h => by
    exfalso
    rcases hs with rfl | ⟨l, rfl⟩
    · simp at h
    · simp at h; exact ha c (by simp) h.1
  | c :: a, d :: b, r, s, ha, hb, hr, hs, h => by
    simp only [List.cons_append, List.cons.injEq] at h
    obtain ⟨h1, h2⟩ := cut_free a b r s (fun x hx => ha x (List.mem_cons_of_mem _ hx)) (fun x hx => hb x (List.mem_cons_of_mem _ hx)) hr hs h.2
    exact ⟨by rw [h.1, h1], h2⟩
theorem stop_39 {r : List UInt8} (hr : Stop r) (l : List UInt8) : r ≠ 39 :: l := by
  rcases hr with rfl | ⟨l', rfl⟩ <;> simp
theorem cut_quo : ∀ (a b r s : List UInt8), Stop r → Stop s → sub1 39 [39, 39] a ++ 39 :: r = sub1 39 [39, 39] b ++ 39 :: s → a = b ∧ r = s
  | [], [], r, s, _, _, h => by simp [sub1] at h; exact ⟨rfl, h⟩
  | [], c :: b, r, s, hr, _, h => by
    exfalso
    rw [sub1, sub1] at h
    by_cases e : c = 39
    · rw [if_pos e] at h
      simp only [List.nil_append, List.cons_append, List.cons.injEq, true_and] at h
      exact stop_39 hr _ h
    · rw [if_neg e] at h
      simp only [List.nil_append, List.cons_append, List.cons.injEq] at h
      exact e h.1.symm
  | c :: a, [], r, s, _, hs, h => by
    exfalso
    rw [sub1, sub1] at h
    by_cases e : c = 39
    · rw [if_pos e] at h
      simp only [List.nil_append, List.cons_append, List.cons.injEq, true_and] at h
      exact stop_39 hs _ h.symm
    · rw [if_neg e] at h
      simp only [List.nil_append, List.cons_append, List.cons.injEq] at h
      exact e h.1
  | c :: a, d :: b, r, s, hr, hs, h => by
    rw [sub1, sub1] at h
    by_cases e1 : c = 39 <;> by_cases e2 : d = 39
    · rw [if_pos e1, if_pos e2] at h
      simp only [List.nil_append, List.cons_append, List.cons.injEq, true_and] at h
      obtain ⟨h1, h2⟩ := cut_quo a b r s hr hs h
      exact ⟨by rw [h1, e1, e2], h2⟩
    · rw [if_pos e1, if_neg e2] at h
      simp only [List.nil_append, List.cons_append, List.cons.injEq] at h
      exact absurd h.1.symm e2
    · rw [if_neg e1, if_pos e2] at h
      simp only [List.nil_append, List.cons_append, List.cons.injEq] at h
      exact absurd h.1 e1
    · rw [if_neg e1, if_neg e2] at h
      simp only [List.cons_append, List.cons.injEq] at h
      obtain ⟨h1, h2⟩ := cut_quo a b r s hr hs h.2
      exact ⟨by rw [h.1, h1], h2⟩
theorem dec_all (u : Nat) : ∀ c ∈ Lib.decDigits u, 48 ≤ c.toNat ∧ c.toNat ≤ 57 := by
  induction u using Nat.strongRecOn with
  | _ u ih =>
    rw [Lib.decDigits]
    by_cases h : u < 10
    · rw [dif_pos h]
      intro c hc
      simp only [List.mem_singleton] at hc
      subst hc
      rw [dig_toNat u h]; omega
    · rw [dif_neg h]
      intro c hc
      rcases List.mem_append.1 hc with hc | hc
      · exact ih (u / 10) (by omega) c hc
      · simp only [List.mem_singleton] at hc
        subst hc
        rw [dig_toNat (u % 10) (by omega)]; omega
theorem itoa_free (a : Int) : ∀ c ∈ Lib.itoa a, c ≠ 44 := by
  have hd : ∀ u, ∀ c ∈ Lib.decDigits u, c ≠ 44 := fun u c hc e => by
    have := dec_all u c hc
    rw [e] at this
    exact absurd this (by decide)
  unfold Lib.itoa
  intro c hc
  by_cases ha : a < 0
  · rw [if_pos ha] at hc
    rcases List.mem_cons.1 hc with rfl | hc
    · decide
    · exact hd _ c hc
  · rw [if_neg ha] at hc
    exact hd _ c hc
/-- A value's text tells where it ends. -/
theorem text_cut {x y : Val} (hx : Valid x) (hy : Valid y) {r s : List UInt8} (hr : Stop r) (hs : Stop s) (h : textL x ++ r = textL y ++ s) : x = y ∧ r = s := by
  have key : textL x = textL y ∧ r = s := by
    obtain ⟨c, l, ex, hc⟩ := text_head x hx
    obtain ⟨d, l', ey, hd⟩ := text_head y hy
    have hcd : c = d := by
      have h' := h
      rw [ex, ey] at h'
      exact (List.cons.inj h').1
    subst hcd
    clear ex ey
    have hkk : x.k = y.k ∧ (x.k = 1 → x.n = y.n) := by
      rcases hc with hc | hc | hc | hc | hc <;> rcases hd with hd | hd | hd | hd | hd <;> omega
    obtain ⟨hk, hn⟩ := hkk
    have hk' : x.k = 0 ∨ x.k = 1 ∨ x.k = 2 ∨ x.k = 3 := by rcases hc with hc | hc | hc | hc | hc <;> omega
    rcases hk' with h0 | h0 | h0 | h0
    · have e : textL x = textL y := by unfold textL; rw [← hk, h0]; rfl
      rw [e] at h
      exact ⟨e, List.append_cancel_left h⟩
    · have e : textL x = textL y := by unfold textL; rw [← hk, h0, hn h0]; rfl
      rw [e] at h
      exact ⟨e, List.append_cancel_left h⟩
    · have ex : textL x = Lib.itoa x.n := by unfold textL; rw [h0]; rfl
      have ey : textL y = Lib.itoa y.n := by unfold textL; rw [← hk, h0]; rfl
      rw [ex, ey] at h ⊢
      exact cut_free _ _ r s (itoa_free _) (itoa_free _) hr hs h
    · have ex : textL x = [39] ++ sub1 39 [39, 39] x.s.data.toList ++ [39] := by unfold textL; rw [h0]; rfl
      have ey : textL y = [39] ++ sub1 39 [39, 39] y.s.data.toList ++ [39] := by unfold textL; rw [← hk, h0]; rfl
      rw [ex, ey] at h ⊢
      simp only [List.append_assoc, List.cons_append, List.nil_append, List.cons.injEq, true_and] at h
      obtain ⟨h1, h2⟩ := cut_quo _ _ r s hr hs h
      rw [h1]
      exact ⟨rfl, h2⟩
  exact ⟨text_inj hx hy key.1, key.2⟩

/-- The texts of a row's values, with what stands between. -/
def bodyL (l : List Val) : List UInt8 := Lib.join (l.map textL) [44, 32]
/-- A row's text. -/
def rowT (l : List Val) : List UInt8 := [40] ++ bodyL l ++ [41]
theorem tail_stop (l : List (List UInt8)) : Stop (Lib.joinTail [44, 32] l) := by
  cases l with
  | nil => exact .inl rfl
  | cons x r => exact .inr ⟨_, rfl⟩
theorem tail_cons (x : List UInt8) (r : List (List UInt8)) : Lib.joinTail [44, 32] (x :: r) = 44 :: 32 :: (x ++ Lib.joinTail [44, 32] r) := by
  simp [Lib.joinTail]
theorem tail_inj : ∀ a b : List Val, (∀ x ∈ a, Valid x) → (∀ x ∈ b, Valid x) → Lib.joinTail [44, 32] (a.map textL) = Lib.joinTail [44, 32] (b.map textL) → a = b
  | [], [], _, _, _ => rfl
  | [], y :: b, _, _, h => by rw [List.map_cons, tail_cons] at h; cases h
  | x :: a, [], _, _, h => by rw [List.map_cons, tail_cons] at h; cases h
  | x :: a, y :: b, ha, hb, h => by
    rw [List.map_cons, List.map_cons, tail_cons, tail_cons] at h
    simp only [List.cons.injEq, true_and] at h
    obtain ⟨h1, h2⟩ := text_cut (ha x (by simp)) (hb y (by simp)) (tail_stop _) (tail_stop _) h
    rw [h1, tail_inj a b (fun z hz => ha z (List.mem_cons_of_mem _ hz)) (fun z hz => hb z (List.mem_cons_of_mem _ hz)) h2]
theorem body_cons (x : Val) (a : List Val) : bodyL (x :: a) = textL x ++ Lib.joinTail [44, 32] (a.map textL) := by
  unfold bodyL
  rw [List.map_cons, Lib.join_cons]
theorem body_inj : ∀ a b : List Val, (∀ x ∈ a, Valid x) → (∀ x ∈ b, Valid x) → bodyL a = bodyL b → a = b
  | [], [], _, _, _ => rfl
  | [], y :: b, _, hb, h => by
    rw [body_cons] at h
    obtain ⟨c, l, e, _⟩ := text_head y (hb y (by simp))
    rw [e] at h
    cases h
  | x :: a, [], ha, _, h => by
    rw [body_cons] at h
    obtain ⟨c, l, e, _⟩ := text_head x (ha x (by simp))
    rw [e] at h
    cases h
  | x :: a, y :: b, ha, hb, h => by
    rw [body_cons, body_cons] at h
    obtain ⟨h1, h2⟩ := text_cut (ha x (by simp)) (hb y (by simp)) (tail_stop _) (tail_stop _) h
    rw [h1, tail_inj a b (fun z hz => ha z (List.mem_cons_of_mem _ hz)) (fun z hz => hb z (List.mem_cons_of_mem _ hz)) h2]
theorem rowT_inj {a b : List Val} (ha : ∀ x ∈ a, Valid x) (hb : ∀ x ∈ b, Valid x) (h : rowT a = rowT b) : a = b := by
  unfold rowT at h
  exact body_inj a b ha hb (List.append_cancel_left (List.append_cancel_right h))
theorem tail_append (a b : List (List UInt8)) : Lib.joinTail [44, 32] (a ++ b) = Lib.joinTail [44, 32] a ++ Lib.joinTail [44, 32] b := by
  simp [Lib.joinTail]
theorem body_append (a : List Val) (y : Val) (b : List Val) (ha : a ≠ []) : bodyL (a ++ y :: b) = bodyL a ++ [44, 32] ++ bodyL (y :: b) := by
  cases a with
  | nil => exact absurd rfl ha
  | cons x a =>
    rw [List.cons_append, body_cons, body_cons, body_cons, List.map_append, tail_append, List.map_cons, tail_cons]
    simp [List.append_assoc]
/-- Two rows' text, joined. -/
theorem rowT_append (a b : List Val) (ha : a ≠ []) (hb : b ≠ []) : rowT (a ++ b) = ([40] ++ bodyL a) ++ [44, 32] ++ (bodyL b ++ [41]) := by
  cases b with
  | nil => exact absurd rfl hb
  | cons y b =>
    unfold rowT
    rw [body_append a y b ha]
    simp [List.append_assoc]
theorem rowT_nil : rowT [] = [40, 41] := rfl
theorem sub1_le (c : UInt8) : ∀ l : List UInt8, (sub1 c [c, c] l).length ≤ 2 * l.length
  | [] => Nat.le_refl _
  | b :: l => by
    rw [sub1]
    have := sub1_le c l
    split <;> simp <;> omega
theorem dec_len (u : Nat) (k : Nat) (h : u < 10 ^ (k + 1)) : (Lib.decDigits u).length ≤ k + 1 := by
  induction k generalizing u with
  | zero =>
    rw [Lib.decDigits, dif_pos (by simpa using h)]
    simp
  | succ k ih =>
    rw [Lib.decDigits]
    by_cases h10 : u < 10
    · rw [dif_pos h10]; simp
    · rw [dif_neg h10]
      have : u / 10 < 10 ^ (k + 1) := by
        rw [Nat.pow_succ] at h
        exact (Nat.div_lt_iff_lt_mul (by decide)).2 h
      have := ih (u / 10) this
      simp
      omega
theorem itoa_len (a : Int) (h : -9223372036854775808 ≤ a ∧ a ≤ 9223372036854775807) : (Lib.itoa a).length ≤ 21 := by
  unfold Lib.itoa
  split
  · rw [List.length_cons]
    exact Nat.succ_le_succ (dec_len _ 19 (by omega))
  · exact Nat.le_trans (dec_len _ 19 (by omega)) (by decide)
theorem text_len (x : Val) (hn : -9223372036854775808 ≤ x.n ∧ x.n ≤ 9223372036854775807) (hs : x.s.size ≤ 2000) : (textL x).length ≤ 5000 := by
  unfold textL
  split
  · simp
  split
  · split <;> simp
  split
  · have := itoa_len x.n hn
    omega
  split
  · have h1 := sub1_le 39 x.s.data.toList
    have h2 : x.s.data.toList.length = x.s.size := rfl
    simp only [List.length_append, List.length_cons, List.length_nil]
    omega
  · simp
theorem tail_len (B : Nat) : ∀ l : List (List UInt8), (∀ x ∈ l, x.length ≤ B) → (Lib.joinTail [44, 32] l).length ≤ l.length * (B + 2)
  | [], _ => by simp [Lib.joinTail]
  | x :: l, h => by
    rw [tail_cons]
    have h1 := tail_len B l (fun z hz => h z (List.mem_cons_of_mem _ hz))
    have h2 := h x (by simp)
    rw [List.length_cons, List.length_cons, List.length_append, List.length_cons, Nat.succ_mul]
    omega
theorem body_len (a : List Val) (B : Nat) (h : ∀ x ∈ a, (textL x).length ≤ B) : (bodyL a).length ≤ a.length * (B + 2) := by
  cases a with
  | nil => simp [bodyL, Lib.join]
  | cons x a =>
    rw [body_cons, List.length_append, List.length_cons, Nat.succ_mul]
    have h1 := tail_len B (a.map textL) (fun z hz => by obtain ⟨q, hq, rfl⟩ := List.mem_map.1 hz; exact h q (List.mem_cons_of_mem _ hq))
    have h2 := h x (by simp)
    rw [List.length_map] at h1
    omega
end Go.Proofs.YtmgmdkagnhmihaaDoor
