/-
  Part 2 of 6 of what the proof leans on: each part below says what it proves, and of what; no condition besides.
-/
import Derived.Test.YtldaoepemofhlaaGreatDoorR01
import Derived.Lib.ItoaNum
import Derived.Lib.Join
set_option linter.unusedVariables false
set_option linter.unusedSimpArgs false
namespace Go.Proofs.YtldaoepemofhlaaGreatDoor
open Go
def num (l : List UInt8) : Nat := l.foldl (fun a c => a * 10 + (c.toNat - 48)) 0
theorem num_snoc (l : List UInt8) (c : UInt8) : num (l ++ [c]) = num l * 10 + (c.toNat - 48) := by simp [num]
theorem dig_toNat (k : Nat) (h : k < 10) : (UInt8.ofNat (48 + k)).toNat = 48 + k := by
 rw [UInt8.toNat_ofNat']; omega
theorem num_dec (u : Nat) : num (Lib.decDigits u) = u := by
 induction u using Nat.strongRecOn with
 | _ u ih =>
   rw [Lib.decDigits]
   by_cases h : u < 10
   · rw [dif_pos h]
     simp [num]; omega
   · rw [dif_neg h, num_snoc, ih (u / 10) (by omega), dig_toNat (u % 10) (by omega)]
     omega
theorem dec_inj {u v : Nat} (h : Lib.decDigits u = Lib.decDigits v) : u = v := by rw [← num_dec u, h, num_dec]
theorem dec_head (u : Nat) : ∃ c l, Lib.decDigits u = c :: l ∧ 48 ≤ c.toNat ∧ c.toNat ≤ 57 := by
 induction u using Nat.strongRecOn with
 | _ u ih =>
   rw [Lib.decDigits]
   by_cases h : u < 10
   · rw [dif_pos h]
     exact ⟨_, [], rfl, by rw [dig_toNat u h]; omega, by rw [dig_toNat u h]; omega⟩
   · rw [dif_neg h]
     obtain ⟨c, l, hl, h1, h2⟩ := ih (u / 10) (by omega)
     exact ⟨c, l ++ _, by rw [hl]; rfl, h1, h2⟩
theorem itoa_inj {a b : Int} (h : Lib.itoa a = Lib.itoa b) : a = b := by
 unfold Lib.itoa at h
 by_cases ha : a < 0 <;> by_cases hb : b < 0
 · rw [if_pos ha, if_pos hb] at h
   have := dec_inj (List.cons.inj h).2
   omega
 · rw [if_pos ha, if_neg hb] at h
   obtain ⟨c, l, hl, h1, h2⟩ := dec_head b.toNat
   rw [hl] at h
   have := congrArg UInt8.toNat (List.cons.inj h).1
   simp at this; omega
 · rw [if_neg ha, if_pos hb] at h
   obtain ⟨c, l, hl, h1, h2⟩ := dec_head a.toNat
   rw [hl] at h
   have := congrArg UInt8.toNat (List.cons.inj h).1
   simp at this; omega
 · rw [if_neg ha, if_neg hb] at h
   have := dec_inj h
   omega
theorem itoa_head (a : Int) : ∃ c l, Lib.itoa a = c :: l ∧ 45 ≤ c.toNat ∧ c.toNat ≤ 57 := by
 unfold Lib.itoa
 by_cases ha : a < 0
 · rw [if_pos ha]; exact ⟨45, _, rfl, by decide, by decide⟩
 · rw [if_neg ha]
   obtain ⟨c, l, hl, h1, h2⟩ := dec_head a.toNat
   exact ⟨c, l, hl, by omega, h2⟩
def textL (x : Val) : List UInt8 :=
 if x.k == 0 then [110, 117, 108, 108] else if x.k == 1 then (if x.n == 0 then [102, 97, 108, 115, 101] else [116, 114, 117, 101]) else if x.k == 2 then Lib.itoa x.n else if x.k == 3 then [39] ++ sub1 39 [39, 39] x.s.data.toList ++ [39] else [63]
theorem text_head (x : Val) (h : Valid x) : ∃ c l, textL x = c :: l ∧ ((x.k = 0 ∧ c.toNat = 110) ∨ (x.k = 1 ∧ x.n = 0 ∧ c.toNat = 102) ∨ (x.k = 1 ∧ x.n = 1 ∧ c.toNat = 116) ∨ (x.k = 2 ∧ 45 ≤ c.toNat ∧ c.toNat ≤ 57) ∨ (x.k = 3 ∧ c.toNat = 39)) := by
 unfold textL
 rcases h with ⟨hk, _⟩ | ⟨hk, hn | hn, _⟩ | ⟨hk, _⟩ | ⟨hk, _⟩
 · exact ⟨110, _, by rw [hk]; rfl, .inl ⟨hk, by decide⟩⟩
 · exact ⟨102, _, by rw [hk, hn]; rfl, .inr (.inl ⟨hk, hn, by decide⟩)⟩
 · exact ⟨116, _, by rw [hk, hn]; rfl, .inr (.inr (.inl ⟨hk, hn, by decide⟩))⟩
 · obtain ⟨c, l, hl, h1, h2⟩ := itoa_head x.n
   exact ⟨c, l, by rw [hk]; exact hl, .inr (.inr (.inr (.inl ⟨hk, h1, h2⟩)))⟩
 · exact ⟨39, _, by rw [hk]; rfl, .inr (.inr (.inr (.inr ⟨hk, by decide⟩)))⟩
theorem text_inj {x y : Val} (hx : Valid x) (hy : Valid y) (h : textL x = textL y) : x = y := by
 obtain ⟨c, l, ex, hc⟩ := text_head x hx
 obtain ⟨d, r, ey, hd⟩ := text_head y hy
 have hcd : c = d := by rw [ex, ey] at h; exact (List.cons.inj h).1
 subst hcd
 obtain ⟨k, n, s⟩ := x
 obtain ⟨k', n', s'⟩ := y
 simp only at hc hd
 have hkk : k = k' ∧ (k = 1 → n = n') := by
  rcases hc with hc | hc | hc | hc | hc <;> rcases hd with hd | hd | hd | hd | hd <;> omega
 obtain ⟨rfl, h1⟩ := hkk
 rcases hx with ⟨hk, hn, hs⟩ | ⟨hk, hn, hs⟩ | ⟨hk, hs⟩ | ⟨hk, hn, hs⟩ <;> simp only at hk
 · rcases hy with ⟨_, hn', hs'⟩ | ⟨hk', _⟩ | ⟨hk', _⟩ | ⟨hk', _⟩
   · simp only at hn hs hn' hs'; rw [hn, hs, hn', hs']
   all_goals (simp only at hk'; omega)
 · rcases hy with ⟨hk', _⟩ | ⟨_, hn', hs'⟩ | ⟨hk', _⟩ | ⟨hk', _⟩
   · simp only at hk'; omega
   · simp only at hs hs'; rw [h1 hk, hs, hs']
   all_goals (simp only at hk'; omega)
 · rcases hy with ⟨hk', _⟩ | ⟨hk', _⟩ | ⟨_, hs'⟩ | ⟨hk', _⟩
   · simp only at hk'; omega
   · simp only at hk'; omega
   · simp only at hs hs'
     have : Lib.itoa n = Lib.itoa n' := by unfold textL at h; rw [hk] at h; exact h
     rw [itoa_inj this, hs, hs']
   · simp only at hk'; omega
 · rcases hy with ⟨hk', _⟩ | ⟨hk', _⟩ | ⟨hk', _⟩ | ⟨_, hn', hs'⟩
   · simp only at hk'; omega
   · simp only at hk'; omega
   · simp only at hk'; omega
   · simp only at hn hn'
     have h' : [39] ++ sub1 39 [39, 39] s.data.toList ++ [39] = [39] ++ sub1 39 [39, 39] s'.data.toList ++ [39] := by unfold textL at h; rw [hk] at h; exact h
     have h2 : sub1 39 [39, 39] s.data.toList = sub1 39 [39, 39] s'.data.toList := List.append_cancel_left (List.append_cancel_right h')
     have h3 := sub1_inj 39 _ _ h2
     have hss : s = s' := by
      obtain ⟨⟨a⟩⟩ := s; obtain ⟨⟨b⟩⟩ := s'
      simp at h3; rw [h3]
     rw [hn, hn', hss]
def Stop (r : List UInt8) : Prop := r = [] ∨ ∃ l, r = 44 :: l
theorem cut_free : ∀ (a b r s : List UInt8), (∀ c ∈ a, c ≠ 44) → (∀ c ∈ b, c ≠ 44) → Stop r → Stop s → a ++ r = b ++ s → a = b ∧ r = s
 | [], [], r, s, _, _, _, _, h => ⟨rfl, h⟩
 | [], c :: b, r, s, _, hb, hr, _, h => by
   exfalso
   rcases hr with rfl | ⟨l, rfl⟩
   · simp at h
   · simp at h; exact hb c (by simp) h.1.symm
 | c :: a, [], r, s, ha, _, _, hs, h => by
   exfalso
   rcases hs with rfl | ⟨l, rfl⟩
   · simp at h
   · simp at h; exact ha c (by simp) h.1
 | c :: a, d :: b, r, s, ha, hb, hr, hs, h => by
   simp only [List.cons_append, List.cons.injEq] at h
   obtain ⟨h1, h2⟩ := cut_free a b r s (fun x hx => ha x (List.mem_cons_of_mem _ hx)) (fun x hx => hb x (List.mem_cons_of_mem _ hx)) hr hs h.2
   exact ⟨by rw [h.1, h1], h2⟩
theorem stop_39 {r : List UInt8} (hr : Stop r) (l : List UInt8) : r ≠ 39 :: l := by
 rcases hr with rfl | ⟨l', rfl⟩ <;> simp
theorem cut_quo : ∀ (a b r s : List UInt8), Stop r → Stop s → sub1 39 [39, 39] a ++ 39 :: r = sub1 39 [39, 39] b ++ 39 :: s → a = b ∧ r = s
 | [], [], r, s, _, _, h => by simp [sub1] at h; exact ⟨rfl, h⟩
 | [], c :: b, r, s, hr, _, h => by
   exfalso
   rw [sub1, sub1] at h
   by_cases e : c = 39
   · rw [if_pos e] at h
     simp only [List.nil_append, List.cons_append, List.cons.injEq, true_and] at h
     exact stop_39 hr _ h
   · rw [if_neg e] at h
     simp only [List.nil_append, List.cons_append, List.cons.injEq] at h
     exact e h.1.symm
 | c :: a, [], r, s, _, hs, h => by
   exfalso
   rw [sub1, sub1] at h
   by_cases e : c = 39
   · rw [if_pos e] at h
     simp only [List.nil_append, List.cons_append, List.cons.injEq, true_and] at h
     exact stop_39 hs _ h.symm
   · rw [if_neg e] at h
     simp only [List.nil_append, List.cons_append, List.cons.injEq] at h
     exact e h.1
 | c :: a, d :: b, r, s, hr, hs, h => by
   rw [sub1, sub1] at h
   by_cases e1 : c = 39 <;> by_cases e2 : d = 39
   · rw [if_pos e1, if_pos e2] at h
     simp only [List.nil_append, List.cons_append, List.cons.injEq, true_and] at h
     obtain ⟨h1, h2⟩ := cut_quo a b r s hr hs h
     exact ⟨by rw [h1, e1, e2], h2⟩
   · rw [if_pos e1, if_neg e2] at h
     simp only [List.nil_append, List.cons_append, List.cons.injEq] at h
     exact absurd h.1.symm e2
   · rw [if_neg e1, if_pos e2] at h
     simp only [List.nil_append, List.cons_append, List.cons.injEq] at h
     exact absurd h.1 e1
   · rw [if_neg e1, if_neg e2] at h
     simp only [List.cons_append, List.cons.injEq] at h
     obtain ⟨h1, h2⟩ := cut_quo a b r s hr hs h.2
     exact ⟨by rw [h.1, h1], h2⟩
theorem dec_all (u : Nat) : ∀ c ∈ Lib.decDigits u, 48 ≤ c.toNat ∧ c.toNat ≤ 57 := by
 induction u using Nat.strongRecOn with
 | _ u ih =>
   rw [Lib.decDigits]
   by_cases h : u < 10
   · rw [dif_pos h]
     intro c hc
     simp only [List.mem_singleton] at hc
     subst hc
     rw [dig_toNat u h]; omega
   · rw [dif_neg h]
     intro c hc
     rcases List.mem_append.1 hc with hc | hc
     · exact ih (u / 10) (by omega) c hc
     · simp only [List.mem_singleton] at hc
       subst hc
       rw [dig_toNat (u % 10) (by omega)]; omega
theorem itoa_free (a : Int) : ∀ c ∈ Lib.itoa a, c ≠ 44 := by
 have hd : ∀ u, ∀ c ∈ Lib.decDigits u, c ≠ 44 := fun u c hc e => by
  have := dec_all u c hc
  rw [e] at this
  exact absurd this (by decide)
 unfold Lib.itoa
 intro c hc
 by_cases ha : a < 0
 · rw [if_pos ha] at hc
   rcases List.mem_cons.1 hc with rfl | hc
   · decide
   · exact hd _ c hc
 · rw [if_neg ha] at hc
   exact hd _ c hc
theorem text_cut {x y : Val} (hx : Valid x) (hy : Valid y) {r s : List UInt8} (hr : Stop r) (hs : Stop s) (h : textL x ++ r = textL y ++ s) : x = y ∧ r = s := by
 have key : textL x = textL y ∧ r = s := by
  obtain ⟨c, l, ex, hc⟩ := text_head x hx
  obtain ⟨d, l', ey, hd⟩ := text_head y hy
  have hcd : c = d := by
   have h' := h
   rw [ex, ey] at h'
   exact (List.cons.inj h').1
  subst hcd
  clear ex ey
  have hkk : x.k = y.k ∧ (x.k = 1 → x.n = y.n) := by
   rcases hc with hc | hc | hc | hc | hc <;> rcases hd with hd | hd | hd | hd | hd <;> omega
  obtain ⟨hk, hn⟩ := hkk
  have hk' : x.k = 0 ∨ x.k = 1 ∨ x.k = 2 ∨ x.k = 3 := by rcases hc with hc | hc | hc | hc | hc <;> omega
  rcases hk' with h0 | h0 | h0 | h0
  · have e : textL x = textL y := by unfold textL; rw [← hk, h0]; rfl
    rw [e] at h
    exact ⟨e, List.append_cancel_left h⟩
  · have e : textL x = textL y := by unfold textL; rw [← hk, h0, hn h0]; rfl
    rw [e] at h
    exact ⟨e, List.append_cancel_left h⟩
  · have ex : textL x = Lib.itoa x.n := by unfold textL; rw [h0]; rfl
    have ey : textL y = Lib.itoa y.n := by unfold textL; rw [← hk, h0]; rfl
    rw [ex, ey] at h ⊢
    exact cut_free _ _ r s (itoa_free _) (itoa_free _) hr hs h
  · have ex : textL x = [39] ++ sub1 39 [39, 39] x.s.data.toList ++ [39] := by unfold textL; rw [h0]; rfl
    have ey : textL y = [39] ++ sub1 39 [39, 39] y.s.data.toList ++ [39] := by unfold textL; rw [← hk, h0]; rfl
    rw [ex, ey] at h ⊢
    simp only [List.append_assoc, List.cons_append, List.nil_append, List.cons.injEq, true_and] at h
    obtain ⟨h1, h2⟩ := cut_quo _ _ r s hr hs h
    rw [h1]
    exact ⟨rfl, h2⟩
 exact ⟨text_inj hx hy key.1, key.2⟩
def bodyL (l : List Val) : List UInt8 := Lib.join (l.map textL) [44, 32]
def rowT (l : List Val) : List UInt8 := [40] ++ bodyL l ++ [41]
theorem tail_stop (l : List (List UInt8)) : Stop (Lib.joinTail [44, 32] l) := by
 cases l with
 | nil => exact .inl rfl
 | cons x r => exact .inr ⟨_, rfl⟩
theorem tail_cons (x : List UInt8) (r : List (List UInt8)) : Lib.joinTail [44, 32] (x :: r) = 44 :: 32 :: (x ++ Lib.joinTail [44, 32] r) := by
 simp [Lib.joinTail]
theorem tail_inj : ∀ a b : List Val, (∀ x ∈ a, Valid x) → (∀ x ∈ b, Valid x) → Lib.joinTail [44, 32] (a.map textL) = Lib.joinTail [44, 32] (b.map textL) → a = b
 | [], [], _, _, _ => rfl
 | [], y :: b, _, _, h => by rw [List.map_cons, tail_cons] at h; cases h
 | x :: a, [], _, _, h => by rw [List.map_cons, tail_cons] at h; cases h
 | x :: a, y :: b, ha, hb, h => by
   rw [List.map_cons, List.map_cons, tail_cons, tail_cons] at h
   simp only [List.cons.injEq, true_and] at h
   obtain ⟨h1, h2⟩ := text_cut (ha x (by simp)) (hb y (by simp)) (tail_stop _) (tail_stop _) h
   rw [h1, tail_inj a b (fun z hz => ha z (List.mem_cons_of_mem _ hz)) (fun z hz => hb z (List.mem_cons_of_mem _ hz)) h2]
theorem body_cons (x : Val) (a : List Val) : bodyL (x :: a) = textL x ++ Lib.joinTail [44, 32] (a.map textL) := by
 unfold bodyL
 rw [List.map_cons, Lib.join_cons]
theorem body_inj : ∀ a b : List Val, (∀ x ∈ a, Valid x) → (∀ x ∈ b, Valid x) → bodyL a = bodyL b → a = b
 | [], [], _, _, _ => rfl
 | [], y :: b, _, hb, h => by
   rw [body_cons] at h
   obtain ⟨c, l, e, _⟩ := text_head y (hb y (by simp))
   rw [e] at h
   cases h
 | x :: a, [], ha, _, h => by
   rw [body_cons] at h
   obtain ⟨c, l, e, _⟩ := text_head x (ha x (by simp))
   rw [e] at h
   cases h
 | x :: a, y :: b, ha, hb, h => by
   rw [body_cons, body_cons] at h
   obtain ⟨h1, h2⟩ := text_cut (ha x (by simp)) (hb y (by simp)) (tail_stop _) (tail_stop _) h
   rw [h1, tail_inj a b (fun z hz => ha z (List.mem_cons_of_mem _ hz)) (fun z hz => hb z (List.mem_cons_of_mem _ hz)) h2]
theorem rowT_inj {a b : List Val} (ha : ∀ x ∈ a, Valid x) (hb : ∀ x ∈ b, Valid x) (h : rowT a = rowT b) : a = b := by
 unfold rowT at h
 exact body_inj a b ha hb (List.append_cancel_left (List.append_cancel_right h))
theorem sub1_le (c : UInt8) : ∀ l : List UInt8, (sub1 c [c, c] l).length ≤ 2 * l.length
 | [] => Nat.le_refl _
 | b :: l => by
   rw [sub1]
   have := sub1_le c l
   split <;> simp <;> omega
theorem dec_len (u : Nat) (k : Nat) (h : u < 10 ^ (k + 1)) : (Lib.decDigits u).length ≤ k + 1 := by
 induction k generalizing u with
 | zero =>
   rw [Lib.decDigits, dif_pos (by simpa using h)]
   simp
 | succ k ih =>
   rw [Lib.decDigits]
   by_cases h10 : u < 10
   · rw [dif_pos h10]; simp
   · rw [dif_neg h10]
     have : u / 10 < 10 ^ (k + 1) := by
      rw [Nat.pow_succ] at h
      exact (Nat.div_lt_iff_lt_mul (by decide)).2 h
     have := ih (u / 10) this
     simp
     omega
theorem itoa_len (a : Int) (h : -9223372036854775808 ≤ a ∧ a ≤ 9223372036854775807) : (Lib.itoa a).length ≤ 21 := by
 unfold Lib.itoa
 split
 · rw [List.length_cons]
   exact Nat.succ_le_succ (dec_len _ 19 (by omega))
 · exact Nat.le_trans (dec_len _ 19 (by omega)) (by decide)
theorem text_len (x : Val) (hn : -9223372036854775808 ≤ x.n ∧ x.n ≤ 9223372036854775807) (hs : x.s.size ≤ 2000) : (textL x).length ≤ 5000 := by
 unfold textL
 split
 · simp
 split
 · split <;> simp
 split
 · have := itoa_len x.n hn
   omega
 split
 · have h1 := sub1_le 39 x.s.data.toList
   have h2 : x.s.data.toList.length = x.s.size := rfl
   simp only [List.length_append, List.length_cons, List.length_nil]
   omega
 · simp
theorem tail_len (B : Nat) : ∀ l : List (List UInt8), (∀ x ∈ l, x.length ≤ B) → (Lib.joinTail [44, 32] l).length ≤ l.length * (B + 2)
 | [], _ => by simp [Lib.joinTail]
 | x :: l, h => by
   rw [tail_cons]
   have h1 := tail_len B l (fun z hz => h z (List.mem_cons_of_mem _ hz))
   have h2 := h x (by simp)
   rw [List.length_cons, List.length_cons, List.length_append, List.length_cons, Nat.succ_mul]
   omega
theorem body_len (a : List Val) (B : Nat) (h : ∀ x ∈ a, (textL x).length ≤ B) : (bodyL a).length ≤ a.length * (B + 2) := by
 cases a with
 | nil => simp [bodyL, Lib.join]
 | cons x a =>
   rw [body_cons, List.length_append, List.length_cons, Nat.succ_mul]
   have h1 := tail_len B (a.map textL) (fun z hz => by obtain ⟨q, hq, rfl⟩ := List.mem_map.1 hz; exact h q (List.mem_cons_of_mem _ hq))
   have h2 := h x (by simp)
   rw [List.length_map] at h1
   omega
end Go.Proofs.YtldaoepemofhlaaGreatDoor
namespace Go.Proofs.YtldaoepemofhlaaGreatDoor
open Go
theorem look_mem : ∀ (b : Bg) (x : List Val × Int), Asc b → x ∈ b → lookB b x.1 = x.2
 | [], x, _, hx => by cases hx
 | y :: b, x, h, hx => by
   rcases List.mem_cons.1 hx with rfl | hx
   · rw [lookB, if_pos (cmpL_same _)]
   · rw [look_cons_ne (cmpL_lt_ne (asc_head h x hx)), look_mem b x (asc_tail h) hx]
theorem key_add (P : List Val → Prop) : ∀ (b : Bg) (r : List Val) (n : Int), (∀ x ∈ b, P x.1) → P r → ∀ x ∈ addB b r n, P x.1
 | [], r, n, _, hr, x, hx => by
   rw [addB] at hx
   split at hx
   · cases hx
   · rw [List.mem_singleton] at hx; rw [hx]; exact hr
 | y :: b, r, n, hb, hr, x, hx => by
   have hb' : ∀ z ∈ b, P z.1 := fun z hz => hb z (List.mem_cons_of_mem _ hz)
   rw [addB] at hx
   split at hx
   · rcases List.mem_cons.1 hx with rfl | hx
     · exact hb x (by simp)
     · exact key_add P b r n hb' hr x hx
   · split at hx
     · split at hx
       · exact hb' x hx
       · rcases List.mem_cons.1 hx with rfl | hx
         · exact hr
         · exact hb' x hx
     · split at hx
       · exact hb x hx
       · rcases List.mem_cons.1 hx with rfl | hx
         · exact hr
         · exact hb x hx
theorem key_both (P : List Val → Prop) : ∀ (b a : Bg), (∀ x ∈ a, P x.1) → (∀ x ∈ b, P x.1) → ∀ x ∈ bothB a b, P x.1
 | [], _, ha, _ => ha
 | y :: b, a, ha, hb => key_both P b _ (key_add P a y.1 y.2 ha (hb y (by simp))) (fun x hx => hb x (List.mem_cons_of_mem _ hx))
theorem key_go (P : List Val → Prop) : ∀ (l : List Bg) (a : Bg), (∀ x ∈ a, P x.1) → (∀ b ∈ l, ∀ x ∈ b, P x.1) → ∀ x ∈ l.foldl bothB a, P x.1
 | [], _, ha, _ => ha
 | b :: l, a, ha, hl => key_go P l _ (key_both P b a ha (hl b (by simp))) (fun c hc => hl c (List.mem_cons_of_mem _ hc))
theorem key_plus (P : List Val → Prop) (l : List Bg) (h : ∀ b ∈ l, ∀ x ∈ b, P x.1) : ∀ x ∈ plusL l, P x.1 := key_go P l [] (fun x hx => by cases hx) h
theorem okC_of {x : List Val × Int} (h1 : x.2 ≠ 0) (h2 : -1000000000 ≤ x.2) (h3 : x.2 ≤ 1000000000) (h4 : mayR x.1 = true) : okC x = true := by
 unfold okC
 rw [beq_eq_false_iff_ne.2 h1, decide_eq_true h2, decide_eq_true h3, h4]
 rfl
theorem may_of {b : Bg} (h1 : Asc b) (h2 : ∀ x ∈ b, okC x = true) : mayBag b = true := by
 unfold mayBag
 rw [asc_rises b h1, Bool.and_true, List.all_eq_true]
 exact h2
theorem may_plus (l : List Bg) (hl : ∀ b ∈ l, mayBag b = true) (hs : ∀ s, -1000000000 ≤ sumL l s ∧ sumL l s ≤ 1000000000) : mayBag (plusL l) = true := by
 refine may_of (asc_plus l) fun x hx => ?_
 have h1 := nz_plus l x hx
 have h2 := look_mem _ x (asc_plus l) hx
 rw [look_plus] at h2
 have h3 := hs x.1
 rw [h2] at h3
 exact okC_of h1 h3.1 h3.2 (key_plus (fun r => mayR r = true) l (fun b hb y hy => (okC_parts (may_okC (hl b hb) y hy)).2.2.2) x hx)
theorem may_neg {b : Bg} (h : mayBag b = true) : mayBag (negB b) = true := by
 refine may_of (asc_neg (may_asc h)) fun x hx => ?_
 obtain ⟨y, hy, rfl⟩ := List.mem_map.1 hx
 obtain ⟨h1, h2, h3, h4⟩ := okC_parts (may_okC h y hy)
 refine okC_of ?_ ?_ ?_ h4
 · show -y.2 ≠ 0; omega
 · show -1000000000 ≤ -y.2; omega
 · show -y.2 ≤ 1000000000; omega
theorem look_low (M : Int) (hM : 0 ≤ M) : ∀ (b : Bg) (s : List Val), (∀ x ∈ b, -M ≤ x.2 ∧ x.2 ≤ M) → -M ≤ lookB b s ∧ lookB b s ≤ M
 | [], _, _ => by rw [lookB]; omega
 | x :: b, s, h => by
   rw [lookB]
   split
   · exact h x (by simp)
   · exact look_low M hM b s fun y hy => h y (List.mem_cons_of_mem _ hy)
def plusR (l : List Bg) : Bg := if l.all mayBag && mayBag (plusL l) then plusL l else []
theorem plusR_of {l : List Bg} (h1 : ∀ b ∈ l, mayBag b = true) (h2 : mayBag (plusL l) = true) : plusR l = plusL l := by
 unfold plusR
 rw [h2, List.all_eq_true.2 h1]
 rfl
theorem plus_ext {l m : List Bg} (h : ∀ s, sumL l s = sumL m s) : plusL l = plusL m :=
 bag_ext _ _ (asc_plus l) (asc_plus m) (nz_plus l) (nz_plus m) fun s => by rw [look_plus, look_plus, h s]
theorem sum_plus (l : List Bg) (s : List Val) : sumB (plusL l) s = sumL l s := by rw [sum_look _ s (asc_plus l), look_plus]
def rowsB (b : Bg) : List (List Val) := b.flatMap fun x => List.replicate x.2.toNat x.1
theorem rows_cons (x : List Val × Int) (b : Bg) : rowsB (x :: b) = List.replicate x.2.toNat x.1 ++ rowsB b := rfl
theorem rows_add : ∀ (b : Bg) (r : List Val), (∀ x ∈ b, 0 < x.2) → (rowsB (addB b r 1)).Perm (r :: rowsB b)
 | [], r, _ => by
   rw [addB, if_neg (by decide)]
   exact List.Perm.refl _
 | x :: b, r, h => by
   have hb : ∀ y ∈ b, 0 < y.2 := fun y hy => h y (List.mem_cons_of_mem _ hy)
   have hx := h x (by simp)
   rw [addB]
   by_cases h1 : cmpL x.1 r = -1
   · rw [if_pos h1, rows_cons, rows_cons]
     exact ((rows_add b r hb).append_left _).trans List.perm_middle
   · rw [if_neg h1]
     by_cases h2 : cmpL x.1 r = 0
     · have e := cmpL_iff.1 h2
       rw [if_pos h2, if_neg (by omega), rows_cons, rows_cons, e, show (1 + x.2).toNat = x.2.toNat + 1 by omega, List.replicate_succ]
       exact List.Perm.refl _
     · rw [if_neg h2, if_neg (by decide), rows_cons]
       exact List.Perm.refl _
theorem pos_add : ∀ (b : Bg) (r : List Val), (∀ x ∈ b, 0 < x.2) → ∀ x ∈ addB b r 1, 0 < x.2
 | [], r, _, x, hx => by
   rw [addB, if_neg (by decide), List.mem_singleton] at hx
   rw [hx]
   exact Int.one_pos
 | y :: b, r, h, x, hx => by
   have hb : ∀ z ∈ b, 0 < z.2 := fun z hz => h z (List.mem_cons_of_mem _ hz)
   have hy := h y (by simp)
   rw [addB] at hx
   by_cases h1 : cmpL y.1 r = -1
   · rw [if_pos h1] at hx
     rcases List.mem_cons.1 hx with rfl | hx
     · exact hy
     · exact pos_add b r hb x hx
   · rw [if_neg h1] at hx
     by_cases h2 : cmpL y.1 r = 0
     · rw [if_pos h2, if_neg (by omega)] at hx
       rcases List.mem_cons.1 hx with rfl | hx
       · show 0 < 1 + y.2; omega
       · exact hb x hx
     · rw [if_neg h2, if_neg (by decide)] at hx
       rcases List.mem_cons.1 hx with rfl | hx
       · exact Int.one_pos
       · exact h x hx
theorem rows_go : ∀ (l : List (List Val)) (a : Bg), (∀ x ∈ a, 0 < x.2) → (∀ x ∈ bothB a (l.map fun r => (r, 1)), 0 < x.2) ∧ (rowsB (bothB a (l.map fun r => (r, 1)))).Perm (rowsB a ++ l)
 | [], a, h => ⟨h, by rw [List.append_nil]; exact List.Perm.refl _⟩
 | r :: l, a, h => by
   have h2 := rows_go l (addB a r 1) (pos_add a r h)
   refine ⟨h2.1, ?_⟩
   show (rowsB (bothB (addB a r 1) (l.map fun r => (r, 1)))).Perm _
   refine h2.2.trans ?_
   refine ((rows_add a r h).append_right l).trans ?_
   exact (List.perm_middle (l₁ := rowsB a)).symm
theorem of_pos (l : List (List Val)) : ∀ x ∈ ofL l, 0 < x.2 := (rows_go l [] (fun x hx => by cases hx)).1
theorem of_perm (l : List (List Val)) : (rowsB (ofL l)).Perm l := (rows_go l [] (fun x hx => by cases hx)).2
theorem rows_above : ∀ (b : Bg) (k : List Val), (∀ x ∈ b, cmpL k x.1 = -1) → ∀ r ∈ rowsB b, leR k r = true := by
 intro b k h r hr
 obtain ⟨x, hx, hr⟩ := List.mem_flatMap.1 hr
 rw [(List.mem_replicate.1 hr).2]
 unfold leR
 rw [h x hx]
 rfl
theorem rows_sorted : ∀ b : Bg, Asc b → (rowsB b).Pairwise fun x y => leR x y = true
 | [], _ => List.Pairwise.nil
 | x :: b, h => by
   rw [rows_cons, List.pairwise_append]
   refine ⟨?_, rows_sorted b (asc_tail h), fun u hu v hv => ?_⟩
   · rw [List.pairwise_replicate]
     right
     unfold leR
     rw [cmpL_same]
     rfl
   · rw [(List.mem_replicate.1 hu).2]
     exact rows_above b x.1 (asc_head h) v hv
theorem asc_of (l : List (List Val)) : Asc (ofL l) := asc_both _ [] List.Pairwise.nil
theorem nz_of (l : List (List Val)) : NZ (ofL l) := nz_both _ [] (fun x hx => by cases hx)
theorem rows_of (l : List (List Val)) : rowsB (ofL l) = sortR l := sortR_of (of_perm l) (rows_sorted _ (asc_of l))
theorem of_append (l m : List (List Val)) : ofL (l ++ m) = plusL [ofL l, ofL m] :=
 bag_ext _ _ (asc_of _) (asc_plus _) (nz_of _) (nz_plus _) fun s => by
  rw [look_of, look_plus, List.map_append, sum_append, sumL, sumL, sumL, sum_look _ s (asc_of l), sum_look _ s (asc_of m), look_of, look_of, Int.add_zero]
theorem sum_ones : ∀ (l : List (List Val)) (s : List Val), 0 ≤ sumB (l.map fun r => (r, 1)) s ∧ sumB (l.map fun r => (r, 1)) s ≤ l.length
 | [], _ => by rw [List.map_nil, sumB]; exact ⟨Int.le_refl _, Int.le_refl _⟩
 | r :: l, s => by
   have h := sum_ones l s
   rw [List.map_cons, sumB, List.length_cons]
   split <;> constructor <;> (try push_cast) <;> omega
theorem may_ofL (l : List (List Val)) (h : ∀ r ∈ l, mayR r = true) (hl : l.length ≤ 1000000) : mayBag (ofL l) = true := by
 refine may_of (asc_of l) fun x hx => ?_
 have h2 := look_mem _ x (asc_of l) hx
 rw [look_of] at h2
 have h3 := sum_ones l x.1
 have h4 := of_pos l x hx
 rw [h2] at h3
 refine okC_of (by omega) (by omega) (by omega) ?_
 exact key_both (fun r => mayR r = true) (l.map fun r => (r, 1)) [] (fun y hy => by cases hy) (fun y hy => by
  obtain ⟨r, hr, rfl⟩ := List.mem_map.1 hy
  exact h r hr) x hx
end Go.Proofs.YtldaoepemofhlaaGreatDoor
namespace Go.Proofs.YtldaoepemofhlaaGreatDoor
open Go
def wt (f : List Val → Int) : Bg → Int
 | [] => 0
 | x :: b => f x.1 * x.2 + wt f b
theorem wt_add (f : List Val → Int) : ∀ (b : Bg) (r : List Val) (n : Int), wt f (addB b r n) = wt f b + f r * n
 | [], r, n => by
   rw [addB]
   by_cases hn : n = 0
   · simp [hn, wt]
   · simp [hn, wt]
 | x :: b, r, n => by
   rw [addB]
   by_cases h1 : cmpL x.1 r = -1
   · rw [if_pos h1, wt, wt, wt_add f b r n]; omega
   · rw [if_neg h1]
     by_cases h2 : cmpL x.1 r = 0
     · rw [if_pos h2]
       have e := cmpL_iff.1 h2
       by_cases h3 : n + x.2 = 0
       · rw [if_pos h3, wt, e]
         have : f r * x.2 + f r * n = 0 := by rw [← Int.mul_add, Int.add_comm, h3, Int.mul_zero]
         omega
       · rw [if_neg h3, wt, wt, e]
         show f r * (n + x.2) + wt f b = _
         rw [Int.mul_add]; omega
     · rw [if_neg h2]
       by_cases h3 : n = 0
       · rw [if_pos h3, h3, Int.mul_zero, Int.add_zero]
       · rw [if_neg h3, wt, wt]
         show f r * n + _ = _
         omega
theorem wt_both (f : List Val → Int) : ∀ (b a : Bg), wt f (bothB a b) = wt f a + wt f b
 | [], a => by rw [wt, Int.add_zero]; rfl
 | x :: b, a => by rw [both_cons, wt_both f b, wt_add, wt]; omega
theorem wt_app (f : List Val → Int) : ∀ a b : Bg, wt f (a ++ b) = wt f a + wt f b
 | [], b => by rw [List.nil_append, wt, Int.zero_add]
 | x :: a, b => by rw [List.cons_append, wt, wt, wt_app f a b]; omega
theorem wt_neg (f : List Val → Int) : ∀ b : Bg, wt f (negB b) = -wt f b
 | [] => rfl
 | x :: b => by
   have ih := wt_neg f b
   show f x.1 * -x.2 + wt f (negB b) = -(f x.1 * x.2 + wt f b)
   rw [ih, Int.mul_neg]; omega
theorem wt_plus (f g : List Val → Int) : ∀ b : Bg, wt (fun r => f r + g r) b = wt f b + wt g b
 | [] => rfl
 | x :: b => by rw [wt, wt, wt, wt_plus f g b, Int.add_mul]; omega
theorem wt_mul (c : Int) (f : List Val → Int) : ∀ b : Bg, wt (fun r => c * f r) b = c * wt f b
 | [] => by rw [wt, wt, Int.mul_zero]
 | x :: b => by rw [wt, wt, wt_mul c f b, Int.mul_add, Int.mul_assoc]
theorem wt_mulr (c : Int) (f : List Val → Int) : ∀ b : Bg, wt (fun r => f r * c) b = wt f b * c
 | [] => by rw [wt, wt, Int.zero_mul]
 | x :: b => by rw [wt, wt, wt_mulr c f b, Int.add_mul, Int.mul_assoc, Int.mul_comm c, ← Int.mul_assoc]
theorem wt_zero : ∀ b : Bg, wt (fun _ => 0) b = 0
 | [] => rfl
 | x :: b => by rw [wt, wt_zero b]; simp
theorem wt_congr {f g : List Val → Int} : ∀ b : Bg, (∀ x ∈ b, f x.1 = g x.1) → wt f b = wt g b
 | [], _ => rfl
 | x :: b, h => by rw [wt, wt, h x (by simp), wt_congr b (fun y hy => h y (List.mem_cons_of_mem _ hy))]
theorem wt_swap (f : List Val → List Val → Int) : ∀ a b : Bg, wt (fun x => wt (fun y => f x y) b) a = wt (fun y => wt (fun x => f x y) a) b
 | [], b => (wt_zero b).symm
 | x :: a, b => by
   have e : (fun y => wt (fun x => f x y) (x :: a)) = fun y => f x.1 y * x.2 + wt (fun x => f x y) a := rfl
   rw [e, wt_plus, wt_mulr, wt, wt_swap f a b]
instance : DecidableEq Val := fun _ _ => decidable_of_iff _ Val.eq_iff
def ind (p : Prop) [Decidable p] : Int := if p then 1 else 0
theorem sum_wt (s : List Val) : ∀ b : Bg, sumB b s = wt (fun r => ind (cmpL r s = 0)) b
 | [] => rfl
 | x :: b => by
   rw [sumB, wt, sum_wt s b]
   unfold ind
   split
   · rw [Int.one_mul]
   · rw [Int.zero_mul]
theorem look_wt {b : Bg} (h : Asc b) (s : List Val) : lookB b s = wt (fun r => ind (cmpL r s = 0)) b := by rw [← sum_look b s h, sum_wt]
def mapB (F : List Val → List (List Val × Int)) (b : Bg) (o : Bg) : Bg := b.foldl (fun o x => (F x.1).foldl (fun o y => addB o y.1 (y.2 * x.2)) o) o
theorem fold_asc (k : Int) : ∀ (l : List (List Val × Int)) (o : Bg), Asc o → Asc (l.foldl (fun o y => addB o y.1 (y.2 * k)) o)
 | [], _, h => h
 | y :: l, o, h => fold_asc k l _ (asc_add o y.1 _ h)
theorem fold_nz (k : Int) : ∀ (l : List (List Val × Int)) (o : Bg), NZ o → NZ (l.foldl (fun o y => addB o y.1 (y.2 * k)) o)
 | [], _, h => h
 | y :: l, o, h => fold_nz k l _ (nz_add o y.1 _ h)
theorem fold_wt (f : List Val → Int) (k : Int) : ∀ (l : List (List Val × Int)) (o : Bg), wt f (l.foldl (fun o y => addB o y.1 (y.2 * k)) o) = wt f o + wt f l * k
 | [], o => by rw [List.foldl_nil, wt, Int.zero_mul, Int.add_zero]
 | y :: l, o => by rw [List.foldl_cons, fold_wt f k l, wt_add, wt, Int.add_mul, Int.mul_assoc]; omega
theorem map_asc (F : List Val → List (List Val × Int)) : ∀ (b o : Bg), Asc o → Asc (mapB F b o)
 | [], _, h => h
 | x :: b, o, h => map_asc F b _ (fold_asc x.2 _ o h)
theorem map_nz (F : List Val → List (List Val × Int)) : ∀ (b o : Bg), NZ o → NZ (mapB F b o)
 | [], _, h => h
 | x :: b, o, h => map_nz F b _ (fold_nz x.2 _ o h)
theorem map_wt (f : List Val → Int) (F : List Val → List (List Val × Int)) : ∀ (b o : Bg), wt f (mapB F b o) = wt f o + wt (fun r => wt f (F r)) b
 | [], o => by rw [wt, Int.add_zero]; rfl
 | x :: b, o => by
   show wt f (mapB F b _) = _
   rw [map_wt f F b, fold_wt, wt]; omega
theorem map_one (F : List Val → List (List Val × Int)) (b : Bg) : Asc (mapB F b []) ∧ NZ (mapB F b []) ∧ ∀ s, lookB (mapB F b []) s = wt (fun r => wt (fun q => ind (cmpL q s = 0)) (F r)) b := by
 have h1 := map_asc F b [] List.Pairwise.nil
 refine ⟨h1, map_nz F b [] (fun x hx => by cases hx), fun s => ?_⟩
 rw [look_wt h1, map_wt, wt, Int.zero_add]
theorem map_both (F : List Val → List (List Val × Int)) (a b : Bg) : mapB F (bothB a b) [] = bothB (mapB F a []) (mapB F b []) := by
 obtain ⟨a1, a2, a3⟩ := map_one F a
 obtain ⟨b1, b2, b3⟩ := map_one F b
 obtain ⟨c1, c2, c3⟩ := map_one F (bothB a b)
 refine bag_ext _ _ c1 (asc_both _ _ a1) c2 (nz_both _ _ a2) (fun s => ?_)
 rw [look_both _ _ s a1, sum_look _ s b1, c3, a3, b3, wt_both]
theorem both_nil {b : Bg} (h1 : Asc b) (h2 : NZ b) : bothB [] b = b :=
 bag_ext _ _ (asc_both _ _ List.Pairwise.nil) h1 (nz_both _ _ (fun x hx => by cases hx)) h2 (fun s => by rw [look_both _ _ s List.Pairwise.nil, sum_look _ s h1]; simp [lookB])
theorem both_comm {a b : Bg} (ha : Asc a) (hb : Asc b) (na : NZ a) (nb : NZ b) : bothB a b = bothB b a :=
 bag_ext _ _ (asc_both _ _ ha) (asc_both _ _ hb) (nz_both _ _ na) (nz_both _ _ nb) (fun s => by rw [look_both _ _ s ha, look_both _ _ s hb, sum_look _ s ha, sum_look _ s hb]; omega)
theorem both_assoc {a : Bg} (b c : Bg) (ha : Asc a) (na : NZ a) (hb : Asc b) : bothB (bothB a b) c = bothB a (bothB b c) :=
 bag_ext _ _ (asc_both _ _ (asc_both _ _ ha)) (asc_both _ _ ha) (nz_both _ _ (nz_both _ _ na)) (nz_both _ _ na) (fun s => by rw [look_both _ _ s (asc_both _ _ ha), look_both _ _ s ha, look_both _ _ s ha, sum_look _ s (asc_both _ _ hb), look_both _ _ s hb, sum_look _ s hb]; omega)
def pairB (F : List Val → List Val → List (List Val × Int)) (a b : Bg) : Bg := a.foldl (fun o x => b.foldl (fun o y => (F x.1 y.1).foldl (fun o z => addB o z.1 (z.2 * (x.2 * y.2))) o) o) []
theorem inner_asc (F : List Val → List Val → List (List Val × Int)) (x : List Val × Int) : ∀ (b o : Bg), Asc o → Asc (b.foldl (fun o y => (F x.1 y.1).foldl (fun o z => addB o z.1 (z.2 * (x.2 * y.2))) o) o)
 | [], _, h => h
 | _ :: b, o, h => inner_asc F x b _ (fold_asc _ _ o h)
theorem inner_nz (F : List Val → List Val → List (List Val × Int)) (x : List Val × Int) : ∀ (b o : Bg), NZ o → NZ (b.foldl (fun o y => (F x.1 y.1).foldl (fun o z => addB o z.1 (z.2 * (x.2 * y.2))) o) o)
 | [], _, h => h
 | _ :: b, o, h => inner_nz F x b _ (fold_nz _ _ o h)
theorem inner_wt (f : List Val → Int) (F : List Val → List Val → List (List Val × Int)) (x : List Val × Int) : ∀ (b o : Bg), wt f (b.foldl (fun o y => (F x.1 y.1).foldl (fun o z => addB o z.1 (z.2 * (x.2 * y.2))) o) o) = wt f o + wt (fun q => wt f (F x.1 q)) b * x.2
 | [], o => by rw [List.foldl_nil, wt, Int.zero_mul, Int.add_zero]
 | y :: b, o => by
   rw [List.foldl_cons, inner_wt f F x b, fold_wt, wt, Int.add_mul]
   have : wt f (F x.1 y.1) * (x.2 * y.2) = wt f (F x.1 y.1) * y.2 * x.2 := by rw [Int.mul_comm x.2, ← Int.mul_assoc]
   omega
theorem outer (f : List Val → Int) (F : List Val → List Val → List (List Val × Int)) (b : Bg) : ∀ (a o : Bg), (Asc o → Asc (a.foldl (fun o x => b.foldl (fun o y => (F x.1 y.1).foldl (fun o z => addB o z.1 (z.2 * (x.2 * y.2))) o) o) o)) ∧
 (NZ o → NZ (a.foldl (fun o x => b.foldl (fun o y => (F x.1 y.1).foldl (fun o z => addB o z.1 (z.2 * (x.2 * y.2))) o) o) o)) ∧
 wt f (a.foldl (fun o x => b.foldl (fun o y => (F x.1 y.1).foldl (fun o z => addB o z.1 (z.2 * (x.2 * y.2))) o) o) o) = wt f o + wt (fun p => wt (fun q => wt f (F p q)) b) a
 | [], o => ⟨id, id, by rw [List.foldl_nil, wt, Int.add_zero]⟩
 | x :: a, o => by
   obtain ⟨h1, h2, h3⟩ := outer f F b a (b.foldl (fun o y => (F x.1 y.1).foldl (fun o z => addB o z.1 (z.2 * (x.2 * y.2))) o) o)
   refine ⟨fun h => h1 (inner_asc F x b o h), fun h => h2 (inner_nz F x b o h), ?_⟩
   rw [List.foldl_cons, h3, inner_wt, wt]; omega
theorem pair_one (F : List Val → List Val → List (List Val × Int)) (a b : Bg) : Asc (pairB F a b) ∧ NZ (pairB F a b) ∧ (∀ f, wt f (pairB F a b) = wt (fun p => wt (fun q => wt f (F p q)) b) a) ∧ ∀ s, lookB (pairB F a b) s = wt (fun p => wt (fun q => wt (fun z => ind (cmpL z s = 0)) (F p q)) b) a := by
 have h := fun f => outer f F b a []
 have h1 : Asc (pairB F a b) := (h (fun _ => 0)).1 List.Pairwise.nil
 have h3 : ∀ f, wt f (pairB F a b) = wt (fun p => wt (fun q => wt f (F p q)) b) a := fun f => by
  have := (h f).2.2
  rw [wt, Int.zero_add] at this
  exact this
 refine ⟨h1, (h (fun _ => 0)).2.1 (fun x hx => by cases hx), h3, fun s => ?_⟩
 rw [look_wt h1, h3]
theorem pair_left (F : List Val → List Val → List (List Val × Int)) (a a' b : Bg) : pairB F (bothB a a') b = bothB (pairB F a b) (pairB F a' b) := by
 obtain ⟨a1, a2, _, a3⟩ := pair_one F a b
 obtain ⟨b1, b2, _, b3⟩ := pair_one F a' b
 obtain ⟨c1, c2, _, c3⟩ := pair_one F (bothB a a') b
 refine bag_ext _ _ c1 (asc_both _ _ a1) c2 (nz_both _ _ a2) (fun s => ?_)
 rw [look_both _ _ s a1, sum_look _ s b1, c3, a3, b3, wt_both]
theorem pair_right (F : List Val → List Val → List (List Val × Int)) (a b b' : Bg) : pairB F a (bothB b b') = bothB (pairB F a b) (pairB F a b') := by
 obtain ⟨a1, a2, _, a3⟩ := pair_one F a b
 obtain ⟨b1, b2, _, b3⟩ := pair_one F a b'
 obtain ⟨c1, c2, _, c3⟩ := pair_one F a (bothB b b')
 refine bag_ext _ _ c1 (asc_both _ _ a1) c2 (nz_both _ _ a2) (fun s => ?_)
 rw [look_both _ _ s a1, sum_look _ s b1, c3, a3, b3, ← wt_plus]
 exact wt_congr a (fun x _ => wt_both _ _ _)
theorem pair_nil_left (F : List Val → List Val → List (List Val × Int)) (b : Bg) : pairB F [] b = [] := rfl
theorem pair_nil_right (F : List Val → List Val → List (List Val × Int)) (a : Bg) : pairB F a [] = [] := by
 obtain ⟨a1, a2, _, a3⟩ := pair_one F a []
 refine bag_ext _ _ a1 List.Pairwise.nil a2 (fun x hx => by cases hx) (fun s => ?_)
 rw [a3, wt_congr (g := fun _ => 0) a (fun _ _ => rfl), wt_zero]
 rfl
theorem pair_delta (F : List Val → List Val → List (List Val × Int)) (a da b db : Bg) :
 pairB F (bothB a da) (bothB b db) = bothB (pairB F a b) (bothB (bothB (pairB F da b) (pairB F a db)) (pairB F da db)) := by
 have A := fun a b => (pair_one F a b).1
 have N := fun a b => (pair_one F a b).2.1
 rw [pair_left, pair_right, pair_right]
 refine bag_ext _ _ (asc_both _ _ (asc_both _ _ (A _ _))) (asc_both _ _ (A _ _)) (nz_both _ _ (nz_both _ _ (N _ _))) (nz_both _ _ (N _ _)) (fun s => ?_)
 rw [look_both _ _ s (asc_both _ _ (A _ _)), look_both _ _ s (A _ _), look_both _ _ s (A _ _), sum_look _ s (asc_both _ _ (A _ _)), look_both _ _ s (A _ _), sum_look _ s (A _ _), sum_look _ s (asc_both _ _ (asc_both _ _ (A _ _))), look_both _ _ s (asc_both _ _ (A _ _)), look_both _ _ s (A _ _), sum_look _ s (A _ _), sum_look _ s (A _ _)]
 omega
def stayB (p : List Val → Bool) (b : Bg) : Bg := b.filter fun x => p x.1
theorem stay_asc (p : List Val → Bool) {b : Bg} (h : Asc b) : Asc (stayB p b) := List.Pairwise.filter _ h
theorem stay_nz (p : List Val → Bool) {b : Bg} (h : NZ b) : NZ (stayB p b) := fun x hx => h x (List.mem_filter.1 hx).1
theorem stay_wt (p : List Val → Bool) (f : List Val → Int) : ∀ b : Bg, wt f (stayB p b) = wt (fun r => if p r then f r else 0) b
 | [] => rfl
 | x :: b => by
   have ih := stay_wt p f b
   unfold stayB at *
   rw [List.filter_cons]
   cases hp : p x.1
   · rw [wt, ← ih, hp]; simp
   · rw [wt, ← ih, hp]; simp [wt]
theorem stay_look (p : List Val → Bool) {b : Bg} (h : Asc b) (s : List Val) : lookB (stayB p b) s = if p s then lookB b s else 0 := by
 rw [look_wt (stay_asc p h), stay_wt, look_wt h]
 split
 · rename_i hp
   exact wt_congr b (fun x _ => by
    unfold ind
    by_cases e : cmpL x.1 s = 0
    · rw [cmpL_iff.1 e, if_pos hp]
    · simp [e])
 · rename_i hp
   refine (wt_congr (g := fun _ => 0) b (fun x _ => ?_)).trans (wt_zero b)
   unfold ind
   by_cases e : cmpL x.1 s = 0
   · rw [cmpL_iff.1 e, if_neg hp]
   · simp [e]
theorem stay_both (p : List Val → Bool) {a b : Bg} (ha : Asc a) (hb : Asc b) (na : NZ a) : stayB p (bothB a b) = bothB (stayB p a) (stayB p b) := by
 refine bag_ext _ _ (stay_asc p (asc_both _ _ ha)) (asc_both _ _ (stay_asc p ha)) (stay_nz p (nz_both _ _ na)) (nz_both _ _ (stay_nz p na)) (fun s => ?_)
 rw [stay_look p (asc_both _ _ ha), look_both _ _ s (stay_asc p ha), sum_look _ s (stay_asc p hb), stay_look p ha, stay_look p hb, look_both _ _ s ha, sum_look _ s hb]
 split <;> omega
theorem stay_stay (p : List Val → Bool) (b : Bg) : stayB p (stayB p b) = stayB p b := by
 unfold stayB
 rw [List.filter_filter]
 congr 1
 funext x
 cases p x.1 <;> rfl
end Go.Proofs.YtldaoepemofhlaaGreatDoor
namespace Go.Proofs.YtldaoepemofhlaaGreatDoor
open Go Go.RowKit
set_option maxRecDepth 100000
def pickR (xs : List Val) : List Int → Option (List Val)
 | [] => some []
 | c :: cs => if 0 ≤ c ∧ c < xs.length then (match xs[c.toNat]? with | some x => (pickR xs cs).map (x :: ·) | none => none) else none
def pickOk (xs : List Val) (cs : List Int) (h : Hd) (ok : Bool) : Prop := match pickR xs cs with | some l => ok = true ∧ h.xs = l | none => ok = false ∧ h.xs = []
theorem pickR_drop (xs : List Val) (cs : List Int) (k : Nat) (c : Int) (hc : cs[k]? = some c) : pickR xs (cs.drop k) = if 0 ≤ c ∧ c < xs.length then (match xs[c.toNat]? with | some x => (pickR xs (cs.drop (k + 1))).map (x :: ·) | none => none) else none := by
 have h1 := List.drop_eq_getElem_cons (List.getElem?_eq_some_iff.1 hc).1
 rw [(List.getElem?_eq_some_iff.1 hc).2] at h1
 rw [h1, pickR]
end Go.Proofs.YtldaoepemofhlaaGreatDoor
namespace Go.Proofs.YtldaoepemofhlaaGreatDoor
open Go
def atR (r : List Val) (n : Int) : Val := if 0 ≤ n then (r[n.toNat]?).getD nl else nl
def meetB (i j : Int) (a b : List Val) : Bool := (atR a i).eq (atR b j) && !((atR a i).k == 0)
def prodF (i j : Int) (a b : List Val) : List (List Val × Int) := if meetB i j a b then [(a ++ b, 1)] else []
def prodB (i j : Int) (a b : Bg) : Bg := pairB (prodF i j) a b
theorem look_prod (i j : Int) (a b : Bg) (s : List Val) : lookB (prodB i j a b) s = wt (fun p => wt (fun q => ind (meetB i j p q = true ∧ p ++ q = s)) b) a := by
 rw [prodB, (pair_one (prodF i j) a b).2.2.2 s]
 refine wt_congr a (fun x _ => wt_congr b (fun y _ => ?_))
 unfold prodF ind
 cases h : meetB i j x.1 y.1
 · simp [wt]
 · simp only [if_true, wt, true_and]
   by_cases e : x.1 ++ y.1 = s
   · rw [if_pos (cmpL_iff.2 e), if_pos e]; rfl
   · rw [if_neg (fun h => e (cmpL_iff.1 h)), if_neg e]; rfl
theorem prod_asc (i j : Int) (a b : Bg) : Asc (prodB i j a b) := (pair_one (prodF i j) a b).1
theorem prod_nz (i j : Int) (a b : Bg) : NZ (prodB i j a b) := (pair_one (prodF i j) a b).2.1
theorem wt_none {f : List Val → Int} (b : Bg) (h : ∀ x ∈ b, f x.1 = 0) : wt f b = 0 := (wt_congr (g := fun _ => 0) b h).trans (wt_zero b)
theorem look_prod_two (i j : Int) {a b : Bg} (ha : Asc a) (hb : Asc b) (n : Nat) (hn : ∀ x ∈ a, x.1.length = n) {x y : List Val} (hx : x.length = n) : lookB (prodB i j a b) (x ++ y) = if meetB i j x y then lookB a x * lookB b y else 0 := by
 rw [look_prod]
 have key : wt (fun p => wt (fun q => ind (meetB i j p q = true ∧ p ++ q = x ++ y)) b) a = wt (fun p => ind (cmpL p x = 0) * (if meetB i j x y then lookB b y else 0)) a := by
  refine wt_congr a (fun p hp => ?_)
  by_cases e : p.1 = x
  · rw [e]
    have e0 : ind (cmpL x x = 0) = 1 := by unfold ind; rw [if_pos (cmpL_same x)]
    rw [e0, Int.one_mul]
    split
    · rename_i hm
      rw [look_wt hb]
      refine wt_congr b (fun q _ => ?_)
      unfold ind
      by_cases e2 : q.1 = y
      · rw [e2, if_pos ⟨hm, rfl⟩, if_pos (cmpL_same y)]
      · rw [if_neg (fun h => e2 (List.append_cancel_left h.2)), if_neg (fun h => e2 (cmpL_iff.1 h))]
    · rename_i hm
      refine wt_none b (fun q _ => ?_)
      unfold ind
      by_cases e2 : q.1 = y
      · rw [e2, if_neg (fun h => hm h.1)]
      · rw [if_neg (fun h => e2 (List.append_cancel_left h.2))]
  · have e0 : ind (cmpL p.1 x = 0) = 0 := by unfold ind; rw [if_neg (fun h => e (cmpL_iff.1 h))]
    rw [e0, Int.zero_mul]
    refine wt_none b (fun q _ => ?_)
    unfold ind
    rw [if_neg]
    rintro ⟨_, h⟩
    exact e (List.append_inj_left h (by rw [hn p hp, hx]))
 rw [key, wt_mulr, look_wt ha]
 split
 · rfl
 · rw [Int.mul_zero]
theorem prod_mem (i j : Int) {a b : Bg} {r : List Val × Int} (h : r ∈ prodB i j a b) : ∃ x ∈ a, ∃ y ∈ b, r.1 = x.1 ++ y.1 ∧ meetB i j x.1 y.1 = true := by
 have hz := prod_nz i j a b r h
 have hl := look_mem _ r (prod_asc i j a b) h
 rw [look_prod] at hl
 by_cases ex : ∃ x ∈ a, ∃ y ∈ b, r.1 = x.1 ++ y.1 ∧ meetB i j x.1 y.1 = true
 · exact ex
 · exfalso
   apply hz
   rw [← hl]
   refine wt_none a (fun x hx => wt_none b (fun y hy => ?_))
   unfold ind
   rw [if_neg]
   rintro ⟨h1, h2⟩
   exact ex ⟨x, hx, y, hy, h2.symm, h1⟩
def pairsN (i j : Int) (a b : Bg) : Nat := (a.flatMap fun x => b.filter fun y => meetB i j x.1 y.1).length
theorem pairs_le (i j : Int) (a b : Bg) : pairsN i j a b ≤ a.length * b.length := by
 unfold pairsN
 induction a with
 | nil => simp
 | cons x a ih =>
   rw [List.flatMap_cons, List.length_append, List.length_cons, Nat.succ_mul]
   have := List.length_filter_le (fun y => meetB i j x.1 y.1) b
   omega
def fitQ (n : Int) : Bool := decide (-1000000000 ≤ n) && decide (n ≤ 1000000000)
def prodOk (i j : Int) (a b : Bg) : Bool := decide (pairsN i j a b ≤ 10000) && ((a.all fun x => b.all fun y => !meetB i j x.1 y.1 || (decide ((x.1 ++ y.1).length ≤ 40) && fitQ (x.2 * y.2))) && mayBag (prodB i j a b))
def productR (w : Bool) (i j : Int) (a b : Bg) : Option Bg := if !(mayBag a && mayBag b) then some [] else if w then some a else if prodOk i j a b then some (prodB i j a b) else none
theorem product_of {w : Bool} {i j : Int} {a b p : Bg} (ha : mayBag a = true) (hb : mayBag b = true) (h : productR w i j a b = some p) : p = if w then a else prodB i j a b := by
 unfold productR at h
 rw [ha, hb] at h
 simp only [Bool.and_self, Bool.not_true, Bool.false_eq_true, if_false] at h
 split at h
 · rename_i hw
   rw [if_pos hw]; exact (Option.some.inj h).symm
 · rename_i hw
   rw [if_neg hw]
   split at h
   · exact (Option.some.inj h).symm
   · cases h
theorem product_left {w : Bool} {i j : Int} {a a' c p q s : Bg} (ha : mayBag a = true) (ha' : mayBag a' = true) (hb : mayBag (bothB a a') = true) (hc : mayBag c = true) (h1 : productR w i j (bothB a a') c = some p) (h2 : productR w i j a c = some q) (h3 : productR w i j a' c = some s) : p = bothB q s := by
 rw [product_of hb hc h1, product_of ha hc h2, product_of ha' hc h3]
 split
 · rfl
 · exact pair_left _ _ _ _
theorem product_right {i j : Int} {a a' c p q s : Bg} (ha : mayBag a = true) (ha' : mayBag a' = true) (hb : mayBag (bothB a a') = true) (hc : mayBag c = true) (h1 : productR false i j c (bothB a a') = some p) (h2 : productR false i j c a = some q) (h3 : productR false i j c a' = some s) : p = bothB q s := by
 rw [product_of hc hb h1, product_of hc ha h2, product_of hc ha' h3]
 exact pair_right _ _ _ _
def pickF (cs : List Int) (r : List Val) : List (List Val × Int) := match pickR r cs with
 | some q => if q.length ≤ 40 then [(q, 1)] else []
 | none => []
def pickB (cs : List Int) (b : Bg) : Bg := mapB (pickF cs) b []
theorem pick_both (cs : List Int) (a b : Bg) : pickB cs (bothB a b) = bothB (pickB cs a) (pickB cs b) := map_both _ _ _
theorem pick_asc (cs : List Int) (b : Bg) : Asc (pickB cs b) := (map_one (pickF cs) b).1
theorem pick_nz (cs : List Int) (b : Bg) : NZ (pickB cs b) := (map_one (pickF cs) b).2.1
theorem pick_wt (cs : List Int) (f : List Val → Int) (b : Bg) : wt f (pickB cs b) = wt (fun r => wt f (pickF cs r)) b := by
 rw [pickB, map_wt, wt, Int.zero_add]
theorem pick_look (cs : List Int) (b : Bg) (s : List Val) : lookB (pickB cs b) s = wt (fun r => wt (fun q => ind (cmpL q s = 0)) (pickF cs r)) b := (map_one (pickF cs) b).2.2 s
theorem pick_len : ∀ (cs : List Int) (r q : List Val), pickR r cs = some q → q.length = cs.length := by
 intro cs
 induction cs with
 | nil => intro r q h; simp [pickR] at h; simp [h]
 | cons c cs ih =>
   intro r q h
   rw [pickR] at h
   repeat' split at h
   all_goals first
    | (cases h; done)
    | (cases e : pickR r cs with
       | none => rw [e] at h; cases h
       | some l => rw [e] at h; simp at h; rw [← h]; simp [ih r l e])
theorem pick_none {cs : List Int} {b : Bg} (h : ∀ x ∈ b, pickF cs x.1 = []) : pickB cs b = [] := by
 refine bag_ext _ _ (pick_asc cs b) List.Pairwise.nil (pick_nz cs b) (fun x hx => by cases hx) (fun s => ?_)
 rw [pick_look]
 exact wt_none b (fun x hx => by rw [h x hx]; rfl)
theorem pick_all {cs : List Int} {b : Bg} (h1 : Asc b) (h2 : NZ b) (h : ∀ x ∈ b, pickF cs x.1 = [(x.1, 1)]) : pickB cs b = b := by
 refine bag_ext _ _ (pick_asc cs b) h1 (pick_nz cs b) h2 (fun s => ?_)
 rw [pick_look, look_wt h1]
 exact wt_congr b (fun x hx => by rw [h x hx]; simp [wt])
end Go.Proofs.YtldaoepemofhlaaGreatDoor
namespace Go.Proofs.YtldaoepemofhlaaGreatDoor
open Go
def inB (cs : List Int) (k : List Val) (b : Bg) : Bg := stayB (fun r => decide (pickR r cs = some k)) b
def hasK (cs : List Int) (d : Bg) (k : List Val) : Bool := d.any fun y => decide (pickR y.1 cs = some k)
def touchB (cs : List Int) (d b : Bg) : Bg := stayB (fun r => match pickR r cs with | some q => hasK cs d q | none => false) b
def keysB (cs : List Int) (b : Bg) : List (List Val) := (pickB cs b).map (·.1)
def mapO (F : List Val → Option (List Val)) : List (List Val) → Option Bg
 | [] => some []
 | k :: l => match F k with
   | none => none
   | some a => (mapO F l).map ((k ++ a, 1) :: ·)
def groupsG (cs : List Int) (A : Bg → Option (List Val)) (b : Bg) : Option Bg := mapO (fun k => A (inB cs k b)) (keysB cs b)
def Pos (b : Bg) : Prop := ∀ x ∈ b, 0 < x.2
theorem Pos.nz {b : Bg} (h : Pos b) : NZ b := fun x hx => by have := h x hx; omega
theorem stay_pos (p : List Val → Bool) {b : Bg} (h : Pos b) : Pos (stayB p b) := fun x hx => h x (List.mem_filter.1 hx).1
theorem wt_nonneg {f : List Val → Int} : ∀ {b : Bg}, Pos b → (∀ r, 0 ≤ f r) → 0 ≤ wt f b
 | [], _, _ => Int.le_refl _
 | x :: b, h, hf => by
   have h1 := wt_nonneg (b := b) (fun y hy => h y (List.mem_cons_of_mem _ hy)) hf
   have h2 := Int.mul_nonneg (hf x.1) (Int.le_of_lt (h x (by simp)))
   rw [wt]; omega
theorem wt_pos {f : List Val → Int} : ∀ {b : Bg}, Pos b → (∀ r, 0 ≤ f r) → (0 < wt f b ↔ ∃ x ∈ b, 0 < f x.1)
 | [], _, _ => by simp [wt]
 | x :: b, h, hf => by
   have hb : Pos b := fun y hy => h y (List.mem_cons_of_mem _ hy)
   have ih := wt_pos (f := f) hb hf
   have h1 := wt_nonneg (f := f) hb hf
   have hx := h x (by simp)
   rw [wt]
   constructor
   · intro hs
     by_cases h0 : 0 < f x.1
     · exact ⟨x, by simp, h0⟩
     · have : f x.1 = 0 := by have := hf x.1; omega
       rw [this, Int.zero_mul, Int.zero_add] at hs
       obtain ⟨y, hy, h2⟩ := ih.1 hs
       exact ⟨y, List.mem_cons_of_mem _ hy, h2⟩
   · rintro ⟨y, hy, h2⟩
     rcases List.mem_cons.1 hy with rfl | hy
     · have := Int.mul_pos h2 hx
       omega
     · have h3 := ih.2 ⟨y, hy, h2⟩
       have h4 := Int.mul_nonneg (hf x.1) (Int.le_of_lt hx)
       omega
theorem mem_look {b : Bg} (h1 : Asc b) (h2 : NZ b) (k : List Val) : k ∈ b.map (·.1) ↔ lookB b k ≠ 0 := by
 constructor
 · intro h
   obtain ⟨x, hx, rfl⟩ := List.mem_map.1 h
   rw [look_mem b x h1 hx]
   exact h2 x hx
 · intro h
   by_cases e : k ∈ b.map (·.1)
   · exact e
   · exfalso
     apply h
     have key : ∀ b : Bg, k ∉ b.map (·.1) → lookB b k = 0 := by
      intro b
      induction b with
      | nil => intro _; rfl
      | cons x b ih =>
        intro hn
        simp only [List.map_cons, List.mem_cons, not_or] at hn
        rw [lookB, if_neg (fun h => hn.1 (cmpL_iff.1 h).symm), ih hn.2]
     exact key b e
theorem keys_mem {cs : List Int} {b : Bg} (hp : Pos b) (k : List Val) : k ∈ keysB cs b ↔ cs.length ≤ 40 ∧ ∃ x ∈ b, pickR x.1 cs = some k := by
 unfold keysB
 rw [mem_look (pick_asc cs b) (pick_nz cs b), pick_look]
 have hf : ∀ r, 0 ≤ wt (fun q => ind (cmpL q k = 0)) (pickF cs r) := by
  intro r
  unfold pickF
  split
  · split
    · simp only [wt]
      unfold ind
      split <;> simp
    · exact Int.le_refl _
  · exact Int.le_refl _
 have h1 := wt_nonneg (f := fun r => wt (fun q => ind (cmpL q k = 0)) (pickF cs r)) hp hf
 have h2 := wt_pos (f := fun r => wt (fun q => ind (cmpL q k = 0)) (pickF cs r)) hp hf
 have h3 : ∀ r, 0 < wt (fun q => ind (cmpL q k = 0)) (pickF cs r) ↔ cs.length ≤ 40 ∧ pickR r cs = some k := by
  intro r
  unfold pickF
  cases e : pickR r cs with
  | none => simp [wt]
  | some q =>
    have hl := pick_len cs r q e
    simp only
    by_cases h40 : q.length ≤ 40
    · rw [if_pos h40]
      simp only [wt]
      unfold ind
      by_cases e2 : cmpL q k = 0
      · have := cmpL_iff.1 e2
        subst this
        simp [e2]
        omega
      · have hne : ¬ some q = some k := fun h => e2 (cmpL_iff.2 (Option.some.inj h))
        rw [if_neg e2]
        simp only [Int.zero_mul, Int.add_zero, Int.lt_irrefl, false_iff]
        exact fun h => hne h.2
    · rw [if_neg h40]
      simp only [wt, Int.lt_irrefl, false_iff]
      intro h; omega
 constructor
 · intro h
   obtain ⟨x, hx, h4⟩ := h2.1 (by omega)
   exact ⟨((h3 x.1).1 h4).1, x, hx, ((h3 x.1).1 h4).2⟩
 · rintro ⟨h4, x, hx, h5⟩
   have := h2.2 ⟨x, hx, (h3 x.1).2 ⟨h4, h5⟩⟩
   omega
theorem key_len {cs : List Int} {b : Bg} (hp : Pos b) {k : List Val} (h : k ∈ keysB cs b) : k.length = cs.length := by
 obtain ⟨_, x, _, h⟩ := (keys_mem hp k).1 h
 exact pick_len cs x.1 k h
theorem keys_asc (cs : List Int) (b : Bg) : (keysB cs b).Pairwise fun x y => cmpL x y = -1 := by
 unfold keysB
 exact List.pairwise_map.2 (pick_asc cs b)
theorem cmpL_app : ∀ (a b x y : List Val), a.length = b.length → cmpL a b = -1 → cmpL (a ++ x) (b ++ y) = -1
 | [], [], _, _, _, h => by simp [cmpL] at h
 | [], _ :: _, _, _, h, _ => by simp at h
 | _ :: _, [], _, _, h, _ => by simp at h
 | u :: a, v :: b, x, y, hl, h => by
   rw [cmpL] at h
   rw [List.cons_append, List.cons_append, cmpL]
   split
   · rename_i hc
     rw [if_pos hc] at h; exact h
   · rename_i hc
     rw [if_neg hc] at h
     exact cmpL_app a b x y (by simpa using hl) h
theorem mapO_mem {F : List Val → Option (List Val)} : ∀ {l : List (List Val)} {g : Bg}, mapO F l = some g → (∀ x ∈ g, ∃ k ∈ l, ∃ a, F k = some a ∧ x = (k ++ a, 1)) ∧ (∀ k ∈ l, ∃ a, F k = some a ∧ (k ++ a, 1) ∈ g)
 | [], g, h => by
   simp only [mapO, Option.some.injEq] at h
   subst h
   exact ⟨fun x hx => (by cases hx), fun k hk => (by cases hk)⟩
 | k :: l, g, h => by
   rw [mapO] at h
   cases e : F k with
   | none => rw [e] at h; cases h
   | some a =>
     rw [e] at h
     simp only at h
     cases e2 : mapO F l with
     | none => rw [e2] at h; cases h
     | some g2 =>
       rw [e2] at h
       simp only [Option.map_some, Option.some.injEq] at h
       subst h
       obtain ⟨h1, h2⟩ := mapO_mem e2
       refine ⟨fun x hx => ?_, fun q hq => ?_⟩
       · rcases List.mem_cons.1 hx with rfl | hx
         · exact ⟨k, by simp, a, e, rfl⟩
         · obtain ⟨q, hq, c, h3, h4⟩ := h1 x hx
           exact ⟨q, List.mem_cons_of_mem _ hq, c, h3, h4⟩
       · rcases List.mem_cons.1 hq with rfl | hq
         · exact ⟨a, e, by simp⟩
         · obtain ⟨c, h3, h4⟩ := h2 q hq
           exact ⟨c, h3, List.mem_cons_of_mem _ h4⟩
theorem mapO_some {F : List Val → Option (List Val)} : ∀ {l : List (List Val)}, (∀ k ∈ l, ∃ a, F k = some a) → ∃ g, mapO F l = some g
 | [], _ => ⟨[], rfl⟩
 | k :: l, h => by
   obtain ⟨a, ha⟩ := h k (by simp)
   obtain ⟨g, hg⟩ := mapO_some (l := l) (fun q hq => h q (List.mem_cons_of_mem _ hq))
   exact ⟨(k ++ a, 1) :: g, by rw [mapO, ha]; simp only; rw [hg]; rfl⟩
theorem mapO_asc {F : List Val → Option (List Val)} (n : Nat) : ∀ {l : List (List Val)} {g : Bg}, mapO F l = some g → (∀ k ∈ l, k.length = n) → (l.Pairwise fun x y => cmpL x y = -1) → Asc g
 | [], g, h, _, _ => by
   simp only [mapO, Option.some.injEq] at h
   subst h
   exact List.Pairwise.nil
 | k :: l, g, h, hn, hp => by
   rw [mapO] at h
   cases e : F k with
   | none => rw [e] at h; cases h
   | some a =>
     rw [e] at h
     simp only at h
     cases e2 : mapO F l with
     | none => rw [e2] at h; cases h
     | some g2 =>
       rw [e2] at h
       simp only [Option.map_some, Option.some.injEq] at h
       subst h
       obtain ⟨p1, p2⟩ := List.pairwise_cons.1 hp
       refine asc_cons (fun y hy => ?_) (mapO_asc n e2 (fun q hq => hn q (List.mem_cons_of_mem _ hq)) p2)
       obtain ⟨q, hq, c, _, rfl⟩ := (mapO_mem e2).1 y hy
       exact cmpL_app k q a c (by rw [hn k (by simp), hn q (List.mem_cons_of_mem _ hq)]) (p1 q hq)
theorem look_groups {cs : List Int} {A : Bg → Option (List Val)} {b g : Bg} (hp : Pos b) (h : groupsG cs A b = some g) : Asc g ∧ NZ g ∧ ∀ s, lookB g s = ind (s.take cs.length ∈ keysB cs b ∧ A (inB cs (s.take cs.length) b) = some (s.drop cs.length)) := by
 have ha : Asc g := mapO_asc cs.length h (fun k hk => key_len hp hk) (keys_asc cs b)
 obtain ⟨h1, h2⟩ := mapO_mem h
 have hz : NZ g := fun x hx => by
  obtain ⟨_, _, _, _, rfl⟩ := h1 x hx
  simp
 refine ⟨ha, hz, fun s => ?_⟩
 by_cases hs : s.take cs.length ∈ keysB cs b ∧ A (inB cs (s.take cs.length) b) = some (s.drop cs.length)
 · obtain ⟨a, h3, h4⟩ := h2 _ hs.1
   rw [hs.2] at h3
   obtain rfl := Option.some.inj h3
   rw [List.take_append_drop] at h4
   have := look_mem g _ ha h4
   unfold ind
   rw [if_pos hs, this]
 · unfold ind
   rw [if_neg hs]
   by_cases e : lookB g s = 0
   · exact e
   · exfalso
     obtain ⟨x, hx, rfl⟩ := List.mem_map.1 ((mem_look ha hz s).2 e)
     obtain ⟨k, hk, a, h3, rfl⟩ := h1 x hx
     have hl := key_len hp hk
     apply hs
     simp only
     rw [← hl, List.take_left, List.drop_left]
     exact ⟨hk, h3⟩
theorem stay_congr {p q : List Val → Bool} (b : Bg) (h : ∀ x ∈ b, p x.1 = q x.1) : stayB p b = stayB q b := List.filter_congr h
theorem stay_and (p q : List Val → Bool) (b : Bg) : stayB p (stayB q b) = stayB (fun r => p r && q r) b := by
 unfold stayB
 rw [List.filter_filter]
theorem in_touch {cs : List Int} {d b : Bg} {k : List Val} (h : hasK cs d k = true) : inB cs k (touchB cs d b) = inB cs k b := by
 unfold inB touchB
 rw [stay_and]
 refine stay_congr b (fun x _ => ?_)
 by_cases e : pickR x.1 cs = some k
 · simp [e, h]
 · simp [e]
theorem keys_touch {cs : List Int} {d b : Bg} (hp : Pos b) (k : List Val) : k ∈ keysB cs (touchB cs d b) ↔ k ∈ keysB cs b ∧ hasK cs d k = true := by
 have ht : Pos (touchB cs d b) := stay_pos _ hp
 rw [keys_mem ht, keys_mem hp]
 constructor
 · rintro ⟨h1, x, hx, h2⟩
   unfold touchB stayB at hx
   obtain ⟨h3, h4⟩ := List.mem_filter.1 hx
   simp only [h2] at h4
   exact ⟨⟨h1, x, h3, h2⟩, h4⟩
 · rintro ⟨⟨h1, x, hx, h2⟩, h3⟩
   refine ⟨h1, x, ?_, h2⟩
   unfold touchB stayB
   exact List.mem_filter.2 ⟨hx, by simp only [h2]; exact h3⟩
theorem in_same {cs : List Int} {d b : Bg} (ha : Asc b) (hd : Asc d) (hz : NZ b) {k : List Val} (h : hasK cs d k = false) : inB cs k (bothB b d) = inB cs k b := by
 unfold inB
 rw [stay_both _ ha hd hz]
 have e : stayB (fun r => decide (pickR r cs = some k)) d = [] := by
  unfold stayB
  rw [List.filter_eq_nil_iff]
  intro x hx hc
  unfold hasK at h
  rw [List.any_eq_false] at h
  exact h x hx hc
 rw [e]
 rfl
theorem key_in {cs : List Int} {b : Bg} (hp : Pos b) (k : List Val) : k ∈ keysB cs b ↔ cs.length ≤ 40 ∧ inB cs k b ≠ [] := by
 rw [keys_mem hp]
 unfold inB stayB
 constructor
 · rintro ⟨h1, x, hx, h2⟩
   exact ⟨h1, fun e => by
    rw [List.filter_eq_nil_iff] at e
    exact e x hx (by simpa using h2)⟩
 · rintro ⟨h1, h2⟩
   obtain ⟨x, hx⟩ := List.exists_mem_of_ne_nil _ h2
   obtain ⟨h3, h4⟩ := List.mem_filter.1 hx
   exact ⟨h1, x, h3, by simpa using h4⟩
theorem regroup {cs : List Int} {A : Bg → Option (List Val)} {b d a g : Bg} (hb : Asc b) (hd : Asc d) (pb : Pos b) (pt : Pos (bothB b d)) (h1 : groupsG cs A b = some a) (h2 : groupsG cs A (bothB b d) = some g) :
 ∃ c e, groupsG cs A (touchB cs d (bothB b d)) = some c ∧ groupsG cs A (touchB cs d b) = some e ∧ bothB a (bothB c (negB e)) = g := by
 have ex : ∀ {b g : Bg}, Pos b → groupsG cs A b = some g → ∃ c, groupsG cs A (touchB cs d b) = some c := by
  intro b g hp hg
  refine mapO_some (fun k hk => ?_)
  obtain ⟨k1, k2⟩ := (keys_touch hp k).1 hk
  obtain ⟨x, hx, _⟩ := (mapO_mem hg).2 k k1
  exact ⟨x, by rw [in_touch k2]; exact hx⟩
 obtain ⟨c, hc⟩ := ex pt h2
 obtain ⟨e, he⟩ := ex pb h1
 refine ⟨c, e, hc, he, ?_⟩
 obtain ⟨a1, a2, a3⟩ := look_groups pb h1
 obtain ⟨g1, g2, g3⟩ := look_groups pt h2
 have pt2 : Pos (touchB cs d (bothB b d)) := stay_pos _ pt
 have pb2 : Pos (touchB cs d b) := stay_pos _ pb
 obtain ⟨c1, c2, c3⟩ := look_groups pt2 hc
 obtain ⟨e1, e2, e3⟩ := look_groups pb2 he
 refine bag_ext _ _ (asc_both _ _ a1) g1 (nz_both _ _ a2) g2 (fun s => ?_)
 rw [look_both _ _ s a1, sum_look _ s (asc_both _ _ c1), look_both _ _ s c1, sum_neg, sum_look _ s e1, a3, c3, e3, g3]
 cases hk : hasK cs d (s.take cs.length)
 · have n1 : ∀ {b : Bg}, Pos b → ¬ (s.take cs.length ∈ keysB cs (touchB cs d b)) := fun hp h => by
    have := ((keys_touch hp _).1 h).2
    rw [hk] at this; cases this
   have i1 := in_same hb hd pb.nz hk
   have i2 : (s.take cs.length ∈ keysB cs (bothB b d)) ↔ (s.take cs.length ∈ keysB cs b) := by rw [key_in pt, key_in pb, i1]
   have nc : ¬ (s.take cs.length ∈ keysB cs (touchB cs d (bothB b d)) ∧ A (inB cs (s.take cs.length) (touchB cs d (bothB b d))) = some (s.drop cs.length)) := fun h => n1 pt h.1
   have ne : ¬ (s.take cs.length ∈ keysB cs (touchB cs d b) ∧ A (inB cs (s.take cs.length) (touchB cs d b)) = some (s.drop cs.length)) := fun h => n1 pb h.1
   unfold ind
   rw [if_neg nc, if_neg ne]
   simp only [i1, i2]
   omega
 · unfold ind
   simp only [in_touch hk, keys_touch pt, keys_touch pb, hk, and_true]
   omega
theorem one_group {cs : List Int} (f : List Val → Int) : ∀ (l : List (List Val)) (b : Bg), (l.Pairwise fun x y => cmpL x y = -1) → (∀ x ∈ b, ∃ k ∈ l, pickR x.1 cs = some k) → wt f b = (l.map fun k => wt f (inB cs k b)).sum
 | l, [], _, _ => by
   have h0 : ∀ l : List (List Val), (l.map fun k => wt f (inB cs k [])).sum = 0 := by
    intro l
    induction l with
    | nil => rfl
    | cons k l ih =>
      rw [List.map_cons, List.sum_cons, ih]
      rfl
   exact (h0 l).symm
 | l, x :: b, hl, h => by
   have ih := one_group f l b hl (fun y hy => h y (List.mem_cons_of_mem _ hy))
   obtain ⟨k0, hk0, e0⟩ := h x (by simp)
   rw [wt, ih]
   have key : ∀ l : List (List Val), (l.Pairwise fun x y => cmpL x y = -1) → (l.map fun k => wt f (inB cs k (x :: b))).sum = (if k0 ∈ l then f x.1 * x.2 else 0) + (l.map fun k => wt f (inB cs k b)).sum := by
    intro l
    induction l with
    | nil => intro _; rfl
    | cons k l ih2 =>
      intro hp
      obtain ⟨p1, p2⟩ := List.pairwise_cons.1 hp
      rw [List.map_cons, List.sum_cons, ih2 p2, List.map_cons, List.sum_cons]
      have hin : wt f (inB cs k (x :: b)) = (if k0 = k then f x.1 * x.2 else 0) + wt f (inB cs k b) := by
       unfold inB stayB
       rw [List.filter_cons]
       by_cases e : k0 = k
       · subst e
         simp [e0, wt]
       · have : ¬ pickR x.1 cs = some k := by rw [e0]; exact fun h => e (Option.some.inj h)
         simp [this, e]
      rw [hin]
      by_cases e : k0 = k
      · subst e
        have hn : k0 ∉ l := fun hm => by
         have := p1 k0 hm
         rw [cmpL_same] at this; cases this
        simp [hn]
        omega
      · simp [e]
        omega
   rw [key l hl, if_pos hk0]
end Go.Proofs.YtldaoepemofhlaaGreatDoor
namespace Go.Proofs.YtldaoepemofhlaaGreatDoor
open Go
def ones (l : Bg) : List Bg := l.map fun p => [p]
theorem mayB_one (r : List Val) (n : Int) : mayBag [(r, n)] = okC (r, n) := by
 unfold mayBag
 simp [risesB]
theorem all_ones (l : Bg) : (ones l).all mayBag = l.all okC := by
 unfold ones
 rw [List.all_map]
 congr 1
 funext p
 exact mayB_one p.1 p.2
end Go.Proofs.YtldaoepemofhlaaGreatDoor
namespace Go.Proofs.YtldaoepemofhlaaGreatDoor
open Go Go.RowKit
set_option maxRecDepth 100000
theorem step_appG0 {α : Type} {rd : α → List Value} {S : Nat} {P : Program} {T E : TypeId} {bytes : Nat} {z : Value} {ops : Array Oper} {o : Oper} {a : Act} {w : World} {K : Act → World → Prop} {Q : Exit → Act → World → Prop} {F : Prop} (he : ElOk P T E S bytes z rd) (hgd : o.guard = none) (s y : Operand) (ho : o.op = .call { callee := .builtin .append, args := #[s, y], argTypes := #[T, T] })
 (B : Nat) (v : Value) (xs : List α) (hs : a.eval s = v) (hb : OwnG w B E S rd v xs) (A : Option Addr) (c : Nat) (hy : a.eval y = .slice A 0 c)
 (h : K (a.put o.dst v) w) : if Region.wanted o (yielded ops a.tmps) = true then Oper.wp P o a w K Q else F := by
 have hw : Region.wanted o (yielded ops a.tmps) = true := by simp [Region.wanted, hgd]
 rw [if_pos hw]
 have hr : (Builtin.append_ #[T, T] o.type #[v, .slice A 0 c]).run P w = .ok v w := by
  obtain ⟨i0, hi, hz0, hz1, hz2⟩ := he.parts
  cases A with
  | none => exact app_none he w v B c o.type xs hb
  | some ad =>
    have hl : (loadCells ad 0).run P w = .ok #[] w := by simp [loadCells, loadCellsFrom]
    rcases hb.2 with ⟨rfl, _⟩ | ⟨g, cap, cur, rfl, _, _, hnc, _⟩
    · simp [Builtin.append_, run_underlying he.under, sizeOf, typeInfo, hi, Builtin.lenOf, Builtin.firstCells, hl]
    · simp [Builtin.append_, run_underlying he.under, sizeOf, typeInfo, hi, Builtin.lenOf, Builtin.firstCells, hnc, storeCells, hl]
 unfold Oper.wp execOp
 simp only [ho, resolve, invoke, builtin, Sem.run_bind, Sem.run_pure, Result.andThen_ok, List.map_toArray, List.map_cons, List.map_nil, hs, hy, hr]
 exact h
theorem step_appA {α : Type} {rd : α → List Value} {S : Nat} {P : Program} {T E : TypeId} {bytes : Nat} {z : Value} {ops : Array Oper} {o : Oper} {a : Act} {w : World} {K : Act → World → Prop} {Q : Exit → Act → World → Prop} {F : Prop} (he : ElOk P T E S bytes z rd) (hgd : o.guard = none) (s y : Operand) (ho : o.op = .call { callee := .builtin .append, args := #[s, y], argTypes := #[T, T] })
 (B : Nat) (v : Value) (xs ys : List α) (hs : a.eval s = v) (hb : OwnG w B E S rd v xs) (A : Option Addr) (n c : Nat) (hy : a.eval y = .slice A n c) (hn : ys.length = n) (hsl : SlG w A S rd ys)
 (hmax : xs.length + ys.length ≤ maxLen) (hbytes : (xs.length + ys.length) * bytes ≤ 140737488355328) (hB : B ≤ w.heap.size)
 (h : ∀ A' c' w', OwnG w' B E S rd (.slice A' (xs.length + ys.length) c') (xs ++ ys) → w.grownBy w' v.ownBlock → K (a.put o.dst (.slice A' (xs.length + ys.length) c')) w') :
 if Region.wanted o (yielded ops a.tmps) = true then Oper.wp P o a w K Q else F := by
 by_cases hne : ys = []
 · subst hne
   subst hn
   obtain ⟨A', c', rfl⟩ := hb.isSlice
   refine step_appG0 he hgd s y ho B _ xs hs hb A c hy ?_
   have := h A' c' w (by rw [List.append_nil]; exact hb) (World.grownBy.refl w _)
   exact this
 · exact step_appG he hgd s y ho B v xs ys hs hb A n c hy hn hne hsl hmax hbytes hB (fun g cap w' h1 h2 => h _ cap w' h1 h2)
section
variable {α : Type} {rd : α → List Value} {S : Nat} {P : Program} {T E : TypeId} {bytes : Nat} {z : Value}
theorem wpList_appL {ops : Array Oper} {rest : List Oper} {o : Oper} {a : Act} {Q : Exit → Act → World → Prop} {w : World} (he : ElOk P T E S bytes z rd) (hgd : o.guard = none) (s x : Operand) (ho : o.op = .call { callee := .builtin .append, args := #[s, x], argTypes := #[T, T] })
 (B : Nat) (v : Value) (xs ys : List α) (A : Option Addr) (n c : Nat) (hs : a.eval s = v) (hb : OwnG w B E S rd v xs) (hx : a.eval x = .slice A n c) (hn : ys.length = n) (hsl : SlG w A S rd ys)
 (hmax : xs.length + ys.length ≤ maxLen) (hbytes : (xs.length + ys.length) * bytes ≤ 140737488355328) (hB : B ≤ w.heap.size)
 (h : ∀ v' w', OwnG w' B E S rd v' (xs ++ ys) → w.grownBy w' v.ownBlock → (v'.ownBlock = v.ownBlock ∨ v'.ownBlock = some w.heap.size) → wpList P ops Q rest (a.put o.dst v') w') : wpList P ops Q (o :: rest) a w := by
 obtain ⟨i0, hi, hz0, hz1, hz2⟩ := he.parts
 subst hn
 have some_case : ∀ (ad : Addr), A = some ad → (∀ j u, (ys.flatMap rd)[j]? = some u → w.cell? (ad.add j) = some u) → wpList P ops Q (o :: rest) a w := by
  intro ad hA hcells
  subst hA
  refine wpList_append_own_at _ hgd s x T ho B E i0 z S bytes he.under hi hz0 hz1 hz2 he.zs he.pos v xs.length (xs.flatMap rd) hs hb ad ys.length c (ys.flatMap rd) hx (flat_len he.len ys) hcells (fun u hu => by obtain ⟨q, _, hq⟩ := List.mem_flatMap.1 hu; exact he.one q u hq) hmax hbytes hB ?_
  intro v' w' hown' hgrow _ hlies
  refine h v' w' ?_ hgrow hlies
  unfold OwnG
  rw [List.flatMap_append, List.length_append]
  exact hown'
 rcases hsl with rfl | ⟨b, off, hA, hlt, hc⟩
 · cases A with
   | some ad => exact some_case ad rfl (fun j u hj => by simp at hj)
   | none =>
     refine wpList_plain hgd fun K hK => ?_
     have hr := app_none he w v B c o.type xs hb
     unfold Oper.wp execOp
     have hx' : a.eval x = .slice none 0 c := hx
     simp only [ho, resolve, invoke, builtin, Sem.run_bind, Sem.run_pure, Result.andThen_ok, List.map_toArray, List.map_cons, List.map_nil, hs, hx', hr]
     exact hK _ _ (h v w (by rw [List.append_nil]; exact hb) (World.grownBy.refl w _) (.inl rfl))
 · refine some_case ⟨b, off, none⟩ hA fun j u hj => ?_
   rw [Go.WideShapes.add_plain]
   exact SlG.flat he.len he.pos hc j u hj
theorem step_appL {ops : Array Oper} {o : Oper} {a : Act} {w : World} {K : Act → World → Prop} {Q : Exit → Act → World → Prop} {F : Prop} (he : ElOk P T E S bytes z rd) (hgd : o.guard = none) (s y : Operand) (ho : o.op = .call { callee := .builtin .append, args := #[s, y], argTypes := #[T, T] })
 (B : Nat) (v : Value) (xs ys : List α) (hs : a.eval s = v) (hb : OwnG w B E S rd v xs) (A : Option Addr) (n c : Nat) (hy : a.eval y = .slice A n c) (hn : ys.length = n) (hsl : SlG w A S rd ys)
 (hmax : xs.length + ys.length ≤ maxLen) (hbytes : (xs.length + ys.length) * bytes ≤ 140737488355328) (hB : B ≤ w.heap.size)
 (h : ∀ A' c' w', OwnG w' B E S rd (.slice A' (xs.length + ys.length) c') (xs ++ ys) → w.grownBy w' v.ownBlock → ((Value.slice A' (xs.length + ys.length) c').ownBlock = v.ownBlock ∨ (Value.slice A' (xs.length + ys.length) c').ownBlock = some w.heap.size) → K (a.put o.dst (.slice A' (xs.length + ys.length) c')) w') :
 if Region.wanted o (yielded ops a.tmps) = true then Oper.wp P o a w K Q else F := by
 by_cases hne : ys = []
 · subst hne
   subst hn
   obtain ⟨A', c', rfl⟩ := hb.isSlice
   refine step_appG0 he hgd s y ho B _ xs hs hb A c hy ?_
   exact h A' c' w (by rw [List.append_nil]; exact hb) (World.grownBy.refl w _) (.inl rfl)
 · obtain ⟨i0, hi, hz0, hz1, hz2⟩ := he.parts
   subst hn
   rcases hsl with h0 | ⟨b, off, rfl, hlt, hc⟩
   · exact absurd h0 hne
   refine step_append_lies w hgd s y T ho B E i0 z S bytes he.under hi hz0 hz1 hz2 he.zs he.pos v xs.length (xs.flatMap rd) hs hb ⟨b, off, none⟩ ys.length c (ys.flatMap rd) hy (flat_len he.len ys) (fun j u hj => by rw [Go.WideShapes.add_plain]; exact SlG.flat he.len he.pos hc j u hj) (fun u hu => by obtain ⟨q, _, hq⟩ := List.mem_flatMap.1 hu; exact he.one q u hq) (List.length_pos_iff.2 hne) hmax hbytes hB _ rfl ?_
   intro g' cap w' hown' hgrow hl _
   refine h (some ⟨g', 0, none⟩) cap w' ?_ hgrow ?_
   · unfold OwnG
     rw [List.flatMap_append, List.length_append]
     exact hown'
   · rcases hl with hl | hl
     · exact .inl hl.symm
     · exact .inr (by rw [hl]; rfl)
end
section
variable {α β : Type} {rd : α → List Value} {rd' : β → List Value} {S S' : Nat} {E E' : TypeId}
end
end Go.Proofs.YtldaoepemofhlaaGreatDoor
namespace Go.Proofs.YtldaoepemofhlaaGreatDoor
open Go Go.RowKit
set_option maxRecDepth 100000
theorem ev_index {F : Act} {w : World} {t u : Tmp} {b off n c k : Nat} {o : Oper} (hk : k < n) (ho : o.op = .indexAddr 46 (.tmp t) (.tmp u)) (ht : Reg.slot F t = .slice (some ⟨b, off, none⟩) n c) (hu : Reg.slot F u = .int .i64 k) :
 (execOp F.eval o).run Tryz.prog w = .ok (.value (.pointer (some ⟨b, off + k * 3, none⟩))) w := by
 have e1 : F.eval (.tmp t) = .slice (some ⟨b, off, none⟩) n c := ht
 have e2 : F.eval (.tmp u) = .int .i64 k := hu
 have e0 : (execOp F.eval o).run Tryz.prog w = ((Instr.indexAt 46 (.slice (some ⟨b, off, none⟩) n c) (.int .i64 k)).run Tryz.prog w).andThen fun v w' => .ok (.value v) w' := by
  simp only [execOp, ho, e1, e2, Sem.run_bind, Sem.run_pure]
 rw [e0]
 go_simp
theorem ev_load3 {F : Act} {w : World} {b off : Nat} {a : Val} {t : Tmp} {o : Oper} (h0 : w.cell? ⟨b, off, none⟩ = some (.int .i64 a.k)) (h1 : w.cell? ⟨b, off + 1, none⟩ = some (.int .i64 a.n)) (h2 : w.cell? ⟨b, off + 2, none⟩ = some (.string a.s))
 (ho : o.op = .load 39 (.tmp t)) (ht : Reg.slot F t = .pointer (some ⟨b, off, none⟩)) :
 (execOp F.eval o).run Tryz.prog w = .ok (.value a.v) w := by
 have e : F.eval (.tmp t) = .pointer (some ⟨b, off, none⟩) := ht
 have e0 : (execOp F.eval o).run Tryz.prog w = ((Instr.loadAt 39 (.pointer (some ⟨b, off, none⟩))).run Tryz.prog w).andThen fun v w' => .ok (.value v) w' := by
  simp only [execOp, ho, e, Sem.run_bind, Sem.run_pure]
 rw [e0]
 go_simp
theorem enrCompare : ∀ args w, (callFunc 19 args).run Tryz.prog w = .ok (.enter 19 args) w := fun _ _ => by kernel_rfl
set_option maxHeartbeats 2000000 in
theorem rcompareL_c (A B : Option Addr) (n m c d : Nat) (xs ys : List Val) (w : World) (hn : xs.length = n) (hm : ys.length = m) (hn1 : n ≤ maxLen) (hm1 : m ≤ maxLen) (hs : Sl w A xs) (ht : Sl w B ys) :
 Calls Tryz.prog 38 #[.slice A n c, .slice B m d] w fun e w' => e = .returned (.int .i64 (cmpL xs ys)) ∧ Below w.heap.size w w' := by
 unfold maxLen at hn1 hm1
 have Hn := Lib.hid hn
 have Hm := Lib.hid hm
 have Hs := Lib.hid hs
 have Ht := Lib.hid ht
 clear hn hm hs ht
 go_enter Tryz.func38, Tryz.ntmps38
 go_wp2_with fail
 go_loopw [5] (fun i wr => ∃ k : Nat, k ≤ n ∧ k ≤ m ∧ i = .int .i64 k ∧ Below w.heap.size w wr ∧ Hid (cmpL (xs.drop k) (ys.drop k) = cmpL xs ys)) (fun i _ => n - (intOf i).toNat)
 case atStart => exact ⟨0, Nat.zero_le _, Nat.zero_le _, rfl, Below.refl _ _, rfl⟩
 case round =>
  obtain ⟨k, hk, hkm, rfl, hb, hinv⟩ := hrel
  by_cases hlt : k < n
  · by_cases hlt2 : k < m
    · obtain ⟨b, off, x, rfl, hblt, hx, c0, c1, c2⟩ := Hs.out.at (by rw [Hn.out]; exact hlt)
      have d0 : Hid _ := (hb.cell (p := ⟨b, off + k * 3, none⟩) hblt).trans c0
      have d1 : Hid _ := (hb.cell (p := ⟨b, off + k * 3 + 1, none⟩) hblt).trans c1
      have d2 : Hid _ := (hb.cell (p := ⟨b, off + k * 3 + 2, none⟩) hblt).trans c2
      have Hx := Lib.hid hx
      clear c0 c1 c2 hx
      have l1 := hb.size
      obtain ⟨b', off', y, rfl, hblt', hy, c0, c1, c2⟩ := Ht.out.at (by rw [Hm.out]; exact hlt2)
      have d3 : Hid _ := (hb.cell (p := ⟨b', off' + k * 3, none⟩) hblt').trans c0
      have d4 : Hid _ := (hb.cell (p := ⟨b', off' + k * 3 + 1, none⟩) hblt').trans c1
      have d5 : Hid _ := (hb.cell (p := ⟨b', off' + k * 3 + 2, none⟩) hblt').trans c2
      have Hy := Lib.hid hy
      clear c0 c1 c2 hy
      have l2 : b' < wr.heap.size := by omega
      have l3 : b < wr.heap.size := by omega
      have hstep := cmpL_drop xs ys k x y Hx.out Hy.out
      have Hst := Lib.hid (hstep.symm.trans hinv.out)
      clear hstep hinv
      go_wp2_with fail
      refine Reg.wp_region_vals mixed (by kernel_rfl) [(19, .slice (some ⟨b, off, none⟩) n c), (20, .int .i64 k), (21, .pointer (some ⟨b, off + k * 3, none⟩)), (22, x.v), (23, .slice (some ⟨b', off', none⟩) m d), (24, .int .i64 k), (25, .pointer (some ⟨b', off' + k * 3, none⟩)), (26, y.v), (27, .int .i64 (cmpV x y)), (6, .int .i64 (cmpV x y))] 41 rfl (by kernel_rfl) ?_ ?_
      · intro F hF w' hB
        have e0 := (hB.cell (p := ⟨b, off + k * 3, none⟩) l3).trans d0.out
        have e1 := (hB.cell (p := ⟨b, off + k * 3 + 1, none⟩) l3).trans d1.out
        have e2 := (hB.cell (p := ⟨b, off + k * 3 + 2, none⟩) l3).trans d2.out
        have e3 := (hB.cell (p := ⟨b', off' + k * 3, none⟩) l2).trans d3.out
        have e4 := (hB.cell (p := ⟨b', off' + k * 3 + 1, none⟩) l2).trans d4.out
        have e5 := (hB.cell (p := ⟨b', off' + k * 3 + 2, none⟩) l2).trans d5.out
        refine ⟨?_, ?_, ?_, ?_, ?_, ?_, ?_, ?_, ?_, ?_, trivial⟩
        · exact Reg.doesV_val (ev_move rfl) (by rw [hF]; kernel_rfl) (by rw [hF]; kernel_rfl)
        · exact Reg.doesV_val (ev_move rfl) (by rw [hF]; kernel_rfl) (by rw [hF]; kernel_rfl)
        · exact Reg.doesV_val (ev_index (b := b) (off := off) (c := c) hlt rfl (by rw [hF]; kernel_rfl) (by rw [hF]; kernel_rfl)) (by rw [hF]; kernel_rfl) (by rw [hF]; kernel_rfl)
        · exact Reg.doesV_val (ev_load3 e0 e1 e2 rfl (by rw [hF]; kernel_rfl)) (by rw [hF]; kernel_rfl) (by rw [hF]; kernel_rfl)
        · exact Reg.doesV_val (ev_move rfl) (by rw [hF]; kernel_rfl) (by rw [hF]; kernel_rfl)
        · exact Reg.doesV_val (ev_move rfl) (by rw [hF]; kernel_rfl) (by rw [hF]; kernel_rfl)
        · exact Reg.doesV_val (ev_index (b := b') (off := off') (c := d) hlt2 rfl (by rw [hF]; kernel_rfl) (by rw [hF]; kernel_rfl)) (by rw [hF]; kernel_rfl) (by rw [hF]; kernel_rfl)
        · exact Reg.doesV_val (ev_load3 e3 e4 e5 rfl (by rw [hF]; kernel_rfl)) (by rw [hF]; kernel_rfl) (by rw [hF]; kernel_rfl)
        · exact Reg.doesV_call (rcompare_c x y w') (ev_call enrCompare rfl (by rw [hF]; kernel_rfl)) (by rw [hF]; kernel_rfl) (by rw [hF]; kernel_rfl)
        · exact Reg.doesV_val (ev_assign rfl) (by rw [hF]; kernel_rfl) (by rw [hF]; kernel_rfl)
      · intro w2 hB
        simp only [Reg.putAll, Act.put, List.setIfInBounds_toArray, List.set_cons_zero, List.set_cons_succ]
        have hb2 := hb.trans (hB.mono hb.size)
        clear hB hb l1 l2 l3 d0 d1 d2 d3 d4 d5
        cases hc : cmpV x y != 0
        · have Hst' : Hid (cmpL (xs.drop (k + 1)) (ys.drop (k + 1)) = cmpL xs ys) := by have := Hst.out; rw [hc] at this; exact this
          clear Hst
          go_wp2
          go_roundw
          case rel => exact ⟨k + 1, by omega, by omega, by go_num, hb2, Hst'.out⟩
          case measure => simp [intOf]; omega
        · have Hst' : Hid (cmpV x y = cmpL xs ys) := by have := Hst.out; rw [hc] at this; exact this
          clear Hst
          go_wp2
          go_ret
          exact ⟨congrArg (fun z => Ending.returned (Value.int .i64 z)) Hst'.out, hb2⟩
    · obtain rfl : k = m := by omega
      have Hst : Hid (1 = cmpL xs ys) := by
       have := hinv.out
       rw [show ys.drop k = [] from List.drop_eq_nil_of_le (by rw [Hm.out]; omega), cmpL_nil_right, if_neg (by rw [List.length_drop, Hn.out]; omega)] at this
       exact this
      clear hinv
      go_wp2
      go_ret
      exact ⟨congrArg (fun z => Ending.returned (Value.int .i64 z)) Hst.out, hb⟩
  · obtain rfl : k = n := by omega
    by_cases hlt2 : k < m
    · have Hst : Hid (-1 = cmpL xs ys) := by
       have := hinv.out
       rw [show xs.drop k = [] from List.drop_eq_nil_of_le (by rw [Hn.out]; omega), cmpL_nil_left, if_neg (by rw [List.length_drop, Hm.out]; omega)] at this
       exact this
      clear hinv
      go_wp2
      go_ret
      exact ⟨congrArg (fun z => Ending.returned (Value.int .i64 z)) Hst.out, hb⟩
    · have Hst : Hid (0 = cmpL xs ys) := by
       have := hinv.out
       rw [show xs.drop k = [] from List.drop_eq_nil_of_le (by rw [Hn.out]; omega), cmpL_nil_left, if_pos (by rw [List.length_drop, Hm.out]; omega)] at this
       exact this
      obtain rfl : k = m := by omega
      clear hinv
      go_wp2
      go_ret
      exact ⟨congrArg (fun z => Ending.returned (Value.int .i64 z)) Hst.out, hb⟩
def shortB (xs : List Val) : Bool := xs.all (fun x => decide (x.s.size ≤ 1000)) && decide (xs.length ≤ 40)
theorem all_dropV (p : Val → Bool) (xs : List Val) (k : Nat) (x : Val) (hx : xs[k]? = some x) : (xs.drop k).all p = (p x && (xs.drop (k + 1)).all p) := by
 have h1 := List.drop_eq_getElem_cons (List.getElem?_eq_some_iff.1 hx).1
 rw [(List.getElem?_eq_some_iff.1 hx).2] at h1
 rw [h1, List.all_cons]
set_option maxHeartbeats 2000000 in
theorem short_c (A : Option Addr) (n c : Nat) (xs : List Val) (w : World) (hn : xs.length = n) (hn1 : n ≤ maxLen) (hs : Sl w A xs) (hz : ∀ x ∈ xs, x.s.size ≤ maxLen) :
 Calls Tryz.prog 22 #[.slice A n c] w fun e w' => e = .returned (.bool (shortB xs)) ∧ Below w.heap.size w w' := by
 unfold maxLen at hn1 hz
 have Hn := Lib.hid hn
 have Hs := Lib.hid hs
 have Hz := Lib.hid hz
 clear hn hs hz
 go_enter Tryz.func22, Tryz.ntmps22
 go_wp2_with fail
 go_loop [3] (fun i => ∃ k : Nat, k ≤ n ∧ i = .int .i64 k ∧ Hid ((xs.drop k).all (fun x => decide (x.s.size ≤ 1000)) = xs.all (fun x => decide (x.s.size ≤ 1000)))) (fun i => n - (intOf i).toNat)
 case atStart => exact ⟨0, Nat.zero_le _, rfl, rfl⟩
 case round =>
  obtain ⟨k, hk, rfl, hinv⟩ := hrel
  by_cases hlt : k < n
  · obtain ⟨b, off, x, rfl, hblt, hx, c0, c1, c2⟩ := Hs.out.at (by rw [Hn.out]; exact hlt)
    have hxz := Hz.out x (List.mem_of_getElem? hx)
    have Hst := Lib.hid ((all_dropV (fun x => decide (x.s.size ≤ 1000)) xs k x hx).symm.trans hinv.out)
    clear hinv hx
    by_cases hz : x.s.size ≤ 1000
    · have hz2 : decide (1000 < (x.s.size : Int)) = false := decide_eq_false (by omega)
      have Hst' : Hid ((xs.drop (k + 1)).all (fun x => decide (x.s.size ≤ 1000)) = xs.all (fun x => decide (x.s.size ≤ 1000))) := by
       have := Hst.out
       rw [show decide (x.s.size ≤ 1000) = true from decide_eq_true hz, Bool.true_and] at this
       exact this
      clear Hst
      go_wp2
      go_round
      case rel => exact ⟨k + 1, by omega, by go_num, Hst'.out⟩
      case measure => simp [intOf]; omega
    · have hz2 : decide (1000 < (x.s.size : Int)) = true := decide_eq_true (by omega)
      have Hst' : Hid (false = shortB xs) := by
       have := Hst.out
       rw [show decide (x.s.size ≤ 1000) = false from decide_eq_false hz, Bool.false_and] at this
       unfold shortB
       rw [← this]
       rfl
      clear Hst
      go_wp2
      go_ret
      exact ⟨congrArg (fun z => Ending.returned (Value.bool z)) Hst'.out, Below.refl _ _⟩
  · obtain rfl : k = n := by omega
    have Hst' : Hid (decide ((k : Int) ≤ 40) = shortB xs) := by
     have := hinv.out
     rw [show xs.drop k = [] from List.drop_eq_nil_of_le (by rw [Hn.out]; omega)] at this
     unfold shortB
     rw [← this, Hn.out]
     simp only [List.all_nil, Bool.true_and]
     exact decide_eq_decide.2 (by omega)
    clear hinv
    go_wp2
    go_ret
    exact ⟨congrArg (fun z => Ending.returned (Value.bool z)) Hst'.out, Below.refl _ _⟩
set_option maxHeartbeats 2000000 in
theorem rmayL_c (A : Option Addr) (n c : Nat) (xs : List Val) (w : World) (hn : xs.length = n) (hn1 : n ≤ maxLen) (hs : Sl w A xs) (hz : ∀ x ∈ xs, x.s.size ≤ maxLen) :
 Calls Tryz.prog 72 #[.slice A n c] w fun e w' => e = .returned (.bool (xs.all rmB)) ∧ Below w.heap.size w w' := by
 unfold maxLen at hn1
 have Hn := Lib.hid hn
 have Hs := Lib.hid hs
 have Hz := Lib.hid hz
 clear hn hs hz
 go_enter Tryz.func72, Tryz.ntmps72
 go_wp2_with fail
 go_loopw [3] (fun i wr => ∃ k : Nat, k ≤ n ∧ i = .int .i64 k ∧ Below w.heap.size w wr ∧ Hid ((xs.drop k).all rmB = xs.all rmB)) (fun i _ => n - (intOf i).toNat)
 case atStart => exact ⟨0, Nat.zero_le _, rfl, Below.refl _ _, rfl⟩
 case round =>
  obtain ⟨k, hk, rfl, hb, hinv⟩ := hrel
  by_cases hlt : k < n
  · obtain ⟨b, off, x, rfl, hblt, hx, c0, c1, c2⟩ := Hs.out.at (by rw [Hn.out]; exact hlt)
    have d0 := (hb.cell (p := ⟨b, off + k * 3, none⟩) hblt).trans c0
    have d1 := (hb.cell (p := ⟨b, off + k * 3 + 1, none⟩) hblt).trans c1
    have d2 := (hb.cell (p := ⟨b, off + k * 3 + 2, none⟩) hblt).trans c2
    have Hxz := Lib.hid (Hz.out x (List.mem_of_getElem? hx))
    have Hst := Lib.hid ((all_dropV rmB xs k x hx).symm.trans hinv.out)
    clear hinv hx c0 c1 c2
    cases hm : rmB x
    · have Hst' : Hid (false = xs.all rmB) := by
       have := Hst.out
       rw [hm, Bool.false_and] at this
       exact this
      clear Hst
      go_wp2_with fail
      refine (rmay_c x wr Hxz.out).mono ?_
      rintro e w1 ⟨rfl, hb1⟩
      have hb2 := hb.trans (hb1.mono hb.size)
      clear hb1 hb
      go_wp2
      go_ret
      exact ⟨congrArg (fun z => Ending.returned (Value.bool z)) Hst'.out, hb2⟩
    · have Hst' : Hid ((xs.drop (k + 1)).all rmB = xs.all rmB) := by
       have := Hst.out
       rw [hm, Bool.true_and] at this
       exact this
      clear Hst
      go_wp2_with fail
      refine (rmay_c x wr Hxz.out).mono ?_
      rintro e w1 ⟨rfl, hb1⟩
      have hb2 := hb.trans (hb1.mono hb.size)
      clear hb1 hb
      go_wp2
      go_roundw
      case rel => exact ⟨k + 1, by omega, by go_num, hb2, Hst'.out⟩
      case measure => simp [intOf]; omega
  · obtain rfl : k = n := by omega
    have Hst' : Hid (true = xs.all rmB) := by
     have := hinv.out
     rw [show xs.drop k = [] from List.drop_eq_nil_of_le (by rw [Hn.out]; omega)] at this
     exact this
    clear hinv
    go_wp2
    go_ret
    exact ⟨congrArg (fun z => Ending.returned (Value.bool z)) Hst'.out, hb⟩
theorem ev_neIC {F : Act} {w : World} {t : Tmp} {o : Oper} (a b : Int) (ho : o.op = .binOp .neq 3 (.tmp t) (.const (.int .i64 b)) 3) (ht : Reg.slot F t = .int .i64 a) :
 (execOp F.eval o).run Tryz.prog w = .ok (.value (.bool (a != b))) w := by
 have e1 : F.eval (.tmp t) = .int .i64 a := ht
 have e2 : F.eval (.const (.int .i64 b)) = .int .i64 b := rfl
 have e0 : (execOp F.eval o).run Tryz.prog w = ((do eqGuard .neq 3 (.tmp t) (.const (.int .i64 b)) (.int .i64 a) (.int .i64 b); binOp .neq 3 (.int .i64 a) (.int .i64 b)).run Tryz.prog w).andThen fun v w' => .ok (.value v) w' := by
  simp only [execOp, ho, e1, e2, Sem.run_bind, Sem.run_pure]
 rw [e0]
 go_simp
theorem enRCompareL : ∀ args w, (callFunc 38 args).run Tryz.prog w = .ok (.enter 38 args) w := fun _ _ => by kernel_rfl
theorem xs_at {hs : List Hd} {k : Nat} {h : Hd} (hk : hs[k]? = some h) : (hs.map (·.xs))[k]? = some h.xs := by rw [List.getElem?_map, hk]; rfl
def rmayR (xs : List Val) : Bool := decide (xs.length ≤ 40) && xs.all rmB
set_option maxHeartbeats 1000000 in
theorem rmayRow_c (A : Option Addr) (n c : Nat) (xs : List Val) (w : World) (hn : xs.length = n) (hn1 : n ≤ maxLen) (hs : Sl w A xs) (hz : ∀ x ∈ xs, x.s.size ≤ maxLen) :
 Calls Tryz.prog 57 #[.slice A n c] w fun e w' => e = .returned (.bool (rmayR xs)) ∧ Below w.heap.size w w' := by
 have HM := Lib.hid (rmayL_c A n c xs w hn hn1 hs hz)
 unfold maxLen at hn1
 unfold rmayR
 rw [hn]
 clear hn hs hz
 by_cases h40 : n ≤ 40
 · rw [decide_eq_true h40, Bool.true_and]
   obtain ⟨R, hR⟩ : ∃ R, xs.all rmB = R := ⟨_, rfl⟩
   rw [hR] at HM ⊢
   clear hR
   go_enter Tryz.func57, Tryz.ntmps57
   go_wp2_with fail
   refine HM.out.mono ?_
   rintro e w1 ⟨rfl, hb1⟩
   go_wp2
   go_ret
   exact ⟨rfl, hb1⟩
 · rw [decide_eq_false h40, Bool.false_and]
   clear HM
   go_enter Tryz.func57, Tryz.ntmps57
   go_wp2
   go_ret
   exact ⟨rfl, Below.refl _ _⟩
theorem ev_idxC {F : Act} {w : World} {t u : Tmp} {b off n c k : Nat} {o : Oper} (hk : k < n) (ho : o.op = .indexAddr 30 (.tmp t) (.tmp u)) (ht : Reg.slot F t = .slice (some ⟨b, off, none⟩) n c) (hu : Reg.slot F u = .int .i64 k) :
 (execOp F.eval o).run Tryz.prog w = .ok (.value (.pointer (some ⟨b, off + k * 2, none⟩))) w := by
 have e1 : F.eval (.tmp t) = .slice (some ⟨b, off, none⟩) n c := ht
 have e2 : F.eval (.tmp u) = .int .i64 k := hu
 have e0 : (execOp F.eval o).run Tryz.prog w = ((Instr.indexAt 30 (.slice (some ⟨b, off, none⟩) n c) (.int .i64 k)).run Tryz.prog w).andThen fun v w' => .ok (.value v) w' := by
  simp only [execOp, ho, e1, e2, Sem.run_bind, Sem.run_pure]
 rw [e0]
 go_simp
theorem ev_c0 {F : Act} {w : World} {b off : Nat} {t : Tmp} {o : Oper} (ho : o.op = .fieldAddr 49 (.tmp t) 0) (ht : Reg.slot F t = .pointer (some ⟨b, off, none⟩)) :
 (execOp F.eval o).run Tryz.prog w = .ok (.value (.pointer (some ⟨b, off, none⟩))) w := by
 have e : F.eval (.tmp t) = .pointer (some ⟨b, off, none⟩) := ht
 have e0 : (execOp F.eval o).run Tryz.prog w = ((Instr.fieldAt 49 (.pointer (some ⟨b, off, none⟩)) 0).run Tryz.prog w).andThen fun v w' => .ok (.value v) w' := by
  simp only [execOp, ho, e, Sem.run_bind, Sem.run_pure]
 rw [e0]
 go_simp
theorem ev_c1 {F : Act} {w : World} {b off : Nat} {t : Tmp} {o : Oper} (ho : o.op = .fieldAddr 49 (.tmp t) 1) (ht : Reg.slot F t = .pointer (some ⟨b, off, none⟩)) :
 (execOp F.eval o).run Tryz.prog w = .ok (.value (.pointer (some ⟨b, off + 1, none⟩))) w := by
 have e : F.eval (.tmp t) = .pointer (some ⟨b, off, none⟩) := ht
 have e0 : (execOp F.eval o).run Tryz.prog w = ((Instr.fieldAt 49 (.pointer (some ⟨b, off, none⟩)) 1).run Tryz.prog w).andThen fun v w' => .ok (.value v) w' := by
  simp only [execOp, ho, e, Sem.run_bind, Sem.run_pure]
 rw [e0]
 go_simp
theorem ev_ldR {F : Act} {w : World} {b off : Nat} {A : Option Addr} {n c : Nat} {t : Tmp} {o : Oper} (h0 : w.cell? ⟨b, off, none⟩ = some (.slice A n c)) (ho : o.op = .load 47 (.tmp t)) (ht : Reg.slot F t = .pointer (some ⟨b, off, none⟩)) :
 (execOp F.eval o).run Tryz.prog w = .ok (.value (.slice A n c)) w := by
 have e : F.eval (.tmp t) = .pointer (some ⟨b, off, none⟩) := ht
 have e0 : (execOp F.eval o).run Tryz.prog w = ((Instr.loadAt 47 (.pointer (some ⟨b, off, none⟩))).run Tryz.prog w).andThen fun v w' => .ok (.value v) w' := by
  simp only [execOp, ho, e, Sem.run_bind, Sem.run_pure]
 rw [e0]
 go_simp
theorem ev_ldI {F : Act} {w : World} {b off : Nat} {k : Int} {t : Tmp} {o : Oper} (h0 : w.cell? ⟨b, off, none⟩ = some (.int .i64 k)) (ho : o.op = .load 3 (.tmp t)) (ht : Reg.slot F t = .pointer (some ⟨b, off, none⟩)) :
 (execOp F.eval o).run Tryz.prog w = .ok (.value (.int .i64 k)) w := by
 have e : F.eval (.tmp t) = .pointer (some ⟨b, off, none⟩) := ht
 have e0 : (execOp F.eval o).run Tryz.prog w = ((Instr.loadAt 3 (.pointer (some ⟨b, off, none⟩))).run Tryz.prog w).andThen fun v w' => .ok (.value v) w' := by
  simp only [execOp, ho, e, Sem.run_bind, Sem.run_pure]
 rw [e0]
 go_simp
theorem ev_eqC5 {F : Act} {w : World} {t : Tmp} {o : Oper} (a b : Int) (ho : o.op = .binOp .eql 3 (.tmp t) (.const (.int .i64 b)) 3) (ht : Reg.slot F t = .int .i64 a) :
 (execOp F.eval o).run Tryz.prog w = .ok (.value (.bool (a == b))) w := by
 have e1 : F.eval (.tmp t) = .int .i64 a := ht
 have e2 : F.eval (.const (.int .i64 b)) = .int .i64 b := rfl
 have e0 : (execOp F.eval o).run Tryz.prog w = ((do eqGuard .eql 3 (.tmp t) (.const (.int .i64 b)) (.int .i64 a) (.int .i64 b); binOp .eql 3 (.int .i64 a) (.int .i64 b)).run Tryz.prog w).andThen fun v w' => .ok (.value v) w' := by
  simp only [execOp, ho, e1, e2, Sem.run_bind, Sem.run_pure]
 rw [e0]
 go_simp
theorem ev_gtC5 {F : Act} {w : World} {t : Tmp} {o : Oper} (a b : Int) (ho : o.op = .binOp .gtr 3 (.tmp t) (.const (.int .i64 b)) 3) (ht : Reg.slot F t = .int .i64 a) :
 (execOp F.eval o).run Tryz.prog w = .ok (.value (.bool (decide (b < a)))) w := by
 have e1 : F.eval (.tmp t) = .int .i64 a := ht
 have e2 : F.eval (.const (.int .i64 b)) = .int .i64 b := rfl
 have e0 : (execOp F.eval o).run Tryz.prog w = ((do eqGuard .gtr 3 (.tmp t) (.const (.int .i64 b)) (.int .i64 a) (.int .i64 b); binOp .gtr 3 (.int .i64 a) (.int .i64 b)).run Tryz.prog w).andThen fun v w' => .ok (.value v) w' := by
  simp only [execOp, ho, e1, e2, Sem.run_bind, Sem.run_pure]
 rw [e0]
 go_simp
theorem ev_geC5 {F : Act} {w : World} {t : Tmp} {o : Oper} (a b : Int) (ho : o.op = .binOp .geq 3 (.tmp t) (.const (.int .i64 b)) 3) (ht : Reg.slot F t = .int .i64 a) :
 (execOp F.eval o).run Tryz.prog w = .ok (.value (.bool (decide (b ≤ a)))) w := by
 have e1 : F.eval (.tmp t) = .int .i64 a := ht
 have e2 : F.eval (.const (.int .i64 b)) = .int .i64 b := rfl
 have e0 : (execOp F.eval o).run Tryz.prog w = ((do eqGuard .geq 3 (.tmp t) (.const (.int .i64 b)) (.int .i64 a) (.int .i64 b); binOp .geq 3 (.int .i64 a) (.int .i64 b)).run Tryz.prog w).andThen fun v w' => .ok (.value v) w' := by
  simp only [execOp, ho, e1, e2, Sem.run_bind, Sem.run_pure]
 rw [e0]
 go_simp
theorem ev_neT5 {F : Act} {w : World} {t u : Tmp} {o : Oper} (a b : Int) (ho : o.op = .binOp .neq 3 (.tmp t) (.tmp u) 3) (ht : Reg.slot F t = .int .i64 a) (hu : Reg.slot F u = .int .i64 b) :
 (execOp F.eval o).run Tryz.prog w = .ok (.value (.bool (a != b))) w := by
 have e1 : F.eval (.tmp t) = .int .i64 a := ht
 have e2 : F.eval (.tmp u) = .int .i64 b := hu
 have e0 : (execOp F.eval o).run Tryz.prog w = ((do eqGuard .neq 3 (.tmp t) (.tmp u) (.int .i64 a) (.int .i64 b); binOp .neq 3 (.int .i64 a) (.int .i64 b)).run Tryz.prog w).andThen fun v w' => .ok (.value v) w' := by
  simp only [execOp, ho, e1, e2, Sem.run_bind, Sem.run_pure]
 rw [e0]
 go_simp
theorem ev_subC5 {F : Act} {w : World} {t : Tmp} {o : Oper} (a b : Int) (hab : -9223372036854775808 ≤ a - b ∧ a - b ≤ 9223372036854775807) (ho : o.op = .binOp .sub 3 (.tmp t) (.const (.int .i64 b)) 3) (ht : Reg.slot F t = .int .i64 a) :
 (execOp F.eval o).run Tryz.prog w = .ok (.value (.int .i64 (a - b))) w := by
 have e1 : F.eval (.tmp t) = .int .i64 a := ht
 have e2 : F.eval (.const (.int .i64 b)) = .int .i64 b := rfl
 have hw : IntKind.i64.wrap (a - b) = a - b := by rw [IntKind.wrap_i64]; omega
 have e0 : (execOp F.eval o).run Tryz.prog w = ((do eqGuard .sub 3 (.tmp t) (.const (.int .i64 b)) (.int .i64 a) (.int .i64 b); binOp .sub 3 (.int .i64 a) (.int .i64 b)).run Tryz.prog w).andThen fun v w' => .ok (.value v) w' := by
  simp only [execOp, ho, e1, e2, Sem.run_bind, Sem.run_pure]
 rw [e0]
 go_simp
theorem ev_dec5 {F : Act} {w : World} {t : Tmp} {o : Oper} (k j : Nat) (hkj : k = j + 1) (hk : k ≤ 9223372036854775807) (ho : o.op = .binOp .sub 3 (.tmp t) (.const (.int .i64 1)) 3) (ht : Reg.slot F t = .int .i64 k) :
 (execOp F.eval o).run Tryz.prog w = .ok (.value (.int .i64 j)) w := by
 have h := ev_subC5 (w := w) (k : Int) 1 (by omega) ho ht
 rw [show (k : Int) - 1 = j by omega] at h
 exact h
theorem enRFits : ∀ args w, (callFunc 56 args).run Tryz.prog w = .ok (.enter 56 args) w := fun _ _ => by kernel_rfl
theorem enR4May : ∀ args w, (callFunc 57 args).run Tryz.prog w = .ok (.enter 57 args) w := fun _ _ => by kernel_rfl
structure Ct where
 h : Hd
 N : Int
def rdC (c : Ct) : List Value := [.slice c.h.A c.h.n c.h.c, .int .i64 c.N]
theorem cOk : ElOk Tryz.prog 30 49 2 32 (.agg #[.slice none 0 0, .int .i64 0]) rdC where
 under := Tryz.underlying30
 info := by kernel_rfl
 zs := rfl
 pos := by decide
 len := fun _ => rfl
 one := fun x u hu => by
  simp [rdC] at hu
  rcases hu with rfl | rfl <;> rfl
def pl (cs : List Ct) : Bg := cs.map fun c => (c.h.xs, c.N)
structure Ct.In (w : World) (c : Ct) : Prop where
 hd : Hd.In w c.h
 sz : ∀ x ∈ c.h.xs, x.s.size ≤ maxLen
 n64 : ∀ x ∈ c.h.xs, -9223372036854775808 ≤ x.n ∧ x.n ≤ 9223372036854775807
 N64 : -9223372036854775808 ≤ c.N ∧ c.N ≤ 9223372036854775807
 room : c.h.n ≤ c.h.c
theorem Ct.In.after {w w' : World} {c : Ct} (h : Ct.In w c) (hb : Below w.heap.size w w') : Ct.In w' c := ⟨h.hd.after hb, h.sz, h.n64, h.N64, h.room⟩
structure BgIn (w : World) (A : Option Addr) (n : Nat) (cs : List Ct) : Prop where
 len : cs.length = n
 max : n ≤ maxLen
 sl : SlG w A 2 rdC cs
 each : ∀ c ∈ cs, Ct.In w c
theorem BgIn.after {w w' : World} {A : Option Addr} {n : Nat} {cs : List Ct} (h : BgIn w A n cs) (hb : Below w.heap.size w w') : BgIn w' A n cs := ⟨h.len, h.max, h.sl.after hb, fun c hc => (h.each c hc).after hb⟩
theorem SlG.at2 {w : World} {A : Option Addr} {xs : List Ct} (h : SlG w A 2 rdC xs) {k : Nat} (hk : k < xs.length) :
 ∃ b off x, A = some ⟨b, off, none⟩ ∧ b < w.heap.size ∧ xs[k]? = some x ∧ w.cell? ⟨b, off + k * 2, none⟩ = some (.slice x.h.A x.h.n x.h.c) ∧ w.cell? ⟨b, off + k * 2 + 1, none⟩ = some (.int .i64 x.N) := by
 rcases h with rfl | ⟨b, off, hA, hlt, h⟩
 · simp at hk
 · refine ⟨b, off, xs[k], hA, hlt, List.getElem?_eq_getElem hk, ?_, ?_⟩
   · exact h k xs[k] (List.getElem?_eq_getElem hk) 0 _ rfl
   · exact h k xs[k] (List.getElem?_eq_getElem hk) 1 _ rfl
theorem SlG.some2 {w : World} {A : Option Addr} {xs : List Ct} (h : SlG w A 2 rdC xs) {k : Nat} (hk : k < xs.length) : ∃ b off, A = some ⟨b, off, none⟩ := by
 obtain ⟨b, off, _, hA, _⟩ := h.at2 hk
 exact ⟨b, off, hA⟩
theorem SlG.cell2 {w : World} {b off : Nat} {xs : List Ct} (h : SlG w (some ⟨b, off, none⟩) 2 rdC xs) {k : Nat} {x : Ct} (hx : xs[k]? = some x) :
 b < w.heap.size ∧ w.cell? ⟨b, off + k * 2, none⟩ = some (.slice x.h.A x.h.n x.h.c) ∧ w.cell? ⟨b, off + k * 2 + 1, none⟩ = some (.int .i64 x.N) := by
 obtain ⟨b', off', y, hA, h1, h2, h3, h4⟩ := h.at2 (List.getElem?_eq_some_iff.1 hx).1
 rw [hx] at h2
 cases h2
 cases hA
 exact ⟨h1, h3, h4⟩
theorem pl_at {cs : List Ct} {k : Nat} {c : Ct} (h : cs[k]? = some c) : (pl cs)[k]? = some (c.h.xs, c.N) := by
 unfold pl
 rw [List.getElem?_map, h]
 rfl
theorem pl_len (cs : List Ct) : (pl cs).length = cs.length := by simp [pl]
def mayFrom : Option (List Val) → Bg → Bool
 | _, [] => true
 | none, x :: b => okC x && mayFrom (some x.1) b
 | some q, x :: b => okC x && (decide (cmpL q x.1 < 0) && mayFrom (some x.1) b)
theorem mayFrom_nil (q : Option (List Val)) : mayFrom q [] = true := by cases q <;> rfl
theorem mayFrom_some : ∀ (b : Bg) (q : List Val × Int), mayFrom (some q.1) b = (b.all okC && risesB (q :: b))
 | [], q => rfl
 | x :: b, q => by
   rw [mayFrom, mayFrom_some b x, List.all_cons, risesB]
   cases okC x <;> cases decide (cmpL q.1 x.1 < 0) <;> cases b.all okC <;> rfl
theorem mayFrom_none : ∀ b : Bg, mayFrom none b = mayBag b
 | [] => rfl
 | x :: b => by
   unfold mayBag
   rw [mayFrom, mayFrom_some b x, List.all_cons, Bool.and_assoc]
def prevOf (b : Bg) : Nat → Option (List Val)
 | 0 => none
 | k + 1 => (b[k]?).map (·.1)
theorem prev_succ {b : Bg} {k : Nat} {x : List Val × Int} (h : b[k]? = some x) : prevOf b (k + 1) = some x.1 := by rw [prevOf, h]; rfl
theorem mayFrom_drop (b : Bg) (k : Nat) (x : List Val × Int) (h : b[k]? = some x) :
 mayFrom (prevOf b k) (b.drop k) = (okC x && ((match prevOf b k with | none => true | some q => decide (cmpL q x.1 < 0)) && mayFrom (prevOf b (k + 1)) (b.drop (k + 1)))) := by
 have h1 := List.drop_eq_getElem_cons (List.getElem?_eq_some_iff.1 h).1
 rw [(List.getElem?_eq_some_iff.1 h).2] at h1
 rw [h1, prev_succ h]
 cases prevOf b k with
 | none => rw [mayFrom, Bool.true_and]
 | some q => rw [mayFrom]
theorem rmay_mayR (xs : List Val) : rmayR xs = mayR xs := by
 unfold rmayR mayR
 rw [show mayB = rmB from funext may_rm]
theorem fits5_c (n : Int) (w : World) : Calls Tryz.prog 56 #[.int .i64 n] w fun e w' => e = .returned (.bool (decide (-1000000000 ≤ n) && decide (n ≤ 1000000000))) ∧ Below w.heap.size w w' := by
 cases h1 : decide (-1000000000 ≤ n)
 · go_enter Tryz.func56, Tryz.ntmps56
   go_wp2
   go_ret
   exact ⟨rfl, Below.refl _ _⟩
 · go_enter Tryz.func56, Tryz.ntmps56
   go_wp2
   go_ret
   exact ⟨rfl, Below.refl _ _⟩
theorem okC_and (xs : List Val) (N : Int) : okC (xs, N) = (!(N == 0) && ((decide (-1000000000 ≤ N) && decide (N ≤ 1000000000)) && mayR xs)) := by
 unfold okC
 simp only [Bool.and_assoc]
set_option maxHeartbeats 4000000 in
theorem rmayBag_c (A : Option Addr) (n c : Nat) (cs : List Ct) (w : World) (hB : BgIn w A n cs) :
 Calls Tryz.prog 39 #[.slice A n c] w fun e w' => e = .returned (.bool (mayBag (pl cs))) ∧ Below w.heap.size w w' := by
 obtain ⟨R, hR⟩ : ∃ R, mayBag (pl cs) = R := ⟨_, rfl⟩
 rw [hR]
 rw [← mayFrom_none] at hR
 have HR := Lib.hid hR
 have HB := Lib.hid hB
 have hmx : n ≤ 9223372036854775807 := hB.max
 clear hB hR
 go_enter Tryz.func39, Tryz.ntmps39
 go_wp2_with fail
 go_loopw [3] (fun i wr => ∃ k : Nat, k ≤ n ∧ i = .int .i64 k ∧ Hid (Below w.heap.size w wr) ∧ Hid (mayFrom (prevOf (pl cs) k) ((pl cs).drop k) = R)) (fun i _ => n - (intOf i).toNat)
 case atStart => exact ⟨0, Nat.zero_le _, rfl, Lib.hid (Below.refl _ _), HR⟩
 case round =>
  obtain ⟨k, hk, rfl, hb, hinv⟩ := hrel
  clear HR
  by_cases hlt : k < n
  · obtain ⟨b, off, rfl⟩ := HB.out.sl.some2 (k := k) (by rw [HB.out.len]; exact hlt)
    obtain ⟨x, hx⟩ : ∃ x, cs[k]? = some x := ⟨_, List.getElem?_eq_getElem (by rw [HB.out.len]; exact hlt)⟩
    obtain ⟨hblt, c0, c1⟩ := HB.out.sl.cell2 hx
    have d0 := Lib.hid ((hb.out.cell (p := ⟨b, off + k * 2, none⟩) hblt).trans c0)
    have d1 := Lib.hid ((hb.out.cell (p := ⟨b, off + k * 2 + 1, none⟩) hblt).trans c1)
    have l0 : b < wr.heap.size := Nat.lt_of_lt_of_le hblt hb.out.size
    have Hx := Lib.hid ((HB.out.each x (List.mem_of_getElem? hx)).after hb.out)
    have Hst := Lib.hid ((mayFrom_drop (pl cs) k _ (pl_at hx)).symm.trans hinv.out)
    clear hinv c0 c1 hx
    obtain ⟨⟨xA, xn, xc, xs⟩, N⟩ := x
    have hprev : Hid (∀ j, k = j + 1 → ∃ y : Ct, prevOf (pl cs) k = some y.h.xs ∧ Ct.In wr y ∧ wr.cell? ⟨b, off + j * 2, none⟩ = some (.slice y.h.A y.h.n y.h.c)) := Lib.hid (by
     rintro j rfl
     obtain ⟨y, hy⟩ : ∃ y, cs[j]? = some y := ⟨_, List.getElem?_eq_getElem (by rw [HB.out.len]; omega)⟩
     obtain ⟨hblt, c0, c1⟩ := HB.out.sl.cell2 hy
     exact ⟨y, prev_succ (pl_at hy), (HB.out.each y (List.mem_of_getElem? hy)).after hb.out, (hb.out.cell (p := ⟨b, off + j * 2, none⟩) hblt).trans c0⟩)
    have hgo : (k : Int) < n := by omega
    go_wp2_with fail
    cases hN0 : N == 0
    · cases hF1 : (decide (-1000000000 ≤ N) && decide (N ≤ 1000000000))
      · have Hst2 : Hid (false = R) := by
         have := Hst.out
         rw [okC_and] at this
         simp only [hN0, hF1, Bool.not_false, Bool.true_and, Bool.false_and] at this
         exact Lib.hid this
        clear Hst
        refine Reg.wp_region_vals mixed (by kernel_rfl) [(10, .slice (some ⟨b, off, none⟩) n c), (11, .int .i64 (k : Nat)), (12, .pointer (some ⟨b, off + k * 2, none⟩)), (13, .pointer (some ⟨b, off + k * 2 + 1, none⟩)), (14, .int .i64 N), (15, .bool false), (16, .bool false), (17, .slice (some ⟨b, off, none⟩) n c), (18, .int .i64 (k : Nat)), (19, .pointer (some ⟨b, off + k * 2, none⟩)), (20, .pointer (some ⟨b, off + k * 2 + 1, none⟩)), (21, .int .i64 N), (22, .bool false), (23, .bool true), (24, .bool true), (25, .bool true), (26, undef), (27, undef), (28, undef), (29, undef), (30, undef), (31, undef), (32, undef), (33, .bool true), (34, .bool true), (35, undef), (36, undef), (37, undef), (38, undef), (39, undef), (40, undef), (41, undef), (42, undef), (43, undef), (44, undef), (45, undef), (46, undef), (47, undef), (48, undef), (49, undef), (50, undef), (51, undef), (52, .bool true)] 53 rfl (by kernel_rfl) ?_ ?_
        · intro F hF w' hB
          have j0 := (hB.cell (p := ⟨b, off + k * 2, none⟩) l0).trans d0.out
          have j1 := (hB.cell (p := ⟨b, off + k * 2 + 1, none⟩) l0).trans d1.out
          have ix := Hx.out.after hB
          refine ⟨?_, ?_, ?_, ?_, ?_, ?_, ?_, ?_, ?_, ?_, ?_, ?_, ?_, ?_, ?_, ?_, ?_, ?_, ?_, ?_, ?_, ?_, ?_, ?_, ?_, ?_, ?_, ?_, ?_, ?_, ?_, ?_, ?_, ?_, ?_, ?_, ?_, ?_, ?_, ?_, ?_, ?_, ?_, trivial⟩
          · exact Reg.doesV_val (ev_move rfl) (by rw [hF]; kernel_rfl) (by rw [hF]; kernel_rfl)
          · exact Reg.doesV_val (ev_move rfl) (by rw [hF]; kernel_rfl) (by rw [hF]; kernel_rfl)
          · exact Reg.doesV_val (ev_idxC (b := b) (off := off) (n := n) (c := c) (k := k) hlt rfl (by rw [hF]; kernel_rfl) (by rw [hF]; kernel_rfl)) (by rw [hF]; kernel_rfl) (by rw [hF]; kernel_rfl)
          · exact Reg.doesV_val (ev_c1 (b := b) (off := off + k * 2) rfl (by rw [hF]; kernel_rfl)) (by rw [hF]; kernel_rfl) (by rw [hF]; kernel_rfl)
          · exact Reg.doesV_val (ev_ldI (k := N) j1 rfl (by rw [hF]; kernel_rfl)) (by rw [hF]; kernel_rfl) (by rw [hF]; kernel_rfl)
          · exact Reg.doesV_val (by rw [ev_eqC5 N 0 rfl (by rw [hF]; kernel_rfl), hN0]) (by rw [hF]; kernel_rfl) (by rw [hF]; kernel_rfl)
          · exact Reg.doesV_val (ev_move rfl) (by rw [hF]; kernel_rfl) (by rw [hF]; kernel_rfl)
          · exact Reg.doesV_val (ev_move rfl) (by rw [hF]; kernel_rfl) (by rw [hF]; kernel_rfl)
          · exact Reg.doesV_val (ev_move rfl) (by rw [hF]; kernel_rfl) (by rw [hF]; kernel_rfl)
          · exact Reg.doesV_val (ev_idxC (b := b) (off := off) (n := n) (c := c) (k := k) hlt rfl (by rw [hF]; kernel_rfl) (by rw [hF]; kernel_rfl)) (by rw [hF]; kernel_rfl) (by rw [hF]; kernel_rfl)
          · exact Reg.doesV_val (ev_c1 (b := b) (off := off + k * 2) rfl (by rw [hF]; kernel_rfl)) (by rw [hF]; kernel_rfl) (by rw [hF]; kernel_rfl)
          · exact Reg.doesV_val (ev_ldI (k := N) j1 rfl (by rw [hF]; kernel_rfl)) (by rw [hF]; kernel_rfl) (by rw [hF]; kernel_rfl)
          · exact Reg.doesV_call (by have h := fits5_c N w'; rw [hF1] at h; exact h) (ev_call enRFits rfl (by rw [hF]; kernel_rfl)) (by rw [hF]; kernel_rfl) (by rw [hF]; kernel_rfl)
          · exact Reg.doesV_val (ev_not false rfl (by rw [hF]; kernel_rfl)) (by rw [hF]; kernel_rfl) (by rw [hF]; kernel_rfl)
          · exact Reg.doesV_val (ev_pick false rfl (by rw [hF]; kernel_rfl)) (by rw [hF]; kernel_rfl) (by rw [hF]; kernel_rfl)
          · exact Reg.doesV_val (ev_move rfl) (by rw [hF]; kernel_rfl) (by rw [hF]; kernel_rfl)
          · exact Reg.doesV_skip (by rw [hF]; kernel_rfl) (by rw [hF]; kernel_rfl)
          · exact Reg.doesV_skip (by rw [hF]; kernel_rfl) (by rw [hF]; kernel_rfl)
          · exact Reg.doesV_skip (by rw [hF]; kernel_rfl) (by rw [hF]; kernel_rfl)
          · exact Reg.doesV_skip (by rw [hF]; kernel_rfl) (by rw [hF]; kernel_rfl)
          · exact Reg.doesV_skip (by rw [hF]; kernel_rfl) (by rw [hF]; kernel_rfl)
          · exact Reg.doesV_skip (by rw [hF]; kernel_rfl) (by rw [hF]; kernel_rfl)
          · exact Reg.doesV_skip (by rw [hF]; kernel_rfl) (by rw [hF]; kernel_rfl)
          · exact Reg.doesV_val (ev_pick true rfl (by rw [hF]; kernel_rfl)) (by rw [hF]; kernel_rfl) (by rw [hF]; kernel_rfl)
          · exact Reg.doesV_val (ev_move rfl) (by rw [hF]; kernel_rfl) (by rw [hF]; kernel_rfl)
          · exact Reg.doesV_skip (by rw [hF]; kernel_rfl) (by rw [hF]; kernel_rfl)
          · exact Reg.doesV_skip (by rw [hF]; kernel_rfl) (by rw [hF]; kernel_rfl)
          · exact Reg.doesV_skip (by rw [hF]; kernel_rfl) (by rw [hF]; kernel_rfl)
          · exact Reg.doesV_skip (by rw [hF]; kernel_rfl) (by rw [hF]; kernel_rfl)
          · exact Reg.doesV_skip (by rw [hF]; kernel_rfl) (by rw [hF]; kernel_rfl)
          · exact Reg.doesV_skip (by rw [hF]; kernel_rfl) (by rw [hF]; kernel_rfl)
          · exact Reg.doesV_skip (by rw [hF]; kernel_rfl) (by rw [hF]; kernel_rfl)
          · exact Reg.doesV_skip (by rw [hF]; kernel_rfl) (by rw [hF]; kernel_rfl)
          · exact Reg.doesV_skip (by rw [hF]; kernel_rfl) (by rw [hF]; kernel_rfl)
          · exact Reg.doesV_skip (by rw [hF]; kernel_rfl) (by rw [hF]; kernel_rfl)
          · exact Reg.doesV_skip (by rw [hF]; kernel_rfl) (by rw [hF]; kernel_rfl)
          · exact Reg.doesV_skip (by rw [hF]; kernel_rfl) (by rw [hF]; kernel_rfl)
          · exact Reg.doesV_skip (by rw [hF]; kernel_rfl) (by rw [hF]; kernel_rfl)
          · exact Reg.doesV_skip (by rw [hF]; kernel_rfl) (by rw [hF]; kernel_rfl)
          · exact Reg.doesV_skip (by rw [hF]; kernel_rfl) (by rw [hF]; kernel_rfl)
          · exact Reg.doesV_skip (by rw [hF]; kernel_rfl) (by rw [hF]; kernel_rfl)
          · exact Reg.doesV_skip (by rw [hF]; kernel_rfl) (by rw [hF]; kernel_rfl)
          · exact Reg.doesV_val (ev_pick true rfl (by rw [hF]; kernel_rfl)) (by rw [hF]; kernel_rfl) (by rw [hF]; kernel_rfl)
        · intro w8 hB
          simp only [Reg.putAll, Act.put, List.setIfInBounds_toArray, List.set_cons_zero, List.set_cons_succ]
          have Hb2 := Lib.hid (hb.out.trans (hB.mono hb.out.size))
          clear hB
          go_wp2
          go_ret
          exact ⟨congrArg (fun z => Ending.returned (Value.bool z)) Hst2.out, Hb2.out⟩
      · cases hM : mayR xs
        · have Hst2 : Hid (false = R) := by
           have := Hst.out
           rw [okC_and] at this
           simp only [hN0, hF1, hM, Bool.not_false, Bool.true_and, Bool.false_and] at this
           exact Lib.hid this
          clear Hst
          refine Reg.wp_region_vals mixed (by kernel_rfl) [(10, .slice (some ⟨b, off, none⟩) n c), (11, .int .i64 (k : Nat)), (12, .pointer (some ⟨b, off + k * 2, none⟩)), (13, .pointer (some ⟨b, off + k * 2 + 1, none⟩)), (14, .int .i64 N), (15, .bool false), (16, .bool false), (17, .slice (some ⟨b, off, none⟩) n c), (18, .int .i64 (k : Nat)), (19, .pointer (some ⟨b, off + k * 2, none⟩)), (20, .pointer (some ⟨b, off + k * 2 + 1, none⟩)), (21, .int .i64 N), (22, .bool true), (23, .bool false), (24, .bool false), (25, .bool false), (26, .slice (some ⟨b, off, none⟩) n c), (27, .int .i64 (k : Nat)), (28, .pointer (some ⟨b, off + k * 2, none⟩)), (29, .pointer (some ⟨b, off + k * 2, none⟩)), (30, .slice xA xn xc), (31, .bool false), (32, .bool true), (33, .bool true), (34, .bool true), (35, undef), (36, undef), (37, undef), (38, undef), (39, undef), (40, undef), (41, undef), (42, undef), (43, undef), (44, undef), (45, undef), (46, undef), (47, undef), (48, undef), (49, undef), (50, undef), (51, undef), (52, .bool true)] 53 rfl (by kernel_rfl) ?_ ?_
          · intro F hF w' hB
            have j0 := (hB.cell (p := ⟨b, off + k * 2, none⟩) l0).trans d0.out
            have j1 := (hB.cell (p := ⟨b, off + k * 2 + 1, none⟩) l0).trans d1.out
            have ix := Hx.out.after hB
            refine ⟨?_, ?_, ?_, ?_, ?_, ?_, ?_, ?_, ?_, ?_, ?_, ?_, ?_, ?_, ?_, ?_, ?_, ?_, ?_, ?_, ?_, ?_, ?_, ?_, ?_, ?_, ?_, ?_, ?_, ?_, ?_, ?_, ?_, ?_, ?_, ?_, ?_, ?_, ?_, ?_, ?_, ?_, ?_, trivial⟩
            · exact Reg.doesV_val (ev_move rfl) (by rw [hF]; kernel_rfl) (by rw [hF]; kernel_rfl)
            · exact Reg.doesV_val (ev_move rfl) (by rw [hF]; kernel_rfl) (by rw [hF]; kernel_rfl)
            · exact Reg.doesV_val (ev_idxC (b := b) (off := off) (n := n) (c := c) (k := k) hlt rfl (by rw [hF]; kernel_rfl) (by rw [hF]; kernel_rfl)) (by rw [hF]; kernel_rfl) (by rw [hF]; kernel_rfl)
            · exact Reg.doesV_val (ev_c1 (b := b) (off := off + k * 2) rfl (by rw [hF]; kernel_rfl)) (by rw [hF]; kernel_rfl) (by rw [hF]; kernel_rfl)
            · exact Reg.doesV_val (ev_ldI (k := N) j1 rfl (by rw [hF]; kernel_rfl)) (by rw [hF]; kernel_rfl) (by rw [hF]; kernel_rfl)
            · exact Reg.doesV_val (by rw [ev_eqC5 N 0 rfl (by rw [hF]; kernel_rfl), hN0]) (by rw [hF]; kernel_rfl) (by rw [hF]; kernel_rfl)
            · exact Reg.doesV_val (ev_move rfl) (by rw [hF]; kernel_rfl) (by rw [hF]; kernel_rfl)
            · exact Reg.doesV_val (ev_move rfl) (by rw [hF]; kernel_rfl) (by rw [hF]; kernel_rfl)
            · exact Reg.doesV_val (ev_move rfl) (by rw [hF]; kernel_rfl) (by rw [hF]; kernel_rfl)
            · exact Reg.doesV_val (ev_idxC (b := b) (off := off) (n := n) (c := c) (k := k) hlt rfl (by rw [hF]; kernel_rfl) (by rw [hF]; kernel_rfl)) (by rw [hF]; kernel_rfl) (by rw [hF]; kernel_rfl)
            · exact Reg.doesV_val (ev_c1 (b := b) (off := off + k * 2) rfl (by rw [hF]; kernel_rfl)) (by rw [hF]; kernel_rfl) (by rw [hF]; kernel_rfl)
            · exact Reg.doesV_val (ev_ldI (k := N) j1 rfl (by rw [hF]; kernel_rfl)) (by rw [hF]; kernel_rfl) (by rw [hF]; kernel_rfl)
            · exact Reg.doesV_call (by have h := fits5_c N w'; rw [hF1] at h; exact h) (ev_call enRFits rfl (by rw [hF]; kernel_rfl)) (by rw [hF]; kernel_rfl) (by rw [hF]; kernel_rfl)
            · exact Reg.doesV_val (ev_not true rfl (by rw [hF]; kernel_rfl)) (by rw [hF]; kernel_rfl) (by rw [hF]; kernel_rfl)
            · exact Reg.doesV_val (ev_pick false rfl (by rw [hF]; kernel_rfl)) (by rw [hF]; kernel_rfl) (by rw [hF]; kernel_rfl)
            · exact Reg.doesV_val (ev_move rfl) (by rw [hF]; kernel_rfl) (by rw [hF]; kernel_rfl)
            · exact Reg.doesV_val (ev_move rfl) (by rw [hF]; kernel_rfl) (by rw [hF]; kernel_rfl)
            · exact Reg.doesV_val (ev_move rfl) (by rw [hF]; kernel_rfl) (by rw [hF]; kernel_rfl)
            · exact Reg.doesV_val (ev_idxC (b := b) (off := off) (n := n) (c := c) (k := k) hlt rfl (by rw [hF]; kernel_rfl) (by rw [hF]; kernel_rfl)) (by rw [hF]; kernel_rfl) (by rw [hF]; kernel_rfl)
            · exact Reg.doesV_val (ev_c0 (b := b) (off := off + k * 2) rfl (by rw [hF]; kernel_rfl)) (by rw [hF]; kernel_rfl) (by rw [hF]; kernel_rfl)
            · exact Reg.doesV_val (ev_ldR (A := xA) (n := xn) (c := xc) j0 rfl (by rw [hF]; kernel_rfl)) (by rw [hF]; kernel_rfl) (by rw [hF]; kernel_rfl)
            · exact Reg.doesV_call (by have h := rmayRow_c xA xn xc xs w' ix.hd.len ix.hd.max ix.hd.sl ix.sz; rw [rmay_mayR, hM] at h; exact h) (ev_call enR4May rfl (by rw [hF]; kernel_rfl)) (by rw [hF]; kernel_rfl) (by rw [hF]; kernel_rfl)
            · exact Reg.doesV_val (ev_not false rfl (by rw [hF]; kernel_rfl)) (by rw [hF]; kernel_rfl) (by rw [hF]; kernel_rfl)
            · exact Reg.doesV_val (ev_pick false rfl (by rw [hF]; kernel_rfl)) (by rw [hF]; kernel_rfl) (by rw [hF]; kernel_rfl)
            · exact Reg.doesV_val (ev_move rfl) (by rw [hF]; kernel_rfl) (by rw [hF]; kernel_rfl)
            · exact Reg.doesV_skip (by rw [hF]; kernel_rfl) (by rw [hF]; kernel_rfl)
            · exact Reg.doesV_skip (by rw [hF]; kernel_rfl) (by rw [hF]; kernel_rfl)
            · exact Reg.doesV_skip (by rw [hF]; kernel_rfl) (by rw [hF]; kernel_rfl)
            · exact Reg.doesV_skip (by rw [hF]; kernel_rfl) (by rw [hF]; kernel_rfl)
            · exact Reg.doesV_skip (by rw [hF]; kernel_rfl) (by rw [hF]; kernel_rfl)
            · exact Reg.doesV_skip (by rw [hF]; kernel_rfl) (by rw [hF]; kernel_rfl)
            · exact Reg.doesV_skip (by rw [hF]; kernel_rfl) (by rw [hF]; kernel_rfl)
            · exact Reg.doesV_skip (by rw [hF]; kernel_rfl) (by rw [hF]; kernel_rfl)
            · exact Reg.doesV_skip (by rw [hF]; kernel_rfl) (by rw [hF]; kernel_rfl)
            · exact Reg.doesV_skip (by rw [hF]; kernel_rfl) (by rw [hF]; kernel_rfl)
            · exact Reg.doesV_skip (by rw [hF]; kernel_rfl) (by rw [hF]; kernel_rfl)
            · exact Reg.doesV_skip (by rw [hF]; kernel_rfl) (by rw [hF]; kernel_rfl)
            · exact Reg.doesV_skip (by rw [hF]; kernel_rfl) (by rw [hF]; kernel_rfl)
            · exact Reg.doesV_skip (by rw [hF]; kernel_rfl) (by rw [hF]; kernel_rfl)
            · exact Reg.doesV_skip (by rw [hF]; kernel_rfl) (by rw [hF]; kernel_rfl)
            · exact Reg.doesV_skip (by rw [hF]; kernel_rfl) (by rw [hF]; kernel_rfl)
            · exact Reg.doesV_skip (by rw [hF]; kernel_rfl) (by rw [hF]; kernel_rfl)
            · exact Reg.doesV_val (ev_pick true rfl (by rw [hF]; kernel_rfl)) (by rw [hF]; kernel_rfl) (by rw [hF]; kernel_rfl)
          · intro w8 hB
            simp only [Reg.putAll, Act.put, List.setIfInBounds_toArray, List.set_cons_zero, List.set_cons_succ]
            have Hb2 := Lib.hid (hb.out.trans (hB.mono hb.out.size))
            clear hB
            go_wp2
            go_ret
            exact ⟨congrArg (fun z => Ending.returned (Value.bool z)) Hst2.out, Hb2.out⟩
        · cases hk0 : decide (0 < (k : Int))
          · have hk1 : k = 0 := by have := of_decide_eq_false hk0; omega
            have hp0 : prevOf (pl cs) k = none := by rw [hk1]; rfl
            have Hst2 : Hid (mayFrom (prevOf (pl cs) (k + 1)) ((pl cs).drop (k + 1)) = R) := by
             have := Hst.out
             rw [okC_and] at this
             simp only [hN0, hF1, hM, hp0, Bool.not_false, Bool.true_and] at this
             exact Lib.hid this
            clear Hst
            clear hp0 hk1
            refine Reg.wp_region_vals mixed (by kernel_rfl) [(10, .slice (some ⟨b, off, none⟩) n c), (11, .int .i64 (k : Nat)), (12, .pointer (some ⟨b, off + k * 2, none⟩)), (13, .pointer (some ⟨b, off + k * 2 + 1, none⟩)), (14, .int .i64 N), (15, .bool false), (16, .bool false), (17, .slice (some ⟨b, off, none⟩) n c), (18, .int .i64 (k : Nat)), (19, .pointer (some ⟨b, off + k * 2, none⟩)), (20, .pointer (some ⟨b, off + k * 2 + 1, none⟩)), (21, .int .i64 N), (22, .bool true), (23, .bool false), (24, .bool false), (25, .bool false), (26, .slice (some ⟨b, off, none⟩) n c), (27, .int .i64 (k : Nat)), (28, .pointer (some ⟨b, off + k * 2, none⟩)), (29, .pointer (some ⟨b, off + k * 2, none⟩)), (30, .slice xA xn xc), (31, .bool true), (32, .bool false), (33, .bool false), (34, .bool false), (35, .int .i64 (k : Nat)), (36, .bool false), (37, .bool false), (38, undef), (39, undef), (40, undef), (41, undef), (42, undef), (43, undef), (44, undef), (45, undef), (46, undef), (47, undef), (48, undef), (49, undef), (50, undef), (51, .bool false), (52, .bool false)] 53 rfl (by kernel_rfl) ?_ ?_
            · intro F hF w' hB
              have j0 := (hB.cell (p := ⟨b, off + k * 2, none⟩) l0).trans d0.out
              have j1 := (hB.cell (p := ⟨b, off + k * 2 + 1, none⟩) l0).trans d1.out
              have ix := Hx.out.after hB
              refine ⟨?_, ?_, ?_, ?_, ?_, ?_, ?_, ?_, ?_, ?_, ?_, ?_, ?_, ?_, ?_, ?_, ?_, ?_, ?_, ?_, ?_, ?_, ?_, ?_, ?_, ?_, ?_, ?_, ?_, ?_, ?_, ?_, ?_, ?_, ?_, ?_, ?_, ?_, ?_, ?_, ?_, ?_, ?_, trivial⟩
              · exact Reg.doesV_val (ev_move rfl) (by rw [hF]; kernel_rfl) (by rw [hF]; kernel_rfl)
              · exact Reg.doesV_val (ev_move rfl) (by rw [hF]; kernel_rfl) (by rw [hF]; kernel_rfl)
              · exact Reg.doesV_val (ev_idxC (b := b) (off := off) (n := n) (c := c) (k := k) hlt rfl (by rw [hF]; kernel_rfl) (by rw [hF]; kernel_rfl)) (by rw [hF]; kernel_rfl) (by rw [hF]; kernel_rfl)
              · exact Reg.doesV_val (ev_c1 (b := b) (off := off + k * 2) rfl (by rw [hF]; kernel_rfl)) (by rw [hF]; kernel_rfl) (by rw [hF]; kernel_rfl)
              · exact Reg.doesV_val (ev_ldI (k := N) j1 rfl (by rw [hF]; kernel_rfl)) (by rw [hF]; kernel_rfl) (by rw [hF]; kernel_rfl)
              · exact Reg.doesV_val (by rw [ev_eqC5 N 0 rfl (by rw [hF]; kernel_rfl), hN0]) (by rw [hF]; kernel_rfl) (by rw [hF]; kernel_rfl)
              · exact Reg.doesV_val (ev_move rfl) (by rw [hF]; kernel_rfl) (by rw [hF]; kernel_rfl)
              · exact Reg.doesV_val (ev_move rfl) (by rw [hF]; kernel_rfl) (by rw [hF]; kernel_rfl)
              · exact Reg.doesV_val (ev_move rfl) (by rw [hF]; kernel_rfl) (by rw [hF]; kernel_rfl)
              · exact Reg.doesV_val (ev_idxC (b := b) (off := off) (n := n) (c := c) (k := k) hlt rfl (by rw [hF]; kernel_rfl) (by rw [hF]; kernel_rfl)) (by rw [hF]; kernel_rfl) (by rw [hF]; kernel_rfl)
              · exact Reg.doesV_val (ev_c1 (b := b) (off := off + k * 2) rfl (by rw [hF]; kernel_rfl)) (by rw [hF]; kernel_rfl) (by rw [hF]; kernel_rfl)
              · exact Reg.doesV_val (ev_ldI (k := N) j1 rfl (by rw [hF]; kernel_rfl)) (by rw [hF]; kernel_rfl) (by rw [hF]; kernel_rfl)
              · exact Reg.doesV_call (by have h := fits5_c N w'; rw [hF1] at h; exact h) (ev_call enRFits rfl (by rw [hF]; kernel_rfl)) (by rw [hF]; kernel_rfl) (by rw [hF]; kernel_rfl)
              · exact Reg.doesV_val (ev_not true rfl (by rw [hF]; kernel_rfl)) (by rw [hF]; kernel_rfl) (by rw [hF]; kernel_rfl)
              · exact Reg.doesV_val (ev_pick false rfl (by rw [hF]; kernel_rfl)) (by rw [hF]; kernel_rfl) (by rw [hF]; kernel_rfl)
              · exact Reg.doesV_val (ev_move rfl) (by rw [hF]; kernel_rfl) (by rw [hF]; kernel_rfl)
              · exact Reg.doesV_val (ev_move rfl) (by rw [hF]; kernel_rfl) (by rw [hF]; kernel_rfl)
              · exact Reg.doesV_val (ev_move rfl) (by rw [hF]; kernel_rfl) (by rw [hF]; kernel_rfl)
              · exact Reg.doesV_val (ev_idxC (b := b) (off := off) (n := n) (c := c) (k := k) hlt rfl (by rw [hF]; kernel_rfl) (by rw [hF]; kernel_rfl)) (by rw [hF]; kernel_rfl) (by rw [hF]; kernel_rfl)
              · exact Reg.doesV_val (ev_c0 (b := b) (off := off + k * 2) rfl (by rw [hF]; kernel_rfl)) (by rw [hF]; kernel_rfl) (by rw [hF]; kernel_rfl)
              · exact Reg.doesV_val (ev_ldR (A := xA) (n := xn) (c := xc) j0 rfl (by rw [hF]; kernel_rfl)) (by rw [hF]; kernel_rfl) (by rw [hF]; kernel_rfl)
              · exact Reg.doesV_call (by have h := rmayRow_c xA xn xc xs w' ix.hd.len ix.hd.max ix.hd.sl ix.sz; rw [rmay_mayR, hM] at h; exact h) (ev_call enR4May rfl (by rw [hF]; kernel_rfl)) (by rw [hF]; kernel_rfl) (by rw [hF]; kernel_rfl)
              · exact Reg.doesV_val (ev_not true rfl (by rw [hF]; kernel_rfl)) (by rw [hF]; kernel_rfl) (by rw [hF]; kernel_rfl)
              · exact Reg.doesV_val (ev_pick false rfl (by rw [hF]; kernel_rfl)) (by rw [hF]; kernel_rfl) (by rw [hF]; kernel_rfl)
              · exact Reg.doesV_val (ev_move rfl) (by rw [hF]; kernel_rfl) (by rw [hF]; kernel_rfl)
              · exact Reg.doesV_val (ev_move rfl) (by rw [hF]; kernel_rfl) (by rw [hF]; kernel_rfl)
              · exact Reg.doesV_val (by rw [ev_gtC5 (k : Int) 0 rfl (by rw [hF]; kernel_rfl), hk0]) (by rw [hF]; kernel_rfl) (by rw [hF]; kernel_rfl)
              · exact Reg.doesV_val (ev_move rfl) (by rw [hF]; kernel_rfl) (by rw [hF]; kernel_rfl)
              · exact Reg.doesV_skip (by rw [hF]; kernel_rfl) (by rw [hF]; kernel_rfl)
              · exact Reg.doesV_skip (by rw [hF]; kernel_rfl) (by rw [hF]; kernel_rfl)
              · exact Reg.doesV_skip (by rw [hF]; kernel_rfl) (by rw [hF]; kernel_rfl)
              · exact Reg.doesV_skip (by rw [hF]; kernel_rfl) (by rw [hF]; kernel_rfl)
              · exact Reg.doesV_skip (by rw [hF]; kernel_rfl) (by rw [hF]; kernel_rfl)
              · exact Reg.doesV_skip (by rw [hF]; kernel_rfl) (by rw [hF]; kernel_rfl)
              · exact Reg.doesV_skip (by rw [hF]; kernel_rfl) (by rw [hF]; kernel_rfl)
              · exact Reg.doesV_skip (by rw [hF]; kernel_rfl) (by rw [hF]; kernel_rfl)
              · exact Reg.doesV_skip (by rw [hF]; kernel_rfl) (by rw [hF]; kernel_rfl)
              · exact Reg.doesV_skip (by rw [hF]; kernel_rfl) (by rw [hF]; kernel_rfl)
              · exact Reg.doesV_skip (by rw [hF]; kernel_rfl) (by rw [hF]; kernel_rfl)
              · exact Reg.doesV_skip (by rw [hF]; kernel_rfl) (by rw [hF]; kernel_rfl)
              · exact Reg.doesV_skip (by rw [hF]; kernel_rfl) (by rw [hF]; kernel_rfl)
              · exact Reg.doesV_val (ev_pick false rfl (by rw [hF]; kernel_rfl)) (by rw [hF]; kernel_rfl) (by rw [hF]; kernel_rfl)
              · exact Reg.doesV_val (ev_pick false rfl (by rw [hF]; kernel_rfl)) (by rw [hF]; kernel_rfl) (by rw [hF]; kernel_rfl)
            · intro w8 hB
              simp only [Reg.putAll, Act.put, List.setIfInBounds_toArray, List.set_cons_zero, List.set_cons_succ]
              have Hb2 := Lib.hid (hb.out.trans (hB.mono hb.out.size))
              clear hB
              go_wp2
              go_roundw
              case rel => exact ⟨k + 1, by omega, by go_num, Hb2, Hst2⟩
              case measure => simp [intOf]; omega
          · obtain ⟨j, hkj⟩ : ∃ j, k = j + 1 := ⟨k - 1, by have := of_decide_eq_true hk0; omega⟩
            have hjn : j < n := by omega
            have hjx : k ≤ 9223372036854775807 := by omega
            obtain ⟨⟨⟨yA, yn, yc, ys⟩, yN⟩, hp, hy, dq⟩ := hprev.out j hkj
            have Hy := Lib.hid hy
            have dq := Lib.hid dq
            clear hy
            cases hC : decide (0 ≤ cmpL ys xs)
            · have hC2 : decide (cmpL ys xs < 0) = true := by have := of_decide_eq_false hC; exact decide_eq_true (by omega)
              have Hst2 : Hid (mayFrom (prevOf (pl cs) (k + 1)) ((pl cs).drop (k + 1)) = R) := by
               have := Hst.out
               rw [okC_and] at this
               simp only [hN0, hF1, hM, hp, hC2, Bool.not_false, Bool.true_and] at this
               exact Lib.hid this
              clear Hst
              clear hp hC2
              refine Reg.wp_region_vals mixed (by kernel_rfl) [(10, .slice (some ⟨b, off, none⟩) n c), (11, .int .i64 (k : Nat)), (12, .pointer (some ⟨b, off + k * 2, none⟩)), (13, .pointer (some ⟨b, off + k * 2 + 1, none⟩)), (14, .int .i64 N), (15, .bool false), (16, .bool false), (17, .slice (some ⟨b, off, none⟩) n c), (18, .int .i64 (k : Nat)), (19, .pointer (some ⟨b, off + k * 2, none⟩)), (20, .pointer (some ⟨b, off + k * 2 + 1, none⟩)), (21, .int .i64 N), (22, .bool true), (23, .bool false), (24, .bool false), (25, .bool false), (26, .slice (some ⟨b, off, none⟩) n c), (27, .int .i64 (k : Nat)), (28, .pointer (some ⟨b, off + k * 2, none⟩)), (29, .pointer (some ⟨b, off + k * 2, none⟩)), (30, .slice xA xn xc), (31, .bool true), (32, .bool false), (33, .bool false), (34, .bool false), (35, .int .i64 (k : Nat)), (36, .bool true), (37, .bool true), (38, .slice (some ⟨b, off, none⟩) n c), (39, .int .i64 (k : Nat)), (40, .int .i64 (j : Nat)), (41, .pointer (some ⟨b, off + j * 2, none⟩)), (42, .pointer (some ⟨b, off + j * 2, none⟩)), (43, .slice yA yn yc), (44, .slice (some ⟨b, off, none⟩) n c), (45, .int .i64 (k : Nat)), (46, .pointer (some ⟨b, off + k * 2, none⟩)), (47, .pointer (some ⟨b, off + k * 2, none⟩)), (48, .slice xA xn xc), (49, .int .i64 (cmpL ys xs)), (50, .bool false), (51, .bool false), (52, .bool false)] 53 rfl (by kernel_rfl) ?_ ?_
              · intro F hF w' hB
                have j0 := (hB.cell (p := ⟨b, off + k * 2, none⟩) l0).trans d0.out
                have j1 := (hB.cell (p := ⟨b, off + k * 2 + 1, none⟩) l0).trans d1.out
                have ix := Hx.out.after hB
                have q0 := (hB.cell (p := ⟨b, off + j * 2, none⟩) l0).trans dq.out
                have iy := Hy.out.after hB
                refine ⟨?_, ?_, ?_, ?_, ?_, ?_, ?_, ?_, ?_, ?_, ?_, ?_, ?_, ?_, ?_, ?_, ?_, ?_, ?_, ?_, ?_, ?_, ?_, ?_, ?_, ?_, ?_, ?_, ?_, ?_, ?_, ?_, ?_, ?_, ?_, ?_, ?_, ?_, ?_, ?_, ?_, ?_, ?_, trivial⟩
                · exact Reg.doesV_val (ev_move rfl) (by rw [hF]; kernel_rfl) (by rw [hF]; kernel_rfl)
                · exact Reg.doesV_val (ev_move rfl) (by rw [hF]; kernel_rfl) (by rw [hF]; kernel_rfl)
                · exact Reg.doesV_val (ev_idxC (b := b) (off := off) (n := n) (c := c) (k := k) hlt rfl (by rw [hF]; kernel_rfl) (by rw [hF]; kernel_rfl)) (by rw [hF]; kernel_rfl) (by rw [hF]; kernel_rfl)
                · exact Reg.doesV_val (ev_c1 (b := b) (off := off + k * 2) rfl (by rw [hF]; kernel_rfl)) (by rw [hF]; kernel_rfl) (by rw [hF]; kernel_rfl)
                · exact Reg.doesV_val (ev_ldI (k := N) j1 rfl (by rw [hF]; kernel_rfl)) (by rw [hF]; kernel_rfl) (by rw [hF]; kernel_rfl)
                · exact Reg.doesV_val (by rw [ev_eqC5 N 0 rfl (by rw [hF]; kernel_rfl), hN0]) (by rw [hF]; kernel_rfl) (by rw [hF]; kernel_rfl)
                · exact Reg.doesV_val (ev_move rfl) (by rw [hF]; kernel_rfl) (by rw [hF]; kernel_rfl)
                · exact Reg.doesV_val (ev_move rfl) (by rw [hF]; kernel_rfl) (by rw [hF]; kernel_rfl)
                · exact Reg.doesV_val (ev_move rfl) (by rw [hF]; kernel_rfl) (by rw [hF]; kernel_rfl)
                · exact Reg.doesV_val (ev_idxC (b := b) (off := off) (n := n) (c := c) (k := k) hlt rfl (by rw [hF]; kernel_rfl) (by rw [hF]; kernel_rfl)) (by rw [hF]; kernel_rfl) (by rw [hF]; kernel_rfl)
                · exact Reg.doesV_val (ev_c1 (b := b) (off := off + k * 2) rfl (by rw [hF]; kernel_rfl)) (by rw [hF]; kernel_rfl) (by rw [hF]; kernel_rfl)
                · exact Reg.doesV_val (ev_ldI (k := N) j1 rfl (by rw [hF]; kernel_rfl)) (by rw [hF]; kernel_rfl) (by rw [hF]; kernel_rfl)
                · exact Reg.doesV_call (by have h := fits5_c N w'; rw [hF1] at h; exact h) (ev_call enRFits rfl (by rw [hF]; kernel_rfl)) (by rw [hF]; kernel_rfl) (by rw [hF]; kernel_rfl)
                · exact Reg.doesV_val (ev_not true rfl (by rw [hF]; kernel_rfl)) (by rw [hF]; kernel_rfl) (by rw [hF]; kernel_rfl)
                · exact Reg.doesV_val (ev_pick false rfl (by rw [hF]; kernel_rfl)) (by rw [hF]; kernel_rfl) (by rw [hF]; kernel_rfl)
                · exact Reg.doesV_val (ev_move rfl) (by rw [hF]; kernel_rfl) (by rw [hF]; kernel_rfl)
                · exact Reg.doesV_val (ev_move rfl) (by rw [hF]; kernel_rfl) (by rw [hF]; kernel_rfl)
                · exact Reg.doesV_val (ev_move rfl) (by rw [hF]; kernel_rfl) (by rw [hF]; kernel_rfl)
                · exact Reg.doesV_val (ev_idxC (b := b) (off := off) (n := n) (c := c) (k := k) hlt rfl (by rw [hF]; kernel_rfl) (by rw [hF]; kernel_rfl)) (by rw [hF]; kernel_rfl) (by rw [hF]; kernel_rfl)
                · exact Reg.doesV_val (ev_c0 (b := b) (off := off + k * 2) rfl (by rw [hF]; kernel_rfl)) (by rw [hF]; kernel_rfl) (by rw [hF]; kernel_rfl)
                · exact Reg.doesV_val (ev_ldR (A := xA) (n := xn) (c := xc) j0 rfl (by rw [hF]; kernel_rfl)) (by rw [hF]; kernel_rfl) (by rw [hF]; kernel_rfl)
                · exact Reg.doesV_call (by have h := rmayRow_c xA xn xc xs w' ix.hd.len ix.hd.max ix.hd.sl ix.sz; rw [rmay_mayR, hM] at h; exact h) (ev_call enR4May rfl (by rw [hF]; kernel_rfl)) (by rw [hF]; kernel_rfl) (by rw [hF]; kernel_rfl)
                · exact Reg.doesV_val (ev_not true rfl (by rw [hF]; kernel_rfl)) (by rw [hF]; kernel_rfl) (by rw [hF]; kernel_rfl)
                · exact Reg.doesV_val (ev_pick false rfl (by rw [hF]; kernel_rfl)) (by rw [hF]; kernel_rfl) (by rw [hF]; kernel_rfl)
                · exact Reg.doesV_val (ev_move rfl) (by rw [hF]; kernel_rfl) (by rw [hF]; kernel_rfl)
                · exact Reg.doesV_val (ev_move rfl) (by rw [hF]; kernel_rfl) (by rw [hF]; kernel_rfl)
                · exact Reg.doesV_val (by rw [ev_gtC5 (k : Int) 0 rfl (by rw [hF]; kernel_rfl), hk0]) (by rw [hF]; kernel_rfl) (by rw [hF]; kernel_rfl)
                · exact Reg.doesV_val (ev_move rfl) (by rw [hF]; kernel_rfl) (by rw [hF]; kernel_rfl)
                · exact Reg.doesV_val (ev_move rfl) (by rw [hF]; kernel_rfl) (by rw [hF]; kernel_rfl)
                · exact Reg.doesV_val (ev_move rfl) (by rw [hF]; kernel_rfl) (by rw [hF]; kernel_rfl)
                · exact Reg.doesV_val (ev_dec5 k j hkj hjx rfl (by rw [hF]; kernel_rfl)) (by rw [hF]; kernel_rfl) (by rw [hF]; kernel_rfl)
                · exact Reg.doesV_val (ev_idxC (b := b) (off := off) (n := n) (c := c) (k := j) hjn rfl (by rw [hF]; kernel_rfl) (by rw [hF]; kernel_rfl)) (by rw [hF]; kernel_rfl) (by rw [hF]; kernel_rfl)
                · exact Reg.doesV_val (ev_c0 (b := b) (off := off + j * 2) rfl (by rw [hF]; kernel_rfl)) (by rw [hF]; kernel_rfl) (by rw [hF]; kernel_rfl)
                · exact Reg.doesV_val (ev_ldR (A := yA) (n := yn) (c := yc) q0 rfl (by rw [hF]; kernel_rfl)) (by rw [hF]; kernel_rfl) (by rw [hF]; kernel_rfl)
                · exact Reg.doesV_val (ev_move rfl) (by rw [hF]; kernel_rfl) (by rw [hF]; kernel_rfl)
                · exact Reg.doesV_val (ev_move rfl) (by rw [hF]; kernel_rfl) (by rw [hF]; kernel_rfl)
                · exact Reg.doesV_val (ev_idxC (b := b) (off := off) (n := n) (c := c) (k := k) hlt rfl (by rw [hF]; kernel_rfl) (by rw [hF]; kernel_rfl)) (by rw [hF]; kernel_rfl) (by rw [hF]; kernel_rfl)
                · exact Reg.doesV_val (ev_c0 (b := b) (off := off + k * 2) rfl (by rw [hF]; kernel_rfl)) (by rw [hF]; kernel_rfl) (by rw [hF]; kernel_rfl)
                · exact Reg.doesV_val (ev_ldR (A := xA) (n := xn) (c := xc) j0 rfl (by rw [hF]; kernel_rfl)) (by rw [hF]; kernel_rfl) (by rw [hF]; kernel_rfl)
                · exact Reg.doesV_call (rcompareL_c yA xA yn xn yc xc ys xs w' iy.hd.len ix.hd.len iy.hd.max ix.hd.max iy.hd.sl ix.hd.sl) (ev_call enRCompareL rfl (by rw [hF]; kernel_rfl)) (by rw [hF]; kernel_rfl) (by rw [hF]; kernel_rfl)
                · exact Reg.doesV_val (by rw [ev_geC5 (cmpL ys xs) 0 rfl (by rw [hF]; kernel_rfl), hC]) (by rw [hF]; kernel_rfl) (by rw [hF]; kernel_rfl)
                · exact Reg.doesV_val (ev_pick true rfl (by rw [hF]; kernel_rfl)) (by rw [hF]; kernel_rfl) (by rw [hF]; kernel_rfl)
                · exact Reg.doesV_val (ev_pick false rfl (by rw [hF]; kernel_rfl)) (by rw [hF]; kernel_rfl) (by rw [hF]; kernel_rfl)
              · intro w8 hB
                simp only [Reg.putAll, Act.put, List.setIfInBounds_toArray, List.set_cons_zero, List.set_cons_succ]
                have Hb2 := Lib.hid (hb.out.trans (hB.mono hb.out.size))
                clear hB
                go_wp2
                go_roundw
                case rel => exact ⟨k + 1, by omega, by go_num, Hb2, Hst2⟩
                case measure => simp [intOf]; omega
            · have hC2 : decide (cmpL ys xs < 0) = false := by have := of_decide_eq_true hC; exact decide_eq_false (by omega)
              have Hst2 : Hid (false = R) := by
               have := Hst.out
               rw [okC_and] at this
               simp only [hN0, hF1, hM, hp, hC2, Bool.not_false, Bool.true_and, Bool.false_and] at this
               exact Lib.hid this
              clear Hst
              clear hp hC2
              refine Reg.wp_region_vals mixed (by kernel_rfl) [(10, .slice (some ⟨b, off, none⟩) n c), (11, .int .i64 (k : Nat)), (12, .pointer (some ⟨b, off + k * 2, none⟩)), (13, .pointer (some ⟨b, off + k * 2 + 1, none⟩)), (14, .int .i64 N), (15, .bool false), (16, .bool false), (17, .slice (some ⟨b, off, none⟩) n c), (18, .int .i64 (k : Nat)), (19, .pointer (some ⟨b, off + k * 2, none⟩)), (20, .pointer (some ⟨b, off + k * 2 + 1, none⟩)), (21, .int .i64 N), (22, .bool true), (23, .bool false), (24, .bool false), (25, .bool false), (26, .slice (some ⟨b, off, none⟩) n c), (27, .int .i64 (k : Nat)), (28, .pointer (some ⟨b, off + k * 2, none⟩)), (29, .pointer (some ⟨b, off + k * 2, none⟩)), (30, .slice xA xn xc), (31, .bool true), (32, .bool false), (33, .bool false), (34, .bool false), (35, .int .i64 (k : Nat)), (36, .bool true), (37, .bool true), (38, .slice (some ⟨b, off, none⟩) n c), (39, .int .i64 (k : Nat)), (40, .int .i64 (j : Nat)), (41, .pointer (some ⟨b, off + j * 2, none⟩)), (42, .pointer (some ⟨b, off + j * 2, none⟩)), (43, .slice yA yn yc), (44, .slice (some ⟨b, off, none⟩) n c), (45, .int .i64 (k : Nat)), (46, .pointer (some ⟨b, off + k * 2, none⟩)), (47, .pointer (some ⟨b, off + k * 2, none⟩)), (48, .slice xA xn xc), (49, .int .i64 (cmpL ys xs)), (50, .bool true), (51, .bool true), (52, .bool true)] 53 rfl (by kernel_rfl) ?_ ?_
              · intro F hF w' hB
                have j0 := (hB.cell (p := ⟨b, off + k * 2, none⟩) l0).trans d0.out
                have j1 := (hB.cell (p := ⟨b, off + k * 2 + 1, none⟩) l0).trans d1.out
                have ix := Hx.out.after hB
                have q0 := (hB.cell (p := ⟨b, off + j * 2, none⟩) l0).trans dq.out
                have iy := Hy.out.after hB
                refine ⟨?_, ?_, ?_, ?_, ?_, ?_, ?_, ?_, ?_, ?_, ?_, ?_, ?_, ?_, ?_, ?_, ?_, ?_, ?_, ?_, ?_, ?_, ?_, ?_, ?_, ?_, ?_, ?_, ?_, ?_, ?_, ?_, ?_, ?_, ?_, ?_, ?_, ?_, ?_, ?_, ?_, ?_, ?_, trivial⟩
                · exact Reg.doesV_val (ev_move rfl) (by rw [hF]; kernel_rfl) (by rw [hF]; kernel_rfl)
                · exact Reg.doesV_val (ev_move rfl) (by rw [hF]; kernel_rfl) (by rw [hF]; kernel_rfl)
                · exact Reg.doesV_val (ev_idxC (b := b) (off := off) (n := n) (c := c) (k := k) hlt rfl (by rw [hF]; kernel_rfl) (by rw [hF]; kernel_rfl)) (by rw [hF]; kernel_rfl) (by rw [hF]; kernel_rfl)
                · exact Reg.doesV_val (ev_c1 (b := b) (off := off + k * 2) rfl (by rw [hF]; kernel_rfl)) (by rw [hF]; kernel_rfl) (by rw [hF]; kernel_rfl)
                · exact Reg.doesV_val (ev_ldI (k := N) j1 rfl (by rw [hF]; kernel_rfl)) (by rw [hF]; kernel_rfl) (by rw [hF]; kernel_rfl)
                · exact Reg.doesV_val (by rw [ev_eqC5 N 0 rfl (by rw [hF]; kernel_rfl), hN0]) (by rw [hF]; kernel_rfl) (by rw [hF]; kernel_rfl)
                · exact Reg.doesV_val (ev_move rfl) (by rw [hF]; kernel_rfl) (by rw [hF]; kernel_rfl)
                · exact Reg.doesV_val (ev_move rfl) (by rw [hF]; kernel_rfl) (by rw [hF]; kernel_rfl)
                · exact Reg.doesV_val (ev_move rfl) (by rw [hF]; kernel_rfl) (by rw [hF]; kernel_rfl)
                · exact Reg.doesV_val (ev_idxC (b := b) (off := off) (n := n) (c := c) (k := k) hlt rfl (by rw [hF]; kernel_rfl) (by rw [hF]; kernel_rfl)) (by rw [hF]; kernel_rfl) (by rw [hF]; kernel_rfl)
                · exact Reg.doesV_val (ev_c1 (b := b) (off := off + k * 2) rfl (by rw [hF]; kernel_rfl)) (by rw [hF]; kernel_rfl) (by rw [hF]; kernel_rfl)
                · exact Reg.doesV_val (ev_ldI (k := N) j1 rfl (by rw [hF]; kernel_rfl)) (by rw [hF]; kernel_rfl) (by rw [hF]; kernel_rfl)
                · exact Reg.doesV_call (by have h := fits5_c N w'; rw [hF1] at h; exact h) (ev_call enRFits rfl (by rw [hF]; kernel_rfl)) (by rw [hF]; kernel_rfl) (by rw [hF]; kernel_rfl)
                · exact Reg.doesV_val (ev_not true rfl (by rw [hF]; kernel_rfl)) (by rw [hF]; kernel_rfl) (by rw [hF]; kernel_rfl)
                · exact Reg.doesV_val (ev_pick false rfl (by rw [hF]; kernel_rfl)) (by rw [hF]; kernel_rfl) (by rw [hF]; kernel_rfl)
                · exact Reg.doesV_val (ev_move rfl) (by rw [hF]; kernel_rfl) (by rw [hF]; kernel_rfl)
                · exact Reg.doesV_val (ev_move rfl) (by rw [hF]; kernel_rfl) (by rw [hF]; kernel_rfl)
                · exact Reg.doesV_val (ev_move rfl) (by rw [hF]; kernel_rfl) (by rw [hF]; kernel_rfl)
                · exact Reg.doesV_val (ev_idxC (b := b) (off := off) (n := n) (c := c) (k := k) hlt rfl (by rw [hF]; kernel_rfl) (by rw [hF]; kernel_rfl)) (by rw [hF]; kernel_rfl) (by rw [hF]; kernel_rfl)
                · exact Reg.doesV_val (ev_c0 (b := b) (off := off + k * 2) rfl (by rw [hF]; kernel_rfl)) (by rw [hF]; kernel_rfl) (by rw [hF]; kernel_rfl)
                · exact Reg.doesV_val (ev_ldR (A := xA) (n := xn) (c := xc) j0 rfl (by rw [hF]; kernel_rfl)) (by rw [hF]; kernel_rfl) (by rw [hF]; kernel_rfl)
                · exact Reg.doesV_call (by have h := rmayRow_c xA xn xc xs w' ix.hd.len ix.hd.max ix.hd.sl ix.sz; rw [rmay_mayR, hM] at h; exact h) (ev_call enR4May rfl (by rw [hF]; kernel_rfl)) (by rw [hF]; kernel_rfl) (by rw [hF]; kernel_rfl)
                · exact Reg.doesV_val (ev_not true rfl (by rw [hF]; kernel_rfl)) (by rw [hF]; kernel_rfl) (by rw [hF]; kernel_rfl)
                · exact Reg.doesV_val (ev_pick false rfl (by rw [hF]; kernel_rfl)) (by rw [hF]; kernel_rfl) (by rw [hF]; kernel_rfl)
                · exact Reg.doesV_val (ev_move rfl) (by rw [hF]; kernel_rfl) (by rw [hF]; kernel_rfl)
                · exact Reg.doesV_val (ev_move rfl) (by rw [hF]; kernel_rfl) (by rw [hF]; kernel_rfl)
                · exact Reg.doesV_val (by rw [ev_gtC5 (k : Int) 0 rfl (by rw [hF]; kernel_rfl), hk0]) (by rw [hF]; kernel_rfl) (by rw [hF]; kernel_rfl)
                · exact Reg.doesV_val (ev_move rfl) (by rw [hF]; kernel_rfl) (by rw [hF]; kernel_rfl)
                · exact Reg.doesV_val (ev_move rfl) (by rw [hF]; kernel_rfl) (by rw [hF]; kernel_rfl)
                · exact Reg.doesV_val (ev_move rfl) (by rw [hF]; kernel_rfl) (by rw [hF]; kernel_rfl)
                · exact Reg.doesV_val (ev_dec5 k j hkj hjx rfl (by rw [hF]; kernel_rfl)) (by rw [hF]; kernel_rfl) (by rw [hF]; kernel_rfl)
                · exact Reg.doesV_val (ev_idxC (b := b) (off := off) (n := n) (c := c) (k := j) hjn rfl (by rw [hF]; kernel_rfl) (by rw [hF]; kernel_rfl)) (by rw [hF]; kernel_rfl) (by rw [hF]; kernel_rfl)
                · exact Reg.doesV_val (ev_c0 (b := b) (off := off + j * 2) rfl (by rw [hF]; kernel_rfl)) (by rw [hF]; kernel_rfl) (by rw [hF]; kernel_rfl)
                · exact Reg.doesV_val (ev_ldR (A := yA) (n := yn) (c := yc) q0 rfl (by rw [hF]; kernel_rfl)) (by rw [hF]; kernel_rfl) (by rw [hF]; kernel_rfl)
                · exact Reg.doesV_val (ev_move rfl) (by rw [hF]; kernel_rfl) (by rw [hF]; kernel_rfl)
                · exact Reg.doesV_val (ev_move rfl) (by rw [hF]; kernel_rfl) (by rw [hF]; kernel_rfl)
                · exact Reg.doesV_val (ev_idxC (b := b) (off := off) (n := n) (c := c) (k := k) hlt rfl (by rw [hF]; kernel_rfl) (by rw [hF]; kernel_rfl)) (by rw [hF]; kernel_rfl) (by rw [hF]; kernel_rfl)
                · exact Reg.doesV_val (ev_c0 (b := b) (off := off + k * 2) rfl (by rw [hF]; kernel_rfl)) (by rw [hF]; kernel_rfl) (by rw [hF]; kernel_rfl)
                · exact Reg.doesV_val (ev_ldR (A := xA) (n := xn) (c := xc) j0 rfl (by rw [hF]; kernel_rfl)) (by rw [hF]; kernel_rfl) (by rw [hF]; kernel_rfl)
                · exact Reg.doesV_call (rcompareL_c yA xA yn xn yc xc ys xs w' iy.hd.len ix.hd.len iy.hd.max ix.hd.max iy.hd.sl ix.hd.sl) (ev_call enRCompareL rfl (by rw [hF]; kernel_rfl)) (by rw [hF]; kernel_rfl) (by rw [hF]; kernel_rfl)
                · exact Reg.doesV_val (by rw [ev_geC5 (cmpL ys xs) 0 rfl (by rw [hF]; kernel_rfl), hC]) (by rw [hF]; kernel_rfl) (by rw [hF]; kernel_rfl)
                · exact Reg.doesV_val (ev_pick true rfl (by rw [hF]; kernel_rfl)) (by rw [hF]; kernel_rfl) (by rw [hF]; kernel_rfl)
                · exact Reg.doesV_val (ev_pick false rfl (by rw [hF]; kernel_rfl)) (by rw [hF]; kernel_rfl) (by rw [hF]; kernel_rfl)
              · intro w8 hB
                simp only [Reg.putAll, Act.put, List.setIfInBounds_toArray, List.set_cons_zero, List.set_cons_succ]
                have Hb2 := Lib.hid (hb.out.trans (hB.mono hb.out.size))
                clear hB
                go_wp2
                go_ret
                exact ⟨congrArg (fun z => Ending.returned (Value.bool z)) Hst2.out, Hb2.out⟩
    · have Hst2 : Hid (false = R) := by
       have := Hst.out
       rw [okC_and] at this
       simp only [hN0, Bool.not_true, Bool.false_and] at this
       exact Lib.hid this
      clear Hst
      refine Reg.wp_region_vals mixed (by kernel_rfl) [(10, .slice (some ⟨b, off, none⟩) n c), (11, .int .i64 (k : Nat)), (12, .pointer (some ⟨b, off + k * 2, none⟩)), (13, .pointer (some ⟨b, off + k * 2 + 1, none⟩)), (14, .int .i64 N), (15, .bool true), (16, .bool true), (17, undef), (18, undef), (19, undef), (20, undef), (21, undef), (22, undef), (23, undef), (24, .bool true), (25, .bool true), (26, undef), (27, undef), (28, undef), (29, undef), (30, undef), (31, undef), (32, undef), (33, .bool true), (34, .bool true), (35, undef), (36, undef), (37, undef), (38, undef), (39, undef), (40, undef), (41, undef), (42, undef), (43, undef), (44, undef), (45, undef), (46, undef), (47, undef), (48, undef), (49, undef), (50, undef), (51, undef), (52, .bool true)] 53 rfl (by kernel_rfl) ?_ ?_
      · intro F hF w' hB
        have j0 := (hB.cell (p := ⟨b, off + k * 2, none⟩) l0).trans d0.out
        have j1 := (hB.cell (p := ⟨b, off + k * 2 + 1, none⟩) l0).trans d1.out
        have ix := Hx.out.after hB
        refine ⟨?_, ?_, ?_, ?_, ?_, ?_, ?_, ?_, ?_, ?_, ?_, ?_, ?_, ?_, ?_, ?_, ?_, ?_, ?_, ?_, ?_, ?_, ?_, ?_, ?_, ?_, ?_, ?_, ?_, ?_, ?_, ?_, ?_, ?_, ?_, ?_, ?_, ?_, ?_, ?_, ?_, ?_, ?_, trivial⟩
        · exact Reg.doesV_val (ev_move rfl) (by rw [hF]; kernel_rfl) (by rw [hF]; kernel_rfl)
        · exact Reg.doesV_val (ev_move rfl) (by rw [hF]; kernel_rfl) (by rw [hF]; kernel_rfl)
        · exact Reg.doesV_val (ev_idxC (b := b) (off := off) (n := n) (c := c) (k := k) hlt rfl (by rw [hF]; kernel_rfl) (by rw [hF]; kernel_rfl)) (by rw [hF]; kernel_rfl) (by rw [hF]; kernel_rfl)
        · exact Reg.doesV_val (ev_c1 (b := b) (off := off + k * 2) rfl (by rw [hF]; kernel_rfl)) (by rw [hF]; kernel_rfl) (by rw [hF]; kernel_rfl)
        · exact Reg.doesV_val (ev_ldI (k := N) j1 rfl (by rw [hF]; kernel_rfl)) (by rw [hF]; kernel_rfl) (by rw [hF]; kernel_rfl)
        · exact Reg.doesV_val (by rw [ev_eqC5 N 0 rfl (by rw [hF]; kernel_rfl), hN0]) (by rw [hF]; kernel_rfl) (by rw [hF]; kernel_rfl)
        · exact Reg.doesV_val (ev_move rfl) (by rw [hF]; kernel_rfl) (by rw [hF]; kernel_rfl)
        · exact Reg.doesV_skip (by rw [hF]; kernel_rfl) (by rw [hF]; kernel_rfl)
        · exact Reg.doesV_skip (by rw [hF]; kernel_rfl) (by rw [hF]; kernel_rfl)
        · exact Reg.doesV_skip (by rw [hF]; kernel_rfl) (by rw [hF]; kernel_rfl)
        · exact Reg.doesV_skip (by rw [hF]; kernel_rfl) (by rw [hF]; kernel_rfl)
        · exact Reg.doesV_skip (by rw [hF]; kernel_rfl) (by rw [hF]; kernel_rfl)
        · exact Reg.doesV_skip (by rw [hF]; kernel_rfl) (by rw [hF]; kernel_rfl)
        · exact Reg.doesV_skip (by rw [hF]; kernel_rfl) (by rw [hF]; kernel_rfl)
        · exact Reg.doesV_val (ev_pick true rfl (by rw [hF]; kernel_rfl)) (by rw [hF]; kernel_rfl) (by rw [hF]; kernel_rfl)
        · exact Reg.doesV_val (ev_move rfl) (by rw [hF]; kernel_rfl) (by rw [hF]; kernel_rfl)
        · exact Reg.doesV_skip (by rw [hF]; kernel_rfl) (by rw [hF]; kernel_rfl)
        · exact Reg.doesV_skip (by rw [hF]; kernel_rfl) (by rw [hF]; kernel_rfl)
        · exact Reg.doesV_skip (by rw [hF]; kernel_rfl) (by rw [hF]; kernel_rfl)
        · exact Reg.doesV_skip (by rw [hF]; kernel_rfl) (by rw [hF]; kernel_rfl)
        · exact Reg.doesV_skip (by rw [hF]; kernel_rfl) (by rw [hF]; kernel_rfl)
        · exact Reg.doesV_skip (by rw [hF]; kernel_rfl) (by rw [hF]; kernel_rfl)
        · exact Reg.doesV_skip (by rw [hF]; kernel_rfl) (by rw [hF]; kernel_rfl)
        · exact Reg.doesV_val (ev_pick true rfl (by rw [hF]; kernel_rfl)) (by rw [hF]; kernel_rfl) (by rw [hF]; kernel_rfl)
        · exact Reg.doesV_val (ev_move rfl) (by rw [hF]; kernel_rfl) (by rw [hF]; kernel_rfl)
        · exact Reg.doesV_skip (by rw [hF]; kernel_rfl) (by rw [hF]; kernel_rfl)
        · exact Reg.doesV_skip (by rw [hF]; kernel_rfl) (by rw [hF]; kernel_rfl)
        · exact Reg.doesV_skip (by rw [hF]; kernel_rfl) (by rw [hF]; kernel_rfl)
        · exact Reg.doesV_skip (by rw [hF]; kernel_rfl) (by rw [hF]; kernel_rfl)
        · exact Reg.doesV_skip (by rw [hF]; kernel_rfl) (by rw [hF]; kernel_rfl)
        · exact Reg.doesV_skip (by rw [hF]; kernel_rfl) (by rw [hF]; kernel_rfl)
        · exact Reg.doesV_skip (by rw [hF]; kernel_rfl) (by rw [hF]; kernel_rfl)
        · exact Reg.doesV_skip (by rw [hF]; kernel_rfl) (by rw [hF]; kernel_rfl)
        · exact Reg.doesV_skip (by rw [hF]; kernel_rfl) (by rw [hF]; kernel_rfl)
        · exact Reg.doesV_skip (by rw [hF]; kernel_rfl) (by rw [hF]; kernel_rfl)
        · exact Reg.doesV_skip (by rw [hF]; kernel_rfl) (by rw [hF]; kernel_rfl)
        · exact Reg.doesV_skip (by rw [hF]; kernel_rfl) (by rw [hF]; kernel_rfl)
        · exact Reg.doesV_skip (by rw [hF]; kernel_rfl) (by rw [hF]; kernel_rfl)
        · exact Reg.doesV_skip (by rw [hF]; kernel_rfl) (by rw [hF]; kernel_rfl)
        · exact Reg.doesV_skip (by rw [hF]; kernel_rfl) (by rw [hF]; kernel_rfl)
        · exact Reg.doesV_skip (by rw [hF]; kernel_rfl) (by rw [hF]; kernel_rfl)
        · exact Reg.doesV_skip (by rw [hF]; kernel_rfl) (by rw [hF]; kernel_rfl)
        · exact Reg.doesV_val (ev_pick true rfl (by rw [hF]; kernel_rfl)) (by rw [hF]; kernel_rfl) (by rw [hF]; kernel_rfl)
      · intro w8 hB
        simp only [Reg.putAll, Act.put, List.setIfInBounds_toArray, List.set_cons_zero, List.set_cons_succ]
        have Hb2 := Lib.hid (hb.out.trans (hB.mono hb.out.size))
        clear hB
        go_wp2
        go_ret
        exact ⟨congrArg (fun z => Ending.returned (Value.bool z)) Hst2.out, Hb2.out⟩
  · obtain rfl : k = n := by omega
    have Hst' : Hid (true = R) := by
     have := hinv.out
     rw [show (pl cs).drop k = [] from List.drop_eq_nil_of_le (by rw [pl_len, HB.out.len]; omega)] at this
     rw [← this]
     exact Lib.hid (mayFrom_nil _).symm
    clear hinv
    go_wp2
    go_ret
    exact ⟨congrArg (fun z => Ending.returned (Value.bool z)) Hst'.out, hb.out⟩
end Go.Proofs.YtldaoepemofhlaaGreatDoor
