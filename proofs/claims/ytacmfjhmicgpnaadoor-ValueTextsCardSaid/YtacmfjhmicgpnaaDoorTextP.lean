/-
  Plain facts on texts of values: unlike values that may be have unlike texts. No condition beyond that the values may be.
-/
import Derived.Test.YtacmfjhmicgpnaaDoorCmp
import Derived.Lib.ItoaNum
namespace Go.Proofs.YtacmfjhmicgpnaaDoor
open Go

/-- What a list of digits says. -/
def num (l : List UInt8) : Nat := l.foldl (fun a c => a * 10 + (c.toNat - 48)) 0
theorem num_snoc (l : List UInt8) (c : UInt8) : num (l ++ [c]) = num l * 10 + (c.toNat - 48) := by simp [num]
theorem dig_toNat (k : Nat) (h : k < 10) : (UInt8.ofNat (48 + k)).toNat = 48 + k := by
  rw [UInt8.toNat_ofNat']; omega
theorem num_dec (u : Nat) : num (Lib.decDigits u) = u := by
  induction u using Nat.strongRecOn with
  | _ u ih =>
    rw [Lib.decDigits]
    by_cases h : u < 10
    · rw [dif_pos h]
      simp [num]; omega
    · rw [dif_neg h, num_snoc, ih (u / 10) (by omega), dig_toNat (u % 10) (by omega)]
      omega
theorem dec_inj {u v : Nat} (h : Lib.decDigits u = Lib.decDigits v) : u = v := by rw [← num_dec u, h, num_dec]
/-- A number's text begins with a digit. -/
theorem dec_head (u : Nat) : ∃ c l, Lib.decDigits u = c :: l ∧ 48 ≤ c.toNat ∧ c.toNat ≤ 57 := by
  induction u using Nat.strongRecOn with
  | _ u ih =>
    rw [Lib.decDigits]
    by_cases h : u < 10
    · rw [dif_pos h]
      exact ⟨_, [], rfl, by rw [dig_toNat u h]; omega, by rw [dig_toNat u h]; omega⟩
    · rw [dif_neg h]
      obtain ⟨c, l, hl, h1, h2⟩ := ih (u / 10) (by omega)
      exact ⟨c, l ++ _, by rw [hl]; rfl, h1, h2⟩
theorem itoa_inj {a b : Int} (h : Lib.itoa a = Lib.itoa b) : a = b := by
  unfold Lib.itoa at h
  by_cases ha : a < 0 <;> by_cases hb : b < 0
  · rw [if_pos ha, if_pos hb] at h
    have := dec_inj (List.cons.inj h).2
    omega
  · rw [if_pos ha, if_neg hb] at h
    obtain ⟨c, l, hl, h1, h2⟩ := dec_head b.toNat
    rw [hl] at h
    have := congrArg UInt8.toNat (List.cons.inj h).1
    simp at this; omega
  · rw [if_neg ha, if_pos hb] at h
    obtain ⟨c, l, hl, h1, h2⟩ := dec_head a.toNat
    rw [hl] at h
    have := congrArg UInt8.toNat (List.cons.inj h).1
    simp at this; omega
  · rw [if_neg ha, if_neg hb] at h
    have := dec_inj h
    omega
theorem itoa_head (a : Int) : ∃ c l, Lib.itoa a = c :: l ∧ 45 ≤ c.toNat ∧ c.toNat ≤ 57 := by
  unfold Lib.itoa
  by_cases ha : a < 0
  · rw [if_pos ha]; exact ⟨45, _, rfl, by decide, by decide⟩
  · rw [if_neg ha]
    obtain ⟨c, l, hl, h1, h2⟩ := dec_head a.toNat
    exact ⟨c, l, hl, by omega, h2⟩

/-- A value's text. -/
def textL (x : Val) : List UInt8 :=
  if x.k == 0 then [110, 117, 108, 108] else if x.k == 1 then (if x.n == 0 then [102, 97, 108, 115, 101] else [116, 114, 117, 101]) else if x.k == 2 then Lib.itoa x.n else [39] ++ sub1 39 [39, 39] x.s.data.toList ++ [39]
/-- Whether a value may be. -/
def Valid (x : Val) : Prop :=
  (x.k = 0 ∧ x.n = 0 ∧ x.s = emp) ∨ (x.k = 1 ∧ (x.n = 0 ∨ x.n = 1) ∧ x.s = emp) ∨ (x.k = 2 ∧ x.s = emp) ∨ (x.k = 3 ∧ x.n = 0 ∧ x.s.size ≤ 1000)

/-- The first byte of a text tells its kind. -/
theorem text_head (x : Val) (h : Valid x) : ∃ c l, textL x = c :: l ∧ ((x.k = 0 ∧ c.toNat = 110) ∨ (x.k = 1 ∧ x.n = 0 ∧ c.toNat = 102) ∨ (x.k = 1 ∧ x.n = 1 ∧ c.toNat = 116) ∨ (x.k = 2 ∧ 45 ≤ c.toNat ∧ c.toNat ≤ 57) ∨ (x.k = 3 ∧ c.toNat = 39)) := by
  unfold textL
  rcases h with ⟨hk, _⟩ | ⟨hk, hn | hn, _⟩ | ⟨hk, _⟩ | ⟨hk, _⟩
  · exact ⟨110, _, by rw [hk]; rfl, .inl ⟨hk, by decide⟩⟩
  · exact ⟨102, _, by rw [hk, hn]; rfl, .inr (.inl ⟨hk, hn, by decide⟩)⟩
  · exact ⟨116, _, by rw [hk, hn]; rfl, .inr (.inr (.inl ⟨hk, hn, by decide⟩))⟩
  · obtain ⟨c, l, hl, h1, h2⟩ := itoa_head x.n
    exact ⟨c, l, by rw [hk]; exact hl, .inr (.inr (.inr (.inl ⟨hk, h1, h2⟩)))⟩
  · exact ⟨39, _, by rw [hk]; rfl, .inr (.inr (.inr (.inr ⟨hk, by decide⟩)))⟩
theorem text_inj {x y : Val} (hx : Valid x) (hy : Valid y) (h : textL x = textL y) : x = y := by
  obtain ⟨c, l, ex, hc⟩ := text_head x hx
  obtain ⟨d, r, ey, hd⟩ := text_head y hy
  have hcd : c = d := by rw [ex, ey] at h; exact (List.cons.inj h).1
  subst hcd
  obtain ⟨k, n, s⟩ := x
  obtain ⟨k', n', s'⟩ := y
  simp only at hc hd
  have hkk : k = k' ∧ (k = 1 → n = n') := by
    rcases hc with hc | hc | hc | hc | hc <;> rcases hd with hd | hd | hd | hd | hd <;> omega
  obtain ⟨rfl, h1⟩ := hkk
  rcases hx with ⟨hk, hn, hs⟩ | ⟨hk, hn, hs⟩ | ⟨hk, hs⟩ | ⟨hk, hn, hs⟩ <;> simp only at hk
  · rcases hy with ⟨_, hn', hs'⟩ | ⟨hk', _⟩ | ⟨hk', _⟩ | ⟨hk', _⟩
    · simp only at hn hs hn' hs'; rw [hn, hs, hn', hs']
    all_goals (simp only at hk'; omega)
  · rcases hy with ⟨hk', _⟩ | ⟨_, hn', hs'⟩ | ⟨hk', _⟩ | ⟨hk', _⟩
    · simp only at hk'; omega
    · simp only at hs hs'; rw [h1 hk, hs, hs']
    all_goals (simp only at hk'; omega)
  · rcases hy with ⟨hk', _⟩ | ⟨hk', _⟩ | ⟨_, hs'⟩ | ⟨hk', _⟩
    · simp only at hk'; omega
    · simp only at hk'; omega
    · simp only at hs hs'
      have : Lib.itoa n = Lib.itoa n' := by unfold textL at h; rw [hk] at h; exact h
      rw [itoa_inj this, hs, hs']
    · simp only at hk'; omega
  · rcases hy with ⟨hk', _⟩ | ⟨hk', _⟩ | ⟨hk', _⟩ | ⟨_, hn', hs'⟩
    · simp only at hk'; omega
    · simp only at hk'; omega
    · simp only at hk'; omega
    · simp only at hn hn'
      have h' : [39] ++ sub1 39 [39, 39] s.data.toList ++ [39] = [39] ++ sub1 39 [39, 39] s'.data.toList ++ [39] := by unfold textL at h; rw [hk] at h; exact h
      have h2 : sub1 39 [39, 39] s.data.toList = sub1 39 [39, 39] s'.data.toList := List.append_cancel_left (List.append_cancel_right h')
      have h3 := sub1_inj 39 _ _ h2
      have hss : s = s' := by
        obtain ⟨⟨a⟩⟩ := s; obtain ⟨⟨b⟩⟩ := s'
        simp at h3; rw [h3]
      rw [hn, hn', hss]
end Go.Proofs.YtacmfjhmicgpnaaDoor
