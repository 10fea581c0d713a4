/-
  Plain facts on texts and their tokens: how a text is split into tokens, that tokens that may be are read from their print, and that a blank parts what stands on its two sides. No program is named here.
-/
import Derived.Test.YtmgmdkagnhmihaaDoorTextQ
import Derived.Lib.AtoiAll
import Derived.Lib.Bytealg
namespace Go.Proofs.YtmgmdkagnhmihaaDoor
open Go

/-- A token: Kind, Text, V. -/
structure Tk where
  k : Int
  t : ByteArray
  v : Val
def Tk.eq (a b : Tk) : Bool := decide (a.k = b.k) && (decide (a.t.toList = b.t.toList) && a.v.eq b.v)
theorem Tk.eq_iff {a b : Tk} : a.eq b = true ↔ a = b := by
  obtain ⟨k, t, v⟩ := a
  obtain ⟨k', t', v'⟩ := b
  simp only [Tk.eq, Bool.and_eq_true, decide_eq_true_eq, Tk.mk.injEq, Val.eq_iff]
  constructor
  · rintro ⟨h1, h2, h3⟩; exact ⟨h1, toList_inj h2, h3⟩
  · rintro ⟨h1, h2, h3⟩; exact ⟨h1, by rw [h2], h3⟩
theorem Tk.eq_self (a : Tk) : a.eq a = true := Tk.eq_iff.2 rfl
theorem Tk.eq_false {a b : Tk} (h : a ≠ b) : a.eq b = false := by
  cases e : a.eq b
  · rfl
  · exact absurd (Tk.eq_iff.1 e) h
abbrev ba (l : List UInt8) : ByteArray := ⟨l.toArray⟩
theorem ba_inj {l r : List UInt8} (h : ba l = ba r) : l = r := by simpa using h
theorem ba_of (s : ByteArray) : ba s.data.toList = s := by obtain ⟨⟨l⟩⟩ := s; rfl
def tk0 : Tk := ⟨0, emp, nl⟩
def intT (n : Int) : Tk := ⟨1, emp, iv n⟩
def strT (l : List UInt8) : Tk := ⟨1, emp, ⟨3, 0, ba l⟩⟩
def sgnT (l : List UInt8) : Tk := ⟨2, ba l, nl⟩
def wrdT (l : List UInt8) : Tk := ⟨0, ba l, nl⟩

/-- The signs. -/
def sgns : List UInt8 := [40, 41, 91, 93, 44, 61, 60, 43, 45, 42, 63]
/-- The class of a byte. -/
def cls (b : UInt8) : Int :=
  if b.toNat = 32 then 1 else if 97 ≤ b.toNat ∧ b.toNat ≤ 122 then 2 else if 48 ≤ b.toNat ∧ b.toNat ≤ 57 then 3 else if b.toNat = 95 then 4 else if b.toNat = 39 then 5 else if b.toNat = 45 then 6 else if 0 ≤ Lib.indexByte sgns b then 7 else 0
theorem cls_1 {b : UInt8} : cls b = 1 ↔ b.toNat = 32 := by 
  unfold cls
  repeat' split
  all_goals (first | omega | simp_all)
theorem cls_2 {b : UInt8} : cls b = 2 ↔ 97 ≤ b.toNat ∧ b.toNat ≤ 122 := by 
  unfold cls
  repeat' split
  all_goals (first | omega | simp_all)
theorem cls_3 {b : UInt8} : cls b = 3 ↔ 48 ≤ b.toNat ∧ b.toNat ≤ 57 := by 
  unfold cls
  repeat' split
  all_goals (first | omega | simp_all)
theorem cls_4 {b : UInt8} : cls b = 4 ↔ b.toNat = 95 := by 
  unfold cls
  repeat' split
  all_goals (first | omega | simp_all)
theorem cls_5 {b : UInt8} : cls b = 5 ↔ b.toNat = 39 := by 
  unfold cls
  repeat' split
  all_goals (first | omega | simp_all)
theorem cls_6 {b : UInt8} : cls b = 6 ↔ b.toNat = 45 := by 
  unfold cls
  repeat' split
  all_goals (first | omega | simp_all)
theorem indexByte_mem : ∀ (l : List UInt8) (c : UInt8), 0 ≤ Lib.indexByte l c ↔ c ∈ l
  | [], c => by simp [Lib.indexByte]
  | b :: l, c => by
    have ih := indexByte_mem l c
    have hge := Lib.indexByte_ge l c
    rw [Lib.indexByte]
    by_cases h : b = c
    · subst h; simp
    · have hb : (b == c) = false := by simpa using h
      rw [hb]
      simp only [Bool.false_eq_true, if_false, List.mem_cons]
      by_cases hm : Lib.indexByte l c = -1
      · have : c ∉ l := fun hc => by have := ih.2 hc; omega
        rw [hm]
        have hcb : ¬c = b := fun e => h e.symm
        simp [this, hcb]
      · have hne : (Lib.indexByte l c == -1) = false := by simpa using hm
        rw [hne]
        have hc : c ∈ l := ih.1 (by omega)
        simp [hc]
        omega
theorem byte_of {b : UInt8} {n : Nat} (h : b.toNat = n) : b = UInt8.ofNat n := by rw [← h]; simp

/-- Is a byte of one of these classes? -/
def isIn (cs : List Int) (b : UInt8) : Bool := cs.contains (cls b)
abbrev dig : UInt8 → Bool := isIn [3]
abbrev inn : UInt8 → Bool := isIn [2, 3, 4]
abbrev blk : UInt8 → Bool := isIn [1]
theorem dig_iff {b : UInt8} : dig b = true ↔ 48 ≤ b.toNat ∧ b.toNat ≤ 57 := by
  rw [← cls_3]; simp [dig, isIn]
theorem blk_iff {b : UInt8} : blk b = true ↔ b.toNat = 32 := by
  rw [← cls_1]; simp [blk, isIn]
theorem inn_iff {b : UInt8} : inn b = true ↔ cls b = 2 ∨ cls b = 3 ∨ cls b = 4 := by simp [inn, isIn]

/-- A number's token. -/
def numT (w : List UInt8) : Option Tk := match Lib.atoiAll w with
  | .ok v => if Lib.itoa v = w then some (intT v) else none
  | _ => none
/-- What stands in a text, and behind it; the flag: behind a quote. -/
def quoF : Bool → List UInt8 → Option (List UInt8 × List UInt8)
  | false, [] => none
  | true, [] => some ([], [])
  | false, c :: r => if c = 39 then quoF true r else (quoF false r).map fun p => (c :: p.1, p.2)
  | true, c :: r => if c = 39 then (quoF false r).map fun p => (39 :: p.1, p.2) else some ([], c :: r)
/-- A token, and what stands behind it. -/
def tokL : List UInt8 → Option (Tk × List UInt8)
  | [] => none
  | c :: r =>
    if cls c = 2 then some (wrdT ((c :: r).takeWhile inn), (c :: r).dropWhile inn)
    else if cls c = 3 then (numT ((c :: r).takeWhile dig)).map fun t => (t, (c :: r).dropWhile dig)
    else if cls c = 5 then (quoF false r).map fun p => (strT p.1, p.2)
    else if cls c = 6 then (if r.takeWhile dig = [] then some (sgnT [c], r) else (numT (c :: r.takeWhile dig)).map fun t => (t, r.dropWhile dig))
    else if cls c = 7 then some (sgnT [c], r)
    else none
/-- Is a text a word? -/
def wordB (l : List UInt8) : Bool := match l with
  | [] => false
  | c :: r => decide ((c :: r).length ≤ 30) && (decide (cls c = 2) && (c :: r).all inn)
def signB (l : List UInt8) : Bool := match l with
  | [c] => decide (c ∈ sgns)
  | _ => false
/-- Whether a token may be. -/
def mayT (t : Tk) : Bool :=
  if t.k == 0 then wordB t.t.data.toList && t.v.eq nl
  else if t.k == 1 then t.t.toList.isEmpty && ((t.v.k == 2 || t.v.k == 3) && mayB t.v)
  else if t.k == 2 then signB t.t.data.toList && t.v.eq nl else false
/-- The tokens of a text. -/
def lexF : Nat → List UInt8 → Option (List Tk)
  | 0, _ => some []
  | _ + 1, [] => some []
  | n + 1, c :: r => if cls c = 1 then lexF n r else match tokL (c :: r) with
    | none => none
    | some (t, q) => if mayT t then (lexF n q).map (t :: ·) else none
def lexL (l : List UInt8) : Option (List Tk) := lexF l.length l
/-- A token's print. -/
def txtT (t : Tk) : List UInt8 := if t.k == 1 then textL t.v else t.t.data.toList
def printL (l : List Tk) : List UInt8 := Lib.join (l.map txtT) [32]

theorem drop_le (p : UInt8 → Bool) (l : List UInt8) : (l.dropWhile p).length ≤ l.length := by
  have := congrArg List.length (List.takeWhile_append_dropWhile (p := p) (l := l))
  rw [List.length_append] at this
  omega
theorem quo_le : ∀ (l : List UInt8) (b : Bool) (u r : List UInt8), quoF b l = some (u, r) → r.length ≤ l.length
  | [], false, u, r, h => by simp [quoF] at h
  | [], true, u, r, h => by simp [quoF] at h; simp [h.2]
  | c :: l, false, u, r, h => by
    rw [quoF] at h
    split at h
    · have := quo_le l true u r h; simp; omega
    · cases e : quoF false l with
      | none => rw [e] at h; cases h
      | some p =>
        rw [e] at h
        simp at h
        have := quo_le l false p.1 p.2 e
        rw [h.2] at this; simp; omega
  | c :: l, true, u, r, h => by
    rw [quoF] at h
    split at h
    · cases e : quoF false l with
      | none => rw [e] at h; cases h
      | some p =>
        rw [e] at h
        simp at h
        have := quo_le l false p.1 p.2 e
        rw [h.2] at this; simp; omega
    · simp at h; rw [← h.2]; simp
theorem tok_lt {l : List UInt8} {t : Tk} {r : List UInt8} (h : tokL l = some (t, r)) : r.length < l.length := by
  cases l with
  | nil => cases h
  | cons c l =>
    rw [tokL] at h
    split at h
    · rename_i hc
      have hi : inn c = true := inn_iff.2 (.inl hc)
      simp only [Option.some.injEq, Prod.mk.injEq] at h
      rw [← h.2, List.dropWhile_cons, hi]
      have := drop_le inn l
      simp; omega
    split at h
    · rename_i hc
      have hi : dig c = true := dig_iff.2 (cls_3.1 hc)
      cases e : numT ((c :: l).takeWhile dig) with
      | none => rw [e] at h; cases h
      | some q =>
        rw [e] at h
        simp only [Option.map_some, Option.some.injEq, Prod.mk.injEq] at h
        rw [← h.2, List.dropWhile_cons, hi]
        have := drop_le dig l
        simp; omega
    split at h
    · cases e : quoF false l with
      | none => rw [e] at h; cases h
      | some q =>
        rw [e] at h
        simp only [Option.map_some, Option.some.injEq, Prod.mk.injEq] at h
        have := quo_le l false q.1 q.2 e
        rw [← h.2]
        simp; omega
    split at h
    · split at h
      · simp only [Option.some.injEq, Prod.mk.injEq] at h
        rw [← h.2]; simp
      · cases e : numT (c :: l.takeWhile dig) with
        | none => rw [e] at h; cases h
        | some q =>
          rw [e] at h
          simp only [Option.map_some, Option.some.injEq, Prod.mk.injEq] at h
          have := drop_le dig l
          rw [← h.2]; simp; omega
    split at h
    · simp only [Option.some.injEq, Prod.mk.injEq] at h
      rw [← h.2]; simp
    · cases h
theorem lexF_fuel : ∀ (n : Nat) (l : List UInt8), l.length ≤ n → lexF n l = lexF l.length l := by
  intro n
  induction n using Nat.strongRecOn with
  | _ n ih =>
    intro l hl
    cases l with
    | nil => cases n <;> rfl
    | cons c r =>
      cases n with
      | zero => simp at hl
      | succ n =>
        rw [List.length_cons] at hl ⊢
        rw [lexF, lexF]
        split
        · exact ih n (by omega) r (by omega)
        · cases e : tokL (c :: r) with
          | none => rfl
          | some p =>
            obtain ⟨t, q⟩ := p
            have hq := tok_lt e
            rw [List.length_cons] at hq
            simp only
            split
            · rw [ih n (by omega) q (by omega), ih r.length (by omega) q (by omega)]
            · rfl
theorem lex_nil : lexL [] = some [] := rfl
theorem lex_blank {c : UInt8} {r : List UInt8} (h : cls c = 1) : lexL (c :: r) = lexL r := by
  unfold lexL
  rw [List.length_cons, lexF, if_pos h]
theorem lex_tok {c : UInt8} {r : List UInt8} (h : cls c ≠ 1) : lexL (c :: r) = match tokL (c :: r) with
    | none => none
    | some (t, q) => if mayT t then (lexL q).map (t :: ·) else none := by
  unfold lexL
  rw [List.length_cons, lexF, if_neg h]
  cases e : tokL (c :: r) with
  | none => rfl
  | some p =>
    obtain ⟨t, q⟩ := p
    have hq := tok_lt e
    rw [List.length_cons] at hq
    simp only
    rw [lexF_fuel r.length q (by omega)]
theorem lex_drop : ∀ l : List UInt8, lexL (l.dropWhile blk) = lexL l
  | [] => rfl
  | c :: r => by
    rw [List.dropWhile_cons]
    cases h : blk c
    · rfl
    · rw [lex_blank (cls_1.2 (blk_iff.1 h))]
      exact lex_drop r
theorem drop_head (l : List UInt8) : l.dropWhile blk = [] ∨ ∃ c r, l.dropWhile blk = c :: r ∧ cls c ≠ 1 := by
  cases e : l.dropWhile blk with
  | nil => exact .inl rfl
  | cons c r =>
    refine .inr ⟨c, r, rfl, fun h => ?_⟩
    have := List.head_dropWhile_not blk (by rw [e]; simp : l.dropWhile blk ≠ [])
    simp only [e, List.head_cons] at this
    rw [blk_iff.2 (cls_1.1 h)] at this
    cases this
/-- Where there is a blank behind, a token is read as without. -/
theorem take_app (p : UInt8 → Bool) (hp : p 32 = false) (x : List UInt8) : ∀ l : List UInt8, (l ++ 32 :: x).takeWhile p = l.takeWhile p ∧ (l ++ 32 :: x).dropWhile p = l.dropWhile p ++ 32 :: x
  | [] => by simp [hp]
  | c :: l => by
    obtain ⟨h1, h2⟩ := take_app p hp x l
    rw [List.cons_append, List.takeWhile_cons, List.takeWhile_cons, List.dropWhile_cons, List.dropWhile_cons]
    cases p c
    · exact ⟨rfl, rfl⟩
    · simp only [if_true]
      exact ⟨by rw [h1], h2⟩
theorem quo_app (x : List UInt8) : ∀ (l : List UInt8) (b : Bool) (u r : List UInt8), quoF b l = some (u, r) → quoF b (l ++ 32 :: x) = some (u, r ++ 32 :: x)
  | [], false, u, r, h => by simp [quoF] at h
  | [], true, u, r, h => by simp [quoF] at h; rw [h.1, h.2]; rfl
  | c :: l, false, u, r, h => by
    rw [quoF] at h
    rw [List.cons_append, quoF]
    split at h
    · rename_i hc
      rw [if_pos hc]; exact quo_app x l true u r h
    · rename_i hc
      rw [if_neg hc]
      cases e : quoF false l with
      | none => rw [e] at h; cases h
      | some p =>
        rw [e] at h
        simp at h
        rw [quo_app x l false p.1 p.2 e]
        simp [h.1, h.2]
  | c :: l, true, u, r, h => by
    rw [quoF] at h
    rw [List.cons_append, quoF]
    split at h
    · rename_i hc
      rw [if_pos hc]
      cases e : quoF false l with
      | none => rw [e] at h; cases h
      | some p =>
        rw [e] at h
        simp at h
        rw [quo_app x l false p.1 p.2 e]
        simp [h.1, h.2]
    · rename_i hc
      rw [if_neg hc]
      simp at h
      rw [h.1.symm, ← h.2]; simp
theorem tok_app (x : List UInt8) {l : List UInt8} {t : Tk} {r : List UInt8} (h : tokL l = some (t, r)) : tokL (l ++ 32 :: x) = some (t, r ++ 32 :: x) := by
  have hi : inn 32 = false := by decide
  have hd : dig 32 = false := by decide
  cases l with
  | nil => cases h
  | cons c l =>
    obtain ⟨i1, i2⟩ := take_app inn hi x (c :: l)
    obtain ⟨d1, d2⟩ := take_app dig hd x (c :: l)
    obtain ⟨e1, e2⟩ := take_app dig hd x l
    rw [List.cons_append] at i1 i2 d1 d2 ⊢
    rw [tokL] at h ⊢
    rw [i1, i2, d1, d2, e1, e2]
    split at h
    · rename_i hc
      rw [if_pos hc]
      simp only [Option.some.injEq, Prod.mk.injEq] at h ⊢
      exact ⟨h.1, by rw [h.2]⟩
    rename_i hc
    rw [if_neg hc]
    split at h
    · rename_i hc
      rw [if_pos hc]
      cases e : numT ((c :: l).takeWhile dig) with
      | none => rw [e] at h; cases h
      | some q =>
        rw [e] at h
        simp only [Option.map_some, Option.some.injEq, Prod.mk.injEq] at h ⊢
        exact ⟨h.1, by rw [h.2]⟩
    rename_i hc
    rw [if_neg hc]
    split at h
    · rename_i hc
      rw [if_pos hc]
      cases e : quoF false l with
      | none => rw [e] at h; cases h
      | some q =>
        rw [e] at h
        simp only [Option.map_some, Option.some.injEq, Prod.mk.injEq] at h
        rw [quo_app x l false q.1 q.2 e]
        simp only [Option.map_some, Option.some.injEq, Prod.mk.injEq]
        exact ⟨h.1, by rw [h.2]⟩
    rename_i hc
    rw [if_neg hc]
    split at h
    · rename_i hc
      rw [if_pos hc]
      split at h
      · rename_i he
        rw [if_pos he]
        simp only [Option.some.injEq, Prod.mk.injEq] at h ⊢
        exact ⟨h.1, by rw [h.2]⟩
      · rename_i he
        rw [if_neg he]
        cases e : numT (c :: l.takeWhile dig) with
        | none => rw [e] at h; cases h
        | some q =>
          rw [e] at h
          simp only [Option.map_some, Option.some.injEq, Prod.mk.injEq] at h ⊢
          exact ⟨h.1, by rw [h.2]⟩
    rename_i hc
    rw [if_neg hc]
    split at h
    · rename_i hc
      rw [if_pos hc]
      simp only [Option.some.injEq, Prod.mk.injEq] at h ⊢
      exact ⟨h.1, by rw [h.2]⟩
    · cases h
/-- What stands ahead of a blank, and behind it. -/
theorem lex_app (x : List UInt8) : ∀ (n : Nat) (s : List UInt8) (a : List Tk), s.length ≤ n → lexL s = some a → lexL (s ++ 32 :: x) = (lexL x).map (a ++ ·)
  | n, [], a, _, h => by
    rw [lex_nil] at h
    simp only [Option.some.injEq] at h
    rw [← h, List.nil_append, lex_blank (by decide)]
    cases lexL x <;> rfl
  | 0, c :: s, a, hn, _ => by simp at hn
  | n + 1, c :: s, a, hn, h => by
    rw [List.length_cons] at hn
    by_cases hc : cls c = 1
    · rw [lex_blank hc] at h
      rw [List.cons_append, lex_blank hc]
      exact lex_app x n s a (by omega) h
    · rw [lex_tok hc] at h
      rw [List.cons_append, lex_tok hc]
      cases e : tokL (c :: s) with
      | none => rw [e] at h; cases h
      | some p =>
        obtain ⟨t, q⟩ := p
        have hq := tok_lt e
        rw [List.length_cons] at hq
        have e2 := tok_app x e
        rw [List.cons_append] at e2
        rw [e] at h
        rw [e2]
        simp only at h ⊢
        split at h
        · rename_i hm
          rw [if_pos hm]
          cases e3 : lexL q with
          | none => rw [e3] at h; cases h
          | some b =>
            rw [e3] at h
            simp only [Option.map_some, Option.some.injEq] at h
            rw [lex_app x n q b (by omega) e3, ← h]
            cases lexL x <;> simp
        · cases h

/-- Digits are read as the number that they say. -/
theorem fold_ge : ∀ (l : List UInt8) (a : Nat), a ≤ l.foldl (fun a c => a * 10 + (c.toNat - 48)) a
  | [], a => Nat.le_refl _
  | c :: l, a => by
    rw [List.foldl_cons]
    have := fold_ge l (a * 10 + (c.toNat - 48))
    omega
theorem parse_fold : ∀ (l : List UInt8) (a : Nat), (∀ c ∈ l, 48 ≤ c.toNat ∧ c.toNat ≤ 57) → l.foldl (fun a c => a * 10 + (c.toNat - 48)) a < 18446744073709551616 → Lib.parseUint10 a l = .ok (l.foldl (fun a c => a * 10 + (c.toNat - 48)) a)
  | [], a, _, _ => rfl
  | c :: l, a, h, hlt => by
    rw [List.foldl_cons] at hlt
    have := fold_ge l (a * 10 + (c.toNat - 48))
    rw [Lib.parseUint10, if_pos (h c (by simp)), if_neg (by omega), if_neg (by omega), parse_fold l _ (fun d hd => h d (List.mem_cons_of_mem _ hd)) hlt, List.foldl_cons]
theorem parse_dec (u : Nat) (h : u < 18446744073709551616) : Lib.parseMag (Lib.decDigits u) = .ok u := by
  obtain ⟨c, l, hl, _⟩ := dec_head u
  unfold Lib.parseMag
  rw [if_neg (by rw [hl]; simp)]
  have hn := num_dec u
  unfold num at hn
  rw [parse_fold (Lib.decDigits u) 0 (dec_all u) (by rw [hn]; exact h), hn]
theorem atoi_itoa (v : Int) (h : -9223372036854775808 ≤ v ∧ v ≤ 9223372036854775807) : Lib.atoiAll (Lib.itoa v) = .ok v := by
  unfold Lib.itoa
  by_cases hv : v < 0
  · rw [if_pos hv]
    have hp := parse_dec v.natAbs (by omega)
    unfold Lib.atoiAll
    simp only
    rw [if_pos (.inr (by decide)), hp]
    simp only
    rw [if_neg (by rintro ⟨h1, _⟩; exact h1 (by decide)), if_neg (by rintro ⟨_, h2⟩; omega), if_pos (by decide)]
    congr 1
    omega
  · rw [if_neg hv]
    have hp := parse_dec v.toNat (by omega)
    obtain ⟨c, l, hl, h1, h2⟩ := dec_head v.toNat
    rw [hl] at hp ⊢
    unfold Lib.atoiAll
    simp only
    rw [if_neg (by omega), hp]
    simp only
    rw [if_neg (by rintro ⟨_, h2⟩; omega), if_neg (by rintro ⟨h1, _⟩; omega), if_neg (by omega)]
    congr 1
    omega
theorem num_itoa (v : Int) (h : -9223372036854775808 ≤ v ∧ v ≤ 9223372036854775807) : numT (Lib.itoa v) = some (intT v) := by
  unfold numT
  rw [atoi_itoa v h]
  simp
theorem quo_sub : ∀ s : List UInt8, quoF false (sub1 39 [39, 39] s ++ [39]) = some (s, [])
  | [] => rfl
  | c :: s => by
    rw [sub1]
    split
    · rename_i hc
      subst hc
      show quoF false (39 :: 39 :: (sub1 39 [39, 39] s ++ [39])) = _
      rw [quoF, if_pos rfl, quoF, if_pos rfl, quo_sub s]
      rfl
    · rename_i hc
      rw [List.cons_append, quoF, if_neg hc, quo_sub s]
      rfl
/-- A value of 64 bits. -/
def T64 (t : Tk) : Prop := -9223372036854775808 ≤ t.v.n ∧ t.v.n ≤ 9223372036854775807
theorem all_take (p : UInt8 → Bool) : ∀ l : List UInt8, (∀ c ∈ l, p c = true) → l.takeWhile p = l ∧ l.dropWhile p = []
  | [], _ => ⟨rfl, rfl⟩
  | c :: l, h => by
    obtain ⟨h1, h2⟩ := all_take p l (fun d hd => h d (List.mem_cons_of_mem _ hd))
    rw [List.takeWhile_cons, List.dropWhile_cons, h c (by simp)]
    exact ⟨by simp only [if_true]; rw [h1], h2⟩
theorem sgn_cls : ∀ c ∈ sgns, cls c = 6 ∨ cls c = 7 := by decide
/-- A token's print is that token. -/
theorem tok_txt (t : Tk) (hm : mayT t = true) (h6 : T64 t) : tokL (txtT t) = some (t, []) := by
  obtain ⟨k, s, v⟩ := t
  unfold T64 at h6
  unfold mayT at hm
  unfold txtT
  simp only at *
  by_cases h0 : k = 0
  · subst h0
    simp only [beq_self_eq_true, if_true, Bool.and_eq_true, Val.eq_iff] at hm
    obtain ⟨hw, rfl⟩ := hm
    rw [if_neg (by decide)]
    unfold wordB at hw
    split at hw
    · cases hw
    · rename_i c r e
      simp only [Bool.and_eq_true, decide_eq_true_eq, List.all_eq_true] at hw
      obtain ⟨h1, h2⟩ := all_take inn (c :: r) hw.2.2
      rw [e, tokL, if_pos hw.2.1, h1, h2, ← e]
      unfold wrdT
      rw [ba_of]
  have k0 : (k == 0) = false := by simpa using h0
  rw [k0] at hm
  simp only [Bool.false_eq_true, if_false] at hm
  by_cases h1 : k = 1
  · subst h1
    simp only [beq_self_eq_true, if_true, Bool.and_eq_true, Bool.or_eq_true, beq_iff_eq] at hm ⊢
    obtain ⟨he, hk, hv⟩ := hm
    have hs := emp_of he
    subst hs
    obtain ⟨vk, vn, vs⟩ := v
    have hval := valid_of_may _ hv
    simp only at *
    rcases hk with rfl | rfl
    · rcases hval with ⟨hk, _⟩ | ⟨hk, _⟩ | ⟨_, hs⟩ | ⟨hk, _⟩
      · simp at hk
      · simp at hk
      · simp only at hs
        subst hs
        have ht : textL ⟨2, vn, emp⟩ = Lib.itoa vn := rfl
        have hnum := num_itoa vn h6
        rw [ht]
        unfold Lib.itoa at hnum ⊢
        by_cases hneg : vn < 0
        · rw [if_pos hneg] at hnum ⊢
          obtain ⟨a1, a2⟩ := all_take dig (Lib.decDigits vn.natAbs) (fun c hc => dig_iff.2 (dec_all _ c hc))
          obtain ⟨c, l, hl, _⟩ := dec_head vn.natAbs
          rw [tokL, if_neg (by decide), if_neg (by decide), if_neg (by decide), if_pos (by decide), a1, a2, if_neg (by rw [hl]; simp), hnum]
          rfl
        · rw [if_neg hneg] at hnum ⊢
          obtain ⟨a1, a2⟩ := all_take dig (Lib.decDigits vn.toNat) (fun c hc => dig_iff.2 (dec_all _ c hc))
          obtain ⟨c, l, hl, hc1, hc2⟩ := dec_head vn.toNat
          rw [hl] at a1 a2 hnum ⊢
          rw [tokL, if_neg (by rw [cls_2]; omega), if_pos (cls_3.2 ⟨hc1, hc2⟩), a1, a2, hnum]
          rfl
      · simp at hk
    · rcases hval with ⟨hk, _⟩ | ⟨hk, _⟩ | ⟨hk, _⟩ | ⟨_, hn, hs⟩
      · simp at hk
      · simp at hk
      · simp at hk
      · simp only at hn
        subst hn
        have ht : textL ⟨3, 0, vs⟩ = 39 :: (sub1 39 [39, 39] vs.data.toList ++ [39]) := rfl
        rw [ht, tokL, if_neg (by decide), if_neg (by decide), if_pos (by decide), quo_sub]
        simp only [Option.map_some]
        unfold strT
        rw [ba_of]
  have k1 : (k == 1) = false := by simpa using h1
  rw [k1] at hm ⊢
  simp only [Bool.false_eq_true, if_false] at hm ⊢
  by_cases h2 : k = 2
  · subst h2
    simp only [beq_self_eq_true, if_true, Bool.and_eq_true, Val.eq_iff] at hm
    obtain ⟨hw, rfl⟩ := hm
    unfold signB at hw
    split at hw
    · rename_i c e
      simp only [decide_eq_true_eq] at hw
      have hc := sgn_cls c hw
      rw [e, tokL]
      have e2 : sgnT [c] = ⟨2, s, nl⟩ := by unfold sgnT; rw [← e, ba_of]
      rcases hc with hc | hc
      · rw [if_neg (by omega), if_neg (by omega), if_neg (by omega), if_pos hc, List.takeWhile_nil, if_pos rfl, e2]
      · rw [if_neg (by omega), if_neg (by omega), if_neg (by omega), if_neg (by omega), if_pos hc, e2]
    · cases hw
  · have k2 : (k == 2) = false := by simpa using h2
    rw [k2] at hm
    cases hm
theorem lex_txt (t : Tk) (hm : mayT t = true) (h6 : T64 t) : lexL (txtT t) = some [t] := by
  have h := tok_txt t hm h6
  cases e : txtT t with
  | nil => rw [e] at h; cases h
  | cons c r =>
    rw [e] at h
    have hc : cls c ≠ 1 := by
      intro hc
      rw [tokL, if_neg (by omega), if_neg (by omega), if_neg (by omega), if_neg (by omega), if_neg (by omega)] at h
      cases h
    rw [lex_tok hc, h]
    simp only
    rw [if_pos hm, lex_nil]
    rfl
theorem print_cons (t : Tk) (l : List Tk) (h : l ≠ []) : printL (t :: l) = txtT t ++ 32 :: printL l := by
  cases l with
  | nil => exact absurd rfl h
  | cons u l =>
    unfold printL
    rw [List.map_cons, List.map_cons, Lib.join_cons, Lib.join_cons]
    simp [Lib.joinTail]
theorem print_one (t : Tk) : printL [t] = txtT t := by
  unfold printL
  rw [List.map_cons, Lib.join_cons]
  simp [Lib.joinTail]
/-- THE STAGE'S THEOREM, plainly: what is printed is read. -/
theorem lex_print : ∀ l : List Tk, (∀ t ∈ l, mayT t = true) → (∀ t ∈ l, T64 t) → lexL (printL l) = some l
  | [], _, _ => rfl
  | [t], hm, h6 => by rw [print_one]; exact lex_txt t (hm t (by simp)) (h6 t (by simp))
  | t :: u :: l, hm, h6 => by
    rw [print_cons t (u :: l) (by simp), lex_app _ _ _ [t] (Nat.le_refl _) (lex_txt t (hm t (by simp)) (h6 t (by simp))), lex_print (u :: l) (fun x hx => hm x (List.mem_cons_of_mem _ hx)) (fun x hx => h6 x (List.mem_cons_of_mem _ hx))]
    rfl
theorem print_inj {a b : List Tk} (ha : ∀ t ∈ a, mayT t = true) (ha6 : ∀ t ∈ a, T64 t) (hb : ∀ t ∈ b, mayT t = true) (hb6 : ∀ t ∈ b, T64 t) (h : printL a = printL b) : a = b := by
  have h1 := lex_print a ha ha6
  rw [h, lex_print b hb hb6] at h1
  simpa using h1.symm
theorem txt_ne (t : Tk) (hm : mayT t = true) (h6 : T64 t) : txtT t ≠ [] := by
  intro e
  have h := tok_txt t hm h6
  rw [e] at h
  cases h
theorem atoi_64 {w : List UInt8} {v : Int} (e : Lib.atoiAll w = .ok v) : -9223372036854775808 ≤ v ∧ v ≤ 9223372036854775807 := by
  unfold Lib.atoiAll at e
  split at e
  · cases e
  · simp only at e
    split at e
    · cases e
    · cases e
    · split at e
      · cases e
      · split at e
        · cases e
        · rename_i u _ h1 h2
          injection e with e
          subst e
          split <;> omega
theorem num_64 {w : List UInt8} {t : Tk} (h : numT w = some t) : T64 t := by
  unfold numT at h
  split at h
  · rename_i v e
    split at h
    · simp only [Option.some.injEq] at h
      subst h
      exact atoi_64 e
    · cases h
  · cases h
theorem tok_64 {l : List UInt8} {t : Tk} {r : List UInt8} (h : tokL l = some (t, r)) : T64 t := by
  cases l with
  | nil => cases h
  | cons c l =>
    rw [tokL] at h
    split at h
    · simp only [Option.some.injEq, Prod.mk.injEq] at h
      rw [← h.1]; exact ⟨(by decide : (-9223372036854775808 : Int) ≤ 0), (by decide : (0 : Int) ≤ 9223372036854775807)⟩
    split at h
    · cases e : numT ((c :: l).takeWhile dig) with
      | none => rw [e] at h; cases h
      | some q =>
        rw [e] at h
        simp only [Option.map_some, Option.some.injEq, Prod.mk.injEq] at h
        rw [← h.1]; exact num_64 e
    split at h
    · cases e : quoF false l with
      | none => rw [e] at h; cases h
      | some q =>
        rw [e] at h
        simp only [Option.map_some, Option.some.injEq, Prod.mk.injEq] at h
        rw [← h.1]; exact ⟨(by decide : (-9223372036854775808 : Int) ≤ 0), (by decide : (0 : Int) ≤ 9223372036854775807)⟩
    split at h
    · split at h
      · simp only [Option.some.injEq, Prod.mk.injEq] at h
        rw [← h.1]; exact ⟨(by decide : (-9223372036854775808 : Int) ≤ 0), (by decide : (0 : Int) ≤ 9223372036854775807)⟩
      · cases e : numT (c :: l.takeWhile dig) with
        | none => rw [e] at h; cases h
        | some q =>
          rw [e] at h
          simp only [Option.map_some, Option.some.injEq, Prod.mk.injEq] at h
          rw [← h.1]; exact num_64 e
    split at h
    · simp only [Option.some.injEq, Prod.mk.injEq] at h
      rw [← h.1]; exact ⟨(by decide : (-9223372036854775808 : Int) ≤ 0), (by decide : (0 : Int) ≤ 9223372036854775807)⟩
    · cases h
/-- What is read may be, and is of 64 bits. -/
theorem lex_may : ∀ (n : Nat) (s : List UInt8) (a : List Tk), s.length ≤ n → lexL s = some a → ∀ t ∈ a, mayT t = true ∧ T64 t
  | n, [], a, _, h, t, ht => by
    rw [lex_nil] at h
    simp only [Option.some.injEq] at h
    rw [← h] at ht; cases ht
  | 0, c :: s, a, hn, _, t, ht => by simp at hn
  | n + 1, c :: s, a, hn, h, t, ht => by
    rw [List.length_cons] at hn
    by_cases hc : cls c = 1
    · rw [lex_blank hc] at h
      exact lex_may n s a (by omega) h t ht
    · rw [lex_tok hc] at h
      cases e : tokL (c :: s) with
      | none => rw [e] at h; cases h
      | some p =>
        obtain ⟨u, q⟩ := p
        have hq := tok_lt e
        rw [List.length_cons] at hq
        rw [e] at h
        simp only at h
        split at h
        · rename_i hm
          cases e3 : lexL q with
          | none => rw [e3] at h; cases h
          | some b =>
            rw [e3] at h
            simp only [Option.map_some, Option.some.injEq] at h
            rw [← h] at ht
            rcases List.mem_cons.1 ht with rfl | ht
            · exact ⟨hm, tok_64 e⟩
            · exact lex_may n q b (by omega) e3 t ht
        · cases h
end Go.Proofs.YtmgmdkagnhmihaaDoor
