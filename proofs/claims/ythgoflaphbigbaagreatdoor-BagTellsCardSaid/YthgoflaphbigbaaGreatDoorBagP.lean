/-
  Plain facts on bags: lists of rows that rise, each with a count; one row more; how often a row is there; two bags that tell the same of every row are the same. No condition.
-/
import Derived.Test.YthgoflaphbigbaaGreatDoorSortP
import Derived.Test.YthgoflaphbigbaaGreatDoorRMay
namespace Go.Proofs.YthgoflaphbigbaaGreatDoor
open Go

/-- Rows, each with a count. -/
abbrev Bg := List (List Val × Int)
/-- The rows rise. -/
def Asc (b : Bg) : Prop := b.Pairwise fun x y => cmpL x.1 y.1 = -1
def NZ (b : Bg) : Prop := ∀ x ∈ b, x.2 ≠ 0
/-- How often a row is there. -/
def lookB : Bg → List Val → Int
  | [], _ => 0
  | x :: b, r => if cmpL x.1 r = 0 then x.2 else lookB b r
/-- A row so many times more. -/
def addB : Bg → List Val → Int → Bg
  | [], r, n => if n = 0 then [] else [(r, n)]
  | x :: b, r, n => if cmpL x.1 r = -1 then x :: addB b r n else if cmpL x.1 r = 0 then (if n + x.2 = 0 then b else (r, n + x.2) :: b) else (if n = 0 then x :: b else (r, n) :: x :: b)

theorem cmpL_one {a b : List Val} (h1 : cmpL a b ≠ -1) (h2 : cmpL a b ≠ 0) : cmpL b a = -1 := by
  rw [cmpL_neg a b]
  rcases cmpL_range a b with h | h | h
  · exact absurd h h1
  · exact absurd h h2
  · rw [h]
theorem cmpL_lt_ne {a b : List Val} (h : cmpL a b = -1) : cmpL a b ≠ 0 := by rw [h]; decide
theorem look_none (b : Bg) (r : List Val) (h : ∀ x ∈ b, cmpL r x.1 = -1) : lookB b r = 0 := by
  induction b with
  | nil => rfl
  | cons x b ih =>
    rw [lookB, if_neg, ih fun y hy => h y (List.mem_cons_of_mem _ hy)]
    intro e
    have := h x (by simp)
    rw [cmpL_neg x.1 r, e] at this
    cases this
theorem look_cons_ne {x : List Val × Int} {b : Bg} {r : List Val} (h : cmpL x.1 r ≠ 0) : lookB (x :: b) r = lookB b r := by rw [lookB, if_neg h]
theorem asc_head {x : List Val × Int} {b : Bg} (h : Asc (x :: b)) : ∀ y ∈ b, cmpL x.1 y.1 = -1 := (List.pairwise_cons.1 h).1
theorem asc_tail {x : List Val × Int} {b : Bg} (h : Asc (x :: b)) : Asc b := (List.pairwise_cons.1 h).2
theorem asc_cons {x : List Val × Int} {b : Bg} (h1 : ∀ y ∈ b, cmpL x.1 y.1 = -1) (h2 : Asc b) : Asc (x :: b) := List.pairwise_cons.2 ⟨h1, h2⟩

theorem look_add : ∀ (b : Bg) (r : List Val) (n : Int) (s : List Val), Asc b → lookB (addB b r n) s = lookB b s + if cmpL r s = 0 then n else 0
  | [], r, n, s, _ => by
    rw [addB]
    by_cases hn : n = 0
    · subst hn
      simp [lookB]
    · rw [if_neg hn]
      simp [lookB]
  | x :: b, r, n, s, h => by
    rw [addB]
    by_cases h1 : cmpL x.1 r = -1
    · rw [if_pos h1, lookB, lookB, look_add b r n s (asc_tail h)]
      by_cases hs : cmpL x.1 s = 0
      · have e := cmpL_iff.1 hs
        rw [if_pos hs, if_pos hs, if_neg, Int.add_zero]
        intro hr
        rw [← e] at hr
        rw [cmpL_neg r x.1, hr] at h1
        cases h1
      · rw [if_neg hs, if_neg hs]
    · rw [if_neg h1]
      by_cases h2 : cmpL x.1 r = 0
      · have e := cmpL_iff.1 h2
        rw [if_pos h2]
        by_cases hs : cmpL r s = 0
        · have es := cmpL_iff.1 hs
          have hl : lookB b s = 0 := look_none b s fun y hy => by rw [← es, ← e]; exact asc_head h y hy
          rw [if_pos hs, lookB, e, if_pos hs]
          by_cases hz : n + x.2 = 0
          · rw [if_pos hz, hl]; omega
          · rw [if_neg hz, lookB, if_pos hs]; omega
        · rw [if_neg hs, lookB, e, if_neg hs, Int.add_zero]
          by_cases hz : n + x.2 = 0
          · rw [if_pos hz]
          · rw [if_neg hz, lookB, if_neg hs]
      · rw [if_neg h2]
        have hlt := cmpL_one h1 h2
        by_cases hs : cmpL r s = 0
        · have es := cmpL_iff.1 hs
          have hl : lookB (x :: b) s = 0 := look_none _ s fun y hy => by
            rw [← es]
            rcases List.mem_cons.1 hy with rfl | hy
            · exact hlt
            · exact cmpL_trans hlt (asc_head h y hy)
          rw [if_pos hs, hl]
          by_cases hz : n = 0
          · rw [if_pos hz, hl, hz]; rfl
          · rw [if_neg hz, lookB, if_pos hs]; omega
        · rw [if_neg hs, Int.add_zero]
          by_cases hz : n = 0
          · rw [if_pos hz]
          · rw [if_neg hz, look_cons_ne (x := (r, n)) hs]
theorem add_above : ∀ (b : Bg) (r : List Val) (n : Int) (k : List Val), (∀ x ∈ b, cmpL k x.1 = -1) → cmpL k r = -1 → ∀ x ∈ addB b r n, cmpL k x.1 = -1
  | [], r, n, k, _, hr, x, hx => by
    rw [addB] at hx
    split at hx
    · cases hx
    · rw [List.mem_singleton] at hx; rw [hx]; exact hr
  | y :: b, r, n, k, hb, hr, x, hx => by
    have hb' : ∀ z ∈ b, cmpL k z.1 = -1 := fun z hz => hb z (List.mem_cons_of_mem _ hz)
    rw [addB] at hx
    split at hx
    · rcases List.mem_cons.1 hx with rfl | hx
      · exact hb x (by simp)
      · exact add_above b r n k hb' hr x hx
    · split at hx
      · split at hx
        · exact hb' x hx
        · rcases List.mem_cons.1 hx with rfl | hx
          · exact hr
          · exact hb' x hx
      · split at hx
        · exact hb x hx
        · rcases List.mem_cons.1 hx with rfl | hx
          · exact hr
          · exact hb x hx
theorem asc_add : ∀ (b : Bg) (r : List Val) (n : Int), Asc b → Asc (addB b r n)
  | [], r, n, _ => by
    rw [addB]
    split
    · exact List.Pairwise.nil
    · exact List.pairwise_singleton _ _
  | x :: b, r, n, h => by
    rw [addB]
    by_cases h1 : cmpL x.1 r = -1
    · rw [if_pos h1]
      exact asc_cons (add_above b r n x.1 (asc_head h) h1) (asc_add b r n (asc_tail h))
    · rw [if_neg h1]
      by_cases h2 : cmpL x.1 r = 0
      · have e := cmpL_iff.1 h2
        rw [if_pos h2]
        split
        · exact asc_tail h
        · exact asc_cons (fun y hy => by rw [← e]; exact asc_head h y hy) (asc_tail h)
      · have hlt := cmpL_one h1 h2
        rw [if_neg h2]
        split
        · exact h
        · refine asc_cons (fun y hy => ?_) h
          rcases List.mem_cons.1 hy with rfl | hy
          · exact hlt
          · exact cmpL_trans hlt (asc_head h y hy)
theorem nz_add : ∀ (b : Bg) (r : List Val) (n : Int), NZ b → NZ (addB b r n)
  | [], r, n, _ => by
    rw [addB]
    split
    · exact fun x hx => by cases hx
    · rename_i hn
      intro x hx
      rw [List.mem_singleton] at hx
      rw [hx]
      exact hn
  | y :: b, r, n, h => by
    have hb : NZ b := fun x hx => h x (List.mem_cons_of_mem _ hx)
    rw [addB]
    split
    · intro x hx
      rcases List.mem_cons.1 hx with rfl | hx
      · exact h x (by simp)
      · exact nz_add b r n hb x hx
    · split
      · split
        · exact hb
        · rename_i hn
          intro x hx
          rcases List.mem_cons.1 hx with rfl | hx
          · exact hn
          · exact hb x hx
      · split
        · exact h
        · rename_i hn
          intro x hx
          rcases List.mem_cons.1 hx with rfl | hx
          · exact hn
          · exact h x hx
/-- Two bags that tell the same of every row are the same. -/
theorem bag_ext : ∀ (a b : Bg), Asc a → Asc b → NZ a → NZ b → (∀ s, lookB a s = lookB b s) → a = b
  | [], [], _, _, _, _, _ => rfl
  | [], y :: b, _, _, _, hn, h => by
    have := h y.1
    rw [lookB, lookB, if_pos (cmpL_same _)] at this
    exact absurd this.symm (hn y (by simp))
  | x :: a, [], _, _, hn, _, h => by
    have := h x.1
    rw [lookB, lookB, if_pos (cmpL_same _)] at this
    exact absurd this (hn x (by simp))
  | x :: a, y :: b, ha, hb, na, nb, h => by
    have hx := h x.1
    have hy := h y.1
    rw [lookB, if_pos (cmpL_same _)] at hx
    rw [lookB.eq_def (y :: b) y.1] at hy
    simp only [cmpL_same, if_true] at hy
    by_cases h1 : cmpL x.1 y.1 = 0
    · have e := cmpL_iff.1 h1
      have h2 : x.2 = y.2 := by rw [lookB, ← e, if_pos (cmpL_same _)] at hx; exact hx
      have hxy : x = y := Prod.ext e h2
      subst hxy
      rw [bag_ext a b (asc_tail ha) (asc_tail hb) (fun z hz => na z (List.mem_cons_of_mem _ hz)) (fun z hz => nb z (List.mem_cons_of_mem _ hz)) fun s => ?_]
      by_cases hs : cmpL x.1 s = 0
      · have es := cmpL_iff.1 hs
        rw [← es, look_none a x.1 (asc_head ha), look_none b x.1 (asc_head hb)]
      · have := h s
        rwa [look_cons_ne hs, look_cons_ne hs] at this
    · exfalso
      by_cases h2 : cmpL x.1 y.1 = -1
      · rw [look_none (y :: b) x.1 (fun z hz => by
          rcases List.mem_cons.1 hz with rfl | hz
          · exact h2
          · exact cmpL_trans h2 (asc_head hb z hz))] at hx
        exact na x (by simp) hx
      · have h3 := cmpL_one h2 h1
        rw [look_none (x :: a) y.1 (fun z hz => by
          rcases List.mem_cons.1 hz with rfl | hz
          · exact h3
          · exact cmpL_trans h3 (asc_head ha z hz))] at hy
        exact nb y (by simp) hy.symm

/-- How often a row is there in all of a list of counts. -/
def sumB : Bg → List Val → Int
  | [], _ => 0
  | x :: b, s => (if cmpL x.1 s = 0 then x.2 else 0) + sumB b s
theorem sum_none (b : Bg) (r : List Val) (h : ∀ x ∈ b, cmpL r x.1 = -1) : sumB b r = 0 := by
  induction b with
  | nil => rfl
  | cons x b ih =>
    rw [sumB, ih fun y hy => h y (List.mem_cons_of_mem _ hy), if_neg]
    · rfl
    · intro e
      have := h x (by simp)
      rw [cmpL_neg x.1 r, e] at this
      cases this
theorem sum_look : ∀ (b : Bg) (s : List Val), Asc b → sumB b s = lookB b s
  | [], _, _ => rfl
  | x :: b, s, h => by
    rw [sumB, lookB]
    by_cases hs : cmpL x.1 s = 0
    · have e := cmpL_iff.1 hs
      rw [if_pos hs, if_pos hs, ← e, sum_none b x.1 (asc_head h), Int.add_zero]
    · rw [if_neg hs, if_neg hs, sum_look b s (asc_tail h), Int.zero_add]
/-- Two bags together. -/
def bothB (a b : Bg) : Bg := b.foldl (fun a x => addB a x.1 x.2) a
theorem both_cons (a : Bg) (x : List Val × Int) (b : Bg) : bothB a (x :: b) = bothB (addB a x.1 x.2) b := rfl
theorem asc_both : ∀ (b a : Bg), Asc a → Asc (bothB a b)
  | [], _, h => h
  | x :: b, a, h => asc_both b _ (asc_add a x.1 x.2 h)
theorem nz_both : ∀ (b a : Bg), NZ a → NZ (bothB a b)
  | [], _, h => h
  | x :: b, a, h => nz_both b _ (nz_add a x.1 x.2 h)
theorem look_both : ∀ (b a : Bg) (s : List Val), Asc a → lookB (bothB a b) s = lookB a s + sumB b s
  | [], a, s, _ => by rw [sumB, Int.add_zero]; rfl
  | x :: b, a, s, h => by
    rw [both_cons, look_both b _ s (asc_add a x.1 x.2 h), look_add a x.1 x.2 s h, sumB]
    omega
/-- Bags together. -/
def plusL (l : List Bg) : Bg := l.foldl bothB []
def sumL : List Bg → List Val → Int
  | [], _ => 0
  | b :: l, s => sumB b s + sumL l s
theorem plus_go : ∀ (l : List Bg) (a : Bg) (s : List Val), Asc a → Asc (l.foldl bothB a) ∧ lookB (l.foldl bothB a) s = lookB a s + sumL l s
  | [], a, s, h => ⟨h, by rw [sumL, Int.add_zero]; rfl⟩
  | b :: l, a, s, h => by
    have h2 := plus_go l (bothB a b) s (asc_both b a h)
    refine ⟨h2.1, ?_⟩
    show lookB (l.foldl bothB (bothB a b)) s = _
    rw [h2.2, look_both b a s h, sumL]
    omega
theorem nz_go : ∀ (l : List Bg) (a : Bg), NZ a → NZ (l.foldl bothB a)
  | [], _, h => h
  | b :: l, a, h => nz_go l (bothB a b) (nz_both b a h)
theorem asc_plus (l : List Bg) : Asc (plusL l) := (plus_go l [] [] List.Pairwise.nil).1
theorem nz_plus (l : List Bg) : NZ (plusL l) := nz_go l [] (fun x hx => by cases hx)
theorem look_plus (l : List Bg) (s : List Val) : lookB (plusL l) s = sumL l s := by
  have := (plus_go l [] s List.Pairwise.nil).2
  rw [show lookB [] s = 0 from rfl, Int.zero_add] at this
  exact this
/-- The bag of rows. -/
def ofL (l : List (List Val)) : Bg := bothB [] (l.map fun r => (r, 1))
theorem look_of (l : List (List Val)) (s : List Val) : lookB (ofL l) s = sumB (l.map fun r => (r, 1)) s := by
  unfold ofL
  rw [look_both _ [] s List.Pairwise.nil, show lookB [] s = 0 from rfl, Int.zero_add]
theorem sum_append : ∀ (a b : Bg) (s : List Val), sumB (a ++ b) s = sumB a s + sumB b s
  | [], b, s => by rw [List.nil_append, sumB, Int.zero_add]
  | x :: a, b, s => by rw [List.cons_append, sumB, sumB, sum_append a b s]; omega
/-- A bag turned round. -/
def negB (b : Bg) : Bg := b.map fun x => (x.1, -x.2)
theorem asc_neg {b : Bg} (h : Asc b) : Asc (negB b) := by
  unfold negB Asc
  rw [List.pairwise_map]
  exact h
theorem nz_neg {b : Bg} (h : NZ b) : NZ (negB b) := by
  intro x hx
  obtain ⟨y, hy, rfl⟩ := List.mem_map.1 hx
  have := h y hy
  show -y.2 ≠ 0
  omega
theorem sum_neg : ∀ (b : Bg) (s : List Val), sumB (negB b) s = -sumB b s
  | [], _ => rfl
  | x :: b, s => by
    show (if cmpL x.1 s = 0 then -x.2 else 0) + sumB (negB b) s = -((if cmpL x.1 s = 0 then x.2 else 0) + sumB b s)
    rw [sum_neg b s]
    split <;> omega
/-- May a bag be? -/
def okC (x : List Val × Int) : Bool := !(x.2 == 0) && (decide (-1000000000 ≤ x.2) && (decide (x.2 ≤ 1000000000) && mayR x.1))
def risesB : Bg → Bool
  | x :: y :: b => decide (cmpL x.1 y.1 < 0) && risesB (y :: b)
  | _ => true
def mayBag (b : Bg) : Bool := b.all okC && risesB b
theorem rises_asc : ∀ b : Bg, risesB b = true → Asc b
  | [], _ => List.Pairwise.nil
  | [x], _ => List.pairwise_singleton _ _
  | x :: y :: b, h => by
    rw [risesB, Bool.and_eq_true, decide_eq_true_eq] at h
    have h2 := rises_asc (y :: b) h.2
    have h1 : cmpL x.1 y.1 = -1 := by rcases cmpL_range x.1 y.1 with e | e | e <;> omega
    refine asc_cons (fun z hz => ?_) h2
    rcases List.mem_cons.1 hz with rfl | hz
    · exact h1
    · exact cmpL_trans h1 (asc_head h2 z hz)
theorem asc_rises : ∀ b : Bg, Asc b → risesB b = true
  | [], _ => rfl
  | [x], _ => rfl
  | x :: y :: b, h => by
    rw [risesB, asc_rises (y :: b) (asc_tail h), Bool.and_true, asc_head h y (by simp)]
    rfl
theorem may_asc {b : Bg} (h : mayBag b = true) : Asc b := by
  unfold mayBag at h
  rw [Bool.and_eq_true] at h
  exact rises_asc b h.2
theorem may_okC {b : Bg} (h : mayBag b = true) : ∀ x ∈ b, okC x = true := by
  unfold mayBag at h
  rw [Bool.and_eq_true, List.all_eq_true] at h
  exact h.1
theorem okC_parts {x : List Val × Int} (h : okC x = true) : x.2 ≠ 0 ∧ -1000000000 ≤ x.2 ∧ x.2 ≤ 1000000000 ∧ mayR x.1 = true := by
  unfold okC at h
  simp only [Bool.and_eq_true, Bool.not_eq_true', decide_eq_true_eq, beq_eq_false_iff_ne] at h
  exact h
theorem may_nz {b : Bg} (h : mayBag b = true) : NZ b := fun x hx => (okC_parts (may_okC h x hx)).1
end Go.Proofs.YthgoflaphbigbaaGreatDoor
