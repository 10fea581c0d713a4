/-
  Two expressions and a step that takes two: plain facts on what they come to.
-/
import Derived.Test.YticofedglhfdpaaGreatDoorREvP
namespace Go.Proofs.YticofedglhfdpaaGreatDoor
open Go Go.RowKit

/-- With more beneath the stack a step does the same, unless it was too few, or of kinds that do not fit. -/
theorem stepV_more (row p s : List Val) (x : Nd) : (∀ s', stepV row s x = .inr s' → stepV row (p ++ s) x = .inr (p ++ s')) ∧ (∀ er, er ≠ 30 → stepV row s x = .inl er → stepV row (p ++ s) x = .inl er) := by
  by_cases h0 : (x.op == 0) = true
  · have e : ∀ t, lvV row t x = ((vcolR row x.n).1, (vcolR row x.n).2, t) := fun t => by unfold lvV; rw [h0, if_pos rfl]
    refine ⟨fun s' hs => ?_, fun er _ hs => ?_⟩
    · unfold stepV at hs ⊢
      rw [e] at hs ⊢
      cases hz : (vcolR row x.n).2 == 0
      · simp [hz] at hs
      · simp [hz] at hs ⊢
        rw [← hs]
    · unfold stepV at hs ⊢
      rw [e] at hs ⊢
      cases hz : (vcolR row x.n).2 == 0
      · simp [hz] at hs ⊢
        exact hs
      · simp [hz] at hs
  · have h0' : (x.op == 0) = false := by simpa using h0
    by_cases h1 : (x.op == 1) = true
    · have e : ∀ t, lvV row t x = ((conR x.v).1, (conR x.v).2, t) := fun t => by unfold lvV; rw [h0', h1, if_neg Bool.false_ne_true, if_pos rfl]
      refine ⟨fun s' hs => ?_, fun er _ hs => ?_⟩
      · unfold stepV at hs ⊢
        rw [e] at hs ⊢
        cases hz : (conR x.v).2 == 0
        · simp [hz] at hs
        · simp [hz] at hs ⊢
          rw [← hs]
      · unfold stepV at hs ⊢
        rw [e] at hs ⊢
        cases hz : (conR x.v).2 == 0
        · simp [hz] at hs ⊢
          exact hs
        · simp [hz] at hs
    · have h1' : (x.op == 1) = false := by simpa using h1
      by_cases hf : s.length < takes x.op
      · have e := stepV_few row s x h0' h1' hf
        refine ⟨fun s' hs => ?_, fun er her hs => ?_⟩
        · rw [e] at hs; cases hs
        · rw [e] at hs; injection hs with hs; exact absurd hs.symm her
      · have hs : s = s.take (s.length - takes x.op) ++ s.drop (s.length - takes x.op) := (List.take_append_drop _ _).symm
        have ht : (s.drop (s.length - takes x.op)).length = takes x.op := by rw [List.length_drop]; omega
        generalize s.take (s.length - takes x.op) = rest at hs
        generalize s.drop (s.length - takes x.op) = ts at hs ht
        subst hs
        have e1 := stepV_op row rest ts x h0' h1' ht
        have e2 := stepV_op row (p ++ rest) ts x h0' h1' ht
        rw [List.append_assoc] at e2
        rw [e1, e2]
        refine ⟨fun s' hs => ?_, fun er _ hs => ?_⟩
        · split at hs
          · rename_i hm
            rw [if_pos hm]
            split at hs
            · rename_i hc
              rw [if_pos hc]
              injection hs with hs
              rw [← hs, List.append_assoc]
            · cases hs
          · cases hs
        · split at hs
          · rename_i hm
            rw [if_pos hm]
            split at hs
            · cases hs
            · rename_i hc
              rw [if_neg hc]
              exact hs
          · rename_i hm
            rw [if_neg hm]
            exact hs
theorem goV_more (row p : List Val) : ∀ (e : List Nd) (s : List Val), (∀ s', goS (stepV row) s e = .inr s' → goS (stepV row) (p ++ s) e = .inr (p ++ s')) ∧ (∀ er, er ≠ 30 → goS (stepV row) s e = .inl er → goS (stepV row) (p ++ s) e = .inl er)
  | [], s => ⟨fun s' h => by rw [goS] at h ⊢; cases h; rfl, fun er _ h => by rw [goS] at h; cases h⟩
  | x :: r, s => by
    obtain ⟨m1, m2⟩ := stepV_more row p s x
    refine ⟨fun s' h => ?_, fun er her h => ?_⟩
    · rw [goS] at h ⊢
      cases hs : stepV row s x with
      | inl er => rw [hs] at h; cases h
      | inr s1 =>
        rw [hs] at h
        rw [m1 s1 hs]
        exact (goV_more row p r s1).1 s' h
    · rw [goS] at h ⊢
      cases hs : stepV row s x with
      | inl er' =>
        rw [hs] at h
        cases h
        rw [m2 er her hs]
      | inr s1 =>
        rw [hs] at h
        rw [m1 s1 hs]
        exact (goV_more row p r s1).2 er her h
theorem goS_appV {σ : Type} (step : σ → Nd → Sum Int σ) : ∀ (e r : List Nd) (s : σ), goS step s (e ++ r) = match goS step s e with
    | .inl er => .inl er
    | .inr s' => goS step s' r
  | [], r, s => by rw [List.nil_append, goS]
  | x :: e, r, s => by
    rw [List.cons_append, goS, goS]
    cases step s x with
    | inl er => rfl
    | inr s1 => exact goS_appV step e r s1
theorem goS_one {σ : Type} (step : σ → Nd → Sum Int σ) (s : σ) (x : Nd) : goS step s [x] = step s x := by
  rw [goS]
  cases step s x with
  | inl er => rfl
  | inr s1 => rfl
/-- What is answered where nothing is wrong, or what is. -/
theorem eval_ok (e : List Nd) (row : List Val) (h : e.length ≤ 100) (h0 : (evalR e row).2 = 0) : goS (stepV row) [] e = .inr [(evalR e row).1] := by
  rw [evalR_out e row h] at h0 ⊢
  cases hg : goS (stepV row) [] e with
  | inl er =>
    rw [hg] at h0
    have h1 := goV_err e [] er hg
    have h2 : er = 0 := h0
    rw [h2] at h1
    cases h1
  | inr l =>
    rw [hg] at h0
    match l, h0 with
    | [x], _ => rfl
    | [], h0 => cases h0
    | _ :: _ :: _, h0 => cases h0
theorem eval_bad (e : List Nd) (row : List Val) (h : e.length ≤ 100) (h0 : (evalR e row).2 ≠ 0) (h3 : (evalR e row).2 ≠ 30) : goS (stepV row) [] e = .inl (evalR e row).2 := by
  rw [evalR_out e row h] at h0 h3 ⊢
  cases hg : goS (stepV row) [] e with
  | inl er => rfl
  | inr l =>
    rw [hg] at h0 h3
    match l, h0, h3 with
    | [x], h0, _ => exact absurd rfl h0
    | [], _, h3 => exact absurd rfl h3
    | _ :: _ :: _, _, h3 => exact absurd rfl h3
def opE (op : Int) : Nd := ⟨op, 0, nl⟩
/-- A step of two values. -/
theorem step_two (row : List Val) (op : Int) (x y : Val) (h : 2 ≤ op ∧ op ≤ 8) : outV (stepV row [x, y] (opE op)) = opR op [x, y] := by
  obtain ⟨_, ht, h0, h1⟩ := tk_two op h
  have e := stepV_op row [] [x, y] (opE op) h0 h1 ht.symm
  rw [List.nil_append] at e
  rw [e]
  show outV (if mtR op [x, y] = true then (if (cmpR op [x, y]).2 = true then .inr ([] ++ [(cmpR op [x, y]).1]) else .inl 31) else .inl 30) = opR op [x, y]
  unfold opR
  cases mtR op [x, y]
  · rfl
  · cases hc : (cmpR op [x, y]).2 <;> rfl
theorem parts_f (a b : List Nd) (row : List Val) (op : Int) (ha : a.length ≤ 40) (hb : b.length ≤ 40) (hf : (evalR a row).2 ≠ 0) (hf3 : (evalR a row).2 ≠ 30) : evalR (a ++ (b ++ [opE op])) row = (nl, (evalR a row).2) := by
  rw [evalR_out _ row (by simp; omega), goS_appV, eval_bad a row (by omega) hf hf3]
  rfl
theorem parts_g (a b : List Nd) (row : List Val) (op : Int) (ha : a.length ≤ 40) (hb : b.length ≤ 40) (hf : (evalR a row).2 = 0) (hg : (evalR b row).2 ≠ 0) (hg3 : (evalR b row).2 ≠ 30) : evalR (a ++ (b ++ [opE op])) row = (nl, (evalR b row).2) := by
  rw [evalR_out _ row (by simp; omega), goS_appV, eval_ok a row (by omega) hf]
  show outV (goS (stepV row) [(evalR a row).1] (b ++ [opE op])) = _
  rw [goS_appV]
  have := (goV_more row [(evalR a row).1] b []).2 _ hg3 (eval_bad b row (by omega) hg hg3)
  rw [List.append_nil] at this
  rw [this]
  rfl
theorem parts_ok (a b : List Nd) (row : List Val) (op : Int) (h : 2 ≤ op ∧ op ≤ 8) (ha : a.length ≤ 40) (hb : b.length ≤ 40) (hf : (evalR a row).2 = 0) (hg : (evalR b row).2 = 0) : evalR (a ++ (b ++ [opE op])) row = opR op [(evalR a row).1, (evalR b row).1] := by
  rw [evalR_out _ row (by simp; omega), goS_appV, eval_ok a row (by omega) hf]
  show outV (goS (stepV row) [(evalR a row).1] (b ++ [opE op])) = _
  rw [goS_appV]
  have := (goV_more row [(evalR a row).1] b []).1 _ (eval_ok b row (by omega) hg)
  rw [List.append_nil] at this
  rw [this]
  show outV (goS (stepV row) ([(evalR a row).1] ++ [(evalR b row).1]) [opE op]) = _
  rw [goS_one]
  exact step_two row op _ _ h
def colE (n : Int) : Nd := ⟨0, n, nl⟩
theorem parts_ref (x y : Val) (op : Int) (h : 2 ≤ op ∧ op ≤ 8) : evalR [colE 0, colE 1, opE op] [x, y] = opR op [x, y] := by
  rw [evalR_out _ _ (by show 3 ≤ 100; omega)]
  have e1 : stepV [x, y] [] (colE 0) = .inr [x] := rfl
  have e2 : stepV [x, y] [x] (colE 1) = .inr [x, y] := rfl
  have e3 : goS (stepV [x, y]) [] [colE 0, colE 1, opE op] = stepV [x, y] [x, y] (opE op) := by
    rw [goS, e1]
    show goS (stepV [x, y]) [x] [colE 1, opE op] = _
    rw [goS, e2]
    exact goS_one _ _ _
  rw [e3]
  exact step_two [x, y] op x y h
end Go.Proofs.YticofedglhfdpaaGreatDoor
