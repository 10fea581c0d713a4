/-
  Plain facts on values of expressions: of numbers of 64 bits they are of 64 bits. No condition beyond that.
-/
import Derived.Test.YticofedglhfdpaaGreatDoorPartsP
namespace Go.Proofs.YticofedglhfdpaaGreatDoor
open Go Go.RowKit
set_option maxRecDepth 100000

theorem vcol_64 (row : List Val) (n : Int) (h : ∀ v ∈ row, N64 v.n) : N64 (vcolR row n).1.n := by
  unfold vcolR
  split
  · exact nl_64
  · cases hv : row[n.toNat]? with
    | none => exact nl_64
    | some v => exact h v (List.mem_of_getElem? hv)
theorem con_64 (x : Val) (h : N64 x.n) : N64 (conR x).1.n := by
  unfold conR
  split
  · exact h
  · exact nl_64
theorem opR_64 (op : Int) (ts : List Val) : N64 (opR op ts).1.n := by
  unfold opR
  split
  · split
    · exact cmpR_64 op ts
    · exact nl_64
  · exact nl_64
theorem step_64 (row ks : List Val) (x : Nd) (s : List Val) (hr : ∀ v ∈ row, N64 v.n) (hk : ∀ v ∈ ks, N64 v.n) (hx : N64 x.v.n) (h : stepV row ks x = .inr s) : ∀ v ∈ s, N64 v.n := by
  unfold stepV at h
  split at h
  · injection h with h
    subst h
    intro v hv
    have key : N64 (lvV row ks x).1.n ∧ ∀ u ∈ (lvV row ks x).2.2, u ∈ ks := by
      unfold lvV
      split
      · exact ⟨vcol_64 row x.n hr, fun u hu => hu⟩
      · split
        · exact ⟨con_64 x.v hx, fun u hu => hu⟩
        · split
          · exact ⟨nl_64, fun u hu => hu⟩
          · exact ⟨opR_64 _ _, fun u hu => List.mem_of_mem_take hu⟩
    rcases List.mem_append.1 hv with hv | hv
    · exact hk v (key.2 v hv)
    · rw [List.mem_singleton] at hv
      rw [hv]
      exact key.1
  · cases h
theorem go_64 (row : List Val) (hr : ∀ v ∈ row, N64 v.n) : ∀ (e : List Nd) (ks s : List Val), (∀ x ∈ e, N64 x.v.n) → (∀ v ∈ ks, N64 v.n) → goS (stepV row) ks e = .inr s → ∀ v ∈ s, N64 v.n
  | [], ks, s, _, hk, h => by
    rw [goS] at h
    injection h with h
    rw [← h]
    exact hk
  | x :: e, ks, s, he, hk, h => by
    rw [goS] at h
    cases hs : stepV row ks x with
    | inl er => rw [hs] at h; cases h
    | inr s1 =>
      rw [hs] at h
      exact go_64 row hr e s1 s (fun y hy => he y (List.mem_cons_of_mem _ hy)) (step_64 row ks x s1 hr hk (he x (by simp)) hs) h
theorem eval_64 (e : List Nd) (row : List Val) (hr : ∀ v ∈ row, N64 v.n) (he : ∀ x ∈ e, N64 x.v.n) (hl : e.length ≤ 100) : N64 (evalR e row).1.n := by
  rw [evalR_out e row hl]
  have h := go_64 row hr e []
  match hg : goS (stepV row) [] e with
  | .inl er => exact nl_64
  | .inr [] => exact nl_64
  | .inr [x] => exact h [x] he (fun v hv => by cases hv) hg x (by simp)
  | .inr (x :: y :: r) => exact nl_64
end Go.Proofs.YticofedglhfdpaaGreatDoor
