/-
  The rows of a bag, and whether they can be listed. No condition.
-/
import Derived.Test.YthgoflaphbigbaaGreatDoorNegD5
namespace Go.Proofs.YthgoflaphbigbaaGreatDoor
open Go Go.RowKit
set_option maxRecDepth 100000

def totN : Bg → Int
  | [] => 0
  | x :: b => x.2 + totN b
def okFrom (s : Int) (b : Bg) : Bool := b.all (fun x => decide (0 ≤ x.2)) && decide (s + totN b ≤ 100000)
theorem tot_nn : ∀ b : Bg, b.all (fun x => decide (0 ≤ x.2)) = true → 0 ≤ totN b
  | [], _ => by decide
  | x :: b, h => by
    rw [List.all_cons, Bool.and_eq_true, decide_eq_true_eq] at h
    have := tot_nn b h.2
    rw [totN]
    omega
theorem okFrom_neg (s : Int) (x : List Val × Int) (b : Bg) (h : x.2 < 0) : okFrom s (x :: b) = false := by
  unfold okFrom
  rw [List.all_cons, decide_eq_false (by omega), Bool.false_and, Bool.false_and]
theorem okFrom_step (s : Int) (x : List Val × Int) (b : Bg) (h : 0 ≤ x.2) : okFrom s (x :: b) = okFrom (s + x.2) b := by
  unfold okFrom
  rw [List.all_cons, decide_eq_true h, Bool.true_and, totN, Int.add_assoc]
theorem okFrom_big (s : Int) (b : Bg) (h : 100000 < s) : okFrom s b = false := by
  unfold okFrom
  cases ha : b.all (fun x => decide (0 ≤ x.2))
  · rfl
  · have := tot_nn b ha
    rw [Bool.true_and]
    exact decide_eq_false (by omega)
theorem nn_le : ∀ b : Bg, b.all (fun x => decide (0 ≤ x.2)) = true → totN b ≤ 100000 → ∀ y ∈ b, 0 ≤ y.2 ∧ y.2 ≤ 100000
  | [], _, _ => nofun
  | x :: b, h, ht => by
    rw [List.all_cons, Bool.and_eq_true, decide_eq_true_eq] at h
    have h2 := tot_nn b h.2
    rw [totN] at ht
    intro y hy
    rcases List.mem_cons.1 hy with rfl | hy
    · omega
    · exact nn_le b h.2 (by omega) y hy
/-- What Rows answers. -/
def rowsOkB (b : Bg) : Bool := okFrom 0 b && mayBag b
def rowsC (cs : List Ct) : List Hd := cs.flatMap fun x => List.replicate x.N.toNat x.h
theorem rowsC_xs : ∀ cs : List Ct, (rowsC cs).map (·.xs) = rowsB (pl cs)
  | [] => rfl
  | x :: cs => by
    have h := rowsC_xs cs
    unfold rowsC rowsB pl at h ⊢
    rw [List.flatMap_cons, List.map_append, h, List.map_replicate, List.map_cons, List.flatMap_cons]
theorem rowsC_take (cs : List Ct) (k : Nat) (x : Ct) (h : cs[k]? = some x) : rowsC (cs.take (k + 1)) = rowsC (cs.take k) ++ List.replicate x.N.toNat x.h := by
  unfold rowsC
  rw [List.take_add_one, h, List.flatMap_append]
  simp
theorem rowsC_le (cs : List Ct) (k : Nat) : (rowsC (cs.take k)).length ≤ (rowsC cs).length := by
  have : rowsC cs = rowsC (cs.take k) ++ rowsC (cs.drop k) := by
    unfold rowsC
    rw [← List.flatMap_append, List.take_append_drop]
  rw [this, List.length_append]
  omega
theorem rowsC_len : ∀ cs : List Ct, (pl cs).all (fun x => decide (0 ≤ x.2)) = true → ((rowsC cs).length : Int) = totN (pl cs)
  | [], _ => rfl
  | x :: cs, h => by
    have e : pl (x :: cs) = (x.h.xs, x.N) :: pl cs := rfl
    rw [e, List.all_cons, Bool.and_eq_true, decide_eq_true_eq] at h
    have h2 := rowsC_len cs h.2
    have h1 : 0 ≤ x.N := h.1
    unfold rowsC at h2 ⊢
    rw [e, totN, List.flatMap_cons, List.length_append, List.length_replicate]
    show ((x.N.toNat + _ : Nat) : Int) = x.N + _
    omega
theorem rowsC_mem {cs : List Ct} {h : Hd} (hh : h ∈ rowsC cs) : ∃ x ∈ cs, h = x.h := by
  obtain ⟨x, hx, h1⟩ := List.mem_flatMap.1 hh
  exact ⟨x, hx, List.eq_of_mem_replicate h1⟩
/-- What Rows answers: the rows, and whether there are any. -/
structure RowsSaid (w : World) (cs : List Ct) (R : Bool) (v : Value) (w' : World) : Prop where
  said : ∃ A' n' c' hs, v = .slice A' n' c' ∧ hs.length = n' ∧ n' ≤ 100000 ∧ SlG w' A' 1 rdH hs ∧ (∀ h ∈ hs, ∃ x ∈ cs, h = x.h) ∧ hs.map (·.xs) = (if R then rowsB (pl cs) else [])
  below : Below w.heap.size w w'
theorem RowsSaid.no {w w' : World} {cs : List Ct} (h : Below w.heap.size w w') : RowsSaid w cs false (.slice none 0 0) w' := ⟨⟨none, 0, 0, [], rfl, rfl, Nat.zero_le _, .inl rfl, nofun, rfl⟩, h⟩
end Go.Proofs.YthgoflaphbigbaaGreatDoor
