/-
  Plain facts on texts of rows and bags, part by part; how long they are. No condition.
-/
import Derived.Test.YthgoflaphbigbaaGreatDoorBagT
namespace Go.Proofs.YthgoflaphbigbaaGreatDoor
open Go Go.RowKit
set_option maxRecDepth 100000

theorem join_snoc (sep x : List UInt8) : ∀ l : List (List UInt8), l ≠ [] → Lib.join (l ++ [x]) sep = Lib.join l sep ++ (sep ++ x)
  | [], h => absurd rfl h
  | a :: l, _ => by
    rw [List.cons_append, Lib.join_cons, Lib.join_cons]
    simp [Lib.joinTail]
theorem body_next (xs : List Val) (k : Nat) (x : Val) (hx : xs[k]? = some x) : bodyL (xs.take (k + 1)) = bodyL (xs.take k) ++ ((if k = 0 then [] else [44, 32]) ++ textL x) := by
  unfold bodyL
  rw [List.take_add_one, hx, List.map_append]
  by_cases h : k = 0
  · subst h
    simp [Lib.join_one, Lib.join_nil]
  · rw [if_neg h]
    have hk : k < xs.length := (List.getElem?_eq_some_iff.1 hx).1
    exact join_snoc _ _ _ (fun e => by
      have := congrArg List.length e
      rw [List.length_map, List.length_take, List.length_nil] at this
      omega)
theorem body_len5 (xs : List Val) (h6 : ∀ x ∈ xs, -9223372036854775808 ≤ x.n ∧ x.n ≤ 9223372036854775807) (hz : ∀ x ∈ xs, x.s.size ≤ 2000) : ∀ k, k ≤ xs.length → (bodyL (xs.take k)).length ≤ k * 5002
  | 0, _ => by simp [bodyL, Lib.join_nil]
  | k + 1, hk => by
    have ih := body_len5 xs h6 hz k (by omega)
    have hx : xs[k]? = some (xs[k]'(by omega)) := List.getElem?_eq_getElem _
    have hm := List.mem_of_getElem? hx
    have ht := text_len _ (h6 _ hm) (hz _ hm)
    rw [body_next xs k _ hx, List.length_append, List.length_append]
    have : (if k = 0 then ([] : List UInt8) else [44, 32]).length ≤ 2 := by split <;> simp
    omega
theorem rowT_len (xs : List Val) (h6 : ∀ x ∈ xs, -9223372036854775808 ≤ x.n ∧ x.n ≤ 9223372036854775807) (hz : ∀ x ∈ xs, x.s.size ≤ 2000) (hn : xs.length ≤ 200) : (rowT xs).length ≤ 1000500 := by
  have h := body_len5 xs h6 hz xs.length (Nat.le_refl _)
  rw [List.take_of_length_le (Nat.le_refl _)] at h
  unfold rowT
  rw [List.length_append, List.length_append]
  simp only [List.length_cons, List.length_nil]
  omega
theorem bagT_next (b : Bg) (k : Nat) (x : List Val × Int) (hx : b[k]? = some x) : bagT (b.take (k + 1)) = bagT (b.take k) ++ ((if k = 0 then [] else [32]) ++ entT x) := by
  unfold bagT
  rw [List.take_add_one, hx, List.map_append]
  by_cases h : k = 0
  · subst h
    simp [Lib.join_one, Lib.join_nil]
  · rw [if_neg h]
    have hk : k < b.length := (List.getElem?_eq_some_iff.1 hx).1
    exact join_snoc _ _ _ (fun e => by
      have := congrArg List.length e
      rw [List.length_map, List.length_take, List.length_nil] at this
      omega)
/-- What Text answers. -/
def bagTR (b : Bg) : List UInt8 := if mayBag b then bagT b else []
end Go.Proofs.YthgoflaphbigbaaGreatDoor
