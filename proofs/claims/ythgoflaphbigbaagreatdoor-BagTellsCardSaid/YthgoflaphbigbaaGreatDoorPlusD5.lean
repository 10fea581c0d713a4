/-
  Lists of bags, where they lie; sums of their parts. No condition.
-/
import Derived.Test.YthgoflaphbigbaaGreatDoorBgIn5
import Derived.Test.YthgoflaphbigbaaGreatDoorBagQ
namespace Go.Proofs.YthgoflaphbigbaaGreatDoor
open Go Go.RowKit
set_option maxRecDepth 100000

/-- A bag, where it lies. -/
structure Bh where
  A : Option Addr
  n : Nat
  c : Nat
  cs : List Ct
def rdBh (b : Bh) : List Value := [.slice b.A b.n b.c]
def Bh.In (w : World) (b : Bh) : Prop := BgIn w b.A b.n b.cs
/-- How many rows there are together. -/
def totB : List Bh → Nat
  | [] => 0
  | b :: l => b.n + totB l
theorem totB_take : ∀ (l : List Bh) (k : Nat) (b : Bh), l[k]? = some b → totB (l.take (k + 1)) = totB (l.take k) + b.n
  | [], k, b, h => by simp at h
  | x :: l, 0, b, h => by
    simp at h
    subst h
    simp [totB]
  | x :: l, k + 1, b, h => by
    have := totB_take l k b (by simpa using h)
    rw [List.take_succ_cons, List.take_succ_cons, totB, totB, this]
    omega
theorem totB_le : ∀ (l : List Bh) (k : Nat), totB (l.take k) ≤ totB l
  | [], k => by simp
  | x :: l, 0 => Nat.zero_le _
  | x :: l, k + 1 => by
    have := totB_le l k
    rw [List.take_succ_cons, totB, totB]
    omega
theorem bd_may {b : Bg} (h : mayBag b = true) : Bd 1000000000 b := by
  unfold mayBag at h
  rw [Bool.and_eq_true, List.all_eq_true] at h
  intro x hx
  have := okC_parts (h.1 x hx)
  exact ⟨this.2.1, this.2.2.1⟩
theorem plus_take (l : List Bg) (k : Nat) (b : Bg) (h : l[k]? = some b) : plusL (l.take (k + 1)) = bothB (plusL (l.take k)) b := by
  unfold plusL
  rw [List.take_add_one, h, List.foldl_append]
  rfl
theorem asc_plusL (l : List Bg) : Asc (plusL l) := (plus_go l [] [] List.Pairwise.nil).1
end Go.Proofs.YthgoflaphbigbaaGreatDoor
