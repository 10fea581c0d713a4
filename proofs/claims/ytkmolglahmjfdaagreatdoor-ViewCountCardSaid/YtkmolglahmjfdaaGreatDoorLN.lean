/-
  Where the nodes of an expression lie; no condition.
-/
import Derived.Test.YtkmolglahmjfdaaGreatDoorQ02
set_option linter.unusedVariables false
namespace Go.Proofs.YtkmolglahmjfdaaGreatDoor
open Go Go.RowKit
def SlN (w : World) (A : Option Addr) (e : List Nd) : Prop :=
  e = [] ∨ ∃ b off, A = some ⟨b, off, none⟩ ∧ b < w.heap.size ∧ ∀ i (x : Nd), e[i]? = some x →
    w.cell? ⟨b, off + i * 5, none⟩ = some (.int .i64 x.op) ∧ w.cell? ⟨b, off + i * 5 + 1, none⟩ = some (.int .i64 x.n) ∧ w.cell? ⟨b, off + i * 5 + 2, none⟩ = some (.int .i64 x.v.k) ∧ w.cell? ⟨b, off + i * 5 + 3, none⟩ = some (.int .i64 x.v.n) ∧ w.cell? ⟨b, off + i * 5 + 4, none⟩ = some (.string x.v.s)
theorem SlN.after {w w' : World} {A : Option Addr} {e : List Nd} (h : SlN w A e) (hb : Below w.heap.size w w') : SlN w' A e := by
  rcases h with h | ⟨b, off, hA, hlt, h⟩
  · exact .inl h
  · refine .inr ⟨b, off, hA, Nat.lt_of_lt_of_le hlt hb.size, fun i x hx => ?_⟩
    obtain ⟨h0, h1, h2, h3, h4⟩ := h i x hx
    exact ⟨(hb.cell hlt).trans h0, (hb.cell hlt).trans h1, (hb.cell hlt).trans h2, (hb.cell hlt).trans h3, (hb.cell hlt).trans h4⟩
end Go.Proofs.YtkmolglahmjfdaaGreatDoor
