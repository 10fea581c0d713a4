/-
  How cells that read as a slice read, of whatever elements, if it is known how one element reads. No condition.
-/
import Derived.Test.YthgoflaphbigbaaGreatDoorSlG
namespace Go.Proofs.YthgoflaphbigbaaGreatDoor
open Go Go.RowKit Go.ChangeShapes Go.WideShapes Go.ChangeAt Go.Joins Go.Deep

set_option maxRecDepth 100000
section
variable {H : Type} {enc : TypeId × Value → H}
/-- Cells that read as a slice, by how one element of it reads. -/
theorem slice_cells {α : Type} [Nonempty α] {W : World} {T E : TypeId} {S : Nat} (hT : Tryz.prog.underlying T = some (.slice E)) (hS : Tryz.prog.cellsOf E = S) (hS0 : 0 < S) (rd : α → List Value) (hrd : ∀ x, (rd x).length = S) (Q : α → Prop)
    (each : ∀ (cs' : List Value) (n : Nat) (z : DataW H × List MemPlace), DataW.trod enc Tryz.prog W 0 (fun _ => true) true n E cs' = some z → ∃ x : α, cs' = rd x ∧ Q x)
    {fuel : Nat} {cs : List Value} {z : DataW H × List MemPlace} (hf : DataW.trod enc Tryz.prog W 0 (fun _ => true) true fuel T cs = some z) :
    ∃ (A : Option Addr) (n c : Nat) (xs : List α), cs = [.slice A n c] ∧ xs.length = n ∧ n ≤ maxLen ∧ n ≤ c ∧ SlG W A S rd xs ∧ ∀ x ∈ xs, Q x := by
  rcases open_slice hT hf with ⟨hcs, _⟩ | ⟨a, len, cap, m, n, D, Pl, hcs, _, hl, hm, hmm, _, hi⟩
  · subst hcs
    exact ⟨none, 0, 0, [], rfl, rfl, Nat.zero_le _, Nat.zero_le _, .inl rfl, (fun x h => by cases h)⟩
  · subst hcs
    have hm' : m = cap := by rw [hmm]; rfl
    have each' : ∀ i, i < len → ∃ x : α, (∀ j u, (rd x)[j]? = some u → W.cell? (a.add (i * S + j)) = some u) ∧ Q x := by
      intro i hil
      obtain ⟨cs', hc, ht'⟩ := hi i (by omega)
      obtain ⟨x, rfl, hx⟩ := each cs' n _ ht'
      rw [hS] at hc
      obtain ⟨_, hcl, hat⟩ := World.cells?_some hc
      refine ⟨x, fun j u hju => ?_, hx⟩
      have hj : j < S := by
        have := (List.getElem?_eq_some_iff.1 hju).1
        rw [hrd] at this
        exact this
      have := hat j hj
      rw [← Go.Deep.add_add]
      rw [this]
      exact hju
    rcases Nat.eq_zero_or_pos len with h0 | h0
    · subst h0
      exact ⟨some a, 0, cap, [], rfl, rfl, Nat.zero_le _, Nat.zero_le _, .inl rfl, (fun x h => by cases h)⟩
    · have first : ∃ x u, (rd x)[0]? = some u ∧ W.cell? (a.add (0 * S + 0)) = some u := by
        obtain ⟨x, hc, _⟩ := each' 0 h0
        have : (rd x)[0]? = some ((rd x)[0]'(by rw [hrd]; exact hS0)) := List.getElem?_eq_getElem _
        exact ⟨x, _, this, hc 0 _ this⟩
      have hspot : a.spot = none := by
        obtain ⟨x, u, _, hc⟩ := first
        simpa [Addr.add] using World.cell?_spot hc
      have ha : a = ⟨a.block, a.off, none⟩ := by cases a; simp at hspot; rw [hspot]
      have hadd : ∀ j, a.add j = ⟨a.block, a.off + j, none⟩ := fun j => by
        rw [ha]; unfold Addr.add; split
        · rename_i e; subst e; rfl
        · rfl
      refine ⟨some a, len, cap, (List.range len).map fun i => if h : i < len then Classical.choose (each' i h) else Classical.choice inferInstance, rfl, by simp, by omega, hl, .inr ⟨a.block, a.off, by rw [← ha], ?_, ?_⟩, ?_⟩
      · obtain ⟨x, u, _, hc⟩ := first
        rw [hadd] at hc
        exact World.block_lt_of_cell? W ⟨a.block, a.off + (0 * S + 0), none⟩ hc
      · intro i x hx j u hju
        have hil : i < len := by
          have := (List.getElem?_eq_some_iff.1 hx).1
          simpa using this
        have hx' : Classical.choose (each' i hil) = x := by
          rw [List.getElem?_map, List.getElem?_range hil] at hx
          simpa [hil] using hx
        have hc := (Classical.choose_spec (each' i hil)).1
        rw [hx'] at hc
        have := hc j u hju
        rw [hadd, ← Nat.add_assoc] at this
        exact this
      · intro x hx
        obtain ⟨i, hi, rfl⟩ := List.mem_map.1 hx
        have hil : i < len := List.mem_range.1 hi
        rw [dif_pos hil]
        exact (Classical.choose_spec (each' i hil)).2

end
end Go.Proofs.YthgoflaphbigbaaGreatDoor
