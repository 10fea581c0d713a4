/-
  How values compare, as the document has it, of every value.
-/
import Derived.Test.YticofedglhfdpaaGreatDoorCmpP
namespace Go.Proofs.YticofedglhfdpaaGreatDoor
open Go Go.RowKit
set_option maxRecDepth 100000
set_option maxHeartbeats 400000 in
theorem rcompare_k (x y : Val) (w : World) (h1 : (x.k != y.k) = true) : Calls Tryz.prog 36 #[x.v, y.v] w fun e w' => e = .returned (.int .i64 (Lib.compareInt x.k y.k)) ∧ Below w.heap.size w w' := by
  cases h : decide (x.k < y.k)
  · have e : Lib.compareInt x.k y.k = 1 := by
      have := of_decide_eq_false h
      have hne : x.k ≠ y.k := by simpa using h1
      unfold Lib.compareInt
      rw [if_neg this, if_pos (by omega)]
    rw [e]
    clear e
    go_enter Tryz.func36, Tryz.ntmps36
    go_wp2
    go_ret
    exact ⟨rfl, below_two _ _ _⟩
  · have e : Lib.compareInt x.k y.k = -1 := by
      unfold Lib.compareInt
      rw [if_pos (of_decide_eq_true h)]
    rw [e]
    clear e
    go_enter Tryz.func36, Tryz.ntmps36
    go_wp2
    go_ret
    exact ⟨rfl, below_two _ _ _⟩
set_option maxHeartbeats 400000 in
theorem rcompare_n (x y : Val) (w : World) (h0 : (x.k != y.k) = false) (h1 : (x.n != y.n) = true) : Calls Tryz.prog 36 #[x.v, y.v] w fun e w' => e = .returned (.int .i64 (Lib.compareInt x.n y.n)) ∧ Below w.heap.size w w' := by
  cases h : decide (x.n < y.n)
  · have e : Lib.compareInt x.n y.n = 1 := by
      have := of_decide_eq_false h
      have hne : x.n ≠ y.n := by simpa using h1
      unfold Lib.compareInt
      rw [if_neg this, if_pos (by omega)]
    rw [e]
    clear e
    go_enter Tryz.func36, Tryz.ntmps36
    go_wp2
    go_ret
    exact ⟨rfl, below_two _ _ _⟩
  · have e : Lib.compareInt x.n y.n = -1 := by
      unfold Lib.compareInt
      rw [if_pos (of_decide_eq_true h)]
    rw [e]
    clear e
    go_enter Tryz.func36, Tryz.ntmps36
    go_wp2
    go_ret
    exact ⟨rfl, below_two _ _ _⟩
set_option maxHeartbeats 400000 in
theorem rcompare_s (x y : Val) (w : World) (h0 : (x.k != y.k) = false) (h1 : (x.n != y.n) = false) : Calls Tryz.prog 36 #[x.v, y.v] w fun e w' => e = .returned (.int .i64 (Lib.compareBytes x.s.data.toList y.s.data.toList)) ∧ Below w.heap.size w w' := by
  have e := bl_eq x.s.toList y.s.toList
  rw [ByteArray.toList_eq, ByteArray.toList_eq] at e
  rw [e]
  clear e
  rw [← ByteArray.toList_eq, ← ByteArray.toList_eq]
  cases h : Op.bytesLess x.s.toList y.s.toList
  · cases h2 : x.s.toList == y.s.toList
    · go_enter Tryz.func36, Tryz.ntmps36
      go_wp2
      go_ret
      exact ⟨rfl, below_two _ _ _⟩
    · go_enter Tryz.func36, Tryz.ntmps36
      go_wp2
      go_ret
      exact ⟨rfl, below_two _ _ _⟩
  · go_enter Tryz.func36, Tryz.ntmps36
    go_wp2
    go_ret
    exact ⟨rfl, below_two _ _ _⟩
theorem rcompare_c (x y : Val) (w : World) : Calls Tryz.prog 36 #[x.v, y.v] w fun e w' => e = .returned (.int .i64 (cmpV x y)) ∧ Below w.heap.size w w' := by
  unfold cmpV
  cases h1 : x.k != y.k
  · cases h2 : x.n != y.n
    · exact rcompare_s x y w h1 h2
    · exact rcompare_n x y w h1 h2
  · exact rcompare_k x y w h1
end Go.Proofs.YticofedglhfdpaaGreatDoor
