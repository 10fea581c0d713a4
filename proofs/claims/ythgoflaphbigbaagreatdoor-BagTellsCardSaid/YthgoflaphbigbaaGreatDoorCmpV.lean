/-
  How values, and lists of values, compare, as the program and as the document have it, of every value and list.
-/
import Derived.Test.YthgoflaphbigbaaGreatDoorMay
import Derived.Test.YthgoflaphbigbaaGreatDoorShelf
namespace Go.Proofs.YthgoflaphbigbaaGreatDoor
open Go Go.RowKit

/-- The order of values. -/
def cmpV (x y : Val) : Int := if x.k != y.k then Lib.compareInt x.k y.k else if x.n != y.n then Lib.compareInt x.n y.n else Lib.compareBytes x.s.data.toList y.s.data.toList

set_option maxHeartbeats 400000 in
theorem compare_c (x y : Val) (w : World) : Calls Tryz.prog 48 #[x.v, y.v] w fun e w' => e = .returned (.int .i64 (cmpV x y)) ∧ Below w.heap.size w w' := by
  cases h1 : x.k != y.k
  · cases h2 : x.n != y.n
    · have e : cmpV x y = Lib.compareBytes x.s.data.toList y.s.data.toList := by simp [cmpV, h1, h2]
      rw [e]
      clear e
      go_enter Tryz.func48, Tryz.ntmps48
      go_wp2_with fail
      refine (Tryz.strings_Compare _ _ _).mono ?_
      rintro e w1 ⟨rfl, rfl⟩
      go_wp2
      go_ret
      exact ⟨rfl, below_two _ _ _⟩
    · have e : cmpV x y = Lib.compareInt x.n y.n := by simp [cmpV, h1, h2]
      rw [e]
      clear e
      go_enter Tryz.func48, Tryz.ntmps48
      go_wp2_with fail
      refine (Tryz.cmp_Compare_int _ _ _).mono ?_
      rintro e w1 ⟨rfl, rfl⟩
      go_wp2
      go_ret
      exact ⟨rfl, below_two _ _ _⟩
  · have e : cmpV x y = Lib.compareInt x.k y.k := by simp [cmpV, h1]
    rw [e]
    clear e
    go_enter Tryz.func48, Tryz.ntmps48
    go_wp2_with fail
    refine (Tryz.cmp_Compare_int _ _ _).mono ?_
    rintro e w1 ⟨rfl, rfl⟩
    go_wp2
    go_ret
    exact ⟨rfl, below_two _ _ _⟩


theorem bl_eq : ∀ x y : List UInt8, Lib.compareBytes x y = if Op.bytesLess x y then -1 else if (Op.bytesLess x y || x == y) then 0 else 1
  | [], [] => rfl
  | [], _ :: _ => rfl
  | _ :: _, [] => rfl
  | a :: x, b :: y => by
    rw [Lib.compareBytes, Op.bytesLess, bl_eq x y]
    by_cases h1 : a < b
    · simp [h1]
    · by_cases h2 : b < a
      · have hne : a ≠ b := by rintro rfl; exact h1 h2
        have e : (a == b) = false := by simpa using hne
        simp [h1, h2, e]
      · have heq : a = b := by rw [UInt8.lt_iff_toNat_lt] at h1 h2; exact UInt8.toNat_inj.1 (by omega)
        subst heq
        simp [h1]

set_option maxHeartbeats 400000 in
theorem rcompare_k (x y : Val) (w : World) (h1 : (x.k != y.k) = true) : Calls Tryz.prog 50 #[x.v, y.v] w fun e w' => e = .returned (.int .i64 (Lib.compareInt x.k y.k)) ∧ Below w.heap.size w w' := by
  cases h : decide (x.k < y.k)
  · have e : Lib.compareInt x.k y.k = 1 := by
      have := of_decide_eq_false h
      have hne : x.k ≠ y.k := by simpa using h1
      unfold Lib.compareInt
      rw [if_neg this, if_pos (by omega)]
    rw [e]
    clear e
    go_enter Tryz.func50, Tryz.ntmps50
    go_wp2
    go_ret
    exact ⟨rfl, below_two _ _ _⟩
  · have e : Lib.compareInt x.k y.k = -1 := by
      unfold Lib.compareInt
      rw [if_pos (of_decide_eq_true h)]
    rw [e]
    clear e
    go_enter Tryz.func50, Tryz.ntmps50
    go_wp2
    go_ret
    exact ⟨rfl, below_two _ _ _⟩
set_option maxHeartbeats 400000 in
theorem rcompare_n (x y : Val) (w : World) (h0 : (x.k != y.k) = false) (h1 : (x.n != y.n) = true) : Calls Tryz.prog 50 #[x.v, y.v] w fun e w' => e = .returned (.int .i64 (Lib.compareInt x.n y.n)) ∧ Below w.heap.size w w' := by
  cases h : decide (x.n < y.n)
  · have e : Lib.compareInt x.n y.n = 1 := by
      have := of_decide_eq_false h
      have hne : x.n ≠ y.n := by simpa using h1
      unfold Lib.compareInt
      rw [if_neg this, if_pos (by omega)]
    rw [e]
    clear e
    go_enter Tryz.func50, Tryz.ntmps50
    go_wp2
    go_ret
    exact ⟨rfl, below_two _ _ _⟩
  · have e : Lib.compareInt x.n y.n = -1 := by
      unfold Lib.compareInt
      rw [if_pos (of_decide_eq_true h)]
    rw [e]
    clear e
    go_enter Tryz.func50, Tryz.ntmps50
    go_wp2
    go_ret
    exact ⟨rfl, below_two _ _ _⟩
set_option maxHeartbeats 400000 in
theorem rcompare_s (x y : Val) (w : World) (h0 : (x.k != y.k) = false) (h1 : (x.n != y.n) = false) : Calls Tryz.prog 50 #[x.v, y.v] w fun e w' => e = .returned (.int .i64 (Lib.compareBytes x.s.data.toList y.s.data.toList)) ∧ Below w.heap.size w w' := by
  have e := bl_eq x.s.toList y.s.toList
  rw [ByteArray.toList_eq, ByteArray.toList_eq] at e
  rw [e]
  clear e
  rw [← ByteArray.toList_eq, ← ByteArray.toList_eq]
  cases h : Op.bytesLess x.s.toList y.s.toList
  · cases h2 : x.s.toList == y.s.toList
    · go_enter Tryz.func50, Tryz.ntmps50
      go_wp2
      go_ret
      exact ⟨rfl, below_two _ _ _⟩
    · go_enter Tryz.func50, Tryz.ntmps50
      go_wp2
      go_ret
      exact ⟨rfl, below_two _ _ _⟩
  · go_enter Tryz.func50, Tryz.ntmps50
    go_wp2
    go_ret
    exact ⟨rfl, below_two _ _ _⟩
theorem rcompare_c (x y : Val) (w : World) : Calls Tryz.prog 50 #[x.v, y.v] w fun e w' => e = .returned (.int .i64 (cmpV x y)) ∧ Below w.heap.size w w' := by
  unfold cmpV
  cases h1 : x.k != y.k
  · cases h2 : x.n != y.n
    · exact rcompare_s x y w h1 h2
    · exact rcompare_n x y w h1 h2
  · exact rcompare_k x y w h1
end Go.Proofs.YthgoflaphbigbaaGreatDoor
