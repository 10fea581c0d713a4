/-
  Whether a value may be, as the program and as the document ask it, of every value.
-/
import Derived.Test.YtmgmdkagnhmihaaDoorVal
namespace Go.Proofs.YtmgmdkagnhmihaaDoor
open Go Go.RowKit

/-- Whether a value may be, as the program asks it. -/
def mayB (x : Val) : Bool := if x.k == 0 then x.n == 0 && x.s.toList.isEmpty else if x.k == 1 then (x.n == 0 || x.n == 1) && x.s.toList.isEmpty else if x.k == 2 then x.s.toList.isEmpty else if x.k == 3 then x.n == 0 && decide (x.s.size ≤ 1000) else false
/-- A value that may be. -/
def Valid (x : Val) : Prop := (x.k = 0 ∧ x.n = 0 ∧ x.s = emp) ∨ (x.k = 1 ∧ (x.n = 0 ∨ x.n = 1) ∧ x.s = emp) ∨ (x.k = 2 ∧ x.s = emp) ∨ (x.k = 3 ∧ x.n = 0 ∧ x.s.size ≤ 1000)
/-- Whether a value may be, as the document's own text asks it. -/
def rmB (x : Val) : Bool := if x.k == 0 || x.k == 1 then x.s.toList.isEmpty && decide (0 ≤ x.n) && decide (x.n ≤ x.k) else if x.k == 2 then x.s.toList.isEmpty else x.k == 3 && x.n == 0 && decide (x.s.size ≤ 1000)
theorem emp_of {s : ByteArray} (h : s.toList.isEmpty = true) : s = emp := by
  rw [ByteArray.toList_eq] at h
  obtain ⟨⟨l⟩⟩ := s
  simp at h
  rw [h]
theorem valid_of (x : Val) (h : rmB x = true) : Valid x := by
  unfold rmB at h
  unfold Valid
  by_cases h01 : x.k = 0 ∨ x.k = 1
  · have e : (x.k == 0 || x.k == 1) = true := by simpa using h01
    rw [e] at h
    simp only [if_true, Bool.and_eq_true, decide_eq_true_eq] at h
    have hs := emp_of h.1.1
    rcases h01 with hk | hk
    · exact .inl ⟨hk, by omega, hs⟩
    · exact .inr (.inl ⟨hk, by omega, hs⟩)
  · have e : (x.k == 0 || x.k == 1) = false := by simpa using h01
    rw [e] at h
    simp only [Bool.false_eq_true, if_false] at h
    by_cases h2 : x.k = 2
    · have e2 : (x.k == 2) = true := by simpa using h2
      rw [e2] at h
      exact .inr (.inr (.inl ⟨h2, emp_of h⟩))
    · have e2 : (x.k == 2) = false := by simpa using h2
      rw [e2] at h
      simp only [Bool.false_eq_true, if_false, Bool.and_eq_true, beq_iff_eq, decide_eq_true_eq] at h
      exact .inr (.inr (.inr ⟨h.1.1, h.1.2, h.2⟩))

theorem rm_of_valid (x : Val) (h : Valid x) : rmB x = true := by
  rcases h with ⟨hk, hn, hs⟩ | ⟨hk, hn, hs⟩ | ⟨hk, hs⟩ | ⟨hk, hn, hs⟩
  · simp [rmB, hk, hn, hs]
  · rcases hn with hn | hn <;> simp [rmB, hk, hn, hs]
  · simp [rmB, hk, hs]
  · simp [rmB, hk, hn, hs]
theorem rm_iff (x : Val) : rmB x = true ↔ Valid x := ⟨valid_of x, rm_of_valid x⟩
theorem may_of_valid (x : Val) (h : Valid x) : mayB x = true := by
  rcases h with ⟨hk, hn, hs⟩ | ⟨hk, hn, hs⟩ | ⟨hk, hs⟩ | ⟨hk, hn, hs⟩
  · simp [mayB, hk, hn, hs]
  · rcases hn with hn | hn <;> simp [mayB, hk, hn, hs]
  · simp [mayB, hk, hs]
  · simp [mayB, hk, hn, hs]
theorem valid_of_may (x : Val) (h : mayB x = true) : Valid x := by
  unfold mayB at h
  by_cases h0 : x.k = 0
  · simp only [h0, beq_self_eq_true, if_true, Bool.and_eq_true, beq_iff_eq] at h
    exact .inl ⟨h0, h.1, emp_of h.2⟩
  by_cases h1 : x.k = 1
  · simp [h1] at h
    exact .inr (.inl ⟨h1, h.1, emp_of (by simpa using h.2)⟩)
  by_cases h2 : x.k = 2
  · simp [h2] at h
    exact .inr (.inr (.inl ⟨h2, emp_of (by simpa using h)⟩))
  by_cases h3 : x.k = 3
  · simp [h3] at h
    exact .inr (.inr (.inr ⟨h3, h⟩))
  simp [h0, h1, h2, h3] at h
theorem may_iff (x : Val) : mayB x = true ↔ Valid x := ⟨valid_of_may x, may_of_valid x⟩
theorem may_rm (x : Val) : mayB x = rmB x := by
  rw [Bool.eq_iff_iff, may_iff, rm_iff]

set_option maxHeartbeats 1000000 in
theorem may_null (x : Val) (w : World) (h : (x.k == 0) = true) : Calls Tryd.prog 27 #[x.v] w fun e w' => e = .returned (.bool (x.n == 0 && x.s.toList.isEmpty)) ∧ Below w.heap.size w w' := by
  cases hn : x.n == 0
  all_goals
    go_enter Tryd.func27, Tryd.ntmps27
    go_wp2
    go_ret
    exact ⟨rfl, below_one _ _⟩
set_option maxHeartbeats 1000000 in
theorem may_bool (x : Val) (w : World) (h0 : (x.k == 0) = false) (h : (x.k == 1) = true) : Calls Tryd.prog 27 #[x.v] w fun e w' => e = .returned (.bool ((x.n == 0 || x.n == 1) && x.s.toList.isEmpty)) ∧ Below w.heap.size w w' := by
  cases hn : x.n == 0
  · cases hn1 : x.n == 1
    all_goals
      go_enter Tryd.func27, Tryd.ntmps27
      go_wp2
      go_ret
      exact ⟨rfl, below_one _ _⟩
  · go_enter Tryd.func27, Tryd.ntmps27
    go_wp2
    go_ret
    exact ⟨rfl, below_one _ _⟩
set_option maxHeartbeats 1000000 in
theorem may_int (x : Val) (w : World) (h0 : (x.k == 0) = false) (h1 : (x.k == 1) = false) (h : (x.k == 2) = true) : Calls Tryd.prog 27 #[x.v] w fun e w' => e = .returned (.bool x.s.toList.isEmpty) ∧ Below w.heap.size w w' := by
  go_enter Tryd.func27, Tryd.ntmps27
  go_wp2
  go_ret
  exact ⟨rfl, below_one _ _⟩
set_option maxHeartbeats 1000000 in
theorem may_text (x : Val) (w : World) (h0 : (x.k == 0) = false) (h1 : (x.k == 1) = false) (h2 : (x.k == 2) = false) (h : (x.k == 3) = true) (hs : x.s.size ≤ maxLen) : Calls Tryd.prog 27 #[x.v] w fun e w' => e = .returned (.bool (x.n == 0 && decide (x.s.size ≤ 1000))) ∧ Below w.heap.size w w' := by
  unfold maxLen at hs
  cases hn : x.n == 0
  · go_enter Tryd.func27, Tryd.ntmps27
    go_wp2
    go_ret
    exact ⟨rfl, below_one _ _⟩
  · by_cases hz : x.s.size ≤ 1000
    · have hz' : decide (x.s.size ≤ 1000) = true := decide_eq_true hz
      have hz2 : decide ((x.s.size : Int) ≤ 1000) = true := decide_eq_true (by omega)
      go_enter Tryd.func27, Tryd.ntmps27
      go_wp2
      go_ret
      exact ⟨by rw [hz']; rfl, below_one _ _⟩
    · have hz' : decide (x.s.size ≤ 1000) = false := decide_eq_false hz
      have hz2 : decide ((x.s.size : Int) ≤ 1000) = false := decide_eq_false (by omega)
      go_enter Tryd.func27, Tryd.ntmps27
      go_wp2
      go_ret
      exact ⟨by rw [hz']; rfl, below_one _ _⟩
set_option maxHeartbeats 1000000 in
theorem may_other (x : Val) (w : World) (h0 : (x.k == 0) = false) (h1 : (x.k == 1) = false) (h2 : (x.k == 2) = false) (h3 : (x.k == 3) = false) : Calls Tryd.prog 27 #[x.v] w fun e w' => e = .returned (.bool false) ∧ Below w.heap.size w w' := by
  go_enter Tryd.func27, Tryd.ntmps27
  go_wp2
  go_ret
  exact ⟨rfl, below_one _ _⟩
theorem may_c (x : Val) (w : World) (hs : x.s.size ≤ maxLen) : Calls Tryd.prog 27 #[x.v] w fun e w' => e = .returned (.bool (mayB x)) ∧ Below w.heap.size w w' := by
  unfold mayB
  cases h0 : x.k == 0
  · cases h1 : x.k == 1
    · cases h2 : x.k == 2
      · cases h3 : x.k == 3
        · exact may_other x w h0 h1 h2 h3
        · exact may_text x w h0 h1 h2 h3 hs
      · exact may_int x w h0 h1 h2
    · exact may_bool x w h0 h1
  · exact may_null x w h0
set_option maxHeartbeats 1000000 in
theorem rmay_low (x : Val) (w : World) (h : (x.k == 0) = true ∨ ((x.k == 0) = false ∧ (x.k == 1) = true)) :
    Calls Tryd.prog 23 #[x.v] w fun e w' => e = .returned (.bool (x.s.toList.isEmpty && decide (0 ≤ x.n) && decide (x.n ≤ x.k))) ∧ Below w.heap.size w w' := by
  rcases h with h | ⟨h0, h⟩
  all_goals
    cases hs : x.s.toList.isEmpty
    · go_enter Tryd.func23, Tryd.ntmps23
      go_wp2
      go_ret
      exact ⟨rfl, below_one _ _⟩
    · cases hn : decide (0 ≤ x.n)
      · go_enter Tryd.func23, Tryd.ntmps23
        go_wp2
        go_ret
        exact ⟨rfl, below_one _ _⟩
      · go_enter Tryd.func23, Tryd.ntmps23
        go_wp2
        go_ret
        exact ⟨rfl, below_one _ _⟩
set_option maxHeartbeats 1000000 in
theorem rmay_int (x : Val) (w : World) (h0 : (x.k == 0) = false) (h1 : (x.k == 1) = false) (h : (x.k == 2) = true) :
    Calls Tryd.prog 23 #[x.v] w fun e w' => e = .returned (.bool x.s.toList.isEmpty) ∧ Below w.heap.size w w' := by
  go_enter Tryd.func23, Tryd.ntmps23
  go_wp2
  go_ret
  exact ⟨rfl, below_one _ _⟩
set_option maxHeartbeats 1000000 in
theorem rmay_high (x : Val) (w : World) (h0 : (x.k == 0) = false) (h1 : (x.k == 1) = false) (h2 : (x.k == 2) = false) (hs : x.s.size ≤ maxLen) :
    Calls Tryd.prog 23 #[x.v] w fun e w' => e = .returned (.bool (x.k == 3 && x.n == 0 && decide (x.s.size ≤ 1000))) ∧ Below w.heap.size w w' := by
  unfold maxLen at hs
  cases h3 : x.k == 3
  · go_enter Tryd.func23, Tryd.ntmps23
    go_wp2
    go_ret
    exact ⟨rfl, below_one _ _⟩
  · cases hn : x.n == 0
    · go_enter Tryd.func23, Tryd.ntmps23
      go_wp2
      go_ret
      exact ⟨rfl, below_one _ _⟩
    · by_cases hz : x.s.size ≤ 1000
      · have hz' : decide (x.s.size ≤ 1000) = true := decide_eq_true hz
        have hz2 : decide ((x.s.size : Int) ≤ 1000) = true := decide_eq_true (by omega)
        go_enter Tryd.func23, Tryd.ntmps23
        go_wp2
        go_ret
        exact ⟨by rw [hz']; rfl, below_one _ _⟩
      · have hz' : decide (x.s.size ≤ 1000) = false := decide_eq_false hz
        have hz2 : decide ((x.s.size : Int) ≤ 1000) = false := decide_eq_false (by omega)
        go_enter Tryd.func23, Tryd.ntmps23
        go_wp2
        go_ret
        exact ⟨by rw [hz']; rfl, below_one _ _⟩
theorem rmay_c (x : Val) (w : World) (hs : x.s.size ≤ maxLen) : Calls Tryd.prog 23 #[x.v] w fun e w' => e = .returned (.bool (rmB x)) ∧ Below w.heap.size w w' := by
  unfold rmB
  cases h0 : x.k == 0
  · cases h1 : x.k == 1
    · simp only [Bool.or_false, Bool.false_eq_true, if_false]
      cases h2 : x.k == 2
      · simp only [Bool.false_eq_true, if_false]
        exact rmay_high x w h0 h1 h2 hs
      · simp only [if_true]
        exact rmay_int x w h0 h1 h2
    · simp only [Bool.or_true, if_true]
      exact rmay_low x w (.inr ⟨h0, h1⟩)
  · simp only [Bool.true_or, if_true]
    exact rmay_low x w (.inl h0)
end Go.Proofs.YtmgmdkagnhmihaaDoor
