/-
  How many values a step takes, and which kind it leaves, as the document has it: it is as the program has it.
-/
import Derived.Test.YticofedglhfdpaaGreatDoorComp
namespace Go.Proofs.YticofedglhfdpaaGreatDoor
open Go Go.RowKit
set_option maxRecDepth 100000

/-- How many values a step takes, as the document tells it. -/
def tkR (op : Int) : Int := if op == 0 || op == 1 then 0 else if op == 9 || op == 10 then 1 else if decide (2 ≤ op) && decide (op ≤ 8) then 2 else -1
set_option maxHeartbeats 1000000 in
theorem takes_c (op : Int) (w : World) : Calls Tryz.prog 18 #[.int .i64 op] w fun e w' => e = .returned (.int .i64 (tkR op)) ∧ w' = w := by
  unfold tkR
  cases h0 : op == 0
  · cases h1 : op == 1
    · cases h9 : op == 9
      · cases h10 : op == 10
        · cases h2 : decide (2 ≤ op)
          · go_enter Tryz.func18, Tryz.ntmps18
            go_wp2
            go_ret
            exact ⟨rfl, rfl⟩
          · cases h8 : decide (op ≤ 8)
            · go_enter Tryz.func18, Tryz.ntmps18
              go_wp2
              go_ret
              exact ⟨rfl, rfl⟩
            · go_enter Tryz.func18, Tryz.ntmps18
              go_wp2
              go_ret
              exact ⟨rfl, rfl⟩
        · go_enter Tryz.func18, Tryz.ntmps18
          go_wp2
          go_ret
          exact ⟨rfl, rfl⟩
      · go_enter Tryz.func18, Tryz.ntmps18
        go_wp2
        go_ret
        exact ⟨rfl, rfl⟩
    · go_enter Tryz.func18, Tryz.ntmps18
      go_wp2
      go_ret
      exact ⟨rfl, rfl⟩
  · go_enter Tryz.func18, Tryz.ntmps18
    go_wp2
    go_ret
    exact ⟨rfl, rfl⟩
/-- Which kind a step leaves, and whether it takes such kinds, as the document tells it. -/
def lvR (op a b : Int) : Int × Bool :=
  if op == 2 || op == 3 || op == 4 then (2, (a == 2 || a == 0) && (b == 2 || b == 0)) else if op == 5 || op == 6 then (1, a == b || a == 0 || b == 0)
  else if op == 7 || op == 8 then (1, (a == 1 || a == 0) && (b == 1 || b == 0)) else if op == 9 then (1, b == 1 || b == 0) else (1, true)
set_option maxHeartbeats 4000000 in
theorem leavesR_c (op a b : Int) (w : World) : Calls Tryz.prog 20 #[.int .i64 op, .int .i64 a, .int .i64 b] w fun e w' => e = .returned (.tuple #[.int .i64 (lvR op a b).1, .bool (lvR op a b).2]) ∧ w' = w := by
  have one : ∀ op, op = 2 ∨ op = 3 ∨ op = 4 ∨ op = 5 ∨ op = 6 ∨ op = 7 ∨ op = 8 ∨ op = 9 → Calls Tryz.prog 20 #[.int .i64 op, .int .i64 a, .int .i64 b] w fun e w' => e = .returned (.tuple #[.int .i64 (lvR op a b).1, .bool (lvR op a b).2]) ∧ w' = w := by
    intro op hop
    have key : ∀ R, lvR op a b = R → Calls Tryz.prog 20 #[.int .i64 op, .int .i64 a, .int .i64 b] w fun e w' => e = .returned (.tuple #[.int .i64 R.1, .bool R.2]) ∧ w' = w := by
      rintro R rfl
      rcases hop with rfl | rfl | rfl | rfl | rfl | rfl | rfl | rfl
      · show Calls _ _ _ _ fun e w' => e = .returned (.tuple #[.int .i64 2, .bool ((a == 2 || a == 0) && (b == 2 || b == 0))]) ∧ w' = w
        cases h1 : a == 2 <;> cases h2 : a == 0 <;> cases h3 : b == 2 <;> (go_enter Tryz.func20, Tryz.ntmps20; go_wp2; go_ret2; exact ⟨rfl, rfl⟩)
      · show Calls _ _ _ _ fun e w' => e = .returned (.tuple #[.int .i64 2, .bool ((a == 2 || a == 0) && (b == 2 || b == 0))]) ∧ w' = w
        cases h1 : a == 2 <;> cases h2 : a == 0 <;> cases h3 : b == 2 <;> (go_enter Tryz.func20, Tryz.ntmps20; go_wp2; go_ret2; exact ⟨rfl, rfl⟩)
      · show Calls _ _ _ _ fun e w' => e = .returned (.tuple #[.int .i64 2, .bool ((a == 2 || a == 0) && (b == 2 || b == 0))]) ∧ w' = w
        cases h1 : a == 2 <;> cases h2 : a == 0 <;> cases h3 : b == 2 <;> (go_enter Tryz.func20, Tryz.ntmps20; go_wp2; go_ret2; exact ⟨rfl, rfl⟩)
      · show Calls _ _ _ _ fun e w' => e = .returned (.tuple #[.int .i64 1, .bool (a == b || a == 0 || b == 0)]) ∧ w' = w
        cases h1 : a == b <;> cases h2 : a == 0 <;> (go_enter Tryz.func20, Tryz.ntmps20; go_wp2; go_ret2; exact ⟨rfl, rfl⟩)
      · show Calls _ _ _ _ fun e w' => e = .returned (.tuple #[.int .i64 1, .bool (a == b || a == 0 || b == 0)]) ∧ w' = w
        cases h1 : a == b <;> cases h2 : a == 0 <;> (go_enter Tryz.func20, Tryz.ntmps20; go_wp2; go_ret2; exact ⟨rfl, rfl⟩)
      · show Calls _ _ _ _ fun e w' => e = .returned (.tuple #[.int .i64 1, .bool ((a == 1 || a == 0) && (b == 1 || b == 0))]) ∧ w' = w
        cases h1 : a == 1 <;> cases h2 : a == 0 <;> cases h3 : b == 1 <;> (go_enter Tryz.func20, Tryz.ntmps20; go_wp2; go_ret2; exact ⟨rfl, rfl⟩)
      · show Calls _ _ _ _ fun e w' => e = .returned (.tuple #[.int .i64 1, .bool ((a == 1 || a == 0) && (b == 1 || b == 0))]) ∧ w' = w
        cases h1 : a == 1 <;> cases h2 : a == 0 <;> cases h3 : b == 1 <;> (go_enter Tryz.func20, Tryz.ntmps20; go_wp2; go_ret2; exact ⟨rfl, rfl⟩)
      · show Calls _ _ _ _ fun e w' => e = .returned (.tuple #[.int .i64 1, .bool (b == 1 || b == 0)]) ∧ w' = w
        cases h1 : b == 1 <;> (go_enter Tryz.func20, Tryz.ntmps20; go_wp2; go_ret2; exact ⟨rfl, rfl⟩)
    exact key _ rfl
  rcases ops_cases op with h | h | h | h | h | h | h | h | h | ⟨h2, h3, h4, h5, h6, h7, h8, h9, _⟩
  · exact one op (.inl h)
  · exact one op (.inr (.inl h))
  · exact one op (.inr (.inr (.inl h)))
  · exact one op (.inr (.inr (.inr (.inl h))))
  · exact one op (.inr (.inr (.inr (.inr (.inl h)))))
  · exact one op (.inr (.inr (.inr (.inr (.inr (.inl h))))))
  · exact one op (.inr (.inr (.inr (.inr (.inr (.inr (.inl h)))))))
  · exact one op (.inr (.inr (.inr (.inr (.inr (.inr (.inr h)))))))
  · subst h
    show Calls _ _ _ _ fun e w' => e = .returned (.tuple #[.int .i64 1, .bool true]) ∧ w' = w
    go_enter Tryz.func20, Tryz.ntmps20
    go_wp2
    go_ret2
    exact ⟨rfl, rfl⟩
  · have e : lvR op a b = (1, true) := by simp [lvR, h2, h3, h4, h5, h6, h7, h8, h9]
    rw [e]
    clear e
    go_enter Tryz.func20, Tryz.ntmps20
    go_wp2
    go_ret2
    exact ⟨rfl, rfl⟩
/-- It is as the program has it. -/
theorem fitB_two (k a b : Int) : fitB k [a, b] = ((a == k || a == 0) && (b == k || b == 0)) := by
  simp only [fitB, bne]
  cases a == k <;> cases a == 0 <;> cases b == k <;> cases b == 0 <;> rfl
theorem fitB_one (k a : Int) : fitB k [a] = (a == k || a == 0) := by
  simp only [fitB, bne]
  cases a == k <;> cases a == 0 <;> rfl
theorem fit_eq (a b : Int) : (fitB a [a, b] || fitB b [a, b]) = (a == b || a == 0 || b == 0) := by
  rw [fitB_two, fitB_two, beq_self_eq_true, beq_self_eq_true, Bool.beq_comm (a := b) (b := a)]
  cases a == b <;> cases a == 0 <;> cases b == 0 <;> rfl
theorem lv_two (op a b : Int) (h : 2 ≤ op) (h' : op ≤ 8) : (lvR op a b).2 = (kindR op [a, b]).2 := by
  rcases ops_cases op with rfl | rfl | rfl | rfl | rfl | rfl | rfl | rfl | rfl | ⟨h2, h3, h4, h5, h6, h7, h8, _, _⟩
  · exact (fitB_two 2 a b).symm
  · exact (fitB_two 2 a b).symm
  · exact (fitB_two 2 a b).symm
  · exact (fit_eq a b).symm
  · exact (fit_eq a b).symm
  · exact (fitB_two 1 a b).symm
  · exact (fitB_two 1 a b).symm
  · omega
  · omega
  · simp only [beq_eq_false_iff_ne] at h2 h3 h4 h5 h6 h7 h8
    omega
theorem lv_one (op a b : Int) (h : op = 9 ∨ op = 10) : (lvR op a b).2 = (kindR op [b]).2 := by
  rcases h with rfl | rfl
  · exact (fitB_one 1 b).symm
  · rfl
end Go.Proofs.YticofedglhfdpaaGreatDoor
