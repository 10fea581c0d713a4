/-
  The true and the false value, and a number, as the program and as the document make them.
-/
import Derived.Test.YticofedglhfdpaaGreatDoorVal
namespace Go.Proofs.YticofedglhfdpaaGreatDoor
open Go Go.RowKit

theorem truth_c (b : Bool) (w : World) : Calls Tryz.prog 24 #[.bool b] w fun e w' => e = .returned (tv b).v ∧ Below w.heap.size w w' := by
  cases b
  all_goals
    go_enter Tryz.func24, Tryz.ntmps24
    go_wp2
  · exact bodyPost_ret (v := ff.v) (by simp [results, Tryz.results24, go_sem, ff]) rfl ⟨rfl, below_one _ _⟩
  · exact bodyPost_ret (v := tt.v) (by simp [results, Tryz.results24, go_sem, tt]) rfl ⟨rfl, below_one _ _⟩

theorem rtruth_c (b : Bool) (w : World) : Calls Tryz.prog 13 #[.bool b] w fun e w' => e = .returned (tv b).v ∧ Below w.heap.size w w' := by
  cases b
  all_goals
    go_enter Tryz.func13, Tryz.ntmps13
    go_wp2
  · exact bodyPost_ret (v := ff.v) (by simp [results, Tryz.results13, go_sem, ff]) rfl ⟨rfl, (below_one _ _).alloc (by simp) _⟩
  · exact bodyPost_ret (v := tt.v) (by simp [results, Tryz.results13, go_sem, tt]) rfl ⟨rfl, (below_one _ _).alloc (by simp) _⟩

theorem rint_c (n : Int) (w : World) : Calls Tryz.prog 10 #[.int .i64 n] w fun e w' => e = .returned (iv n).v ∧ Below w.heap.size w w' := by
  go_enter Tryz.func10, Tryz.ntmps10
  go_wp2
  exact bodyPost_ret (v := (iv n).v) (by simp [results, Tryz.results10, go_sem, iv]) rfl ⟨rfl, below_one _ _⟩

theorem most_c (w : World) : Calls Tryz.prog 11 #[] w fun e w' => e = .returned (.int .i64 9223372036854775807) ∧ Below w.heap.size w w' := by
  go_enter Tryz.func11, Tryz.ntmps11
  go_wp2
  go_ret
  exact ⟨rfl, Below.refl _ _⟩
theorem enTruth : ∀ args w, (callFunc 24 args).run Tryz.prog w = .ok (.enter 24 args) w := fun _ _ => by kernel_rfl
theorem enrTruth : ∀ args w, (callFunc 13 args).run Tryz.prog w = .ok (.enter 13 args) w := fun _ _ => by kernel_rfl
end Go.Proofs.YticofedglhfdpaaGreatDoor
