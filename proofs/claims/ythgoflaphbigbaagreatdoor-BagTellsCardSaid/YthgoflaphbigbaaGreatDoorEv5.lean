/-
  Single operations on bags, counts and numbers, as regions that draw their order take them. No condition.
-/
import Derived.Test.YthgoflaphbigbaaGreatDoorSame4
namespace Go.Proofs.YthgoflaphbigbaaGreatDoor
open Go Go.RowKit
set_option maxRecDepth 100000

theorem ev_idxC {F : Act} {w : World} {t u : Tmp} {b off n c k : Nat} {o : Oper} (hk : k < n) (ho : o.op = .indexAddr 23 (.tmp t) (.tmp u)) (ht : Reg.slot F t = .slice (some ⟨b, off, none⟩) n c) (hu : Reg.slot F u = .int .i64 k) :
    (execOp F.eval o).run Tryz.prog w = .ok (.value (.pointer (some ⟨b, off + k * 2, none⟩))) w := by
  have e1 : F.eval (.tmp t) = .slice (some ⟨b, off, none⟩) n c := ht
  have e2 : F.eval (.tmp u) = .int .i64 k := hu
  have e0 : (execOp F.eval o).run Tryz.prog w = ((Instr.indexAt 23 (.slice (some ⟨b, off, none⟩) n c) (.int .i64 k)).run Tryz.prog w).andThen fun v w' => .ok (.value v) w' := by
    simp only [execOp, ho, e1, e2, Sem.run_bind, Sem.run_pure]
  rw [e0]
  go_simp
theorem ev_c0 {F : Act} {w : World} {b off : Nat} {t : Tmp} {o : Oper} (ho : o.op = .fieldAddr 36 (.tmp t) 0) (ht : Reg.slot F t = .pointer (some ⟨b, off, none⟩)) :
    (execOp F.eval o).run Tryz.prog w = .ok (.value (.pointer (some ⟨b, off, none⟩))) w := by
  have e : F.eval (.tmp t) = .pointer (some ⟨b, off, none⟩) := ht
  have e0 : (execOp F.eval o).run Tryz.prog w = ((Instr.fieldAt 36 (.pointer (some ⟨b, off, none⟩)) 0).run Tryz.prog w).andThen fun v w' => .ok (.value v) w' := by
    simp only [execOp, ho, e, Sem.run_bind, Sem.run_pure]
  rw [e0]
  go_simp
theorem ev_c1 {F : Act} {w : World} {b off : Nat} {t : Tmp} {o : Oper} (ho : o.op = .fieldAddr 36 (.tmp t) 1) (ht : Reg.slot F t = .pointer (some ⟨b, off, none⟩)) :
    (execOp F.eval o).run Tryz.prog w = .ok (.value (.pointer (some ⟨b, off + 1, none⟩))) w := by
  have e : F.eval (.tmp t) = .pointer (some ⟨b, off, none⟩) := ht
  have e0 : (execOp F.eval o).run Tryz.prog w = ((Instr.fieldAt 36 (.pointer (some ⟨b, off, none⟩)) 1).run Tryz.prog w).andThen fun v w' => .ok (.value v) w' := by
    simp only [execOp, ho, e, Sem.run_bind, Sem.run_pure]
  rw [e0]
  go_simp
theorem ev_ldR {F : Act} {w : World} {b off : Nat} {A : Option Addr} {n c : Nat} {t : Tmp} {o : Oper} (h0 : w.cell? ⟨b, off, none⟩ = some (.slice A n c)) (ho : o.op = .load 25 (.tmp t)) (ht : Reg.slot F t = .pointer (some ⟨b, off, none⟩)) :
    (execOp F.eval o).run Tryz.prog w = .ok (.value (.slice A n c)) w := by
  have e : F.eval (.tmp t) = .pointer (some ⟨b, off, none⟩) := ht
  have e0 : (execOp F.eval o).run Tryz.prog w = ((Instr.loadAt 25 (.pointer (some ⟨b, off, none⟩))).run Tryz.prog w).andThen fun v w' => .ok (.value v) w' := by
    simp only [execOp, ho, e, Sem.run_bind, Sem.run_pure]
  rw [e0]
  go_simp
theorem ev_ldI {F : Act} {w : World} {b off : Nat} {k : Int} {t : Tmp} {o : Oper} (h0 : w.cell? ⟨b, off, none⟩ = some (.int .i64 k)) (ho : o.op = .load 3 (.tmp t)) (ht : Reg.slot F t = .pointer (some ⟨b, off, none⟩)) :
    (execOp F.eval o).run Tryz.prog w = .ok (.value (.int .i64 k)) w := by
  have e : F.eval (.tmp t) = .pointer (some ⟨b, off, none⟩) := ht
  have e0 : (execOp F.eval o).run Tryz.prog w = ((Instr.loadAt 3 (.pointer (some ⟨b, off, none⟩))).run Tryz.prog w).andThen fun v w' => .ok (.value v) w' := by
    simp only [execOp, ho, e, Sem.run_bind, Sem.run_pure]
  rw [e0]
  go_simp
theorem ev_eqC5 {F : Act} {w : World} {t : Tmp} {o : Oper} (a b : Int) (ho : o.op = .binOp .eql 3 (.tmp t) (.const (.int .i64 b)) 3) (ht : Reg.slot F t = .int .i64 a) :
    (execOp F.eval o).run Tryz.prog w = .ok (.value (.bool (a == b))) w := by
  have e1 : F.eval (.tmp t) = .int .i64 a := ht
  have e2 : F.eval (.const (.int .i64 b)) = .int .i64 b := rfl
  have e0 : (execOp F.eval o).run Tryz.prog w = ((do eqGuard .eql 3 (.tmp t) (.const (.int .i64 b)) (.int .i64 a) (.int .i64 b); binOp .eql 3 (.int .i64 a) (.int .i64 b)).run Tryz.prog w).andThen fun v w' => .ok (.value v) w' := by
    simp only [execOp, ho, e1, e2, Sem.run_bind, Sem.run_pure]
  rw [e0]
  go_simp
theorem ev_gtC5 {F : Act} {w : World} {t : Tmp} {o : Oper} (a b : Int) (ho : o.op = .binOp .gtr 3 (.tmp t) (.const (.int .i64 b)) 3) (ht : Reg.slot F t = .int .i64 a) :
    (execOp F.eval o).run Tryz.prog w = .ok (.value (.bool (decide (b < a)))) w := by
  have e1 : F.eval (.tmp t) = .int .i64 a := ht
  have e2 : F.eval (.const (.int .i64 b)) = .int .i64 b := rfl
  have e0 : (execOp F.eval o).run Tryz.prog w = ((do eqGuard .gtr 3 (.tmp t) (.const (.int .i64 b)) (.int .i64 a) (.int .i64 b); binOp .gtr 3 (.int .i64 a) (.int .i64 b)).run Tryz.prog w).andThen fun v w' => .ok (.value v) w' := by
    simp only [execOp, ho, e1, e2, Sem.run_bind, Sem.run_pure]
  rw [e0]
  go_simp
theorem ev_geC5 {F : Act} {w : World} {t : Tmp} {o : Oper} (a b : Int) (ho : o.op = .binOp .geq 3 (.tmp t) (.const (.int .i64 b)) 3) (ht : Reg.slot F t = .int .i64 a) :
    (execOp F.eval o).run Tryz.prog w = .ok (.value (.bool (decide (b ≤ a)))) w := by
  have e1 : F.eval (.tmp t) = .int .i64 a := ht
  have e2 : F.eval (.const (.int .i64 b)) = .int .i64 b := rfl
  have e0 : (execOp F.eval o).run Tryz.prog w = ((do eqGuard .geq 3 (.tmp t) (.const (.int .i64 b)) (.int .i64 a) (.int .i64 b); binOp .geq 3 (.int .i64 a) (.int .i64 b)).run Tryz.prog w).andThen fun v w' => .ok (.value v) w' := by
    simp only [execOp, ho, e1, e2, Sem.run_bind, Sem.run_pure]
  rw [e0]
  go_simp
theorem ev_ltC5 {F : Act} {w : World} {t : Tmp} {o : Oper} (a b : Int) (ho : o.op = .binOp .lss 3 (.tmp t) (.const (.int .i64 b)) 3) (ht : Reg.slot F t = .int .i64 a) :
    (execOp F.eval o).run Tryz.prog w = .ok (.value (.bool (decide (a < b)))) w := by
  have e1 : F.eval (.tmp t) = .int .i64 a := ht
  have e2 : F.eval (.const (.int .i64 b)) = .int .i64 b := rfl
  have e0 : (execOp F.eval o).run Tryz.prog w = ((do eqGuard .lss 3 (.tmp t) (.const (.int .i64 b)) (.int .i64 a) (.int .i64 b); binOp .lss 3 (.int .i64 a) (.int .i64 b)).run Tryz.prog w).andThen fun v w' => .ok (.value v) w' := by
    simp only [execOp, ho, e1, e2, Sem.run_bind, Sem.run_pure]
  rw [e0]
  go_simp
theorem ev_leC5 {F : Act} {w : World} {t : Tmp} {o : Oper} (a b : Int) (ho : o.op = .binOp .leq 3 (.tmp t) (.const (.int .i64 b)) 3) (ht : Reg.slot F t = .int .i64 a) :
    (execOp F.eval o).run Tryz.prog w = .ok (.value (.bool (decide (a ≤ b)))) w := by
  have e1 : F.eval (.tmp t) = .int .i64 a := ht
  have e2 : F.eval (.const (.int .i64 b)) = .int .i64 b := rfl
  have e0 : (execOp F.eval o).run Tryz.prog w = ((do eqGuard .leq 3 (.tmp t) (.const (.int .i64 b)) (.int .i64 a) (.int .i64 b); binOp .leq 3 (.int .i64 a) (.int .i64 b)).run Tryz.prog w).andThen fun v w' => .ok (.value v) w' := by
    simp only [execOp, ho, e1, e2, Sem.run_bind, Sem.run_pure]
  rw [e0]
  go_simp
theorem ev_ltT5 {F : Act} {w : World} {t u : Tmp} {o : Oper} (a b : Int) (ho : o.op = .binOp .lss 3 (.tmp t) (.tmp u) 3) (ht : Reg.slot F t = .int .i64 a) (hu : Reg.slot F u = .int .i64 b) :
    (execOp F.eval o).run Tryz.prog w = .ok (.value (.bool (decide (a < b)))) w := by
  have e1 : F.eval (.tmp t) = .int .i64 a := ht
  have e2 : F.eval (.tmp u) = .int .i64 b := hu
  have e0 : (execOp F.eval o).run Tryz.prog w = ((do eqGuard .lss 3 (.tmp t) (.tmp u) (.int .i64 a) (.int .i64 b); binOp .lss 3 (.int .i64 a) (.int .i64 b)).run Tryz.prog w).andThen fun v w' => .ok (.value v) w' := by
    simp only [execOp, ho, e1, e2, Sem.run_bind, Sem.run_pure]
  rw [e0]
  go_simp
theorem ev_neT5 {F : Act} {w : World} {t u : Tmp} {o : Oper} (a b : Int) (ho : o.op = .binOp .neq 3 (.tmp t) (.tmp u) 3) (ht : Reg.slot F t = .int .i64 a) (hu : Reg.slot F u = .int .i64 b) :
    (execOp F.eval o).run Tryz.prog w = .ok (.value (.bool (a != b))) w := by
  have e1 : F.eval (.tmp t) = .int .i64 a := ht
  have e2 : F.eval (.tmp u) = .int .i64 b := hu
  have e0 : (execOp F.eval o).run Tryz.prog w = ((do eqGuard .neq 3 (.tmp t) (.tmp u) (.int .i64 a) (.int .i64 b); binOp .neq 3 (.int .i64 a) (.int .i64 b)).run Tryz.prog w).andThen fun v w' => .ok (.value v) w' := by
    simp only [execOp, ho, e1, e2, Sem.run_bind, Sem.run_pure]
  rw [e0]
  go_simp
theorem ev_subC5 {F : Act} {w : World} {t : Tmp} {o : Oper} (a b : Int) (hab : -9223372036854775808 ≤ a - b ∧ a - b ≤ 9223372036854775807) (ho : o.op = .binOp .sub 3 (.tmp t) (.const (.int .i64 b)) 3) (ht : Reg.slot F t = .int .i64 a) :
    (execOp F.eval o).run Tryz.prog w = .ok (.value (.int .i64 (a - b))) w := by
  have e1 : F.eval (.tmp t) = .int .i64 a := ht
  have e2 : F.eval (.const (.int .i64 b)) = .int .i64 b := rfl
  have hw : IntKind.i64.wrap (a - b) = a - b := by rw [IntKind.wrap_i64]; omega
  have e0 : (execOp F.eval o).run Tryz.prog w = ((do eqGuard .sub 3 (.tmp t) (.const (.int .i64 b)) (.int .i64 a) (.int .i64 b); binOp .sub 3 (.int .i64 a) (.int .i64 b)).run Tryz.prog w).andThen fun v w' => .ok (.value v) w' := by
    simp only [execOp, ho, e1, e2, Sem.run_bind, Sem.run_pure]
  rw [e0]
  go_simp
theorem ev_addT5 {F : Act} {w : World} {t u : Tmp} {o : Oper} (a b : Int) (hab : -9223372036854775808 ≤ a + b ∧ a + b ≤ 9223372036854775807) (ho : o.op = .binOp .add 3 (.tmp t) (.tmp u) 3) (ht : Reg.slot F t = .int .i64 a) (hu : Reg.slot F u = .int .i64 b) :
    (execOp F.eval o).run Tryz.prog w = .ok (.value (.int .i64 (a + b))) w := by
  have e1 : F.eval (.tmp t) = .int .i64 a := ht
  have e2 : F.eval (.tmp u) = .int .i64 b := hu
  have hw : IntKind.i64.wrap (a + b) = a + b := by rw [IntKind.wrap_i64]; omega
  have e0 : (execOp F.eval o).run Tryz.prog w = ((do eqGuard .add 3 (.tmp t) (.tmp u) (.int .i64 a) (.int .i64 b); binOp .add 3 (.int .i64 a) (.int .i64 b)).run Tryz.prog w).andThen fun v w' => .ok (.value v) w' := by
    simp only [execOp, ho, e1, e2, Sem.run_bind, Sem.run_pure]
  rw [e0]
  go_simp
theorem ev_lenC {F : Act} {w : World} {t : Tmp} {A : Option Addr} {n c : Nat} {o : Oper} (ho : o.op = .call { callee := .builtin .len, args := #[.tmp t], argTypes := #[23] }) (ht : Reg.slot F t = .slice A n c) :
    (execOp F.eval o).run Tryz.prog w = .ok (.value (.int .i64 n)) w := by
  have e1 : F.eval (.tmp t) = .slice A n c := ht
  have e0 : (execOp F.eval o).run Tryz.prog w = ((Builtin.len_ #[23] o.type #[.slice A n c]).run Tryz.prog w).andThen fun v w' => .ok (.value v) w' := by
    simp only [execOp, ho, e1, resolve, invoke, builtin, Sem.run_bind, Sem.run_pure, Result.andThen_ok, List.map_toArray, List.map_cons, List.map_nil]
  rw [e0]
  go_simp
theorem ev_dec5 {F : Act} {w : World} {t : Tmp} {o : Oper} (k j : Nat) (hkj : k = j + 1) (hk : k ≤ 9223372036854775807) (ho : o.op = .binOp .sub 3 (.tmp t) (.const (.int .i64 1)) 3) (ht : Reg.slot F t = .int .i64 k) :
    (execOp F.eval o).run Tryz.prog w = .ok (.value (.int .i64 j)) w := by
  have h := ev_subC5 (w := w) (k : Int) 1 (by omega) ho ht
  rw [show (k : Int) - 1 = j by omega] at h
  exact h
theorem enRMay : ∀ args w, (callFunc 8 args).run Tryz.prog w = .ok (.enter 8 args) w := fun _ _ => by kernel_rfl
theorem enRFits : ∀ args w, (callFunc 28 args).run Tryz.prog w = .ok (.enter 28 args) w := fun _ _ => by kernel_rfl
theorem enR4May : ∀ args w, (callFunc 29 args).run Tryz.prog w = .ok (.enter 29 args) w := fun _ _ => by kernel_rfl
theorem enR2Short : ∀ args w, (callFunc 22 args).run Tryz.prog w = .ok (.enter 22 args) w := fun _ _ => by kernel_rfl
end Go.Proofs.YthgoflaphbigbaaGreatDoor
