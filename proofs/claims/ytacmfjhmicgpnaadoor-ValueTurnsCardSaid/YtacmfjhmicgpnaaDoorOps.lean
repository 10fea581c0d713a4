/-
  What single operations do: a variable made, a value stored, a part taken, a slice of two values made.
-/
import Derived.Test.YtacmfjhmicgpnaaDoorSum
import Derived.Test.YtacmfjhmicgpnaaDoorRAnd
namespace Go.Proofs.YtacmfjhmicgpnaaDoor
open Go Go.RowKit

theorem ev_alloc {F : Act} {w : World} {o : Oper} (ho : o.op = .alloc 25) :
    (execOp F.eval o).run Tryd.prog w = .ok (.value (.pointer (some ⟨w.heap.size, 0, none⟩))) (w.alloc (.cells #[.int .i64 nl.k, .int .i64 nl.n, .string nl.s] 25)) := by
  have e0 : (execOp F.eval o).run Tryd.prog w = ((Instr.alloc 25 true (.tuple #[])).run Tryd.prog w).andThen fun v w' => .ok (.value v) w' := by
    simp only [execOp, ho, Sem.run_bind, Sem.run_pure]
  rw [e0]
  go_simp
  rfl
theorem ev_store {F : Act} {w : World} {b : Nat} {a x : Val} {t u : Tmp} {o : Oper} (h : Bx w b x) (ho : o.op = .store 25 (.tmp t) (.tmp u)) (ht : Reg.slot F t = .pointer (some ⟨b, 0, none⟩)) (hu : Reg.slot F u = a.v) :
    (execOp F.eval o).run Tryd.prog w = .ok .skip (put3 w b a) := by
  have e1 : F.eval (.tmp t) = .pointer (some ⟨b, 0, none⟩) := ht
  have e2 : F.eval (.tmp u) = a.v := hu
  have e0 : (execOp F.eval o).run Tryd.prog w = ((Instr.storeAt 25 (.pointer (some ⟨b, 0, none⟩)) a.v).run Tryd.prog w).andThen fun _ w' => .ok .skip w' := by
    simp only [execOp, ho, e1, e2, Sem.run_bind, Sem.run_pure]
  rw [e0]
  have g0 := h.cell0
  have g1 := h.cell1
  have g2 := h.cell2
  have f0 := h.frozen 0
  have f1 := h.frozen 1
  have f2 := h.frozen 2
  go_simp
  rfl
theorem ev_extract {P : Program} {F : Act} {w : World} {t : Tmp} {k : Nat} {vs : Array Value} {v : Value} {o : Oper} (ho : o.op = .extract (.tmp t) k) (ht : Reg.slot F t = .tuple vs) (hv : vs[k]? = some v) :
    (execOp F.eval o).run P w = .ok (.value v) w := by
  have e1 : F.eval (.tmp t) = .tuple vs := ht
  simp only [execOp, ho, e1, Sem.run_bind, Instr.extract, hv, Sem.run_pure, Result.andThen_ok]
theorem ev_not {P : Program} {F : Act} {w : World} {t : Tmp} {ty : TypeId} {o : Oper} (b : Bool) (ho : o.op = .unOp .not ty (.tmp t)) (ht : Reg.slot F t = .bool b) :
    (execOp F.eval o).run P w = .ok (.value (.bool !b)) w := by
  have e1 : F.eval (.tmp t) = .bool b := ht
  simp [execOp, ho, e1, Op.unary]

/-- A slice of two values, made anew. -/
def cells2 (x y : Val) : Array Value := #[.int .i64 x.k, .int .i64 x.n, .string x.s, .int .i64 y.k, .int .i64 y.n, .string y.s]
theorem ev_build2 {F : Act} {w : World} {t u : Tmp} {o : Oper} (x y : Val) (ho : o.op = .buildSlice 22 2 #[(0, .tmp t), (1, .tmp u)]) (ht : Reg.slot F t = x.v) (hu : Reg.slot F u = y.v) :
    (execOp F.eval o).run Tryd.prog w = .ok (.value (.slice (some ⟨w.heap.size, 0, none⟩) 2 2)) (w.alloc (.cells (cells2 x y) 25)) := by
  have e1 : F.eval (.tmp t) = x.v := ht
  have e2 : F.eval (.tmp u) = y.v := hu
  have e0 : (execOp F.eval o).run Tryd.prog w = ((Instr.buildSlice 22 2 #[(0, x.v), (1, y.v)]).run Tryd.prog w).andThen fun v w' => .ok (.value v) w' := by
    simp only [execOp, ho, List.map_toArray, List.map_cons, List.map_nil, e1, e2, Sem.run_bind, Sem.run_pure]
  rw [e0]
  go_simp
  rfl
theorem Sl.new2 (w : World) (x y : Val) : Sl (w.alloc (.cells (cells2 x y) 25)) (some ⟨w.heap.size, 0, none⟩) [x, y] := by
  have hc : ∀ i, (w.alloc (.cells (cells2 x y) 25)).cell? ⟨w.heap.size, i, none⟩ = (cells2 x y)[i]? := fun i => by
    have e : (w.alloc (.cells (cells2 x y) 25)).heap[w.heap.size]? = some (.cells (cells2 x y) 25 (0, 0)) := by
      show (w.heap.push _)[w.heap.size]? = _
      simp
    simp only [World.cell?, e, Option.isSome_none, Bool.false_eq_true, if_false]
  refine .inr ⟨w.heap.size, 0, rfl, by simp, fun i a ha => ?_⟩
  match i, ha with
  | 0, ha => simp at ha; subst ha; exact ⟨(hc 0).trans rfl, (hc 1).trans rfl, (hc 2).trans rfl⟩
  | 1, ha => simp at ha; subst ha; exact ⟨(hc 3).trans rfl, (hc 4).trans rfl, (hc 5).trans rfl⟩
  | i + 2, ha => simp at ha

/-- One variable is made (operation iA), and a value stored in it (operation iS). -/
def madeP (B iA iS : Nat) (m : Val) (i : Nat) (vs : List Value) (w : World) : Prop :=
  if i = iA then ∃ b x, vs = [.pointer (some ⟨b, 0, none⟩)] ∧ B ≤ b ∧ Bx w b x else if i = iS then ∃ b, vs = [.pointer (some ⟨b, 0, none⟩)] ∧ B ≤ b ∧ Bx w b m else True
theorem madeP_stab (B iA iS : Nat) (m : Val) : ∀ j vs w w', Below w.heap.size w w' → madeP B iA iS m j vs w → madeP B iA iS m j vs w' := by
  intro j vs w w' hb h
  unfold madeP at *
  split
  · rename_i e
    rw [if_pos e] at h
    obtain ⟨b, x, hv, hB, hx⟩ := h
    exact ⟨b, x, hv, hB, hx.after hb⟩
  · rename_i e
    rw [if_neg e] at h
    split
    · rename_i e2
      rw [if_pos e2] at h
      obtain ⟨b, hv, hB, hx⟩ := h
      exact ⟨b, hv, hB, hx.after hb⟩
    · trivial
theorem madeP_put (B iA iS : Nat) (m a : Val) (w : World) (b : Nat) (x : Val) (hx : Bx w b x) : ∀ j vs, j ≠ iS → madeP B iA iS m j vs w → madeP B iA iS m j vs (put3 w b a) := by
  intro j vs hj h
  unfold madeP at *
  split
  · rename_i e
    rw [if_pos e] at h
    obtain ⟨b', x', hv, hB, hx'⟩ := h
    by_cases hbb : b' = b
    · subst hbb; exact ⟨b', a, hv, hB, hx.put a⟩
    · exact ⟨b', x', hv, hB, put3_other hx' hbb⟩
  · trivial

/-- Two slices of two values are made (operations i1, i2). -/
def slP (i1 i2 : Nat) (l1 l2 : List Val) (i : Nat) (vs : List Value) (w : World) : Prop :=
  if i = i1 then ∃ b, vs = [.slice (some ⟨b, 0, none⟩) 2 2] ∧ Sl w (some ⟨b, 0, none⟩) l1 else if i = i2 then ∃ b, vs = [.slice (some ⟨b, 0, none⟩) 2 2] ∧ Sl w (some ⟨b, 0, none⟩) l2 else True
theorem slP_stab (i1 i2 : Nat) (l1 l2 : List Val) : ∀ j vs w w', Below w.heap.size w w' → slP i1 i2 l1 l2 j vs w → slP i1 i2 l1 l2 j vs w' := by
  intro j vs w w' hb h
  unfold slP at *
  split
  · rename_i e
    rw [if_pos e] at h
    obtain ⟨b, hv, hs⟩ := h
    exact ⟨b, hv, hs.after hb⟩
  · rename_i e
    rw [if_neg e] at h
    split
    · rename_i e2
      rw [if_pos e2] at h
      obtain ⟨b, hv, hs⟩ := h
      exact ⟨b, hv, hs.after hb⟩
    · trivial
end Go.Proofs.YtacmfjhmicgpnaaDoor
