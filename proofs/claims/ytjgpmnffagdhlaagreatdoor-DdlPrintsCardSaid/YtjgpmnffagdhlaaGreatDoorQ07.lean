/-
  Part 7 of 9 of what the proof leans on: each part below says what it proves, and of what; no condition besides.
-/
import Derived.Test.YtjgpmnffagdhlaaGreatDoorQ06
import Derived.Deep.RegionLaw
import Derived.Deep.AppendLies
import Derived.Deep.RegionHeld3
import Derived.Deep.DeepCutAuto
set_option linter.unusedVariables false
set_option linter.unusedSimpArgs false
namespace Go.Proofs.YtjgpmnffagdhlaaGreatDoor
open Go Go.RowKit
set_option maxRecDepth 100000
namespace RegT
open Reg
section
variable {P : Program} {ops : Array Oper} {Q : Exit → Act → World → Prop} {see deps olds : Nat → List Nat} {fact : Nat → List Value → World → Prop}
end
section
variable {P : Program} {ops : Array Oper} {Q : Exit → Act → World → Prop}
end
end RegT
end Go.Proofs.YtjgpmnffagdhlaaGreatDoor
namespace Go.Proofs.YtjgpmnffagdhlaaGreatDoor
open Go Go.RowKit
set_option maxRecDepth 100000
theorem ev_fa {F : Act} {w : World} {b off d : Nat} {t s : Nat} {i : Nat} {o : Oper} (ho : o.op = .fieldAddr t (.tmp s) i) (ht : Reg.slot F s = .pointer (some ⟨b, off, none⟩)) (hr : (Instr.fieldAt t (.pointer (some ⟨b, off, none⟩)) i).run Tryz.prog w = .ok (.pointer (some ⟨b, d, none⟩)) w) :
 (execOp F.eval o).run Tryz.prog w = .ok (.value (.pointer (some ⟨b, d, none⟩))) w := by
 have e1 : F.eval (.tmp s) = .pointer (some ⟨b, off, none⟩) := ht
 simp only [execOp, ho, e1, Sem.run_bind, hr, Sem.run_pure, Result.andThen_ok]
theorem ev_ld {F : Act} {w : World} {b off : Nat} {t s : Nat} {v : Value} {o : Oper} (ho : o.op = .load t (.tmp s)) (ht : Reg.slot F s = .pointer (some ⟨b, off, none⟩)) (hr : (Instr.loadAt t (.pointer (some ⟨b, off, none⟩))).run Tryz.prog w = .ok v w) :
 (execOp F.eval o).run Tryz.prog w = .ok (.value v) w := by
 have e1 : F.eval (.tmp s) = .pointer (some ⟨b, off, none⟩) := ht
 simp only [execOp, ho, e1, Sem.run_bind, hr, Sem.run_pure, Result.andThen_ok]
theorem rtruth_c (b : Bool) (w : World) : Calls Tryz.prog 175 #[.bool b] w fun e w' => e = .returned (tv b).v ∧ Below w.heap.size w w' := by
 cases b
 all_goals
  go_enter Tryz.func175, Tryz.ntmps175
  go_wp2
 · exact bodyPost_ret (v := ff.v) (by simp [results, Tryz.results175, go_sem, ff]) rfl ⟨rfl, (below_one _ _).alloc (by simp) _⟩
 · exact bodyPost_ret (v := tt.v) (by simp [results, Tryz.results175, go_sem, tt]) rfl ⟨rfl, (below_one _ _).alloc (by simp) _⟩
theorem rint_c (n : Int) (w : World) : Calls Tryz.prog 28 #[.int .i64 n] w fun e w' => e = .returned (iv n).v ∧ Below w.heap.size w w' := by
 go_enter Tryz.func28, Tryz.ntmps28
 go_wp2
 exact bodyPost_ret (v := (iv n).v) (by simp [results, Tryz.results28, go_sem, iv]) rfl ⟨rfl, below_one _ _⟩
theorem most_c (w : World) : Calls Tryz.prog 174 #[] w fun e w' => e = .returned (.int .i64 9223372036854775807) ∧ Below w.heap.size w w' := by
 go_enter Tryz.func174, Tryz.ntmps174
 go_wp2
 go_ret
 exact ⟨rfl, Below.refl _ _⟩
set_option maxRecDepth 100000
def comp (x y : Val) (r : Int) (fits : Bool) : Val × Bool :=
 if x.k == 0 || y.k == 0 then (nl, true) else if x.k != 2 || y.k != 2 then (nl, false) else if fits then (iv r, true) else (nl, false)
theorem Bx.new2 (w : World) (a : Val) (o o' : Obj) : Bx (((w.alloc o).alloc o').alloc (.cells #[.int .i64 a.k, .int .i64 a.n, .string a.s] 59)) (w.heap.size + 2) a := by
 have := Bx.new ((w.alloc o).alloc o') a
 simpa using this
theorem below_three (w : World) (o o' o'' : Obj) : Below w.heap.size w (((w.alloc o).alloc o').alloc o'') := ((below_one _ _).alloc (by simp) _).alloc (by simp; omega) _
def mulFits (a b : Int) : Bool := if a == 0 then true else if a == -1 && b == -9223372036854775808 then false else wrap64 ((wrap64 (a * b)).tdiv a) == b
def mulIs (a b : Int) : Int := if a == 0 then 0 else if a == -1 && b == -9223372036854775808 then 0 else wrap64 (a * b)
def addR (x y : Val) : Val × Bool := comp x y (wrap64 (x.n + y.n)) (decide (x.n < wrap64 (x.n + y.n)) == decide (0 < y.n))
def subR (x y : Val) : Val × Bool := comp x y (wrap64 (x.n - y.n)) (decide (wrap64 (x.n - y.n) < x.n) == decide (0 < y.n))
def mulR (x y : Val) : Val × Bool := comp x y (mulIs x.n y.n) (mulFits x.n y.n)
attribute [local go_sem ↓] run_eqV run_neV
end Go.Proofs.YtjgpmnffagdhlaaGreatDoor
namespace Go.Proofs.YtjgpmnffagdhlaaGreatDoor
open Go Go.RowKit
namespace RegJ
open Reg
section
variable {P : Program} {ops : Array Oper} {Q : Exit → Act → World → Prop} {see deps olds : Nat → List Nat} {fact : Nat → List Value → World → Prop}
end
section
variable {P : Program} {ops : Array Oper} {Q : Exit → Act → World → Prop}
end
end RegJ
end Go.Proofs.YtjgpmnffagdhlaaGreatDoor
namespace Go.Proofs.YtjgpmnffagdhlaaGreatDoor
open Go Go.RowKit
set_option maxRecDepth 100000
theorem ret_valX {fn : Func} {R : Ending → World → Prop} {F : Act} {w : World} {t u : Tmp} {b : Nat} {a : Val} {z : Value} (hres : fn.results = #[.cell t 59, .tmp u]) (ht : Reg.slot F t = .pointer (some ⟨b, 0, none⟩)) (hu : Reg.slot F u = z) (hb : Bx w b a) (hd : F.defers = [])
 (hR : R (.returned (.tuple #[a.v, z])) w) : bodyPost Tryz.prog fn R .ret F w := by
 have h0 := hb.cell0
 have h1 := hb.cell1
 have h2 := hb.cell2
 refine bodyPost_ret (v := .tuple #[a.v, z]) ?_ hd hR
 have ht' : F.tmps[t]?.getD undef = .pointer (some ⟨b, 0, none⟩) := by simpa [Reg.slot] using ht
 have hu' : F.tmps[u]?.getD undef = z := by simpa [Reg.slot] using hu
 simp [results, hres, ht', hu', go_sem, h0, h1, h2]
theorem ev_eqI {P : Program} {F : Act} {w : World} {t : Tmp} {k : Int} {a : Int} {o : Oper} (ho : o.op = .binOp .eql 3 (.tmp t) (.const (.int .i64 k)) 3) (ht : Reg.slot F t = .int .i64 a) :
 (execOp F.eval o).run P w = .ok (.value (.bool (a == k))) w := by
 have e1 : F.eval (.tmp t) = .int .i64 a := ht
 have e2 : F.eval (.const (.int .i64 k)) = .int .i64 k := rfl
 simp only [execOp, ho, e1, e2]
 simp [go_sem]
def I6n (n : Int) : Prop := -9223372036854775808 ≤ n ∧ n ≤ 9223372036854775807
theorem rnulls_c (x y : Val) (w : World) : Calls Tryz.prog 171 #[x.v, y.v] w fun e w' => e = .returned (.bool (x.k == 0 || y.k == 0)) ∧ Below w.heap.size w w' := by
 cases h : x.k == 0
 · go_enter Tryz.func171, Tryz.ntmps171
   go_wp2
   go_ret
   exact ⟨rfl, below_two _ _ _⟩
 · go_enter Tryz.func171, Tryz.ntmps171
   go_wp2
   go_ret
   exact ⟨rfl, below_two _ _ _⟩
theorem rints_c (x y : Val) (w : World) : Calls Tryz.prog 172 #[x.v, y.v] w fun e w' => e = .returned (.bool (x.k == 2 && y.k == 2)) ∧ Below w.heap.size w w' := by
 cases h : x.k == 2
 · go_enter Tryz.func172, Tryz.ntmps172
   go_wp2
   go_ret
   exact ⟨rfl, below_two _ _ _⟩
 · go_enter Tryz.func172, Tryz.ntmps172
   go_wp2
   go_ret
   exact ⟨rfl, below_two _ _ _⟩
theorem least_c (w : World) : Calls Tryz.prog 173 #[] w fun e w' => e = .returned (.int .i64 (-9223372036854775808)) ∧ Below w.heap.size w w' := by
 go_enter Tryz.func173, Tryz.ntmps173
 go_wp2
 go_ret
 exact ⟨rfl, Below.refl _ _⟩
theorem enrInts : ∀ args w, (callFunc 172 args).run Tryz.prog w = .ok (.enter 172 args) w := fun _ _ => by kernel_rfl
theorem enrMost : ∀ args w, (callFunc 174 args).run Tryz.prog w = .ok (.enter 174 args) w := fun _ _ => by kernel_rfl
theorem enrLeast : ∀ args w, (callFunc 173 args).run Tryz.prog w = .ok (.enter 173 args) w := fun _ _ => by kernel_rfl
theorem fa_val1 (w : World) (b : Nat) : (Instr.fieldAt 59 (.pointer (some ⟨b, 0, none⟩)) 1).run Tryz.prog w = .ok (.pointer (some ⟨b, 1, none⟩)) w := by go_simp
theorem Bx.ldN {w : World} {b : Nat} {x : Val} (h : Bx w b x) : (Instr.loadAt 3 (.pointer (some ⟨b, 1, none⟩))).run Tryz.prog w = .ok (.int .i64 x.n) w := by
 have h0 := h.cell1
 go_simp
theorem ev_gtC {P : Program} {F : Act} {w : World} {t : Tmp} {k a : Int} {o : Oper} (ho : o.op = .binOp .gtr 3 (.tmp t) (.const (.int .i64 k)) 3) (ht : Reg.slot F t = .int .i64 a) :
 (execOp F.eval o).run P w = .ok (.value (.bool (decide (k < a)))) w := by
 have e1 : F.eval (.tmp t) = .int .i64 a := ht
 have e2 : F.eval (.const (.int .i64 k)) = .int .i64 k := rfl
 simp only [execOp, ho, e1, e2]
 simp [go_sem]
theorem ev_ltC {P : Program} {F : Act} {w : World} {t : Tmp} {k a : Int} {o : Oper} (ho : o.op = .binOp .lss 3 (.tmp t) (.const (.int .i64 k)) 3) (ht : Reg.slot F t = .int .i64 a) :
 (execOp F.eval o).run P w = .ok (.value (.bool (decide (a < k)))) w := by
 have e1 : F.eval (.tmp t) = .int .i64 a := ht
 have e2 : F.eval (.const (.int .i64 k)) = .int .i64 k := rfl
 simp only [execOp, ho, e1, e2]
 simp [go_sem]
theorem ev_gtT {F : Act} {w : World} {t u : Tmp} {a b : Int} {o : Oper} (ho : o.op = .binOp .gtr 3 (.tmp t) (.tmp u) 3) (ht : Reg.slot F t = .int .i64 a) (hu : Reg.slot F u = .int .i64 b) :
 (execOp F.eval o).run Tryz.prog w = .ok (.value (.bool (decide (b < a)))) w := by
 have e1 : F.eval (.tmp t) = .int .i64 a := ht
 have e2 : F.eval (.tmp u) = .int .i64 b := hu
 simp only [execOp, ho, e1, e2]
 simp [go_sem]
theorem ev_ltT {F : Act} {w : World} {t u : Tmp} {a b : Int} {o : Oper} (ho : o.op = .binOp .lss 3 (.tmp t) (.tmp u) 3) (ht : Reg.slot F t = .int .i64 a) (hu : Reg.slot F u = .int .i64 b) :
 (execOp F.eval o).run Tryz.prog w = .ok (.value (.bool (decide (a < b)))) w := by
 have e1 : F.eval (.tmp t) = .int .i64 a := ht
 have e2 : F.eval (.tmp u) = .int .i64 b := hu
 simp only [execOp, ho, e1, e2]
 simp [go_sem]
theorem ev_subT {F : Act} {w : World} {t u : Tmp} {a b : Int} {o : Oper} (ho : o.op = .binOp .sub 3 (.tmp t) (.tmp u) 3) (ht : Reg.slot F t = .int .i64 a) (hu : Reg.slot F u = .int .i64 b) :
 (execOp F.eval o).run Tryz.prog w = .ok (.value (.int .i64 (wrap64 (a - b)))) w := by
 have e1 : F.eval (.tmp t) = .int .i64 a := ht
 have e2 : F.eval (.tmp u) = .int .i64 b := hu
 simp only [execOp, ho, e1, e2]
 simp [go_sem]; rw [IntKind.wrap_i64]; unfold wrap64; rfl
theorem ev_addT {F : Act} {w : World} {t u : Tmp} {a b : Int} {o : Oper} (ho : o.op = .binOp .add 3 (.tmp t) (.tmp u) 3) (ht : Reg.slot F t = .int .i64 a) (hu : Reg.slot F u = .int .i64 b) :
 (execOp F.eval o).run Tryz.prog w = .ok (.value (.int .i64 (wrap64 (a + b)))) w := by
 have e1 : F.eval (.tmp t) = .int .i64 a := ht
 have e2 : F.eval (.tmp u) = .int .i64 b := hu
 simp only [execOp, ho, e1, e2]
 simp [go_sem]; rw [IntKind.wrap_i64]; unfold wrap64; rfl
theorem comp_ints (x y : Val) (r : Int) (f : Bool) (h0 : (x.k == 0 || y.k == 0) = false) (h : (x.k == 2 && y.k == 2) = true) : comp x y r f = if f then (iv r, true) else (nl, false) := by
 unfold comp
 rw [h0]
 simp only [Bool.and_eq_true] at h
 rw [bne, bne, h.1, h.2]
 rfl
theorem comp_nulls (x y : Val) (r : Int) (f : Bool) (h0 : (x.k == 0 || y.k == 0) = true) : comp x y r f = (nl, true) := by
 unfold comp
 rw [h0]
 rfl
theorem add_fit (x y : Int) (h : I6n (x + y)) : (decide (x < wrap64 (x + y)) == decide (0 < y)) = true ∧ wrap64 (x + y) = x + y := by
 unfold I6n at *
 have e : wrap64 (x + y) = x + y := by unfold wrap64; omega
 rw [e]
 refine ⟨?_, rfl⟩
 by_cases h0 : 0 < y
 · rw [decide_eq_true h0, decide_eq_true (by omega)]; rfl
 · rw [decide_eq_false h0, decide_eq_false (by omega)]; rfl
theorem add_over (x y : Int) (hx : I6n x) (hy : I6n y) (h : ¬ I6n (x + y)) : (decide (x < wrap64 (x + y)) == decide (0 < y)) = false := by
 unfold I6n at *
 by_cases h0 : 0 < y
 · rw [decide_eq_true h0, decide_eq_false (by unfold wrap64; omega)]; rfl
 · rw [decide_eq_false h0, decide_eq_true (by unfold wrap64; omega)]; rfl
theorem sub_fit (x y : Int) (h : I6n (x - y)) : (decide (wrap64 (x - y) < x) == decide (0 < y)) = true ∧ wrap64 (x - y) = x - y := by
 unfold I6n at *
 have e : wrap64 (x - y) = x - y := by unfold wrap64; omega
 rw [e]
 refine ⟨?_, rfl⟩
 by_cases h0 : 0 < y
 · rw [decide_eq_true h0, decide_eq_true (by omega)]; rfl
 · rw [decide_eq_false h0, decide_eq_false (by omega)]; rfl
theorem sub_over (x y : Int) (hx : I6n x) (hy : I6n y) (h : ¬ I6n (x - y)) : (decide (wrap64 (x - y) < x) == decide (0 < y)) = false := by
 unfold I6n at *
 by_cases h0 : 0 < y
 · rw [decide_eq_true h0, decide_eq_false (by unfold wrap64; omega)]; rfl
 · rw [decide_eq_false h0, decide_eq_true (by unfold wrap64; omega)]; rfl
set_option maxHeartbeats 1000000 in
theorem radd_I (x y : Val) (w : World) (h0 : (x.k == 0 || y.k == 0) = false) (h12 : (x.k == 2 && y.k == 2) = false) : Calls Tryz.prog 135 #[x.v, y.v] w fun e w' => e = .returned (.tuple #[((nl, false)).1.v, .bool ((nl, false)).2]) ∧ Below w.heap.size w w' := by
 have H12 := Lib.hid h12
 have H0 := Lib.hid h0
 clear h0 h12
 go_enter Tryz.func135, Tryz.ntmps135
 go_wp2_with fail
 refine (rnulls_c x y _).mono ?_
 rintro e w1 ⟨rfl, hb1⟩
 rw [H0.out]
 have b1 : Bx w1 w.heap.size x := (((Bx.new w x).alloc _).alloc _).after hb1
 have b2 : Bx w1 (w.heap.size + 1) y := ((Bx.new1 w y _).alloc _).after hb1
 have b3 : Bx w1 (w.heap.size + 2) nl := (Bx.new2 w nl _ _).after hb1
 have hb : Below w.heap.size w w1 := (below_three _ _ _ _).trans (hb1.mono (by simp; omega))
 clear hb1
 go_wp2_with fail
 have h12 := H12.out
 refine Reg.wp_region_vals mixed (by kernel_rfl) [(10, x.v), (11, y.v), (12, .bool false), (13, .bool true), (14, .bool true), (15, undef), (16, undef), (17, undef), (18, undef), (19, undef), (20, undef), (21, undef), (22, undef), (23, undef), (24, undef), (25, undef), (26, undef), (27, .bool true), (28, .bool true), (29, undef), (30, undef), (31, undef), (32, undef), (33, undef), (34, undef), (35, undef), (36, undef), (37, undef), (38, undef), (39, undef), (40, undef), (41, .bool true)] 49 rfl (by kernel_rfl) ?_ ?_
 · intro F hF w' hB'
   have bx := b1.after hB'
   have byy := b2.after hB'
   refine ⟨?_, ?_, ?_, ?_, ?_, ?_, ?_, ?_, ?_, ?_, ?_, ?_, ?_, ?_, ?_, ?_, ?_, ?_, ?_, ?_, ?_, ?_, ?_, ?_, ?_, ?_, ?_, ?_, ?_, ?_, ?_, ?_, trivial⟩
   · exact Reg.doesV_val (ev_load bx rfl (by rw [hF]; kernel_rfl)) (by rw [hF]; kernel_rfl) (by rw [hF]; kernel_rfl)
   · exact Reg.doesV_val (ev_load byy rfl (by rw [hF]; kernel_rfl)) (by rw [hF]; kernel_rfl) (by rw [hF]; kernel_rfl)
   · exact Reg.doesV_call (by have h := rints_c x y w'; rw [h12] at h; exact h) (ev_call enrInts rfl (by rw [hF]; kernel_rfl)) (by rw [hF]; kernel_rfl) (by rw [hF]; kernel_rfl)
   · exact Reg.doesV_val (ev_not false rfl (by rw [hF]; kernel_rfl)) (by rw [hF]; kernel_rfl) (by rw [hF]; kernel_rfl)
   · exact Reg.doesV_val (ev_move rfl) (by rw [hF]; kernel_rfl) (by rw [hF]; kernel_rfl)
   · exact Reg.doesV_skip (by rw [hF]; kernel_rfl) (by rw [hF]; kernel_rfl)
   · exact Reg.doesV_skip (by rw [hF]; kernel_rfl) (by rw [hF]; kernel_rfl)
   · exact Reg.doesV_skip (by rw [hF]; kernel_rfl) (by rw [hF]; kernel_rfl)
   · exact Reg.doesV_skip (by rw [hF]; kernel_rfl) (by rw [hF]; kernel_rfl)
   · exact Reg.doesV_skip (by rw [hF]; kernel_rfl) (by rw [hF]; kernel_rfl)
   · exact Reg.doesV_skip (by rw [hF]; kernel_rfl) (by rw [hF]; kernel_rfl)
   · exact Reg.doesV_skip (by rw [hF]; kernel_rfl) (by rw [hF]; kernel_rfl)
   · exact Reg.doesV_skip (by rw [hF]; kernel_rfl) (by rw [hF]; kernel_rfl)
   · exact Reg.doesV_skip (by rw [hF]; kernel_rfl) (by rw [hF]; kernel_rfl)
   · exact Reg.doesV_skip (by rw [hF]; kernel_rfl) (by rw [hF]; kernel_rfl)
   · exact Reg.doesV_skip (by rw [hF]; kernel_rfl) (by rw [hF]; kernel_rfl)
   · exact Reg.doesV_skip (by rw [hF]; kernel_rfl) (by rw [hF]; kernel_rfl)
   · exact Reg.doesV_val (ev_pick true rfl (by rw [hF]; kernel_rfl)) (by rw [hF]; kernel_rfl) (by rw [hF]; kernel_rfl)
   · exact Reg.doesV_val (ev_move rfl) (by rw [hF]; kernel_rfl) (by rw [hF]; kernel_rfl)
   · exact Reg.doesV_skip (by rw [hF]; kernel_rfl) (by rw [hF]; kernel_rfl)
   · exact Reg.doesV_skip (by rw [hF]; kernel_rfl) (by rw [hF]; kernel_rfl)
   · exact Reg.doesV_skip (by rw [hF]; kernel_rfl) (by rw [hF]; kernel_rfl)
   · exact Reg.doesV_skip (by rw [hF]; kernel_rfl) (by rw [hF]; kernel_rfl)
   · exact Reg.doesV_skip (by rw [hF]; kernel_rfl) (by rw [hF]; kernel_rfl)
   · exact Reg.doesV_skip (by rw [hF]; kernel_rfl) (by rw [hF]; kernel_rfl)
   · exact Reg.doesV_skip (by rw [hF]; kernel_rfl) (by rw [hF]; kernel_rfl)
   · exact Reg.doesV_skip (by rw [hF]; kernel_rfl) (by rw [hF]; kernel_rfl)
   · exact Reg.doesV_skip (by rw [hF]; kernel_rfl) (by rw [hF]; kernel_rfl)
   · exact Reg.doesV_skip (by rw [hF]; kernel_rfl) (by rw [hF]; kernel_rfl)
   · exact Reg.doesV_skip (by rw [hF]; kernel_rfl) (by rw [hF]; kernel_rfl)
   · exact Reg.doesV_skip (by rw [hF]; kernel_rfl) (by rw [hF]; kernel_rfl)
   · exact Reg.doesV_val (ev_pick true rfl (by rw [hF]; kernel_rfl)) (by rw [hF]; kernel_rfl) (by rw [hF]; kernel_rfl)
 · intro w2 hB'
   simp only [Reg.putAll, Act.put, List.setIfInBounds_toArray, List.set_cons_zero, List.set_cons_succ]
   clear h12
   have c1 := b1.after hB'
   have c2 := b2.after hB'
   have c3 := b3.after hB'
   have hb2 := hb.trans (hB'.mono hb.size)
   clear hB' b1 b2 b3 hb
   have g0 := c3.cell0
   have g1 := c3.cell1
   have g2 := c3.cell2
   have f0 := c3.frozen 0
   have f1 := c3.frozen 1
   have f2 := c3.frozen 2
   go_wp2
   exact ret_valX (a := nl) (z := .bool false) Tryz.results135 rfl rfl (c3.put nl) rfl ⟨rfl, put3_below hb2 (by omega) nl⟩
set_option maxHeartbeats 1000000 in
theorem radd_P1 (x y : Val) (w : World) (h0 : (x.k == 0 || y.k == 0) = false) (h12 : (x.k == 2 && y.k == 2) = true) (h17 : decide (0 < y.n) = true) (h25 : decide (wrap64 (9223372036854775807 - y.n) < x.n) = true) : Calls Tryz.prog 135 #[x.v, y.v] w fun e w' => e = .returned (.tuple #[((nl, false)).1.v, .bool ((nl, false)).2]) ∧ Below w.heap.size w w' := by
 have H12 := Lib.hid h12
 have H17 := Lib.hid h17
 have H25 := Lib.hid h25
 have H0 := Lib.hid h0
 clear h0 h12 h17 h25
 go_enter Tryz.func135, Tryz.ntmps135
 go_wp2_with fail
 refine (rnulls_c x y _).mono ?_
 rintro e w1 ⟨rfl, hb1⟩
 rw [H0.out]
 have b1 : Bx w1 w.heap.size x := (((Bx.new w x).alloc _).alloc _).after hb1
 have b2 : Bx w1 (w.heap.size + 1) y := ((Bx.new1 w y _).alloc _).after hb1
 have b3 : Bx w1 (w.heap.size + 2) nl := (Bx.new2 w nl _ _).after hb1
 have hb : Below w.heap.size w w1 := (below_three _ _ _ _).trans (hb1.mono (by simp; omega))
 clear hb1
 go_wp2_with fail
 have h12 := H12.out
 have h17 := H17.out
 have h25 := H25.out
 refine Reg.wp_region_vals mixed (by kernel_rfl) [(10, x.v), (11, y.v), (12, .bool true), (13, .bool false), (14, .bool false), (15, .pointer (some ⟨w.heap.size + 1, 1, none⟩)), (16, .int .i64 y.n), (17, .bool true), (18, .bool true), (19, .pointer (some ⟨w.heap.size, 1, none⟩)), (20, .int .i64 x.n), (21, .int .i64 9223372036854775807), (22, .pointer (some ⟨w.heap.size + 1, 1, none⟩)), (23, .int .i64 y.n), (24, .int .i64 (wrap64 (9223372036854775807 - y.n))), (25, .bool true), (26, .bool true), (27, .bool true), (28, .bool true), (29, undef), (30, undef), (31, undef), (32, undef), (33, undef), (34, undef), (35, undef), (36, undef), (37, undef), (38, undef), (39, undef), (40, undef), (41, .bool true)] 49 rfl (by kernel_rfl) ?_ ?_
 · intro F hF w' hB'
   have bx := b1.after hB'
   have byy := b2.after hB'
   refine ⟨?_, ?_, ?_, ?_, ?_, ?_, ?_, ?_, ?_, ?_, ?_, ?_, ?_, ?_, ?_, ?_, ?_, ?_, ?_, ?_, ?_, ?_, ?_, ?_, ?_, ?_, ?_, ?_, ?_, ?_, ?_, ?_, trivial⟩
   · exact Reg.doesV_val (ev_load bx rfl (by rw [hF]; kernel_rfl)) (by rw [hF]; kernel_rfl) (by rw [hF]; kernel_rfl)
   · exact Reg.doesV_val (ev_load byy rfl (by rw [hF]; kernel_rfl)) (by rw [hF]; kernel_rfl) (by rw [hF]; kernel_rfl)
   · exact Reg.doesV_call (by have h := rints_c x y w'; rw [h12] at h; exact h) (ev_call enrInts rfl (by rw [hF]; kernel_rfl)) (by rw [hF]; kernel_rfl) (by rw [hF]; kernel_rfl)
   · exact Reg.doesV_val (ev_not true rfl (by rw [hF]; kernel_rfl)) (by rw [hF]; kernel_rfl) (by rw [hF]; kernel_rfl)
   · exact Reg.doesV_val (ev_move rfl) (by rw [hF]; kernel_rfl) (by rw [hF]; kernel_rfl)
   · exact Reg.doesV_val (ev_fa rfl (by rw [hF]; kernel_rfl) (fa_val1 w' (w.heap.size + 1))) (by rw [hF]; kernel_rfl) (by rw [hF]; kernel_rfl)
   · exact Reg.doesV_val (ev_ld rfl (by rw [hF]; kernel_rfl) byy.ldN) (by rw [hF]; kernel_rfl) (by rw [hF]; kernel_rfl)
   · exact Reg.doesV_val (by rw [ev_gtC (a := y.n) rfl (by rw [hF]; kernel_rfl), h17]) (by rw [hF]; kernel_rfl) (by rw [hF]; kernel_rfl)
   · exact Reg.doesV_val (ev_move rfl) (by rw [hF]; kernel_rfl) (by rw [hF]; kernel_rfl)
   · exact Reg.doesV_val (ev_fa rfl (by rw [hF]; kernel_rfl) (fa_val1 w' w.heap.size)) (by rw [hF]; kernel_rfl) (by rw [hF]; kernel_rfl)
   · exact Reg.doesV_val (ev_ld rfl (by rw [hF]; kernel_rfl) bx.ldN) (by rw [hF]; kernel_rfl) (by rw [hF]; kernel_rfl)
   · exact Reg.doesV_call (most_c w') (ev_call enrMost rfl (by simp)) (by rw [hF]; kernel_rfl) (by rw [hF]; kernel_rfl)
   · exact Reg.doesV_val (ev_fa rfl (by rw [hF]; kernel_rfl) (fa_val1 w' (w.heap.size + 1))) (by rw [hF]; kernel_rfl) (by rw [hF]; kernel_rfl)
   · exact Reg.doesV_val (ev_ld rfl (by rw [hF]; kernel_rfl) byy.ldN) (by rw [hF]; kernel_rfl) (by rw [hF]; kernel_rfl)
   · exact Reg.doesV_val (ev_subT (a := 9223372036854775807) (b := y.n) rfl (by rw [hF]; kernel_rfl) (by rw [hF]; kernel_rfl)) (by rw [hF]; kernel_rfl) (by rw [hF]; kernel_rfl)
   · exact Reg.doesV_val (by rw [ev_gtT (a := x.n) (b := wrap64 (9223372036854775807 - y.n)) rfl (by rw [hF]; kernel_rfl) (by rw [hF]; kernel_rfl), h25]) (by rw [hF]; kernel_rfl) (by rw [hF]; kernel_rfl)
   · exact Reg.doesV_val (ev_pick true rfl (by rw [hF]; kernel_rfl)) (by rw [hF]; kernel_rfl) (by rw [hF]; kernel_rfl)
   · exact Reg.doesV_val (ev_pick false rfl (by rw [hF]; kernel_rfl)) (by rw [hF]; kernel_rfl) (by rw [hF]; kernel_rfl)
   · exact Reg.doesV_val (ev_move rfl) (by rw [hF]; kernel_rfl) (by rw [hF]; kernel_rfl)
   · exact Reg.doesV_skip (by rw [hF]; kernel_rfl) (by rw [hF]; kernel_rfl)
   · exact Reg.doesV_skip (by rw [hF]; kernel_rfl) (by rw [hF]; kernel_rfl)
   · exact Reg.doesV_skip (by rw [hF]; kernel_rfl) (by rw [hF]; kernel_rfl)
   · exact Reg.doesV_skip (by rw [hF]; kernel_rfl) (by rw [hF]; kernel_rfl)
   · exact Reg.doesV_skip (by rw [hF]; kernel_rfl) (by rw [hF]; kernel_rfl)
   · exact Reg.doesV_skip (by rw [hF]; kernel_rfl) (by rw [hF]; kernel_rfl)
   · exact Reg.doesV_skip (by rw [hF]; kernel_rfl) (by rw [hF]; kernel_rfl)
   · exact Reg.doesV_skip (by rw [hF]; kernel_rfl) (by rw [hF]; kernel_rfl)
   · exact Reg.doesV_skip (by rw [hF]; kernel_rfl) (by rw [hF]; kernel_rfl)
   · exact Reg.doesV_skip (by rw [hF]; kernel_rfl) (by rw [hF]; kernel_rfl)
   · exact Reg.doesV_skip (by rw [hF]; kernel_rfl) (by rw [hF]; kernel_rfl)
   · exact Reg.doesV_skip (by rw [hF]; kernel_rfl) (by rw [hF]; kernel_rfl)
   · exact Reg.doesV_val (ev_pick true rfl (by rw [hF]; kernel_rfl)) (by rw [hF]; kernel_rfl) (by rw [hF]; kernel_rfl)
 · intro w2 hB'
   simp only [Reg.putAll, Act.put, List.setIfInBounds_toArray, List.set_cons_zero, List.set_cons_succ]
   clear h12 h17 h25
   have c1 := b1.after hB'
   have c2 := b2.after hB'
   have c3 := b3.after hB'
   have hb2 := hb.trans (hB'.mono hb.size)
   clear hB' b1 b2 b3 hb
   have g0 := c3.cell0
   have g1 := c3.cell1
   have g2 := c3.cell2
   have f0 := c3.frozen 0
   have f1 := c3.frozen 1
   have f2 := c3.frozen 2
   go_wp2
   exact ret_valX (a := nl) (z := .bool false) Tryz.results135 rfl rfl (c3.put nl) rfl ⟨rfl, put3_below hb2 (by omega) nl⟩
set_option maxHeartbeats 1000000 in
theorem radd_P0 (x y : Val) (w : World) (h0 : (x.k == 0 || y.k == 0) = false) (h12 : (x.k == 2 && y.k == 2) = true) (h17 : decide (0 < y.n) = true) (h25 : decide (wrap64 (9223372036854775807 - y.n) < x.n) = false) (h31 : decide (y.n < 0) = false) : Calls Tryz.prog 135 #[x.v, y.v] w fun e w' => e = .returned (.tuple #[((iv (wrap64 (x.n + y.n)), true)).1.v, .bool ((iv (wrap64 (x.n + y.n)), true)).2]) ∧ Below w.heap.size w w' := by
 have H12 := Lib.hid h12
 have H17 := Lib.hid h17
 have H25 := Lib.hid h25
 have H31 := Lib.hid h31
 have H0 := Lib.hid h0
 clear h0 h12 h17 h25 h31
 go_enter Tryz.func135, Tryz.ntmps135
 go_wp2_with fail
 refine (rnulls_c x y _).mono ?_
 rintro e w1 ⟨rfl, hb1⟩
 rw [H0.out]
 have b1 : Bx w1 w.heap.size x := (((Bx.new w x).alloc _).alloc _).after hb1
 have b2 : Bx w1 (w.heap.size + 1) y := ((Bx.new1 w y _).alloc _).after hb1
 have b3 : Bx w1 (w.heap.size + 2) nl := (Bx.new2 w nl _ _).after hb1
 have hb : Below w.heap.size w w1 := (below_three _ _ _ _).trans (hb1.mono (by simp; omega))
 clear hb1
 go_wp2_with fail
 have h12 := H12.out
 have h17 := H17.out
 have h25 := H25.out
 have h31 := H31.out
 refine Reg.wp_region_vals mixed (by kernel_rfl) [(10, x.v), (11, y.v), (12, .bool true), (13, .bool false), (14, .bool false), (15, .pointer (some ⟨w.heap.size + 1, 1, none⟩)), (16, .int .i64 y.n), (17, .bool true), (18, .bool true), (19, .pointer (some ⟨w.heap.size, 1, none⟩)), (20, .int .i64 x.n), (21, .int .i64 9223372036854775807), (22, .pointer (some ⟨w.heap.size + 1, 1, none⟩)), (23, .int .i64 y.n), (24, .int .i64 (wrap64 (9223372036854775807 - y.n))), (25, .bool false), (26, .bool false), (27, .bool false), (28, .bool false), (29, .pointer (some ⟨w.heap.size + 1, 1, none⟩)), (30, .int .i64 y.n), (31, .bool false), (32, .bool false), (33, undef), (34, undef), (35, undef), (36, undef), (37, undef), (38, undef), (39, undef), (40, .bool false), (41, .bool false)] 49 rfl (by kernel_rfl) ?_ ?_
 · intro F hF w' hB'
   have bx := b1.after hB'
   have byy := b2.after hB'
   refine ⟨?_, ?_, ?_, ?_, ?_, ?_, ?_, ?_, ?_, ?_, ?_, ?_, ?_, ?_, ?_, ?_, ?_, ?_, ?_, ?_, ?_, ?_, ?_, ?_, ?_, ?_, ?_, ?_, ?_, ?_, ?_, ?_, trivial⟩
   · exact Reg.doesV_val (ev_load bx rfl (by rw [hF]; kernel_rfl)) (by rw [hF]; kernel_rfl) (by rw [hF]; kernel_rfl)
   · exact Reg.doesV_val (ev_load byy rfl (by rw [hF]; kernel_rfl)) (by rw [hF]; kernel_rfl) (by rw [hF]; kernel_rfl)
   · exact Reg.doesV_call (by have h := rints_c x y w'; rw [h12] at h; exact h) (ev_call enrInts rfl (by rw [hF]; kernel_rfl)) (by rw [hF]; kernel_rfl) (by rw [hF]; kernel_rfl)
   · exact Reg.doesV_val (ev_not true rfl (by rw [hF]; kernel_rfl)) (by rw [hF]; kernel_rfl) (by rw [hF]; kernel_rfl)
   · exact Reg.doesV_val (ev_move rfl) (by rw [hF]; kernel_rfl) (by rw [hF]; kernel_rfl)
   · exact Reg.doesV_val (ev_fa rfl (by rw [hF]; kernel_rfl) (fa_val1 w' (w.heap.size + 1))) (by rw [hF]; kernel_rfl) (by rw [hF]; kernel_rfl)
   · exact Reg.doesV_val (ev_ld rfl (by rw [hF]; kernel_rfl) byy.ldN) (by rw [hF]; kernel_rfl) (by rw [hF]; kernel_rfl)
   · exact Reg.doesV_val (by rw [ev_gtC (a := y.n) rfl (by rw [hF]; kernel_rfl), h17]) (by rw [hF]; kernel_rfl) (by rw [hF]; kernel_rfl)
   · exact Reg.doesV_val (ev_move rfl) (by rw [hF]; kernel_rfl) (by rw [hF]; kernel_rfl)
   · exact Reg.doesV_val (ev_fa rfl (by rw [hF]; kernel_rfl) (fa_val1 w' w.heap.size)) (by rw [hF]; kernel_rfl) (by rw [hF]; kernel_rfl)
   · exact Reg.doesV_val (ev_ld rfl (by rw [hF]; kernel_rfl) bx.ldN) (by rw [hF]; kernel_rfl) (by rw [hF]; kernel_rfl)
   · exact Reg.doesV_call (most_c w') (ev_call enrMost rfl (by simp)) (by rw [hF]; kernel_rfl) (by rw [hF]; kernel_rfl)
   · exact Reg.doesV_val (ev_fa rfl (by rw [hF]; kernel_rfl) (fa_val1 w' (w.heap.size + 1))) (by rw [hF]; kernel_rfl) (by rw [hF]; kernel_rfl)
   · exact Reg.doesV_val (ev_ld rfl (by rw [hF]; kernel_rfl) byy.ldN) (by rw [hF]; kernel_rfl) (by rw [hF]; kernel_rfl)
   · exact Reg.doesV_val (ev_subT (a := 9223372036854775807) (b := y.n) rfl (by rw [hF]; kernel_rfl) (by rw [hF]; kernel_rfl)) (by rw [hF]; kernel_rfl) (by rw [hF]; kernel_rfl)
   · exact Reg.doesV_val (by rw [ev_gtT (a := x.n) (b := wrap64 (9223372036854775807 - y.n)) rfl (by rw [hF]; kernel_rfl) (by rw [hF]; kernel_rfl), h25]) (by rw [hF]; kernel_rfl) (by rw [hF]; kernel_rfl)
   · exact Reg.doesV_val (ev_pick true rfl (by rw [hF]; kernel_rfl)) (by rw [hF]; kernel_rfl) (by rw [hF]; kernel_rfl)
   · exact Reg.doesV_val (ev_pick false rfl (by rw [hF]; kernel_rfl)) (by rw [hF]; kernel_rfl) (by rw [hF]; kernel_rfl)
   · exact Reg.doesV_val (ev_move rfl) (by rw [hF]; kernel_rfl) (by rw [hF]; kernel_rfl)
   · exact Reg.doesV_val (ev_fa rfl (by rw [hF]; kernel_rfl) (fa_val1 w' (w.heap.size + 1))) (by rw [hF]; kernel_rfl) (by rw [hF]; kernel_rfl)
   · exact Reg.doesV_val (ev_ld rfl (by rw [hF]; kernel_rfl) byy.ldN) (by rw [hF]; kernel_rfl) (by rw [hF]; kernel_rfl)
   · exact Reg.doesV_val (by rw [ev_ltC (a := y.n) rfl (by rw [hF]; kernel_rfl), h31]) (by rw [hF]; kernel_rfl) (by rw [hF]; kernel_rfl)
   · exact Reg.doesV_val (ev_move rfl) (by rw [hF]; kernel_rfl) (by rw [hF]; kernel_rfl)
   · exact Reg.doesV_skip (by rw [hF]; kernel_rfl) (by rw [hF]; kernel_rfl)
   · exact Reg.doesV_skip (by rw [hF]; kernel_rfl) (by rw [hF]; kernel_rfl)
   · exact Reg.doesV_skip (by rw [hF]; kernel_rfl) (by rw [hF]; kernel_rfl)
   · exact Reg.doesV_skip (by rw [hF]; kernel_rfl) (by rw [hF]; kernel_rfl)
   · exact Reg.doesV_skip (by rw [hF]; kernel_rfl) (by rw [hF]; kernel_rfl)
   · exact Reg.doesV_skip (by rw [hF]; kernel_rfl) (by rw [hF]; kernel_rfl)
   · exact Reg.doesV_skip (by rw [hF]; kernel_rfl) (by rw [hF]; kernel_rfl)
   · exact Reg.doesV_val (ev_pick false rfl (by rw [hF]; kernel_rfl)) (by rw [hF]; kernel_rfl) (by rw [hF]; kernel_rfl)
   · exact Reg.doesV_val (ev_pick false rfl (by rw [hF]; kernel_rfl)) (by rw [hF]; kernel_rfl) (by rw [hF]; kernel_rfl)
 · intro w2 hB'
   simp only [Reg.putAll, Act.put, List.setIfInBounds_toArray, List.set_cons_zero, List.set_cons_succ]
   clear h12 h17 h25 h31
   have c1 := b1.after hB'
   have c2 := b2.after hB'
   have c3 := b3.after hB'
   have hb2 := hb.trans (hB'.mono hb.size)
   clear hB' b1 b2 b3 hb
   have x1 := c1.cell1
   have y1 := c2.cell1
   go_wp2_with fail
   refine (rint_c _ _).mono ?_
   rintro e w3 ⟨rfl, hb3⟩
   have d3 := c3.after hb3
   have hb4 := hb2.trans (hb3.mono hb2.size)
   obtain ⟨R, hR⟩ : ∃ R, iv (wrap64 (x.n + y.n)) = R := ⟨_, rfl⟩
   rw [hR]
   have HR := Lib.hid hR
   clear hb3 hR x1 y1 c1 c2 c3
   have g0 := d3.cell0
   have g1 := d3.cell1
   have g2 := d3.cell2
   have f0 := d3.frozen 0
   have f1 := d3.frozen 1
   have f2 := d3.frozen 2
   go_wp2
   exact ret_valX (a := R) (z := .bool true) Tryz.results135 rfl rfl (d3.put R) rfl ⟨by rw [← HR.out], put3_below hb4 (by omega) R⟩
set_option maxHeartbeats 1000000 in
theorem radd_Z (x y : Val) (w : World) (h0 : (x.k == 0 || y.k == 0) = false) (h12 : (x.k == 2 && y.k == 2) = true) (h17 : decide (0 < y.n) = false) (h31 : decide (y.n < 0) = false) : Calls Tryz.prog 135 #[x.v, y.v] w fun e w' => e = .returned (.tuple #[((iv (wrap64 (x.n + y.n)), true)).1.v, .bool ((iv (wrap64 (x.n + y.n)), true)).2]) ∧ Below w.heap.size w w' := by
 have H12 := Lib.hid h12
 have H17 := Lib.hid h17
 have H31 := Lib.hid h31
 have H0 := Lib.hid h0
 clear h0 h12 h17 h31
 go_enter Tryz.func135, Tryz.ntmps135
 go_wp2_with fail
 refine (rnulls_c x y _).mono ?_
 rintro e w1 ⟨rfl, hb1⟩
 rw [H0.out]
 have b1 : Bx w1 w.heap.size x := (((Bx.new w x).alloc _).alloc _).after hb1
 have b2 : Bx w1 (w.heap.size + 1) y := ((Bx.new1 w y _).alloc _).after hb1
 have b3 : Bx w1 (w.heap.size + 2) nl := (Bx.new2 w nl _ _).after hb1
 have hb : Below w.heap.size w w1 := (below_three _ _ _ _).trans (hb1.mono (by simp; omega))
 clear hb1
 go_wp2_with fail
 have h12 := H12.out
 have h17 := H17.out
 have h31 := H31.out
 refine Reg.wp_region_vals mixed (by kernel_rfl) [(10, x.v), (11, y.v), (12, .bool true), (13, .bool false), (14, .bool false), (15, .pointer (some ⟨w.heap.size + 1, 1, none⟩)), (16, .int .i64 y.n), (17, .bool false), (18, .bool false), (19, undef), (20, undef), (21, undef), (22, undef), (23, undef), (24, undef), (25, undef), (26, .bool false), (27, .bool false), (28, .bool false), (29, .pointer (some ⟨w.heap.size + 1, 1, none⟩)), (30, .int .i64 y.n), (31, .bool false), (32, .bool false), (33, undef), (34, undef), (35, undef), (36, undef), (37, undef), (38, undef), (39, undef), (40, .bool false), (41, .bool false)] 49 rfl (by kernel_rfl) ?_ ?_
 · intro F hF w' hB'
   have bx := b1.after hB'
   have byy := b2.after hB'
   refine ⟨?_, ?_, ?_, ?_, ?_, ?_, ?_, ?_, ?_, ?_, ?_, ?_, ?_, ?_, ?_, ?_, ?_, ?_, ?_, ?_, ?_, ?_, ?_, ?_, ?_, ?_, ?_, ?_, ?_, ?_, ?_, ?_, trivial⟩
   · exact Reg.doesV_val (ev_load bx rfl (by rw [hF]; kernel_rfl)) (by rw [hF]; kernel_rfl) (by rw [hF]; kernel_rfl)
   · exact Reg.doesV_val (ev_load byy rfl (by rw [hF]; kernel_rfl)) (by rw [hF]; kernel_rfl) (by rw [hF]; kernel_rfl)
   · exact Reg.doesV_call (by have h := rints_c x y w'; rw [h12] at h; exact h) (ev_call enrInts rfl (by rw [hF]; kernel_rfl)) (by rw [hF]; kernel_rfl) (by rw [hF]; kernel_rfl)
   · exact Reg.doesV_val (ev_not true rfl (by rw [hF]; kernel_rfl)) (by rw [hF]; kernel_rfl) (by rw [hF]; kernel_rfl)
   · exact Reg.doesV_val (ev_move rfl) (by rw [hF]; kernel_rfl) (by rw [hF]; kernel_rfl)
   · exact Reg.doesV_val (ev_fa rfl (by rw [hF]; kernel_rfl) (fa_val1 w' (w.heap.size + 1))) (by rw [hF]; kernel_rfl) (by rw [hF]; kernel_rfl)
   · exact Reg.doesV_val (ev_ld rfl (by rw [hF]; kernel_rfl) byy.ldN) (by rw [hF]; kernel_rfl) (by rw [hF]; kernel_rfl)
   · exact Reg.doesV_val (by rw [ev_gtC (a := y.n) rfl (by rw [hF]; kernel_rfl), h17]) (by rw [hF]; kernel_rfl) (by rw [hF]; kernel_rfl)
   · exact Reg.doesV_val (ev_move rfl) (by rw [hF]; kernel_rfl) (by rw [hF]; kernel_rfl)
   · exact Reg.doesV_skip (by rw [hF]; kernel_rfl) (by rw [hF]; kernel_rfl)
   · exact Reg.doesV_skip (by rw [hF]; kernel_rfl) (by rw [hF]; kernel_rfl)
   · exact Reg.doesV_skip (by rw [hF]; kernel_rfl) (by rw [hF]; kernel_rfl)
   · exact Reg.doesV_skip (by rw [hF]; kernel_rfl) (by rw [hF]; kernel_rfl)
   · exact Reg.doesV_skip (by rw [hF]; kernel_rfl) (by rw [hF]; kernel_rfl)
   · exact Reg.doesV_skip (by rw [hF]; kernel_rfl) (by rw [hF]; kernel_rfl)
   · exact Reg.doesV_skip (by rw [hF]; kernel_rfl) (by rw [hF]; kernel_rfl)
   · exact Reg.doesV_val (ev_pick false rfl (by rw [hF]; kernel_rfl)) (by rw [hF]; kernel_rfl) (by rw [hF]; kernel_rfl)
   · exact Reg.doesV_val (ev_pick false rfl (by rw [hF]; kernel_rfl)) (by rw [hF]; kernel_rfl) (by rw [hF]; kernel_rfl)
   · exact Reg.doesV_val (ev_move rfl) (by rw [hF]; kernel_rfl) (by rw [hF]; kernel_rfl)
   · exact Reg.doesV_val (ev_fa rfl (by rw [hF]; kernel_rfl) (fa_val1 w' (w.heap.size + 1))) (by rw [hF]; kernel_rfl) (by rw [hF]; kernel_rfl)
   · exact Reg.doesV_val (ev_ld rfl (by rw [hF]; kernel_rfl) byy.ldN) (by rw [hF]; kernel_rfl) (by rw [hF]; kernel_rfl)
   · exact Reg.doesV_val (by rw [ev_ltC (a := y.n) rfl (by rw [hF]; kernel_rfl), h31]) (by rw [hF]; kernel_rfl) (by rw [hF]; kernel_rfl)
   · exact Reg.doesV_val (ev_move rfl) (by rw [hF]; kernel_rfl) (by rw [hF]; kernel_rfl)
   · exact Reg.doesV_skip (by rw [hF]; kernel_rfl) (by rw [hF]; kernel_rfl)
   · exact Reg.doesV_skip (by rw [hF]; kernel_rfl) (by rw [hF]; kernel_rfl)
   · exact Reg.doesV_skip (by rw [hF]; kernel_rfl) (by rw [hF]; kernel_rfl)
   · exact Reg.doesV_skip (by rw [hF]; kernel_rfl) (by rw [hF]; kernel_rfl)
   · exact Reg.doesV_skip (by rw [hF]; kernel_rfl) (by rw [hF]; kernel_rfl)
   · exact Reg.doesV_skip (by rw [hF]; kernel_rfl) (by rw [hF]; kernel_rfl)
   · exact Reg.doesV_skip (by rw [hF]; kernel_rfl) (by rw [hF]; kernel_rfl)
   · exact Reg.doesV_val (ev_pick false rfl (by rw [hF]; kernel_rfl)) (by rw [hF]; kernel_rfl) (by rw [hF]; kernel_rfl)
   · exact Reg.doesV_val (ev_pick false rfl (by rw [hF]; kernel_rfl)) (by rw [hF]; kernel_rfl) (by rw [hF]; kernel_rfl)
 · intro w2 hB'
   simp only [Reg.putAll, Act.put, List.setIfInBounds_toArray, List.set_cons_zero, List.set_cons_succ]
   clear h12 h17 h31
   have c1 := b1.after hB'
   have c2 := b2.after hB'
   have c3 := b3.after hB'
   have hb2 := hb.trans (hB'.mono hb.size)
   clear hB' b1 b2 b3 hb
   have x1 := c1.cell1
   have y1 := c2.cell1
   go_wp2_with fail
   refine (rint_c _ _).mono ?_
   rintro e w3 ⟨rfl, hb3⟩
   have d3 := c3.after hb3
   have hb4 := hb2.trans (hb3.mono hb2.size)
   obtain ⟨R, hR⟩ : ∃ R, iv (wrap64 (x.n + y.n)) = R := ⟨_, rfl⟩
   rw [hR]
   have HR := Lib.hid hR
   clear hb3 hR x1 y1 c1 c2 c3
   have g0 := d3.cell0
   have g1 := d3.cell1
   have g2 := d3.cell2
   have f0 := d3.frozen 0
   have f1 := d3.frozen 1
   have f2 := d3.frozen 2
   go_wp2
   exact ret_valX (a := R) (z := .bool true) Tryz.results135 rfl rfl (d3.put R) rfl ⟨by rw [← HR.out], put3_below hb4 (by omega) R⟩
set_option maxHeartbeats 1000000 in
theorem radd_null (x y : Val) (w : World) (h0 : (x.k == 0 || y.k == 0) = true) : Calls Tryz.prog 135 #[x.v, y.v] w fun e w' => e = .returned (.tuple #[nl.v, .bool true]) ∧ Below w.heap.size w w' := by
 have H0 := Lib.hid h0
 clear h0
 go_enter Tryz.func135, Tryz.ntmps135
 go_wp2_with fail
 refine (rnulls_c x y _).mono ?_
 rintro e w1 ⟨rfl, hb1⟩
 rw [H0.out]
 have c3 : Bx w1 (w.heap.size + 2) nl := (Bx.new2 w nl _ _).after hb1
 have hb : Below w.heap.size w w1 := (below_three _ _ _ _).trans (hb1.mono (by simp; omega))
 clear hb1
 have g0 := c3.cell0
 have g1 := c3.cell1
 have g2 := c3.cell2
 have f0 := c3.frozen 0
 have f1 := c3.frozen 1
 have f2 := c3.frozen 2
 go_wp2
 exact ret_valX (a := nl) (z := .bool true) Tryz.results135 rfl rfl (c3.put nl) rfl ⟨rfl, put3_below hb (by omega) nl⟩
set_option maxHeartbeats 1000000 in
theorem rsub_Q1 (x y : Val) (w : World) (h0 : (x.k == 0 || y.k == 0) = false) (h12 : (x.k == 2 && y.k == 2) = true) (h17 : decide (y.n < 0) = false) (h31 : decide (0 < y.n) = true) (h39 : decide (x.n < wrap64 ((-9223372036854775808) + y.n)) = true) : Calls Tryz.prog 136 #[x.v, y.v] w fun e w' => e = .returned (.tuple #[((nl, false)).1.v, .bool ((nl, false)).2]) ∧ Below w.heap.size w w' := by
 have H12 := Lib.hid h12
 have H17 := Lib.hid h17
 have H31 := Lib.hid h31
 have H39 := Lib.hid h39
 have H0 := Lib.hid h0
 clear h0 h12 h17 h31 h39
 go_enter Tryz.func136, Tryz.ntmps136
 go_wp2_with fail
 refine (rnulls_c x y _).mono ?_
 rintro e w1 ⟨rfl, hb1⟩
 rw [H0.out]
 have b1 : Bx w1 w.heap.size x := (((Bx.new w x).alloc _).alloc _).after hb1
 have b2 : Bx w1 (w.heap.size + 1) y := ((Bx.new1 w y _).alloc _).after hb1
 have b3 : Bx w1 (w.heap.size + 2) nl := (Bx.new2 w nl _ _).after hb1
 have hb : Below w.heap.size w w1 := (below_three _ _ _ _).trans (hb1.mono (by simp; omega))
 clear hb1
 go_wp2_with fail
 have h12 := H12.out
 have h17 := H17.out
 have h31 := H31.out
 have h39 := H39.out
 refine Reg.wp_region_vals mixed (by kernel_rfl) [(10, x.v), (11, y.v), (12, .bool true), (13, .bool false), (14, .bool false), (15, .pointer (some ⟨w.heap.size + 1, 1, none⟩)), (16, .int .i64 y.n), (17, .bool false), (18, .bool false), (19, undef), (20, undef), (21, undef), (22, undef), (23, undef), (24, undef), (25, undef), (26, .bool false), (27, .bool false), (28, .bool false), (29, .pointer (some ⟨w.heap.size + 1, 1, none⟩)), (30, .int .i64 y.n), (31, .bool true), (32, .bool true), (33, .pointer (some ⟨w.heap.size, 1, none⟩)), (34, .int .i64 x.n), (35, .int .i64 (-9223372036854775808)), (36, .pointer (some ⟨w.heap.size + 1, 1, none⟩)), (37, .int .i64 y.n), (38, .int .i64 (wrap64 ((-9223372036854775808) + y.n))), (39, .bool true), (40, .bool true), (41, .bool true)] 49 rfl (by kernel_rfl) ?_ ?_
 · intro F hF w' hB'
   have bx := b1.after hB'
   have byy := b2.after hB'
   refine ⟨?_, ?_, ?_, ?_, ?_, ?_, ?_, ?_, ?_, ?_, ?_, ?_, ?_, ?_, ?_, ?_, ?_, ?_, ?_, ?_, ?_, ?_, ?_, ?_, ?_, ?_, ?_, ?_, ?_, ?_, ?_, ?_, trivial⟩
   · exact Reg.doesV_val (ev_load bx rfl (by rw [hF]; kernel_rfl)) (by rw [hF]; kernel_rfl) (by rw [hF]; kernel_rfl)
   · exact Reg.doesV_val (ev_load byy rfl (by rw [hF]; kernel_rfl)) (by rw [hF]; kernel_rfl) (by rw [hF]; kernel_rfl)
   · exact Reg.doesV_call (by have h := rints_c x y w'; rw [h12] at h; exact h) (ev_call enrInts rfl (by rw [hF]; kernel_rfl)) (by rw [hF]; kernel_rfl) (by rw [hF]; kernel_rfl)
   · exact Reg.doesV_val (ev_not true rfl (by rw [hF]; kernel_rfl)) (by rw [hF]; kernel_rfl) (by rw [hF]; kernel_rfl)
   · exact Reg.doesV_val (ev_move rfl) (by rw [hF]; kernel_rfl) (by rw [hF]; kernel_rfl)
   · exact Reg.doesV_val (ev_fa rfl (by rw [hF]; kernel_rfl) (fa_val1 w' (w.heap.size + 1))) (by rw [hF]; kernel_rfl) (by rw [hF]; kernel_rfl)
   · exact Reg.doesV_val (ev_ld rfl (by rw [hF]; kernel_rfl) byy.ldN) (by rw [hF]; kernel_rfl) (by rw [hF]; kernel_rfl)
   · exact Reg.doesV_val (by rw [ev_ltC (a := y.n) rfl (by rw [hF]; kernel_rfl), h17]) (by rw [hF]; kernel_rfl) (by rw [hF]; kernel_rfl)
   · exact Reg.doesV_val (ev_move rfl) (by rw [hF]; kernel_rfl) (by rw [hF]; kernel_rfl)
   · exact Reg.doesV_skip (by rw [hF]; kernel_rfl) (by rw [hF]; kernel_rfl)
   · exact Reg.doesV_skip (by rw [hF]; kernel_rfl) (by rw [hF]; kernel_rfl)
   · exact Reg.doesV_skip (by rw [hF]; kernel_rfl) (by rw [hF]; kernel_rfl)
   · exact Reg.doesV_skip (by rw [hF]; kernel_rfl) (by rw [hF]; kernel_rfl)
   · exact Reg.doesV_skip (by rw [hF]; kernel_rfl) (by rw [hF]; kernel_rfl)
   · exact Reg.doesV_skip (by rw [hF]; kernel_rfl) (by rw [hF]; kernel_rfl)
   · exact Reg.doesV_skip (by rw [hF]; kernel_rfl) (by rw [hF]; kernel_rfl)
   · exact Reg.doesV_val (ev_pick false rfl (by rw [hF]; kernel_rfl)) (by rw [hF]; kernel_rfl) (by rw [hF]; kernel_rfl)
   · exact Reg.doesV_val (ev_pick false rfl (by rw [hF]; kernel_rfl)) (by rw [hF]; kernel_rfl) (by rw [hF]; kernel_rfl)
   · exact Reg.doesV_val (ev_move rfl) (by rw [hF]; kernel_rfl) (by rw [hF]; kernel_rfl)
   · exact Reg.doesV_val (ev_fa rfl (by rw [hF]; kernel_rfl) (fa_val1 w' (w.heap.size + 1))) (by rw [hF]; kernel_rfl) (by rw [hF]; kernel_rfl)
   · exact Reg.doesV_val (ev_ld rfl (by rw [hF]; kernel_rfl) byy.ldN) (by rw [hF]; kernel_rfl) (by rw [hF]; kernel_rfl)
   · exact Reg.doesV_val (by rw [ev_gtC (a := y.n) rfl (by rw [hF]; kernel_rfl), h31]) (by rw [hF]; kernel_rfl) (by rw [hF]; kernel_rfl)
   · exact Reg.doesV_val (ev_move rfl) (by rw [hF]; kernel_rfl) (by rw [hF]; kernel_rfl)
   · exact Reg.doesV_val (ev_fa rfl (by rw [hF]; kernel_rfl) (fa_val1 w' w.heap.size)) (by rw [hF]; kernel_rfl) (by rw [hF]; kernel_rfl)
   · exact Reg.doesV_val (ev_ld rfl (by rw [hF]; kernel_rfl) bx.ldN) (by rw [hF]; kernel_rfl) (by rw [hF]; kernel_rfl)
   · exact Reg.doesV_call (least_c w') (ev_call enrLeast rfl (by simp)) (by rw [hF]; kernel_rfl) (by rw [hF]; kernel_rfl)
   · exact Reg.doesV_val (ev_fa rfl (by rw [hF]; kernel_rfl) (fa_val1 w' (w.heap.size + 1))) (by rw [hF]; kernel_rfl) (by rw [hF]; kernel_rfl)
   · exact Reg.doesV_val (ev_ld rfl (by rw [hF]; kernel_rfl) byy.ldN) (by rw [hF]; kernel_rfl) (by rw [hF]; kernel_rfl)
   · exact Reg.doesV_val (ev_addT (a := (-9223372036854775808)) (b := y.n) rfl (by rw [hF]; kernel_rfl) (by rw [hF]; kernel_rfl)) (by rw [hF]; kernel_rfl) (by rw [hF]; kernel_rfl)
   · exact Reg.doesV_val (by rw [ev_ltT (a := x.n) (b := wrap64 ((-9223372036854775808) + y.n)) rfl (by rw [hF]; kernel_rfl) (by rw [hF]; kernel_rfl), h39]) (by rw [hF]; kernel_rfl) (by rw [hF]; kernel_rfl)
   · exact Reg.doesV_val (ev_pick true rfl (by rw [hF]; kernel_rfl)) (by rw [hF]; kernel_rfl) (by rw [hF]; kernel_rfl)
   · exact Reg.doesV_val (ev_pick false rfl (by rw [hF]; kernel_rfl)) (by rw [hF]; kernel_rfl) (by rw [hF]; kernel_rfl)
 · intro w2 hB'
   simp only [Reg.putAll, Act.put, List.setIfInBounds_toArray, List.set_cons_zero, List.set_cons_succ]
   clear h12 h17 h31 h39
   have c1 := b1.after hB'
   have c2 := b2.after hB'
   have c3 := b3.after hB'
   have hb2 := hb.trans (hB'.mono hb.size)
   clear hB' b1 b2 b3 hb
   have g0 := c3.cell0
   have g1 := c3.cell1
   have g2 := c3.cell2
   have f0 := c3.frozen 0
   have f1 := c3.frozen 1
   have f2 := c3.frozen 2
   go_wp2
   exact ret_valX (a := nl) (z := .bool false) Tryz.results136 rfl rfl (c3.put nl) rfl ⟨rfl, put3_below hb2 (by omega) nl⟩
set_option maxHeartbeats 1000000 in
theorem rsub_Q0 (x y : Val) (w : World) (h0 : (x.k == 0 || y.k == 0) = false) (h12 : (x.k == 2 && y.k == 2) = true) (h17 : decide (y.n < 0) = false) (h31 : decide (0 < y.n) = true) (h39 : decide (x.n < wrap64 ((-9223372036854775808) + y.n)) = false) : Calls Tryz.prog 136 #[x.v, y.v] w fun e w' => e = .returned (.tuple #[((iv (wrap64 (x.n - y.n)), true)).1.v, .bool ((iv (wrap64 (x.n - y.n)), true)).2]) ∧ Below w.heap.size w w' := by
 have H12 := Lib.hid h12
 have H17 := Lib.hid h17
 have H31 := Lib.hid h31
 have H39 := Lib.hid h39
 have H0 := Lib.hid h0
 clear h0 h12 h17 h31 h39
 go_enter Tryz.func136, Tryz.ntmps136
 go_wp2_with fail
 refine (rnulls_c x y _).mono ?_
 rintro e w1 ⟨rfl, hb1⟩
 rw [H0.out]
 have b1 : Bx w1 w.heap.size x := (((Bx.new w x).alloc _).alloc _).after hb1
 have b2 : Bx w1 (w.heap.size + 1) y := ((Bx.new1 w y _).alloc _).after hb1
 have b3 : Bx w1 (w.heap.size + 2) nl := (Bx.new2 w nl _ _).after hb1
 have hb : Below w.heap.size w w1 := (below_three _ _ _ _).trans (hb1.mono (by simp; omega))
 clear hb1
 go_wp2_with fail
 have h12 := H12.out
 have h17 := H17.out
 have h31 := H31.out
 have h39 := H39.out
 refine Reg.wp_region_vals mixed (by kernel_rfl) [(10, x.v), (11, y.v), (12, .bool true), (13, .bool false), (14, .bool false), (15, .pointer (some ⟨w.heap.size + 1, 1, none⟩)), (16, .int .i64 y.n), (17, .bool false), (18, .bool false), (19, undef), (20, undef), (21, undef), (22, undef), (23, undef), (24, undef), (25, undef), (26, .bool false), (27, .bool false), (28, .bool false), (29, .pointer (some ⟨w.heap.size + 1, 1, none⟩)), (30, .int .i64 y.n), (31, .bool true), (32, .bool true), (33, .pointer (some ⟨w.heap.size, 1, none⟩)), (34, .int .i64 x.n), (35, .int .i64 (-9223372036854775808)), (36, .pointer (some ⟨w.heap.size + 1, 1, none⟩)), (37, .int .i64 y.n), (38, .int .i64 (wrap64 ((-9223372036854775808) + y.n))), (39, .bool false), (40, .bool false), (41, .bool false)] 49 rfl (by kernel_rfl) ?_ ?_
 · intro F hF w' hB'
   have bx := b1.after hB'
   have byy := b2.after hB'
   refine ⟨?_, ?_, ?_, ?_, ?_, ?_, ?_, ?_, ?_, ?_, ?_, ?_, ?_, ?_, ?_, ?_, ?_, ?_, ?_, ?_, ?_, ?_, ?_, ?_, ?_, ?_, ?_, ?_, ?_, ?_, ?_, ?_, trivial⟩
   · exact Reg.doesV_val (ev_load bx rfl (by rw [hF]; kernel_rfl)) (by rw [hF]; kernel_rfl) (by rw [hF]; kernel_rfl)
   · exact Reg.doesV_val (ev_load byy rfl (by rw [hF]; kernel_rfl)) (by rw [hF]; kernel_rfl) (by rw [hF]; kernel_rfl)
   · exact Reg.doesV_call (by have h := rints_c x y w'; rw [h12] at h; exact h) (ev_call enrInts rfl (by rw [hF]; kernel_rfl)) (by rw [hF]; kernel_rfl) (by rw [hF]; kernel_rfl)
   · exact Reg.doesV_val (ev_not true rfl (by rw [hF]; kernel_rfl)) (by rw [hF]; kernel_rfl) (by rw [hF]; kernel_rfl)
   · exact Reg.doesV_val (ev_move rfl) (by rw [hF]; kernel_rfl) (by rw [hF]; kernel_rfl)
   · exact Reg.doesV_val (ev_fa rfl (by rw [hF]; kernel_rfl) (fa_val1 w' (w.heap.size + 1))) (by rw [hF]; kernel_rfl) (by rw [hF]; kernel_rfl)
   · exact Reg.doesV_val (ev_ld rfl (by rw [hF]; kernel_rfl) byy.ldN) (by rw [hF]; kernel_rfl) (by rw [hF]; kernel_rfl)
   · exact Reg.doesV_val (by rw [ev_ltC (a := y.n) rfl (by rw [hF]; kernel_rfl), h17]) (by rw [hF]; kernel_rfl) (by rw [hF]; kernel_rfl)
   · exact Reg.doesV_val (ev_move rfl) (by rw [hF]; kernel_rfl) (by rw [hF]; kernel_rfl)
   · exact Reg.doesV_skip (by rw [hF]; kernel_rfl) (by rw [hF]; kernel_rfl)
   · exact Reg.doesV_skip (by rw [hF]; kernel_rfl) (by rw [hF]; kernel_rfl)
   · exact Reg.doesV_skip (by rw [hF]; kernel_rfl) (by rw [hF]; kernel_rfl)
   · exact Reg.doesV_skip (by rw [hF]; kernel_rfl) (by rw [hF]; kernel_rfl)
   · exact Reg.doesV_skip (by rw [hF]; kernel_rfl) (by rw [hF]; kernel_rfl)
   · exact Reg.doesV_skip (by rw [hF]; kernel_rfl) (by rw [hF]; kernel_rfl)
   · exact Reg.doesV_skip (by rw [hF]; kernel_rfl) (by rw [hF]; kernel_rfl)
   · exact Reg.doesV_val (ev_pick false rfl (by rw [hF]; kernel_rfl)) (by rw [hF]; kernel_rfl) (by rw [hF]; kernel_rfl)
   · exact Reg.doesV_val (ev_pick false rfl (by rw [hF]; kernel_rfl)) (by rw [hF]; kernel_rfl) (by rw [hF]; kernel_rfl)
   · exact Reg.doesV_val (ev_move rfl) (by rw [hF]; kernel_rfl) (by rw [hF]; kernel_rfl)
   · exact Reg.doesV_val (ev_fa rfl (by rw [hF]; kernel_rfl) (fa_val1 w' (w.heap.size + 1))) (by rw [hF]; kernel_rfl) (by rw [hF]; kernel_rfl)
   · exact Reg.doesV_val (ev_ld rfl (by rw [hF]; kernel_rfl) byy.ldN) (by rw [hF]; kernel_rfl) (by rw [hF]; kernel_rfl)
   · exact Reg.doesV_val (by rw [ev_gtC (a := y.n) rfl (by rw [hF]; kernel_rfl), h31]) (by rw [hF]; kernel_rfl) (by rw [hF]; kernel_rfl)
   · exact Reg.doesV_val (ev_move rfl) (by rw [hF]; kernel_rfl) (by rw [hF]; kernel_rfl)
   · exact Reg.doesV_val (ev_fa rfl (by rw [hF]; kernel_rfl) (fa_val1 w' w.heap.size)) (by rw [hF]; kernel_rfl) (by rw [hF]; kernel_rfl)
   · exact Reg.doesV_val (ev_ld rfl (by rw [hF]; kernel_rfl) bx.ldN) (by rw [hF]; kernel_rfl) (by rw [hF]; kernel_rfl)
   · exact Reg.doesV_call (least_c w') (ev_call enrLeast rfl (by simp)) (by rw [hF]; kernel_rfl) (by rw [hF]; kernel_rfl)
   · exact Reg.doesV_val (ev_fa rfl (by rw [hF]; kernel_rfl) (fa_val1 w' (w.heap.size + 1))) (by rw [hF]; kernel_rfl) (by rw [hF]; kernel_rfl)
   · exact Reg.doesV_val (ev_ld rfl (by rw [hF]; kernel_rfl) byy.ldN) (by rw [hF]; kernel_rfl) (by rw [hF]; kernel_rfl)
   · exact Reg.doesV_val (ev_addT (a := (-9223372036854775808)) (b := y.n) rfl (by rw [hF]; kernel_rfl) (by rw [hF]; kernel_rfl)) (by rw [hF]; kernel_rfl) (by rw [hF]; kernel_rfl)
   · exact Reg.doesV_val (by rw [ev_ltT (a := x.n) (b := wrap64 ((-9223372036854775808) + y.n)) rfl (by rw [hF]; kernel_rfl) (by rw [hF]; kernel_rfl), h39]) (by rw [hF]; kernel_rfl) (by rw [hF]; kernel_rfl)
   · exact Reg.doesV_val (ev_pick true rfl (by rw [hF]; kernel_rfl)) (by rw [hF]; kernel_rfl) (by rw [hF]; kernel_rfl)
   · exact Reg.doesV_val (ev_pick false rfl (by rw [hF]; kernel_rfl)) (by rw [hF]; kernel_rfl) (by rw [hF]; kernel_rfl)
 · intro w2 hB'
   simp only [Reg.putAll, Act.put, List.setIfInBounds_toArray, List.set_cons_zero, List.set_cons_succ]
   clear h12 h17 h31 h39
   have c1 := b1.after hB'
   have c2 := b2.after hB'
   have c3 := b3.after hB'
   have hb2 := hb.trans (hB'.mono hb.size)
   clear hB' b1 b2 b3 hb
   have x1 := c1.cell1
   have y1 := c2.cell1
   go_wp2_with fail
   refine (rint_c _ _).mono ?_
   rintro e w3 ⟨rfl, hb3⟩
   have d3 := c3.after hb3
   have hb4 := hb2.trans (hb3.mono hb2.size)
   obtain ⟨R, hR⟩ : ∃ R, iv (wrap64 (x.n - y.n)) = R := ⟨_, rfl⟩
   rw [hR]
   have HR := Lib.hid hR
   clear hb3 hR x1 y1 c1 c2 c3
   have g0 := d3.cell0
   have g1 := d3.cell1
   have g2 := d3.cell2
   have f0 := d3.frozen 0
   have f1 := d3.frozen 1
   have f2 := d3.frozen 2
   go_wp2
   exact ret_valX (a := R) (z := .bool true) Tryz.results136 rfl rfl (d3.put R) rfl ⟨by rw [← HR.out], put3_below hb4 (by omega) R⟩
set_option maxHeartbeats 1000000 in
theorem rsub_Z (x y : Val) (w : World) (h0 : (x.k == 0 || y.k == 0) = false) (h12 : (x.k == 2 && y.k == 2) = true) (h17 : decide (y.n < 0) = false) (h31 : decide (0 < y.n) = false) : Calls Tryz.prog 136 #[x.v, y.v] w fun e w' => e = .returned (.tuple #[((iv (wrap64 (x.n - y.n)), true)).1.v, .bool ((iv (wrap64 (x.n - y.n)), true)).2]) ∧ Below w.heap.size w w' := by
 have H12 := Lib.hid h12
 have H17 := Lib.hid h17
 have H31 := Lib.hid h31
 have H0 := Lib.hid h0
 clear h0 h12 h17 h31
 go_enter Tryz.func136, Tryz.ntmps136
 go_wp2_with fail
 refine (rnulls_c x y _).mono ?_
 rintro e w1 ⟨rfl, hb1⟩
 rw [H0.out]
 have b1 : Bx w1 w.heap.size x := (((Bx.new w x).alloc _).alloc _).after hb1
 have b2 : Bx w1 (w.heap.size + 1) y := ((Bx.new1 w y _).alloc _).after hb1
 have b3 : Bx w1 (w.heap.size + 2) nl := (Bx.new2 w nl _ _).after hb1
 have hb : Below w.heap.size w w1 := (below_three _ _ _ _).trans (hb1.mono (by simp; omega))
 clear hb1
 go_wp2_with fail
 have h12 := H12.out
 have h17 := H17.out
 have h31 := H31.out
 refine Reg.wp_region_vals mixed (by kernel_rfl) [(10, x.v), (11, y.v), (12, .bool true), (13, .bool false), (14, .bool false), (15, .pointer (some ⟨w.heap.size + 1, 1, none⟩)), (16, .int .i64 y.n), (17, .bool false), (18, .bool false), (19, undef), (20, undef), (21, undef), (22, undef), (23, undef), (24, undef), (25, undef), (26, .bool false), (27, .bool false), (28, .bool false), (29, .pointer (some ⟨w.heap.size + 1, 1, none⟩)), (30, .int .i64 y.n), (31, .bool false), (32, .bool false), (33, undef), (34, undef), (35, undef), (36, undef), (37, undef), (38, undef), (39, undef), (40, .bool false), (41, .bool false)] 49 rfl (by kernel_rfl) ?_ ?_
 · intro F hF w' hB'
   have bx := b1.after hB'
   have byy := b2.after hB'
   refine ⟨?_, ?_, ?_, ?_, ?_, ?_, ?_, ?_, ?_, ?_, ?_, ?_, ?_, ?_, ?_, ?_, ?_, ?_, ?_, ?_, ?_, ?_, ?_, ?_, ?_, ?_, ?_, ?_, ?_, ?_, ?_, ?_, trivial⟩
   · exact Reg.doesV_val (ev_load bx rfl (by rw [hF]; kernel_rfl)) (by rw [hF]; kernel_rfl) (by rw [hF]; kernel_rfl)
   · exact Reg.doesV_val (ev_load byy rfl (by rw [hF]; kernel_rfl)) (by rw [hF]; kernel_rfl) (by rw [hF]; kernel_rfl)
   · exact Reg.doesV_call (by have h := rints_c x y w'; rw [h12] at h; exact h) (ev_call enrInts rfl (by rw [hF]; kernel_rfl)) (by rw [hF]; kernel_rfl) (by rw [hF]; kernel_rfl)
   · exact Reg.doesV_val (ev_not true rfl (by rw [hF]; kernel_rfl)) (by rw [hF]; kernel_rfl) (by rw [hF]; kernel_rfl)
   · exact Reg.doesV_val (ev_move rfl) (by rw [hF]; kernel_rfl) (by rw [hF]; kernel_rfl)
   · exact Reg.doesV_val (ev_fa rfl (by rw [hF]; kernel_rfl) (fa_val1 w' (w.heap.size + 1))) (by rw [hF]; kernel_rfl) (by rw [hF]; kernel_rfl)
   · exact Reg.doesV_val (ev_ld rfl (by rw [hF]; kernel_rfl) byy.ldN) (by rw [hF]; kernel_rfl) (by rw [hF]; kernel_rfl)
   · exact Reg.doesV_val (by rw [ev_ltC (a := y.n) rfl (by rw [hF]; kernel_rfl), h17]) (by rw [hF]; kernel_rfl) (by rw [hF]; kernel_rfl)
   · exact Reg.doesV_val (ev_move rfl) (by rw [hF]; kernel_rfl) (by rw [hF]; kernel_rfl)
   · exact Reg.doesV_skip (by rw [hF]; kernel_rfl) (by rw [hF]; kernel_rfl)
   · exact Reg.doesV_skip (by rw [hF]; kernel_rfl) (by rw [hF]; kernel_rfl)
   · exact Reg.doesV_skip (by rw [hF]; kernel_rfl) (by rw [hF]; kernel_rfl)
   · exact Reg.doesV_skip (by rw [hF]; kernel_rfl) (by rw [hF]; kernel_rfl)
   · exact Reg.doesV_skip (by rw [hF]; kernel_rfl) (by rw [hF]; kernel_rfl)
   · exact Reg.doesV_skip (by rw [hF]; kernel_rfl) (by rw [hF]; kernel_rfl)
   · exact Reg.doesV_skip (by rw [hF]; kernel_rfl) (by rw [hF]; kernel_rfl)
   · exact Reg.doesV_val (ev_pick false rfl (by rw [hF]; kernel_rfl)) (by rw [hF]; kernel_rfl) (by rw [hF]; kernel_rfl)
   · exact Reg.doesV_val (ev_pick false rfl (by rw [hF]; kernel_rfl)) (by rw [hF]; kernel_rfl) (by rw [hF]; kernel_rfl)
   · exact Reg.doesV_val (ev_move rfl) (by rw [hF]; kernel_rfl) (by rw [hF]; kernel_rfl)
   · exact Reg.doesV_val (ev_fa rfl (by rw [hF]; kernel_rfl) (fa_val1 w' (w.heap.size + 1))) (by rw [hF]; kernel_rfl) (by rw [hF]; kernel_rfl)
   · exact Reg.doesV_val (ev_ld rfl (by rw [hF]; kernel_rfl) byy.ldN) (by rw [hF]; kernel_rfl) (by rw [hF]; kernel_rfl)
   · exact Reg.doesV_val (by rw [ev_gtC (a := y.n) rfl (by rw [hF]; kernel_rfl), h31]) (by rw [hF]; kernel_rfl) (by rw [hF]; kernel_rfl)
   · exact Reg.doesV_val (ev_move rfl) (by rw [hF]; kernel_rfl) (by rw [hF]; kernel_rfl)
   · exact Reg.doesV_skip (by rw [hF]; kernel_rfl) (by rw [hF]; kernel_rfl)
   · exact Reg.doesV_skip (by rw [hF]; kernel_rfl) (by rw [hF]; kernel_rfl)
   · exact Reg.doesV_skip (by rw [hF]; kernel_rfl) (by rw [hF]; kernel_rfl)
   · exact Reg.doesV_skip (by rw [hF]; kernel_rfl) (by rw [hF]; kernel_rfl)
   · exact Reg.doesV_skip (by rw [hF]; kernel_rfl) (by rw [hF]; kernel_rfl)
   · exact Reg.doesV_skip (by rw [hF]; kernel_rfl) (by rw [hF]; kernel_rfl)
   · exact Reg.doesV_skip (by rw [hF]; kernel_rfl) (by rw [hF]; kernel_rfl)
   · exact Reg.doesV_val (ev_pick false rfl (by rw [hF]; kernel_rfl)) (by rw [hF]; kernel_rfl) (by rw [hF]; kernel_rfl)
   · exact Reg.doesV_val (ev_pick false rfl (by rw [hF]; kernel_rfl)) (by rw [hF]; kernel_rfl) (by rw [hF]; kernel_rfl)
 · intro w2 hB'
   simp only [Reg.putAll, Act.put, List.setIfInBounds_toArray, List.set_cons_zero, List.set_cons_succ]
   clear h12 h17 h31
   have c1 := b1.after hB'
   have c2 := b2.after hB'
   have c3 := b3.after hB'
   have hb2 := hb.trans (hB'.mono hb.size)
   clear hB' b1 b2 b3 hb
   have x1 := c1.cell1
   have y1 := c2.cell1
   go_wp2_with fail
   refine (rint_c _ _).mono ?_
   rintro e w3 ⟨rfl, hb3⟩
   have d3 := c3.after hb3
   have hb4 := hb2.trans (hb3.mono hb2.size)
   obtain ⟨R, hR⟩ : ∃ R, iv (wrap64 (x.n - y.n)) = R := ⟨_, rfl⟩
   rw [hR]
   have HR := Lib.hid hR
   clear hb3 hR x1 y1 c1 c2 c3
   have g0 := d3.cell0
   have g1 := d3.cell1
   have g2 := d3.cell2
   have f0 := d3.frozen 0
   have f1 := d3.frozen 1
   have f2 := d3.frozen 2
   go_wp2
   exact ret_valX (a := R) (z := .bool true) Tryz.results136 rfl rfl (d3.put R) rfl ⟨by rw [← HR.out], put3_below hb4 (by omega) R⟩
set_option maxHeartbeats 1000000 in
theorem rsub_null (x y : Val) (w : World) (h0 : (x.k == 0 || y.k == 0) = true) : Calls Tryz.prog 136 #[x.v, y.v] w fun e w' => e = .returned (.tuple #[nl.v, .bool true]) ∧ Below w.heap.size w w' := by
 have H0 := Lib.hid h0
 clear h0
 go_enter Tryz.func136, Tryz.ntmps136
 go_wp2_with fail
 refine (rnulls_c x y _).mono ?_
 rintro e w1 ⟨rfl, hb1⟩
 rw [H0.out]
 have c3 : Bx w1 (w.heap.size + 2) nl := (Bx.new2 w nl _ _).after hb1
 have hb : Below w.heap.size w w1 := (below_three _ _ _ _).trans (hb1.mono (by simp; omega))
 clear hb1
 have g0 := c3.cell0
 have g1 := c3.cell1
 have g2 := c3.cell2
 have f0 := c3.frozen 0
 have f1 := c3.frozen 1
 have f2 := c3.frozen 2
 go_wp2
 exact ret_valX (a := nl) (z := .bool true) Tryz.results136 rfl rfl (c3.put nl) rfl ⟨rfl, put3_below hb (by omega) nl⟩
def in64 (n : Int) : Prop := -9223372036854775808 ≤ n ∧ n ≤ 9223372036854775807
theorem w64 (n : Int) : wrap64 n = (n + 9223372036854775808) % 18446744073709551616 - 9223372036854775808 := by unfold wrap64; rfl
theorem w64_in {n : Int} (h : in64 n) : wrap64 n = n := by unfold in64 at h; rw [w64]; omega
theorem comp_iv (a b r : Int) (f : Bool) : comp (iv a) (iv b) r f = if f then (iv r, true) else (nl, false) := by
 unfold comp iv; rfl
theorem add_in {a b : Int} (h : in64 (a + b)) : addR (iv a) (iv b) = (iv (a + b), true) := by
 unfold addR
 rw [comp_iv]
 show (if (decide (a < wrap64 (a + b)) == decide (0 < b)) = true then (iv (wrap64 (a + b)), true) else (nl, false)) = _
 rw [w64_in h]
 have : (decide (a < a + b) == decide (0 < b)) = true := by
  by_cases hb0 : 0 < b
  · rw [decide_eq_true hb0, decide_eq_true (by omega)]; rfl
  · rw [decide_eq_false hb0, decide_eq_false (by omega)]; rfl
 rw [this]; rfl
theorem add_out {a b : Int} (ha : in64 a) (hb : in64 b) (h : ¬ in64 (a + b)) : addR (iv a) (iv b) = (nl, false) := by
 unfold addR
 rw [comp_iv]
 show (if (decide (a < wrap64 (a + b)) == decide (0 < b)) = true then (iv (wrap64 (a + b)), true) else (nl, false)) = _
 have : (decide (a < wrap64 (a + b)) == decide (0 < b)) = false := by
  unfold in64 at *
  have hw := w64 (a + b)
  by_cases hb0 : 0 < b
  · rw [decide_eq_true hb0, decide_eq_false (by omega)]; rfl
  · rw [decide_eq_false hb0, decide_eq_true (by omega)]; rfl
 rw [this]; rfl
theorem sub_in {a b : Int} (h : in64 (a - b)) : subR (iv a) (iv b) = (iv (a - b), true) := by
 unfold subR
 rw [comp_iv]
 show (if (decide (wrap64 (a - b) < a) == decide (0 < b)) = true then (iv (wrap64 (a - b)), true) else (nl, false)) = _
 rw [w64_in h]
 have : (decide (a - b < a) == decide (0 < b)) = true := by
  by_cases hb0 : 0 < b
  · rw [decide_eq_true hb0, decide_eq_true (by omega)]; rfl
  · rw [decide_eq_false hb0, decide_eq_false (by omega)]; rfl
 rw [this]; rfl
theorem tdiv_mul (a b : Int) (h : a ≠ 0) : (a * b).tdiv a = b := by
 rw [Int.mul_comm]; exact Int.mul_tdiv_cancel b h
theorem mul_in {a b : Int} (hb : in64 b) (h : in64 (a * b)) : mulR (iv a) (iv b) = (iv (a * b), true) := by
 unfold mulR
 rw [comp_iv]
 show (if mulFits a b = true then (iv (mulIs a b), true) else (nl, false)) = _
 by_cases h0 : a = 0
 · subst h0
   have e1 : mulFits 0 b = true := by simp [mulFits]
   have e2 : mulIs 0 b = 0 * b := by simp [mulIs]
   rw [e1, e2]; rfl
 · have n0 : (a == 0) = false := by simpa using h0
   have n1 : (a == -1 && b == -9223372036854775808) = false := by
    cases hq : (a == -1 && b == -9223372036854775808) with
    | false => rfl
    | true =>
      simp only [Bool.and_eq_true, beq_iff_eq] at hq
      obtain ⟨rfl, rfl⟩ := hq
      unfold in64 at h; omega
   have e2 : mulIs a b = a * b := by unfold mulIs; rw [n0, n1]; exact w64_in h
   have e1 : mulFits a b = true := by
    unfold mulFits; rw [n0, n1]
    show (wrap64 ((wrap64 (a * b)).tdiv a) == b) = true
    rw [w64_in h, tdiv_mul a b h0, w64_in hb]; simp
   rw [e1, e2]; rfl
theorem mul_out {a b : Int} (ha : in64 a) (h : ¬ in64 (a * b)) : mulR (iv a) (iv b) = (nl, false) := by
 unfold mulR
 rw [comp_iv]
 show (if mulFits a b = true then (iv (mulIs a b), true) else (nl, false)) = _
 have h0 : a ≠ 0 := by rintro rfl; exact h (by unfold in64; omega)
 have n0 : (a == 0) = false := by simpa using h0
 have key : mulFits a b = false := by
  unfold mulFits; rw [n0]
  show (if (a == -1 && b == -9223372036854775808) = true then false else wrap64 ((wrap64 (a * b)).tdiv a) == b) = false
  cases hq : (a == -1 && b == -9223372036854775808) with
  | true => rfl
  | false =>
    show (wrap64 ((wrap64 (a * b)).tdiv a) == b) = false
    cases hc : (wrap64 ((wrap64 (a * b)).tdiv a) == b) with
    | false => rfl
    | true =>
      exfalso
      have hc' := beq_iff_eq.1 hc
      obtain ⟨P, hP⟩ : ∃ P, a * b = P := ⟨_, rfl⟩
      rw [hP] at hc' h
      have hw := w64 P
      obtain ⟨p, hp⟩ : ∃ p, wrap64 P = p := ⟨_, rfl⟩
      rw [hp] at hc' hw
      have hpr : in64 p := by unfold in64; omega
      have hdiv := Int.mul_tdiv_add_tmod p a
      have hmod : (p.tmod a).natAbs < a.natAbs := by rw [Int.natAbs_tmod]; exact Nat.mod_lt _ (by omega)
      -- the quotient fits, but for the one case that was left out
      have hq1 : in64 (p.tdiv a) := by
       have hle : (p.tdiv a).natAbs ≤ p.natAbs := by rw [Int.natAbs_tdiv]; exact Nat.div_le_self _ _
       unfold in64 at *
       by_cases hm : p.tdiv a = 9223372036854775808
       · exfalso
         -- then p is the least number and a is -1, so b is the least number, too
         have hb' : b = -9223372036854775808 := by rw [← hc', hm, w64]; omega
         have hpa : p = -9223372036854775808 := by omega
         have ha1 : a = -1 := by
          rw [hm, hpa] at hdiv
          have : (p.tmod a).natAbs < a.natAbs := hmod
          rw [hpa] at this
          omega
         rw [ha1, hb'] at hq
         exact Bool.noConfusion hq
       · omega
      rw [w64_in hq1] at hc'
      rw [hc', hP] at hdiv
      unfold in64 at *
      omega
 rw [key]; rfl
set_option maxRecDepth 100000
theorem ev_eqTI {P : Program} {F : Act} {w : World} {t u ty ty' : Nat} {a b : Int} {o : Oper} (ho : o.op = .binOp .eql ty (.tmp t) (.tmp u) ty') (ht : Reg.slot F t = .int .i64 a) (hu : Reg.slot F u = .int .i64 b) :
 (execOp F.eval o).run P w = .ok (.value (.bool (a == b))) w := by
 have e1 : F.eval (.tmp t) = .int .i64 a := ht
 have e2 : F.eval (.tmp u) = .int .i64 b := hu
 simp only [execOp, ho, e1, e2]
 simp [go_sem]
theorem mulR_ints (x y : Val) (h0 : (x.k == 0 || y.k == 0) = false) (h : (x.k == 2 && y.k == 2) = true) : mulR x y = mulR (iv x.n) (iv y.n) := by
 unfold mulR
 rw [comp_ints x y _ _ h0 h, comp_ints (iv x.n) (iv y.n) _ _ rfl rfl]
 rfl
theorem quo_out (a b : Int) (hb : I6n b) (h0 : (b == 0) = false) (hl : (b == -1 && a == -9223372036854775808) = false) (h : ¬ I6n (a * b)) : (wrap64 ((wrap64 (a * b)).tdiv b) == a) = false := by
 have h' : ¬ in64 (b * a) := by rw [Int.mul_comm]; exact h
 have h1 := mul_out (a := b) (b := a) hb h'
 unfold mulR at h1
 rw [comp_iv] at h1
 have h2 : mulFits b a = false := by
  cases hm : mulFits b a
  · rfl
  · exfalso
    have h3 : (if mulFits b a = true then (iv (mulIs b a), true) else (nl, false)) = (nl, false) := h1
    rw [hm, if_pos rfl] at h3
    have := congrArg Prod.snd h3
    cases this
 unfold mulFits at h2
 rw [h0, hl] at h2
 rw [Int.mul_comm]
 exact h2
theorem quo_in (a b : Int) (ha : I6n a) (h0 : (b == 0) = false) (h : I6n (a * b)) : wrap64 (a * b) = a * b ∧ wrap64 ((a * b).tdiv b) = a ∧ (a * b).tmod b = 0 := by
 have hb0 : b ≠ 0 := by simpa using h0
 refine ⟨w64_in h, ?_, ?_⟩
 · rw [Int.mul_comm, tdiv_mul b a hb0]
   exact w64_in ha
 · exact Int.mul_tmod_left a b
set_option maxHeartbeats 1000000 in
theorem rmul_null (x y : Val) (w : World) (h0 : (x.k == 0 || y.k == 0) = true) : Calls Tryz.prog 134 #[x.v, y.v] w fun e w' => e = .returned (.tuple #[nl.v, .bool true]) ∧ Below w.heap.size w w' := by
 have H0 := Lib.hid h0
 clear h0
 go_enter Tryz.func134, Tryz.ntmps134
 go_wp2_with fail
 refine (rnulls_c x y _).mono ?_
 rintro e w1 ⟨rfl, hb1⟩
 rw [H0.out]
 have b1 : Bx w1 w.heap.size x := (((Bx.new w x).alloc _).alloc _).after hb1
 have b2 : Bx w1 (w.heap.size + 1) y := ((Bx.new1 w y _).alloc _).after hb1
 have b3 : Bx w1 (w.heap.size + 2) nl := (Bx.new2 w nl _ _).after hb1
 have hb : Below w.heap.size w w1 := (below_three _ _ _ _).trans (hb1.mono (by simp; omega))
 clear hb1
 have g0 := b3.cell0
 have g1 := b3.cell1
 have g2 := b3.cell2
 have f0 := b3.frozen 0
 have f1 := b3.frozen 1
 have f2 := b3.frozen 2
 go_wp2
 exact ret_valX (a := nl) (z := .bool true) Tryz.results134 rfl rfl (b3.put nl) rfl ⟨rfl, put3_below hb (by omega) nl⟩
set_option maxHeartbeats 2000000 in
theorem rmul_Z1 (x y : Val) (w : World) (h0 : (x.k == 0 || y.k == 0) = false) (h12 : (x.k == 2 && y.k == 2) = true) (ha : (x.n == 0) = true) : Calls Tryz.prog 134 #[x.v, y.v] w fun e w' => e = .returned (.tuple #[(iv 0).v, .bool true]) ∧ Below w.heap.size w w' := by
 have H0 := Lib.hid h0
 have H12 := Lib.hid h12
 have Ha := Lib.hid ha
 clear h0 h12 ha
 go_enter Tryz.func134, Tryz.ntmps134
 go_wp2_with fail
 refine (rnulls_c x y _).mono ?_
 rintro e w1 ⟨rfl, hb1⟩
 rw [H0.out]
 have b1 : Bx w1 w.heap.size x := (((Bx.new w x).alloc _).alloc _).after hb1
 have b2 : Bx w1 (w.heap.size + 1) y := ((Bx.new1 w y _).alloc _).after hb1
 have b3 : Bx w1 (w.heap.size + 2) nl := (Bx.new2 w nl _ _).after hb1
 have hb : Below w.heap.size w w1 := (below_three _ _ _ _).trans (hb1.mono (by simp; omega))
 clear hb1
 have x0 := b1.cell0
 have x1 := b1.cell1
 have x2 := b1.cell2
 have y0 := b2.cell0
 have y1 := b2.cell1
 have y2 := b2.cell2
 go_wp2_with fail
 refine (rints_c x y _).mono ?_
 rintro e w2 ⟨rfl, hb2⟩
 rw [H12.out]
 have c1 := b1.after hb2
 have c2 := b2.after hb2
 have c3 := b3.after hb2
 have hbb := hb.trans (hb2.mono hb.size)
 clear hb2 hb x0 x1 x2 y0 y1 y2 b1 b2 b3
 have x1 := c1.cell1
 have y1 := c2.cell1
 have ha := Ha.out
 go_wp2_with fail
 refine (rint_c 0 _).mono ?_
 rintro e w3 ⟨rfl, hb3⟩
 have d3 := c3.after hb3
 have hb4 := hbb.trans (hb3.mono hbb.size)
 clear hb3 c1 c2 c3 x1 y1 ha
 have g0 := d3.cell0
 have g1 := d3.cell1
 have g2 := d3.cell2
 have f0 := d3.frozen 0
 have f1 := d3.frozen 1
 have f2 := d3.frozen 2
 go_wp2
 exact ret_valX (a := iv 0) (z := .bool true) Tryz.results134 rfl rfl (d3.put (iv 0)) rfl ⟨rfl, put3_below hb4 (by omega) (iv 0)⟩
set_option maxHeartbeats 2000000 in
theorem rmul_F1q (x y : Val) (w : World) (h0 : (x.k == 0 || y.k == 0) = false) (h12 : (x.k == 2 && y.k == 2) = true) (ha : (x.n == 0) = false) (hb : (y.n == 0) = false) (h27 : (x.n == -1) = true) (h32 : (y.n == -9223372036854775808) = false) (h37 : (y.n == -1) = true) (h42 : (x.n == -9223372036854775808) = false) (hq : (wrap64 ((wrap64 (x.n * y.n)).tdiv y.n) != x.n) = true) : Calls Tryz.prog 134 #[x.v, y.v] w fun e w' => e = .returned (.tuple #[nl.v, .bool false]) ∧ Below w.heap.size w w' := by
 have H0 := Lib.hid h0
 have H12 := Lib.hid h12
 have Ha := Lib.hid ha
 have Hb := Lib.hid hb
 have H27 := Lib.hid h27
 have H32 := Lib.hid h32
 have H37 := Lib.hid h37
 have H42 := Lib.hid h42
 have Hq := Lib.hid hq
 clear h0 h12 ha hb h27 h32 h37 h42 hq
 go_enter Tryz.func134, Tryz.ntmps134
 go_wp2_with fail
 refine (rnulls_c x y _).mono ?_
 rintro e w1 ⟨rfl, hb1⟩
 rw [H0.out]
 have b1 : Bx w1 w.heap.size x := (((Bx.new w x).alloc _).alloc _).after hb1
 have b2 : Bx w1 (w.heap.size + 1) y := ((Bx.new1 w y _).alloc _).after hb1
 have b3 : Bx w1 (w.heap.size + 2) nl := (Bx.new2 w nl _ _).after hb1
 have hb : Below w.heap.size w w1 := (below_three _ _ _ _).trans (hb1.mono (by simp; omega))
 clear hb1
 have x0 := b1.cell0
 have x1 := b1.cell1
 have x2 := b1.cell2
 have y0 := b2.cell0
 have y1 := b2.cell1
 have y2 := b2.cell2
 go_wp2_with fail
 refine (rints_c x y _).mono ?_
 rintro e w2 ⟨rfl, hb2⟩
 rw [H12.out]
 have c1 := b1.after hb2
 have c2 := b2.after hb2
 have c3 := b3.after hb2
 have hbb := hb.trans (hb2.mono hb.size)
 clear hb2 hb x0 x1 x2 y0 y1 y2 b1 b2 b3
 have x1 := c1.cell1
 have y1 := c2.cell1
 have ha := Ha.out
 have hbz := Hb.out
 go_wp2_with fail
 have h27 := H27.out
 have h32 := H32.out
 have h37 := H37.out
 have h42 := H42.out
 refine Reg.wp_region_vals mixed (by kernel_rfl) [(25, .pointer (some ⟨w.heap.size, 1, none⟩)), (26, .int .i64 x.n), (27, .bool true), (28, .bool true), (29, .pointer (some ⟨w.heap.size + 1, 1, none⟩)), (30, .int .i64 y.n), (31, .int .i64 (-9223372036854775808)), (32, .bool false), (33, .bool false), (34, .bool false), (35, .pointer (some ⟨w.heap.size + 1, 1, none⟩)), (36, .int .i64 y.n), (37, .bool true), (38, .bool true), (39, .pointer (some ⟨w.heap.size, 1, none⟩)), (40, .int .i64 x.n), (41, .int .i64 (-9223372036854775808)), (42, .bool false), (43, .bool false), (44, .bool false)] 68 rfl (by kernel_rfl) ?_ ?_
 · intro F hF w' hB'
   have bx := c1.after hB'
   have byy := c2.after hB'
   refine ⟨?_, ?_, ?_, ?_, ?_, ?_, ?_, ?_, ?_, ?_, ?_, ?_, ?_, ?_, ?_, ?_, ?_, ?_, ?_, ?_, trivial⟩
   · exact Reg.doesV_val (ev_fa rfl (by rw [hF]; kernel_rfl) (fa_val1 w' w.heap.size)) (by rw [hF]; kernel_rfl) (by rw [hF]; kernel_rfl)
   · exact Reg.doesV_val (ev_ld rfl (by rw [hF]; kernel_rfl) bx.ldN) (by rw [hF]; kernel_rfl) (by rw [hF]; kernel_rfl)
   · exact Reg.doesV_val (by rw [ev_eqI (a := x.n) (k := -1) rfl (by rw [hF]; kernel_rfl), h27]) (by rw [hF]; kernel_rfl) (by rw [hF]; kernel_rfl)
   · exact Reg.doesV_val (ev_move rfl) (by rw [hF]; kernel_rfl) (by rw [hF]; kernel_rfl)
   · exact Reg.doesV_val (ev_fa rfl (by rw [hF]; kernel_rfl) (fa_val1 w' (w.heap.size + 1))) (by rw [hF]; kernel_rfl) (by rw [hF]; kernel_rfl)
   · exact Reg.doesV_val (ev_ld rfl (by rw [hF]; kernel_rfl) byy.ldN) (by rw [hF]; kernel_rfl) (by rw [hF]; kernel_rfl)
   · exact Reg.doesV_call (least_c w') (ev_call enrLeast rfl (by simp)) (by rw [hF]; kernel_rfl) (by rw [hF]; kernel_rfl)
   · exact Reg.doesV_val (by rw [ev_eqTI (a := y.n) (b := (-9223372036854775808)) rfl (by rw [hF]; kernel_rfl) (by rw [hF]; kernel_rfl), h32]) (by rw [hF]; kernel_rfl) (by rw [hF]; kernel_rfl)
   · exact Reg.doesV_val (ev_pick true rfl (by rw [hF]; kernel_rfl)) (by rw [hF]; kernel_rfl) (by rw [hF]; kernel_rfl)
   · exact Reg.doesV_val (ev_move rfl) (by rw [hF]; kernel_rfl) (by rw [hF]; kernel_rfl)
   · exact Reg.doesV_val (ev_fa rfl (by rw [hF]; kernel_rfl) (fa_val1 w' (w.heap.size + 1))) (by rw [hF]; kernel_rfl) (by rw [hF]; kernel_rfl)
   · exact Reg.doesV_val (ev_ld rfl (by rw [hF]; kernel_rfl) byy.ldN) (by rw [hF]; kernel_rfl) (by rw [hF]; kernel_rfl)
   · exact Reg.doesV_val (by rw [ev_eqI (a := y.n) (k := -1) rfl (by rw [hF]; kernel_rfl), h37]) (by rw [hF]; kernel_rfl) (by rw [hF]; kernel_rfl)
   · exact Reg.doesV_val (ev_move rfl) (by rw [hF]; kernel_rfl) (by rw [hF]; kernel_rfl)
   · exact Reg.doesV_val (ev_fa rfl (by rw [hF]; kernel_rfl) (fa_val1 w' w.heap.size)) (by rw [hF]; kernel_rfl) (by rw [hF]; kernel_rfl)
   · exact Reg.doesV_val (ev_ld rfl (by rw [hF]; kernel_rfl) bx.ldN) (by rw [hF]; kernel_rfl) (by rw [hF]; kernel_rfl)
   · exact Reg.doesV_call (least_c w') (ev_call enrLeast rfl (by simp)) (by rw [hF]; kernel_rfl) (by rw [hF]; kernel_rfl)
   · exact Reg.doesV_val (by rw [ev_eqTI (a := x.n) (b := (-9223372036854775808)) rfl (by rw [hF]; kernel_rfl) (by rw [hF]; kernel_rfl), h42]) (by rw [hF]; kernel_rfl) (by rw [hF]; kernel_rfl)
   · exact Reg.doesV_val (ev_pick true rfl (by rw [hF]; kernel_rfl)) (by rw [hF]; kernel_rfl) (by rw [hF]; kernel_rfl)
   · exact Reg.doesV_val (ev_pick false rfl (by rw [hF]; kernel_rfl)) (by rw [hF]; kernel_rfl) (by rw [hF]; kernel_rfl)
 intro w3 hB'
 simp only [Reg.putAll, Act.put, List.setIfInBounds_toArray, List.set_cons_zero, List.set_cons_succ]
 clear x1 y1 h27 h32 h37 h42
 have d1 := c1.after hB'
 have d2 := c2.after hB'
 have d3 := c3.after hB'
 have hb4 := hbb.trans (hB'.mono hbb.size)
 clear hB' c1 c2 c3 hbb
 have x1 := d1.cell1
 have y1 := d2.cell1
 have hbn : y.n ≠ 0 := by simpa using hbz
 obtain ⟨p, hp⟩ : ∃ p, wrap64 (x.n * y.n) = p := ⟨_, rfl⟩
 have Hp := Lib.hid hp
 have hq := Hq.out
 rw [hp] at hq
 clear ha
 go_wp2_with fail
 try rw [hp]
 go_region
 all_goals
  have g0 := d3.cell0
  have g1 := d3.cell1
  have g2 := d3.cell2
  have f0 := d3.frozen 0
  have f1 := d3.frozen 1
  have f2 := d3.frozen 2
  go_wp2
  exact ret_valX (a := nl) (z := .bool false) Tryz.results134 rfl rfl (d3.put nl) rfl ⟨rfl, by have h := put3_below hb4 (show w.heap.size ≤ w.heap.size + 2 by omega) nl; exact ⟨h.os, h.tape, h.output, h.size, h.block⟩⟩
set_option maxHeartbeats 2000000 in
theorem rmul_F2ok (x y : Val) (w : World) (h0 : (x.k == 0 || y.k == 0) = false) (h12 : (x.k == 2 && y.k == 2) = true) (ha : (x.n == 0) = false) (hb : (y.n == 0) = false) (h27 : (x.n == -1) = true) (h32 : (y.n == -9223372036854775808) = false) (h37 : (y.n == -1) = false) (hq : (wrap64 ((wrap64 (x.n * y.n)).tdiv y.n) != x.n) = false) (hr : ((wrap64 (x.n * y.n)).tmod y.n != 0) = false) : Calls Tryz.prog 134 #[x.v, y.v] w fun e w' => e = .returned (.tuple #[(iv (wrap64 (x.n * y.n))).v, .bool true]) ∧ Below w.heap.size w w' := by
 have H0 := Lib.hid h0
 have H12 := Lib.hid h12
 have Ha := Lib.hid ha
 have Hb := Lib.hid hb
 have H27 := Lib.hid h27
 have H32 := Lib.hid h32
 have H37 := Lib.hid h37
 have Hq := Lib.hid hq
 have Hr := Lib.hid hr
 clear h0 h12 ha hb h27 h32 h37 hq hr
 go_enter Tryz.func134, Tryz.ntmps134
 go_wp2_with fail
 refine (rnulls_c x y _).mono ?_
 rintro e w1 ⟨rfl, hb1⟩
 rw [H0.out]
 have b1 : Bx w1 w.heap.size x := (((Bx.new w x).alloc _).alloc _).after hb1
 have b2 : Bx w1 (w.heap.size + 1) y := ((Bx.new1 w y _).alloc _).after hb1
 have b3 : Bx w1 (w.heap.size + 2) nl := (Bx.new2 w nl _ _).after hb1
 have hb : Below w.heap.size w w1 := (below_three _ _ _ _).trans (hb1.mono (by simp; omega))
 clear hb1
 have x0 := b1.cell0
 have x1 := b1.cell1
 have x2 := b1.cell2
 have y0 := b2.cell0
 have y1 := b2.cell1
 have y2 := b2.cell2
 go_wp2_with fail
 refine (rints_c x y _).mono ?_
 rintro e w2 ⟨rfl, hb2⟩
 rw [H12.out]
 have c1 := b1.after hb2
 have c2 := b2.after hb2
 have c3 := b3.after hb2
 have hbb := hb.trans (hb2.mono hb.size)
 clear hb2 hb x0 x1 x2 y0 y1 y2 b1 b2 b3
 have x1 := c1.cell1
 have y1 := c2.cell1
 have ha := Ha.out
 have hbz := Hb.out
 go_wp2_with fail
 have h27 := H27.out
 have h32 := H32.out
 have h37 := H37.out
 refine Reg.wp_region_vals mixed (by kernel_rfl) [(25, .pointer (some ⟨w.heap.size, 1, none⟩)), (26, .int .i64 x.n), (27, .bool true), (28, .bool true), (29, .pointer (some ⟨w.heap.size + 1, 1, none⟩)), (30, .int .i64 y.n), (31, .int .i64 (-9223372036854775808)), (32, .bool false), (33, .bool false), (34, .bool false), (35, .pointer (some ⟨w.heap.size + 1, 1, none⟩)), (36, .int .i64 y.n), (37, .bool false), (38, .bool false), (39, undef), (40, undef), (41, undef), (42, undef), (43, .bool false), (44, .bool false)] 68 rfl (by kernel_rfl) ?_ ?_
 · intro F hF w' hB'
   have bx := c1.after hB'
   have byy := c2.after hB'
   refine ⟨?_, ?_, ?_, ?_, ?_, ?_, ?_, ?_, ?_, ?_, ?_, ?_, ?_, ?_, ?_, ?_, ?_, ?_, ?_, ?_, trivial⟩
   · exact Reg.doesV_val (ev_fa rfl (by rw [hF]; kernel_rfl) (fa_val1 w' w.heap.size)) (by rw [hF]; kernel_rfl) (by rw [hF]; kernel_rfl)
   · exact Reg.doesV_val (ev_ld rfl (by rw [hF]; kernel_rfl) bx.ldN) (by rw [hF]; kernel_rfl) (by rw [hF]; kernel_rfl)
   · exact Reg.doesV_val (by rw [ev_eqI (a := x.n) (k := -1) rfl (by rw [hF]; kernel_rfl), h27]) (by rw [hF]; kernel_rfl) (by rw [hF]; kernel_rfl)
   · exact Reg.doesV_val (ev_move rfl) (by rw [hF]; kernel_rfl) (by rw [hF]; kernel_rfl)
   · exact Reg.doesV_val (ev_fa rfl (by rw [hF]; kernel_rfl) (fa_val1 w' (w.heap.size + 1))) (by rw [hF]; kernel_rfl) (by rw [hF]; kernel_rfl)
   · exact Reg.doesV_val (ev_ld rfl (by rw [hF]; kernel_rfl) byy.ldN) (by rw [hF]; kernel_rfl) (by rw [hF]; kernel_rfl)
   · exact Reg.doesV_call (least_c w') (ev_call enrLeast rfl (by simp)) (by rw [hF]; kernel_rfl) (by rw [hF]; kernel_rfl)
   · exact Reg.doesV_val (by rw [ev_eqTI (a := y.n) (b := (-9223372036854775808)) rfl (by rw [hF]; kernel_rfl) (by rw [hF]; kernel_rfl), h32]) (by rw [hF]; kernel_rfl) (by rw [hF]; kernel_rfl)
   · exact Reg.doesV_val (ev_pick true rfl (by rw [hF]; kernel_rfl)) (by rw [hF]; kernel_rfl) (by rw [hF]; kernel_rfl)
   · exact Reg.doesV_val (ev_move rfl) (by rw [hF]; kernel_rfl) (by rw [hF]; kernel_rfl)
   · exact Reg.doesV_val (ev_fa rfl (by rw [hF]; kernel_rfl) (fa_val1 w' (w.heap.size + 1))) (by rw [hF]; kernel_rfl) (by rw [hF]; kernel_rfl)
   · exact Reg.doesV_val (ev_ld rfl (by rw [hF]; kernel_rfl) byy.ldN) (by rw [hF]; kernel_rfl) (by rw [hF]; kernel_rfl)
   · exact Reg.doesV_val (by rw [ev_eqI (a := y.n) (k := -1) rfl (by rw [hF]; kernel_rfl), h37]) (by rw [hF]; kernel_rfl) (by rw [hF]; kernel_rfl)
   · exact Reg.doesV_val (ev_move rfl) (by rw [hF]; kernel_rfl) (by rw [hF]; kernel_rfl)
   · exact Reg.doesV_skip (by rw [hF]; kernel_rfl) (by rw [hF]; kernel_rfl)
   · exact Reg.doesV_skip (by rw [hF]; kernel_rfl) (by rw [hF]; kernel_rfl)
   · exact Reg.doesV_skip (by rw [hF]; kernel_rfl) (by rw [hF]; kernel_rfl)
   · exact Reg.doesV_skip (by rw [hF]; kernel_rfl) (by rw [hF]; kernel_rfl)
   · exact Reg.doesV_val (ev_pick false rfl (by rw [hF]; kernel_rfl)) (by rw [hF]; kernel_rfl) (by rw [hF]; kernel_rfl)
   · exact Reg.doesV_val (ev_pick false rfl (by rw [hF]; kernel_rfl)) (by rw [hF]; kernel_rfl) (by rw [hF]; kernel_rfl)
 intro w3 hB'
 simp only [Reg.putAll, Act.put, List.setIfInBounds_toArray, List.set_cons_zero, List.set_cons_succ]
 clear x1 y1 h27 h32 h37
 have d1 := c1.after hB'
 have d2 := c2.after hB'
 have d3 := c3.after hB'
 have hb4 := hbb.trans (hB'.mono hbb.size)
 clear hB' c1 c2 c3 hbb
 have x1 := d1.cell1
 have y1 := d2.cell1
 have hbn : y.n ≠ 0 := by simpa using hbz
 obtain ⟨p, hp⟩ : ∃ p, wrap64 (x.n * y.n) = p := ⟨_, rfl⟩
 have Hp := Lib.hid hp
 have hq := Hq.out
 have hr := Hr.out
 rw [hp] at hq
 rw [hp] at hr
 clear ha
 go_wp2_with fail
 try rw [hp]
 go_region
 all_goals
  go_wp2_with fail
  refine (rint_c _ _).mono ?_
  rintro e w5 ⟨rfl, hb5⟩
  have e3 : Bx w5 (w.heap.size + 2) nl := Bx.after (w := w3.drew) d3 hb5
  have hb4d : Below w.heap.size w w3.drew := ⟨hb4.os, hb4.tape, hb4.output, hb4.size, hb4.block⟩
  have hb6 : Below w.heap.size w w5 := hb4d.trans (hb5.mono hb4.size)
  obtain ⟨R, hR2⟩ : ∃ R, iv p = R := ⟨_, rfl⟩
  have HR := Lib.hid (show iv (wrap64 (x.n * y.n)) = R by rw [hp]; exact hR2)
  rw [hR2]
  clear hb5 x1 y1 d1 d2 d3 hq hr hp hR2 hb4d
  have g0 := e3.cell0
  have g1 := e3.cell1
  have g2 := e3.cell2
  have f0 := e3.frozen 0
  have f1 := e3.frozen 1
  have f2 := e3.frozen 2
  go_wp2
  exact ret_valX (a := R) (z := .bool true) Tryz.results134 rfl rfl (e3.put R) rfl ⟨by rw [HR.out], put3_below hb6 (by omega) R⟩
set_option maxHeartbeats 2000000 in
theorem rmul_F4q (x y : Val) (w : World) (h0 : (x.k == 0 || y.k == 0) = false) (h12 : (x.k == 2 && y.k == 2) = true) (ha : (x.n == 0) = false) (hb : (y.n == 0) = false) (h27 : (x.n == -1) = false) (h37 : (y.n == -1) = false) (hq : (wrap64 ((wrap64 (x.n * y.n)).tdiv y.n) != x.n) = true) : Calls Tryz.prog 134 #[x.v, y.v] w fun e w' => e = .returned (.tuple #[nl.v, .bool false]) ∧ Below w.heap.size w w' := by
 have H0 := Lib.hid h0
 have H12 := Lib.hid h12
 have Ha := Lib.hid ha
 have Hb := Lib.hid hb
 have H27 := Lib.hid h27
 have H37 := Lib.hid h37
 have Hq := Lib.hid hq
 clear h0 h12 ha hb h27 h37 hq
 go_enter Tryz.func134, Tryz.ntmps134
 go_wp2_with fail
 refine (rnulls_c x y _).mono ?_
 rintro e w1 ⟨rfl, hb1⟩
 rw [H0.out]
 have b1 : Bx w1 w.heap.size x := (((Bx.new w x).alloc _).alloc _).after hb1
 have b2 : Bx w1 (w.heap.size + 1) y := ((Bx.new1 w y _).alloc _).after hb1
 have b3 : Bx w1 (w.heap.size + 2) nl := (Bx.new2 w nl _ _).after hb1
 have hb : Below w.heap.size w w1 := (below_three _ _ _ _).trans (hb1.mono (by simp; omega))
 clear hb1
 have x0 := b1.cell0
 have x1 := b1.cell1
 have x2 := b1.cell2
 have y0 := b2.cell0
 have y1 := b2.cell1
 have y2 := b2.cell2
 go_wp2_with fail
 refine (rints_c x y _).mono ?_
 rintro e w2 ⟨rfl, hb2⟩
 rw [H12.out]
 have c1 := b1.after hb2
 have c2 := b2.after hb2
 have c3 := b3.after hb2
 have hbb := hb.trans (hb2.mono hb.size)
 clear hb2 hb x0 x1 x2 y0 y1 y2 b1 b2 b3
 have x1 := c1.cell1
 have y1 := c2.cell1
 have ha := Ha.out
 have hbz := Hb.out
 go_wp2_with fail
 have h27 := H27.out
 have h37 := H37.out
 refine Reg.wp_region_vals mixed (by kernel_rfl) [(25, .pointer (some ⟨w.heap.size, 1, none⟩)), (26, .int .i64 x.n), (27, .bool false), (28, .bool false), (29, undef), (30, undef), (31, undef), (32, undef), (33, .bool false), (34, .bool false), (35, .pointer (some ⟨w.heap.size + 1, 1, none⟩)), (36, .int .i64 y.n), (37, .bool false), (38, .bool false), (39, undef), (40, undef), (41, undef), (42, undef), (43, .bool false), (44, .bool false)] 68 rfl (by kernel_rfl) ?_ ?_
 · intro F hF w' hB'
   have bx := c1.after hB'
   have byy := c2.after hB'
   refine ⟨?_, ?_, ?_, ?_, ?_, ?_, ?_, ?_, ?_, ?_, ?_, ?_, ?_, ?_, ?_, ?_, ?_, ?_, ?_, ?_, trivial⟩
   · exact Reg.doesV_val (ev_fa rfl (by rw [hF]; kernel_rfl) (fa_val1 w' w.heap.size)) (by rw [hF]; kernel_rfl) (by rw [hF]; kernel_rfl)
   · exact Reg.doesV_val (ev_ld rfl (by rw [hF]; kernel_rfl) bx.ldN) (by rw [hF]; kernel_rfl) (by rw [hF]; kernel_rfl)
   · exact Reg.doesV_val (by rw [ev_eqI (a := x.n) (k := -1) rfl (by rw [hF]; kernel_rfl), h27]) (by rw [hF]; kernel_rfl) (by rw [hF]; kernel_rfl)
   · exact Reg.doesV_val (ev_move rfl) (by rw [hF]; kernel_rfl) (by rw [hF]; kernel_rfl)
   · exact Reg.doesV_skip (by rw [hF]; kernel_rfl) (by rw [hF]; kernel_rfl)
   · exact Reg.doesV_skip (by rw [hF]; kernel_rfl) (by rw [hF]; kernel_rfl)
   · exact Reg.doesV_skip (by rw [hF]; kernel_rfl) (by rw [hF]; kernel_rfl)
   · exact Reg.doesV_skip (by rw [hF]; kernel_rfl) (by rw [hF]; kernel_rfl)
   · exact Reg.doesV_val (ev_pick false rfl (by rw [hF]; kernel_rfl)) (by rw [hF]; kernel_rfl) (by rw [hF]; kernel_rfl)
   · exact Reg.doesV_val (ev_move rfl) (by rw [hF]; kernel_rfl) (by rw [hF]; kernel_rfl)
   · exact Reg.doesV_val (ev_fa rfl (by rw [hF]; kernel_rfl) (fa_val1 w' (w.heap.size + 1))) (by rw [hF]; kernel_rfl) (by rw [hF]; kernel_rfl)
   · exact Reg.doesV_val (ev_ld rfl (by rw [hF]; kernel_rfl) byy.ldN) (by rw [hF]; kernel_rfl) (by rw [hF]; kernel_rfl)
   · exact Reg.doesV_val (by rw [ev_eqI (a := y.n) (k := -1) rfl (by rw [hF]; kernel_rfl), h37]) (by rw [hF]; kernel_rfl) (by rw [hF]; kernel_rfl)
   · exact Reg.doesV_val (ev_move rfl) (by rw [hF]; kernel_rfl) (by rw [hF]; kernel_rfl)
   · exact Reg.doesV_skip (by rw [hF]; kernel_rfl) (by rw [hF]; kernel_rfl)
   · exact Reg.doesV_skip (by rw [hF]; kernel_rfl) (by rw [hF]; kernel_rfl)
   · exact Reg.doesV_skip (by rw [hF]; kernel_rfl) (by rw [hF]; kernel_rfl)
   · exact Reg.doesV_skip (by rw [hF]; kernel_rfl) (by rw [hF]; kernel_rfl)
   · exact Reg.doesV_val (ev_pick false rfl (by rw [hF]; kernel_rfl)) (by rw [hF]; kernel_rfl) (by rw [hF]; kernel_rfl)
   · exact Reg.doesV_val (ev_pick false rfl (by rw [hF]; kernel_rfl)) (by rw [hF]; kernel_rfl) (by rw [hF]; kernel_rfl)
 intro w3 hB'
 simp only [Reg.putAll, Act.put, List.setIfInBounds_toArray, List.set_cons_zero, List.set_cons_succ]
 clear x1 y1 h27 h37
 have d1 := c1.after hB'
 have d2 := c2.after hB'
 have d3 := c3.after hB'
 have hb4 := hbb.trans (hB'.mono hbb.size)
 clear hB' c1 c2 c3 hbb
 have x1 := d1.cell1
 have y1 := d2.cell1
 have hbn : y.n ≠ 0 := by simpa using hbz
 obtain ⟨p, hp⟩ : ∃ p, wrap64 (x.n * y.n) = p := ⟨_, rfl⟩
 have Hp := Lib.hid hp
 have hq := Hq.out
 rw [hp] at hq
 clear ha
 go_wp2_with fail
 try rw [hp]
 go_region
 all_goals
  have g0 := d3.cell0
  have g1 := d3.cell1
  have g2 := d3.cell2
  have f0 := d3.frozen 0
  have f1 := d3.frozen 1
  have f2 := d3.frozen 2
  go_wp2
  exact ret_valX (a := nl) (z := .bool false) Tryz.results134 rfl rfl (d3.put nl) rfl ⟨rfl, by have h := put3_below hb4 (show w.heap.size ≤ w.heap.size + 2 by omega) nl; exact ⟨h.os, h.tape, h.output, h.size, h.block⟩⟩
set_option maxHeartbeats 2000000 in
theorem rmul_F4ok (x y : Val) (w : World) (h0 : (x.k == 0 || y.k == 0) = false) (h12 : (x.k == 2 && y.k == 2) = true) (ha : (x.n == 0) = false) (hb : (y.n == 0) = false) (h27 : (x.n == -1) = false) (h37 : (y.n == -1) = false) (hq : (wrap64 ((wrap64 (x.n * y.n)).tdiv y.n) != x.n) = false) (hr : ((wrap64 (x.n * y.n)).tmod y.n != 0) = false) : Calls Tryz.prog 134 #[x.v, y.v] w fun e w' => e = .returned (.tuple #[(iv (wrap64 (x.n * y.n))).v, .bool true]) ∧ Below w.heap.size w w' := by
 have H0 := Lib.hid h0
 have H12 := Lib.hid h12
 have Ha := Lib.hid ha
 have Hb := Lib.hid hb
 have H27 := Lib.hid h27
 have H37 := Lib.hid h37
 have Hq := Lib.hid hq
 have Hr := Lib.hid hr
 clear h0 h12 ha hb h27 h37 hq hr
 go_enter Tryz.func134, Tryz.ntmps134
 go_wp2_with fail
 refine (rnulls_c x y _).mono ?_
 rintro e w1 ⟨rfl, hb1⟩
 rw [H0.out]
 have b1 : Bx w1 w.heap.size x := (((Bx.new w x).alloc _).alloc _).after hb1
 have b2 : Bx w1 (w.heap.size + 1) y := ((Bx.new1 w y _).alloc _).after hb1
 have b3 : Bx w1 (w.heap.size + 2) nl := (Bx.new2 w nl _ _).after hb1
 have hb : Below w.heap.size w w1 := (below_three _ _ _ _).trans (hb1.mono (by simp; omega))
 clear hb1
 have x0 := b1.cell0
 have x1 := b1.cell1
 have x2 := b1.cell2
 have y0 := b2.cell0
 have y1 := b2.cell1
 have y2 := b2.cell2
 go_wp2_with fail
 refine (rints_c x y _).mono ?_
 rintro e w2 ⟨rfl, hb2⟩
 rw [H12.out]
 have c1 := b1.after hb2
 have c2 := b2.after hb2
 have c3 := b3.after hb2
 have hbb := hb.trans (hb2.mono hb.size)
 clear hb2 hb x0 x1 x2 y0 y1 y2 b1 b2 b3
 have x1 := c1.cell1
 have y1 := c2.cell1
 have ha := Ha.out
 have hbz := Hb.out
 go_wp2_with fail
 have h27 := H27.out
 have h37 := H37.out
 refine Reg.wp_region_vals mixed (by kernel_rfl) [(25, .pointer (some ⟨w.heap.size, 1, none⟩)), (26, .int .i64 x.n), (27, .bool false), (28, .bool false), (29, undef), (30, undef), (31, undef), (32, undef), (33, .bool false), (34, .bool false), (35, .pointer (some ⟨w.heap.size + 1, 1, none⟩)), (36, .int .i64 y.n), (37, .bool false), (38, .bool false), (39, undef), (40, undef), (41, undef), (42, undef), (43, .bool false), (44, .bool false)] 68 rfl (by kernel_rfl) ?_ ?_
 · intro F hF w' hB'
   have bx := c1.after hB'
   have byy := c2.after hB'
   refine ⟨?_, ?_, ?_, ?_, ?_, ?_, ?_, ?_, ?_, ?_, ?_, ?_, ?_, ?_, ?_, ?_, ?_, ?_, ?_, ?_, trivial⟩
   · exact Reg.doesV_val (ev_fa rfl (by rw [hF]; kernel_rfl) (fa_val1 w' w.heap.size)) (by rw [hF]; kernel_rfl) (by rw [hF]; kernel_rfl)
   · exact Reg.doesV_val (ev_ld rfl (by rw [hF]; kernel_rfl) bx.ldN) (by rw [hF]; kernel_rfl) (by rw [hF]; kernel_rfl)
   · exact Reg.doesV_val (by rw [ev_eqI (a := x.n) (k := -1) rfl (by rw [hF]; kernel_rfl), h27]) (by rw [hF]; kernel_rfl) (by rw [hF]; kernel_rfl)
   · exact Reg.doesV_val (ev_move rfl) (by rw [hF]; kernel_rfl) (by rw [hF]; kernel_rfl)
   · exact Reg.doesV_skip (by rw [hF]; kernel_rfl) (by rw [hF]; kernel_rfl)
   · exact Reg.doesV_skip (by rw [hF]; kernel_rfl) (by rw [hF]; kernel_rfl)
   · exact Reg.doesV_skip (by rw [hF]; kernel_rfl) (by rw [hF]; kernel_rfl)
   · exact Reg.doesV_skip (by rw [hF]; kernel_rfl) (by rw [hF]; kernel_rfl)
   · exact Reg.doesV_val (ev_pick false rfl (by rw [hF]; kernel_rfl)) (by rw [hF]; kernel_rfl) (by rw [hF]; kernel_rfl)
   · exact Reg.doesV_val (ev_move rfl) (by rw [hF]; kernel_rfl) (by rw [hF]; kernel_rfl)
   · exact Reg.doesV_val (ev_fa rfl (by rw [hF]; kernel_rfl) (fa_val1 w' (w.heap.size + 1))) (by rw [hF]; kernel_rfl) (by rw [hF]; kernel_rfl)
   · exact Reg.doesV_val (ev_ld rfl (by rw [hF]; kernel_rfl) byy.ldN) (by rw [hF]; kernel_rfl) (by rw [hF]; kernel_rfl)
   · exact Reg.doesV_val (by rw [ev_eqI (a := y.n) (k := -1) rfl (by rw [hF]; kernel_rfl), h37]) (by rw [hF]; kernel_rfl) (by rw [hF]; kernel_rfl)
   · exact Reg.doesV_val (ev_move rfl) (by rw [hF]; kernel_rfl) (by rw [hF]; kernel_rfl)
   · exact Reg.doesV_skip (by rw [hF]; kernel_rfl) (by rw [hF]; kernel_rfl)
   · exact Reg.doesV_skip (by rw [hF]; kernel_rfl) (by rw [hF]; kernel_rfl)
   · exact Reg.doesV_skip (by rw [hF]; kernel_rfl) (by rw [hF]; kernel_rfl)
   · exact Reg.doesV_skip (by rw [hF]; kernel_rfl) (by rw [hF]; kernel_rfl)
   · exact Reg.doesV_val (ev_pick false rfl (by rw [hF]; kernel_rfl)) (by rw [hF]; kernel_rfl) (by rw [hF]; kernel_rfl)
   · exact Reg.doesV_val (ev_pick false rfl (by rw [hF]; kernel_rfl)) (by rw [hF]; kernel_rfl) (by rw [hF]; kernel_rfl)
 intro w3 hB'
 simp only [Reg.putAll, Act.put, List.setIfInBounds_toArray, List.set_cons_zero, List.set_cons_succ]
 clear x1 y1 h27 h37
 have d1 := c1.after hB'
 have d2 := c2.after hB'
 have d3 := c3.after hB'
 have hb4 := hbb.trans (hB'.mono hbb.size)
 clear hB' c1 c2 c3 hbb
 have x1 := d1.cell1
 have y1 := d2.cell1
 have hbn : y.n ≠ 0 := by simpa using hbz
 obtain ⟨p, hp⟩ : ∃ p, wrap64 (x.n * y.n) = p := ⟨_, rfl⟩
 have Hp := Lib.hid hp
 have hq := Hq.out
 have hr := Hr.out
 rw [hp] at hq
 rw [hp] at hr
 clear ha
 go_wp2_with fail
 try rw [hp]
 go_region
 all_goals
  go_wp2_with fail
  refine (rint_c _ _).mono ?_
  rintro e w5 ⟨rfl, hb5⟩
  have e3 : Bx w5 (w.heap.size + 2) nl := Bx.after (w := w3.drew) d3 hb5
  have hb4d : Below w.heap.size w w3.drew := ⟨hb4.os, hb4.tape, hb4.output, hb4.size, hb4.block⟩
  have hb6 : Below w.heap.size w w5 := hb4d.trans (hb5.mono hb4.size)
  obtain ⟨R, hR2⟩ : ∃ R, iv p = R := ⟨_, rfl⟩
  have HR := Lib.hid (show iv (wrap64 (x.n * y.n)) = R by rw [hp]; exact hR2)
  rw [hR2]
  clear hb5 x1 y1 d1 d2 d3 hq hr hp hR2 hb4d
  have g0 := e3.cell0
  have g1 := e3.cell1
  have g2 := e3.cell2
  have f0 := e3.frozen 0
  have f1 := e3.frozen 1
  have f2 := e3.frozen 2
  go_wp2
  exact ret_valX (a := R) (z := .bool true) Tryz.results134 rfl rfl (e3.put R) rfl ⟨by rw [HR.out], put3_below hb6 (by omega) R⟩
attribute [local go_sem ↓] Go.wp_at_zero Go.wp_at_succ
theorem isW_take {s : List UInt8} {t : Tk} {r : List Tk} (h : (takeP s (t :: r)).1 = false) : isW s t = false := by
 rw [take_isW] at h
 cases e : isW s t
 · rfl
 · rw [e] at h; cases h
theorem isW_taken {s : List UInt8} {l : List Tk} (h : (takeP s l).1 = true) : ∃ t r, l = t :: r ∧ isW s t = true ∧ (takeP s l).2 = r := by
 cases l with
 | nil => cases h
 | cons t r =>
   rw [take_isW] at h ⊢
   cases e : isW s t
   · rw [e] at h; cases h
   · exact ⟨t, r, rfl, e, rfl⟩
theorem oneF_at (t : Tk) (s : List UInt8) (hw : isW s t = true) : ∀ (ws : List (List UInt8)) (i : Int) (k : Nat), (∀ (j : Nat) (s : List UInt8), j < k → ws[j]? = some s → isW s t = false) → ws[k]? = some s → oneF ws i t = some (i + k)
 | [], _, k, _, h => by simp at h
 | u :: ws, i, 0, _, h2 => by
   simp at h2
   subst h2
   rw [oneF, hw]; simp
 | u :: ws, i, k + 1, h1, h2 => by
   rw [oneF, h1 0 u (by omega) rfl]
   simp only [Bool.false_eq_true, if_false]
   rw [oneF_at t s hw ws (i + 1) k (fun j s' hj h3 => h1 (j + 1) s' (by omega) (by simpa using h3)) (by simpa using h2)]
   congr 1
   push_cast
   omega
theorem oneF_no (t : Tk) : ∀ (ws : List (List UInt8)) (i : Int), (∀ s ∈ ws, isW s t = false) → oneF ws i t = none
 | [], _, _ => rfl
 | u :: ws, i, h => by
   rw [oneF, h u (by simp)]
   simp only [Bool.false_eq_true, if_false]
   exact oneF_no t ws _ fun s hs => h s (List.mem_cons_of_mem _ hs)
theorem st_null {l : List Tk} (h : (takeP w_null l).1 = true) : stepP l = if (takeP s_qm (takeP w_null l).2).1 then some (⟨10, 0, nl⟩, (takeP s_qm (takeP w_null l).2).2) else some (⟨1, 0, nl⟩, (takeP w_null l).2) := by
 obtain ⟨t, r, rfl, h1, h2⟩ := isW_taken h
 rw [stepP, h1, h2, if_pos rfl]
theorem st_true {l : List Tk} (h0 : (takeP w_null l).1 = false) (h : (takeP w_true l).1 = true) : stepP l = some (⟨1, 0, tt⟩, (takeP w_true l).2) := by
 obtain ⟨t, r, rfl, h1, h2⟩ := isW_taken h
 rw [stepP, isW_take h0, h1, h2]; rfl
theorem st_false {l : List Tk} (h0 : (takeP w_null l).1 = false) (h1 : (takeP w_true l).1 = false) (h : (takeP w_false l).1 = true) : stepP l = some (⟨1, 0, ff⟩, (takeP w_false l).2) := by
 obtain ⟨t, r, rfl, h2, h3⟩ := isW_taken h
 rw [stepP, isW_take h0, isW_take h1, h2, h3]; rfl
theorem st_op {l : List Tk} (h0 : (takeP w_null l).1 = false) (h1 : (takeP w_true l).1 = false) (h2 : (takeP w_false l).1 = false) {k : Nat} {s : List UInt8} (hb : ∀ (j : Nat) (s : List UInt8), j < k → opWs[j]? = some s → (takeP s l).1 = false) (hk : opWs[k]? = some s) (h : (takeP s l).1 = true) : stepP l = some (⟨2 + (k : Int), 0, nl⟩, (takeP s l).2) := by
 obtain ⟨t, r, rfl, h3, h4⟩ := isW_taken h
 rw [stepP, isW_take h0, isW_take h1, isW_take h2, oneF_at t s h3 opWs 2 k (fun j s' hj h5 => isW_take (hb j s' hj h5)) hk, h4]
 rfl
theorem st_tok {t : Tk} {r : List Tk} (h0 : (takeP w_null (t :: r)).1 = false) (h1 : (takeP w_true (t :: r)).1 = false) (h2 : (takeP w_false (t :: r)).1 = false) (hb : ∀ (j : Nat) (s : List UInt8), j < 8 → opWs[j]? = some s → (takeP s (t :: r)).1 = false) :
 stepP (t :: r) = if t.k == 1 then some (⟨1, 0, t.v⟩, r) else if t.k == 0 then (cnum t.t.data.toList).map fun (n : Nat) => ((⟨0, (n : Int), nl⟩ : Nd), r) else none := by
 rw [stepP, isW_take h0, isW_take h1, isW_take h2, oneF_no t opWs 2 fun s hs => by
  obtain ⟨j, hj⟩ := List.getElem?_of_mem hs
  have hj8 := (List.getElem?_eq_some_iff.1 hj).1
  exact isW_take (hb j s (by simpa [opWs] using hj8) hj)]
 rfl
def StepQ (b : Nat) (w : World) (ok : Bool) (o : Option (Nd × List Tk)) (e : Ending) (w' : World) : Prop := ∃ (x : Nd) (l' : List Tk) (ok' : Bool), e = .returned x.w ∧ Pq w' b l' ok' ∧ PO ok ok' o x l' ∧ Apq b w w'
structure StI (w : World) (b : Nat) (u : World) (l : List Tk) (ok : Bool) : Prop where
 p : Pq u b l ok
 z : Bk u w.heap.size (rdN nd0).toArray 66
 a : Apq b w u
theorem StI.all {w u : World} {b : Nat} {l : List Tk} {ok : Bool} (h : StI w b u l ok) : u.cell? ⟨w.heap.size, 0, none⟩ = some (.int .i64 0) ∧ u.cell? ⟨w.heap.size, 1, none⟩ = some (.int .i64 0) ∧ u.cell? ⟨w.heap.size, 2, none⟩ = some (.int .i64 0) ∧ u.cell? ⟨w.heap.size, 3, none⟩ = some (.int .i64 0) ∧ u.cell? ⟨w.heap.size, 4, none⟩ = some (.string emp) ∧
 u.frozen? ⟨w.heap.size, 0, none⟩ = false ∧ u.frozen? ⟨w.heap.size, 1, none⟩ = false ∧ u.frozen? ⟨w.heap.size, 2, none⟩ = false ∧ u.frozen? ⟨w.heap.size, 3, none⟩ = false ∧ u.frozen? ⟨w.heap.size, 4, none⟩ = false ∧ w.heap.size < u.heap.size :=
 ⟨h.z.cell 0, h.z.cell 1, h.z.cell 2, h.z.cell 3, h.z.cell 4, h.z.thaw 0, h.z.thaw 1, h.z.thaw 2, h.z.thaw 3, h.z.thaw 4, h.z.lt⟩
theorem StI.step {w u v : World} {b : Nat} {l q : List Tk} {ok k : Bool} (h : StI w b u l ok) (hb : b < w.heap.size) (hp : Pq v b q k) (ha : Apq b u v) : StI w b v q k := ⟨hp, h.z.keptq ha (by omega), h.a.trans ha⟩
theorem StI.then {w u v : World} {b B : Nat} {l : List Tk} {ok : Bool} (h : StI w b u l ok) (hb : Below B u v) (hB : u.heap.size ≤ B) : StI w b v l ok := ⟨h.p.after hb (Nat.lt_of_lt_of_le h.p.lt hB), h.z.after hb (Nat.lt_of_lt_of_le h.z.lt hB), h.a.then hb (Nat.le_trans h.a.size hB)⟩
theorem StI.alloc {w u : World} {b : Nat} {l : List Tk} {ok : Bool} (h : StI w b u l ok) (o : Obj) : StI w b (u.alloc o) l ok := h.then (below_one u o) (Nat.le_refl _)
theorem StI.drew {w u : World} {b : Nat} {l : List Tk} {ok : Bool} (h : StI w b u l ok) : StI w b u.drew l ok := ⟨h.p, h.z, h.a.drew⟩
theorem StI.not {w u : World} {b : Nat} {l : List Tk} {ok : Bool} (h : StI w b u l ok) (hb : b < w.heap.size) : StI w b (u.setCell ⟨b, 2, none⟩ (.bool false)) l false := ⟨h.p.not false, h.z.keptq ((Apq.refl b u).set 2 _) (by omega), h.a.set 2 _⟩
theorem StI.fin {w u : World} {b : Nat} {l' : List Tk} {ok ok0 : Bool} {o : Option (Nd × List Tk)} (h : StI w b u l' ok) (hb : b < w.heap.size) (x : Nd) (ho : PO ok0 ok o x l') : StepQ b w ok0 o (.returned x.w) (putL u w.heap.size 0 (rdN x)) :=
 ⟨x, l', ok, rfl, h.p.put hb 0 _, ho, h.a.put (Nat.le_refl _) 0 _⟩
theorem StepQ.alloc {b : Nat} {w u : World} {ok : Bool} {o : Option (Nd × List Tk)} {e : Ending} (h : StepQ b w ok o e u) (x : Obj) : StepQ b w ok o e (u.alloc x) := by
 obtain ⟨v, l', ok', h1, h2, h3, h4⟩ := h
 exact ⟨v, l', ok', h1, h2.alloc _, h3, h4.alloc _⟩
theorem Bk.alloc7 {w : World} {b : Nat} {cs : Array Value} {T : TypeId} (h : Bk w b cs T) (o : Obj) : Bk (w.alloc o) b cs T := h.after (below_one w o) h.lt
theorem po_some {α : Type} (ok : Bool) {o : Option (α × List Tk)} {v : α} {l' : List Tk} (h : o = some (v, l')) : PO ok ok o v l' := ⟨by rw [h]; simp, fun _ => h⟩
theorem po_none {α : Type} (ok : Bool) {o : Option (α × List Tk)} {v : α} {l' : List Tk} (h : o = none) : PO ok false o v l' := ⟨by rw [h]; simp, fun h => by cases h⟩
set_option maxHeartbeats 8000000 in
theorem qstep_c (b : Nat) (l : List Tk) (ok : Bool) (w : World) (hP : Pq w b l ok) :
 Calls Tryz.prog 138 #[.pointer (some ⟨b, 0, none⟩)] w fun e w' => StepQ b w ok (stepP l) e w' := by
 obtain ⟨S, hS⟩ : ∃ S, StepQ b w ok (stepP l) = S := ⟨_, rfl⟩
 rw [hS]
 have hb := hP.lt
 have Hb := Lib.hid hb
 have HS := Lib.hid hS
 have Hmay := Lib.hid hP.may
 obtain ⟨W, hW⟩ : ∃ W, w.alloc (.cells (rdN nd0).toArray 66) = W := ⟨_, rfl⟩
 have HI : Hid (StI w b W l ok) := Lib.hid (by rw [← hW]; exact ⟨hP.alloc _, Bk.new w _ _, (Apq.refl b w).alloc _⟩)
 have HW : Hid (w.alloc (.cells #[.int .i64 0, .int .i64 0, .int .i64 0, .int .i64 0, .string ⟨#[]⟩] 66) = W) := hW
 clear hW hP hS
 go_enter Tryz.func138, Tryz.ntmps138
 go_wp2_with fail
 rw [HW.out]
 refine (qtake_c b l ok w_null W HI.out.p).mono ?_
 rintro e w1 ⟨rfl, hp, ha⟩
 have HI1 := Lib.hid (HI.out.step Hb.out hp ha)
 clear hp ha HI HW
 cases hR0 : (takeP w_null l).1
 case true =>
  have hst := st_null hR0
  obtain ⟨l1, hl1⟩ : ∃ l1, (takeP w_null l).2 = l1 := ⟨_, rfl⟩
  rw [hl1] at hst HI1
  have Hst := Lib.hid hst
  clear hR0 hl1 hst
  go_wp2_with fail
  refine (qtake_c b l1 ok s_qm w1 HI1.out.p).mono ?_
  rintro e w2 ⟨rfl, hp, ha⟩
  have HI2 := Lib.hid (HI1.out.step Hb.out hp ha)
  clear hp ha HI1
  cases hR : (takeP s_qm l1).1
  · rw [hR] at Hst
    rw [take_no hR] at HI2
    obtain ⟨n0, n1, n2, n3, n4, z0, z1, z2, z3, z4, hlt⟩ := HI2.out.all
    clear hR
    go_wp2
    refine ret_nd (b := w.heap.size) (a := ⟨1, 0, nl⟩) Tryz.results138 rfl (HI2.out.z.put (rdN ⟨1, 0, nl⟩) rfl) rfl ?_
    rw [← HS.out]
    exact HI2.out.fin Hb.out ⟨1, 0, nl⟩ (po_some ok (by rw [Hst.out]; rfl))
  · rw [hR] at Hst
    obtain ⟨n0, n1, n2, n3, n4, z0, z1, z2, z3, z4, hlt⟩ := HI2.out.all
    clear hR
    go_wp2
    refine ret_nd (b := w.heap.size) (a := ⟨10, 0, nl⟩) Tryz.results138 rfl (HI2.out.z.put (rdN ⟨10, 0, nl⟩) rfl) rfl ?_
    rw [← HS.out]
    exact HI2.out.fin Hb.out ⟨10, 0, nl⟩ (po_some ok (by rw [Hst.out]; rfl))
 case false =>
  rw [take_no hR0] at HI1
  have H0 := Lib.hid hR0
  clear hR0
  go_wp2_with fail
  refine (qtake_c b l ok w_true w1 HI1.out.p).mono ?_
  rintro e w2 ⟨rfl, hp, ha⟩
  have HI2 := Lib.hid (HI1.out.step Hb.out hp ha)
  clear hp ha HI1
  cases hR1 : (takeP w_true l).1
  case true =>
   have Hst := Lib.hid (st_true H0.out hR1)
   clear hR1
   go_wp2_with fail
   refine (rtruth_c true w2).mono ?_
   rintro e w3 ⟨rfl, hb3⟩
   have HI3 := Lib.hid (HI2.out.then hb3 (Nat.le_refl _))
   obtain ⟨n0, n1, n2, n3, n4, z0, z1, z2, z3, z4, hlt⟩ := HI3.out.all
   clear hb3 HI2
   go_wp2
   refine ret_nd (b := w.heap.size) (a := ⟨1, 0, tt⟩) Tryz.results138 rfl (HI3.out.z.put (rdN ⟨1, 0, tt⟩) rfl) rfl ?_
   rw [← HS.out]
   exact HI3.out.fin Hb.out ⟨1, 0, tt⟩ (po_some ok Hst.out)
  case false =>
   rw [take_no hR1] at HI2
   have H1 := Lib.hid hR1
   clear hR1
   go_wp2_with fail
   refine (qtake_c b l ok w_false w2 HI2.out.p).mono ?_
   rintro e w3 ⟨rfl, hp, ha⟩
   have HI3 := Lib.hid (HI2.out.step Hb.out hp ha)
   clear hp ha HI2
   cases hR2 : (takeP w_false l).1
   case true =>
    have Hst := Lib.hid (st_false H0.out H1.out hR2)
    clear hR2
    go_wp2_with fail
    refine (rtruth_c false w3).mono ?_
    rintro e w4 ⟨rfl, hb3⟩
    have HI4 := Lib.hid (HI3.out.then hb3 (Nat.le_refl _))
    obtain ⟨n0, n1, n2, n3, n4, z0, z1, z2, z3, z4, hlt⟩ := HI4.out.all
    clear hb3 HI3
    go_wp2
    refine ret_nd (b := w.heap.size) (a := ⟨1, 0, ff⟩) Tryz.results138 rfl (HI4.out.z.put (rdN ⟨1, 0, ff⟩) rfl) rfl ?_
    rw [← HS.out]
    exact HI4.out.fin Hb.out ⟨1, 0, ff⟩ (po_some ok Hst.out)
   case false =>
    rw [take_no hR2] at HI3
    have H2 := Lib.hid hR2
    clear hR2
    have HI4 := Lib.hid (HI3.out.alloc (.cells (opWs.map fun s => Value.string (ba s)).toArray 9))
    have hW4 := slWN w3 opWs
    have HSl := Lib.hid hW4
    have hg4 : w3.heap.size < (wdN w3 opWs).heap.size := by simp
    have hbg : b < w3.heap.size := HI3.out.p.lt
    obtain ⟨g, hg⟩ : ∃ g, w3.heap.size = g := ⟨_, rfl⟩
    obtain ⟨W4, hW⟩ : ∃ W4, wdN w3 opWs = W4 := ⟨_, rfl⟩
    rw [show (w3.alloc (.cells (opWs.map fun s => Value.string (ba s)).toArray 9)) = W4 from hW] at HI4
    rw [hW, hg] at HSl
    rw [hg] at hbg
    have HW4 : Hid (w3.alloc (.cells #[.string ⟨#[43]⟩, .string ⟨#[45]⟩, .string ⟨#[42]⟩, .string ⟨#[61]⟩, .string ⟨#[60]⟩, .string ⟨#[97, 110, 100]⟩, .string ⟨#[111, 114]⟩, .string ⟨#[110, 111, 116]⟩] 9) = W4) := hW
    have Hg := Lib.hid hg
    clear hW hg hg4 HI3 hW4
    go_wp2_with fail
    rw [HW4.out, Hg.out]
    clear HW4 Hg
    go_loopw [4] (fun i wr => ∃ k : Nat, k ≤ 8 ∧ i = .int .i64 k ∧ Hid (StI w b wr l ok) ∧ Hid (Apq b W4 wr) ∧ Hid (∀ (j : Nat) (s : List UInt8), j < k → opWs[j]? = some s → (takeP s l).1 = false)) (fun i _ => 8 - (intOf i).toNat)
    case atStart => exact ⟨0, Nat.zero_le _, rfl, HI4, Lib.hid (Apq.refl b W4), Lib.hid (fun j s h => absurd h (Nat.not_lt_zero _))⟩
    case round =>
     obtain ⟨k, hk, rfl, hi, ha, hall⟩ := hrel
     by_cases hlt : k < 8
     · have hsl := SlG.keptq (B := 0) HSl.out ha.out (fun j hj => by simp at hj; omega)
       obtain ⟨b1, o1, s, hA1, hb1, hs, d1⟩ := hsl.at1 (show k < opWs.length from hlt)
       obtain ⟨rfl, rfl⟩ : g = b1 ∧ 0 = o1 := by simpa using hA1
       have d1 : wr.cell? ⟨g, k, none⟩ = some (.string (ba s)) := by simpa using d1 _ rfl
       have Hs := Lib.hid hs
       have HT := Lib.hid (qtake_c b l ok s wr hi.out.p)
       clear hs hsl hA1
       go_wp2_with fail
       refine HT.out.mono ?_
       rintro e w5 ⟨rfl, hp1, ha1⟩
       have HI5 := Lib.hid (hi.out.step Hb.out hp1 ha1)
       have HA5 := Lib.hid (ha.out.trans ha1)
       clear hp1 ha1 HT hi ha d1
       cases hR : (takeP s l).1
       · rw [take_no hR] at HI5
         have hall2 : ∀ (j : Nat) (s : List UInt8), j < k + 1 → opWs[j]? = some s → (takeP s l).1 = false := by
          intro j s' hj h1
          by_cases hjk : j = k
          · subst hjk
            rw [Hs.out] at h1
            obtain rfl := Option.some.inj h1
            exact hR
          · exact hall.out j s' (by omega) h1
         have Hall := Lib.hid hall2
         clear hR hall hall2 Hs
         go_wp2
         go_roundw
         case rel => exact ⟨k + 1, by omega, by go_num, HI5, HA5, Hall⟩
         case measure => simp [intOf]; omega
       · have Hst := Lib.hid (st_op H0.out H1.out H2.out hall.out Hs.out hR)
         obtain ⟨n0, n1, n2, n3, n4, z0, z1, z2, z3, z4, hlt5⟩ := HI5.out.all
         clear hR hall Hs
         go_wp2
         refine ret_nd (b := w.heap.size) (a := ⟨2 + (k : Int), 0, nl⟩) Tryz.results138 rfl (HI5.out.z.put (rdN ⟨2 + (k : Int), 0, nl⟩) rfl) rfl ?_
         rw [← HS.out]
         exact HI5.out.fin Hb.out ⟨2 + (k : Int), 0, nl⟩ (po_some ok Hst.out)
     · obtain rfl : k = 8 := by omega
       have Hall := hall
       clear hall ha
       go_wp2_with fail
       refine (qnext_c b l ok wr hi.out.p).mono ?_
       rintro e w5 ⟨rfl, hp1, ha1⟩
       have HI5 := Lib.hid (hi.out.step Hb.out hp1 ha1)
       clear hp1 ha1 hi
       obtain ⟨t, ht⟩ : ∃ t, nextT l = t := ⟨_, rfl⟩
       obtain ⟨q, hq⟩ : ∃ q, l.tail = q := ⟨_, rfl⟩
       obtain ⟨K, hK⟩ : ∃ K, (ok && !l.isEmpty) = K := ⟨_, rfl⟩
       rw [hq, hK] at HI5
       rw [ht]
       have hnil : l = [] → t.k = -1 := by rintro rfl; rw [← ht]; rfl
       have hcons : (l ≠ [] → K = ok ∧ stepP l = if t.k == 1 then some (⟨1, 0, t.v⟩, q) else if t.k == 0 then (cnum t.t.data.toList).map fun (n : Nat) => ((⟨0, (n : Int), nl⟩ : Nd), q) else none) := by
        intro hne
        cases l with
        | nil => exact absurd rfl hne
        | cons t' r' =>
          have e1 : t' = t := ht
          have e2 : r' = q := hq
          subst e1 e2
          refine ⟨by rw [← hK]; simp, ?_⟩
          exact st_tok H0.out H1.out H2.out Hall.out
       have hnone : l = [] → K = false ∧ stepP l = none := by rintro rfl; exact ⟨by rw [← hK]; simp, rfl⟩
       have Hnil := Lib.hid hnil
       have Hcons := Lib.hid hcons
       have Hnone := Lib.hid hnone
       have HT5 : Hid (Bk (w5.alloc (.cells #[.int .i64 t.k, .string t.t, .int .i64 t.v.k, .int .i64 t.v.n, .string t.v.s] 129)) w5.heap.size #[.int .i64 t.k, .string t.t, .int .i64 t.v.k, .int .i64 t.v.n, .string t.v.s] 129) := Lib.hid (Bk.new w5 _ _)
       have HI6 := Lib.hid (HI5.out.alloc (.cells #[.int .i64 t.k, .string t.t, .int .i64 t.v.k, .int .i64 t.v.n, .string t.v.s] 129))
       have hsz6 : (w5.alloc (.cells #[.int .i64 t.k, .string t.t, .int .i64 t.v.k, .int .i64 t.v.n, .string t.v.s] 129)).heap.size = w5.heap.size + 1 := by simp
       obtain ⟨g5, hg5⟩ : ∃ g, w5.heap.size = g := ⟨_, rfl⟩
       obtain ⟨W5, hW5⟩ : ∃ W, w5.alloc (.cells #[.int .i64 t.k, .string t.t, .int .i64 t.v.k, .int .i64 t.v.n, .string t.v.s] 129) = W := ⟨_, rfl⟩
       rw [hW5] at HT5 HI6 hsz6
       rw [hg5] at HT5 hsz6
       have HW5 := Lib.hid hW5
       have Hg5 := Lib.hid hg5
       have hgw : w.heap.size < g5 := by rw [← hg5]; exact HI5.out.z.lt
       have m0 : W5.cell? ⟨g5, 0, none⟩ = some (.int .i64 t.k) := HT5.out.cell 0
       have m1 : W5.cell? ⟨g5, 1, none⟩ = some (.string t.t) := HT5.out.cell 1
       have m2 : W5.cell? ⟨g5, 2, none⟩ = some (.int .i64 t.v.k) := HT5.out.cell 2
       have m3 : W5.cell? ⟨g5, 3, none⟩ = some (.int .i64 t.v.n) := HT5.out.cell 3
       have m4 : W5.cell? ⟨g5, 4, none⟩ = some (.string t.v.s) := HT5.out.cell 4
       have hlt5 := HT5.out.lt
       clear hnil hcons hnone ht hq hK H0 H1 H2 Hall hW5 hg5
       cases h1 : (t.k == 1)
       case true =>
        have hne : l ≠ [] := by
         intro e
         have := Hnil.out e
         rw [this] at h1; cases h1
        obtain ⟨hK, hst⟩ := Hcons.out hne
        rw [h1] at hst
        have Hst := Lib.hid hst
        have HK := Lib.hid hK
        obtain ⟨n0, n1, n2, n3, n4, z0, z1, z2, z3, z4, hlt6⟩ := HI5.out.all
        clear hst hne hK m0 m1 m2 m3 m4 HW5 Hg5
        go_wp2
        refine ret_nd (b := w.heap.size) (a := ⟨1, 0, t.v⟩) Tryz.results138 rfl ((HI5.out.z.put (rdN ⟨1, 0, t.v⟩) rfl).alloc7 _) rfl ?_
        rw [← HS.out]
        refine (HI5.out.fin Hb.out ⟨1, 0, t.v⟩ ?_).alloc _
        rw [HK.out]
        exact po_some ok Hst.out
       case false =>
        have hlt6 := HI5.out.z.lt
        go_wp2_with fail
        rw [HW5.out, Hg5.out]
        clear HI5 HW5 Hg5 m2 m3 m4
        have hfin : (l ≠ [] → (t.k == 0) = true → cnum t.t.data.toList = none) → PO ok false (stepP l) nd0 q := by
         intro hc
         by_cases hl : l = []
         · exact po_none ok (Hnone.out hl).2
         · refine po_none ok ?_
           rw [(Hcons.out hl).2, h1]
           cases h0 : (t.k == 0)
           · rfl
           · rw [hc hl h0]; rfl
        have Hfin := Lib.hid hfin
        clear hfin
        cases h0 : (t.k == 0)
        case false =>
         rw [h0] at Hfin
         go_loopw [6] (fun i wr => ∃ n : Nat, n ≤ 100 ∧ i = .int .i64 n ∧ Hid (StI w b wr q K) ∧ Hid (Bk wr g5 #[.int .i64 t.k, .string t.t, .int .i64 t.v.k, .int .i64 t.v.n, .string t.v.s] 129)) (fun i _ => 100 - (intOf i).toNat)
         case atStart => exact ⟨0, Nat.zero_le _, rfl, HI6, HT5⟩
         case round =>
          clear m0 m1 hlt5 HI6 HT5 hlt6
          obtain ⟨n, hn, rfl, hi, htk⟩ := hrel
          by_cases hlt : n < 100
          · have m0 : wr.cell? ⟨g5, 0, none⟩ = some (.int .i64 t.k) := htk.out.cell 0
            have hlt5 := htk.out.lt
            go_wp2_with fail
            go_region
            go_wp2_with fail
            go_roundw
            case rel => exact ⟨n + 1, by omega, by go_num, Lib.hid hi.out.drew, Lib.hid htk.out.drew⟩
            case measure => simp [intOf]; omega
          · obtain rfl : n = 100 := by omega
            obtain ⟨n0, n1, n2, n3, n4, z0, z1, z2, z3, z4, hlt6⟩ := hi.out.all
            obtain ⟨p2, hfz⟩ := hi.out.p.ok
            have hbl := hi.out.p.lt
            have hne : ¬ w.heap.size = b := by omega
            have hne2 : ¬ b = w.heap.size := by omega
            clear htk
            go_wp2
            refine ret_nd (b := w.heap.size) (a := nd0) Tryz.results138 rfl ((hi.out.not Hb.out).z.put (rdN nd0) rfl) rfl ?_
            rw [← HS.out]
            exact (hi.out.not Hb.out).fin Hb.out nd0 (Hfin.out (fun _ h => by cases h))
        case true =>
         rw [h0] at Hfin Hcons
         have hne : l ≠ [] := by
          intro e
          have := Hnil.out e
          rw [this] at h0; cases h0
         obtain ⟨hK, hst⟩ := Hcons.out hne
         rw [h1] at hst
         have Hst := Lib.hid hst
         have HK := Lib.hid hK
         clear hst hne hK Hcons Hnil Hnone
         go_loopw [6] (fun i wr => ∃ n : Nat, n ≤ 100 ∧ i = .int .i64 n ∧ Hid (StI w b wr q K) ∧ Hid (Bk wr g5 #[.int .i64 t.k, .string t.t, .int .i64 t.v.k, .int .i64 t.v.n, .string t.v.s] 129) ∧ Hid (∀ j : Nat, j < n → t.t.data.toList ≠ cWord j)) (fun i _ => 100 - (intOf i).toNat)
         case atStart => exact ⟨0, Nat.zero_le _, rfl, HI6, HT5, Lib.hid (fun j h => absurd h (Nat.not_lt_zero _))⟩
         case round =>
          clear m0 m1 hlt5 HI6 HT5 hlt6
          obtain ⟨n, hn, rfl, hi, htk, hall⟩ := hrel
          by_cases hlt : n < 100
          · have m0 : wr.cell? ⟨g5, 0, none⟩ = some (.int .i64 t.k) := htk.out.cell 0
            have m1 : wr.cell? ⟨g5, 1, none⟩ = some (.string t.t) := htk.out.cell 1
            have hlt5 := htk.out.lt
            have HSg := Lib.hid (fun u : World => rsigned_c (n : Int) u (by omega))
            obtain ⟨I, hI⟩ : ∃ I : ByteArray, (⟨(Lib.itoa (n : Int)).toArray⟩ : ByteArray) = I := ⟨_, rfl⟩
            have hIs : I.size ≤ 40 := by
             rw [← hI]
             show (Lib.itoa (n : Int)).toArray.size ≤ 40
             have := itoa_len (n : Int) (by omega)
             simp; omega
            have hC0 : (⟨#[99]⟩ : ByteArray) ++ I = ba (cWord n) := by rw [← hI]; exact cat_one 99 (Lib.itoa (n : Int))
            obtain ⟨C, hC⟩ : ∃ C, ba (cWord n) = C := ⟨_, rfl⟩
            rw [hC] at hC0
            have ec : ∀ w, (Op.stringOp .add ⟨#[99]⟩ I).run Tryz.prog w = .ok (.string C) w := fun w => by
             rw [run_string_add_sum w ⟨#[99]⟩ I (by show 1 + I.size ≤ _; omega), hC0]
            have hbe : (t.t.toList == C.toList) = decide (t.t.data.toList = cWord n) := by
             rw [← hC, Bool.eq_iff_iff]
             simp only [beq_iff_eq, decide_eq_true_eq]
             constructor
             · intro h
               have := toList_inj h
               rw [this]
             · intro h
               rw [← ba_of t.t, h]
            obtain ⟨D, hD⟩ : ∃ D, decide (t.t.data.toList = cWord n) = D := ⟨_, rfl⟩
            rw [hD] at hbe
            rw [hI] at HSg
            have HD := Lib.hid hD
            have HSv : Hid (∀ wy, Below wr.heap.size wr wy → (wy.cell? ⟨g5, 0, none⟩ = some (.int .i64 t.k) ∧ wy.cell? ⟨g5, 1, none⟩ = some (.string t.t))) := Lib.hid (fun wy h => ⟨(htk.out.after h htk.out.lt).cell 0, (htk.out.after h htk.out.lt).cell 1⟩)
            clear hD hI hC hC0
            go_wp2_with fail
            go_region_held3 (fun w' => w'.cell? ⟨g5, 0, none⟩ = some (.int .i64 t.k) ∧ w'.cell? ⟨g5, 1, none⟩ = some (.string t.t))
             (first
               | exact HSv.out _ HbS.out
               | go_keep)
             (first
               | (go_at_call 27
                  refine (HSg.out wr.drew).mono ?_
                  rintro e w6 ⟨rfl, hb2⟩
                  have HbS : Hid (Below wr.heap.size wr w6) := Lib.hid (below_via (Below.refl wr.heap.size wr).drew hb2)
                  clear hb2))
            all_goals
             have HI7 := Lib.hid (hi.out.then HbS.out (Nat.le_refl _))
             have HT7 := Lib.hid (htk.out.after HbS.out htk.out.lt)
             obtain ⟨n0, n1, n2, n3, n4, z0, z1, z2, z3, z4, hlt6⟩ := HI7.out.all
             cases D
             · have hall2 : ∀ j : Nat, j < n + 1 → t.t.data.toList ≠ cWord j := by
                intro j hj
                by_cases hjn : j = n
                · subst hjn; exact of_decide_eq_false HD.out
                · exact hall.out j (by omega)
               have Hall2 := Lib.hid hall2
               clear hall2
               go_wp2
               go_roundw
               case rel => exact ⟨n + 1, by omega, by go_num, HI7, HT7, Hall2⟩
               case measure => simp [intOf]; omega
             · have hcn := cnum_c n hlt
               rw [← of_decide_eq_true HD.out] at hcn
               have Hcn := Lib.hid hcn
               clear hcn
               go_wp2
               refine ret_nd (b := w.heap.size) (a := ⟨0, (n : Int), nl⟩) Tryz.results138 rfl (HI7.out.z.put (rdN ⟨0, (n : Int), nl⟩) rfl) rfl ?_
               rw [← HS.out]
               refine HI7.out.fin Hb.out ⟨0, (n : Int), nl⟩ ?_
               rw [HK.out]
               refine po_some ok ?_
               rw [Hst.out, Hcn.out]
               rfl
          · obtain rfl : n = 100 := by omega
            have hcn : cnum t.t.data.toList = none := by
             cases e : cnum t.t.data.toList with
             | none => rfl
             | some j => exact absurd (cnum_lt e).2 (hall.out j (cnum_lt e).1)
            have Hpo := Lib.hid (Hfin.out (fun _ _ => hcn))
            obtain ⟨n0, n1, n2, n3, n4, z0, z1, z2, z3, z4, hlt6⟩ := hi.out.all
            obtain ⟨p2, hfz⟩ := hi.out.p.ok
            have hbl := hi.out.p.lt
            have hne : ¬ w.heap.size = b := by omega
            have hne2 : ¬ b = w.heap.size := by omega
            clear htk hcn hall
            go_wp2
            refine ret_nd (b := w.heap.size) (a := nd0) Tryz.results138 rfl ((hi.out.not Hb.out).z.put (rdN nd0) rfl) rfl ?_
            rw [← HS.out]
            exact (hi.out.not Hb.out).fin Hb.out nd0 Hpo.out
end Go.Proofs.YtjgpmnffagdhlaaGreatDoor
namespace Go.Proofs.YtjgpmnffagdhlaaGreatDoor
open Go Go.RowKit
set_option maxRecDepth 100000
theorem need_takeQ (s : List UInt8) (l : List Tk) : needP s l = if (takeP s l).1 then some (takeP s l).2 else none := by
 cases l with
 | nil => rfl
 | cons t r =>
   rw [needP, take_isW]
   cases isW s t <;> rfl
def ExprQ (b : Nat) (w : World) (ok : Bool) (o : Option (List Nd × List Tk)) (e : Ending) (w' : World) : Prop := ∃ (v : Value) (xs : List Nd) (l' : List Tk) (ok' : Bool), e = .returned v ∧ OwnG w' w.heap.size 66 5 rdN v xs ∧ xs.length ≤ 101 ∧ Pq w' b l' ok' ∧ PO ok ok' o xs l' ∧ Apq b w w'
def exE (acc : List Nd) (rest : List Tk) : Option (List Nd × List Tk) := (exprG rest).bind fun q => if (acc ++ q.1).length ≤ 100 then some (acc ++ q.1, q.2) else none
theorem exE_hit {acc : List Nd} {rest : List Tk} (h : (takeP s_rb rest).1 = true) (ha : acc.length ≤ 100) : exE acc rest = some (acc, (takeP s_rb rest).2) := by
 unfold exE
 rw [exprG_eq, h]
 simp [ha]
theorem exE_none {acc : List Nd} {rest : List Tk} (h : (takeP s_rb rest).1 = false) (hs : stepP rest = none) : exE acc rest = none := by
 unfold exE
 rw [exprG_eq, h, hs]
 rfl
theorem exE_step {acc : List Nd} {rest l' : List Tk} {x : Nd} (h : (takeP s_rb rest).1 = false) (hs : stepP rest = some (x, l')) : exE acc rest = exE (acc ++ [x]) l' := by
 unfold exE
 rw [exprG_eq rest, h, hs]
 simp only [Bool.false_eq_true, if_false, Option.bind_some]
 cases exprG l' with
 | none => rfl
 | some q => simp
theorem exE_long {acc : List Nd} {rest : List Tk} (h : 100 < acc.length) : exE acc rest = none := by
 unfold exE
 cases exprG rest with
 | none => rfl
 | some q => simp; omega
set_option maxHeartbeats 8000000 in
theorem qexpr_c (b : Nat) (l : List Tk) (ok : Bool) (w : World) (hP : Pq w b l ok) :
 Calls Tryz.prog 96 #[.pointer (some ⟨b, 0, none⟩)] w fun e w' => ExprQ b w ok (exprP l) e w' := by
 obtain ⟨S, hS⟩ : ∃ S, ExprQ b w ok (exprP l) = S := ⟨_, rfl⟩
 rw [hS]
 have hb := hP.lt
 have Hb := Lib.hid hb
 have HS := Lib.hid hS
 have HN := Lib.hid (qneed_c b l ok s_lb w hP)
 have hE : ((ok && (takeP s_lb l).1) = true → ok = true ∧ exprP l = exE [] (takeP s_lb l).2) ∧ ((ok && (takeP s_lb l).1) = false → (ok && (exprP l).isSome) = false) := by
  rw [exprP_eq, need_takeQ]
  cases ok
  · exact ⟨fun h => (by cases h), fun _ => rfl⟩
  · cases (takeP s_lb l).1
    · exact ⟨fun h => (by cases h), fun _ => rfl⟩
    · refine ⟨fun _ => ⟨rfl, ?_⟩, fun h => by cases h⟩
      simp [exE]
 obtain ⟨K, hK⟩ : ∃ K, (ok && (takeP s_lb l).1) = K := ⟨_, rfl⟩
 obtain ⟨r0, hr0⟩ : ∃ r0, (takeP s_lb l).2 = r0 := ⟨_, rfl⟩
 rw [hK, hr0] at HN hE
 have HE := Lib.hid hE
 clear hP hS hK hr0 hE
 go_enter Tryz.func96, Tryz.ntmps96
 go_wp2_with fail
 refine HN.out.mono ?_
 rintro e w1 ⟨rfl, hp, ha⟩
 have HP1 := Lib.hid (hp.alloc (.cells #[] 66))
 have HA1 := Lib.hid (ha.alloc (.cells #[] 66))
 have HO1 : Hid (OwnG (w1.alloc (.cells #[] 66)) w.heap.size 66 5 rdN (.slice (some ⟨w1.heap.size, 0, none⟩) 0 0) []) := Lib.hid (OwnG.made w1 w.heap.size 66 #[] 0 ha.size (by decide) rfl)
 clear hp ha HN
 go_wp2_with fail
 go_loopw [3] (fun v wr => ∃ (acc : List Nd) (rest : List Tk) (okc : Bool), Hid (OwnG wr w.heap.size 66 5 rdN v acc) ∧ Hid (Pq wr b rest okc) ∧ Hid (Apq b w wr) ∧ Hid ((okc = true → ok = true ∧ exprP l = exE acc rest) ∧ (okc = false → (ok && (exprP l).isSome) = false)) ∧ acc.length ≤ 101 ∧ Hid (okc = true → acc.length ≤ 100)) (fun _ wr => pqLen wr b)
 case atStart => exact ⟨[], r0, K, HO1, HP1, HA1, HE, by simp, Lib.hid (fun _ => by simp)⟩
 case round =>
  clear HO1 HP1 HA1 HE
  obtain ⟨acc, rest, okc, ho, hp, ha, he, hlen, hlen2⟩ := hrel
  have Hleft := Lib.hid hp.out.left
  obtain ⟨p2, hfz⟩ := hp.out.ok
  have hbl := hp.out.lt
  cases okc
  case false =>
   have Hpo : Hid (PO ok false (exprP l) acc rest) := Lib.hid ⟨(he.out.2 rfl).symm, fun h => by cases h⟩
   obtain ⟨A, c, rfl⟩ := ho.out.isSlice
   go_wp2
   rw [← HS.out]
   exact ⟨_, acc, rest, false, rfl, ho.out, hlen, hp.out, Hpo.out, ha.out⟩
  case true =>
   have HT := Lib.hid (qtake_c b rest true s_rb wr hp.out)
   obtain ⟨hok, hex⟩ := he.out.1 rfl
   have hl100 := hlen2.out rfl
   subst hok
   have Hex := Lib.hid hex
   clear he hex hlen2
   go_wp2_with fail
   refine HT.out.mono ?_
   rintro e w2 ⟨rfl, hp2, ha2⟩
   have HO2 := Lib.hid (ho.out.keptq ha2 Hb.out)
   have HP2 := Lib.hid hp2
   have HA2 := Lib.hid (ha.out.trans ha2)
   clear HT hp2 ha2 ho hp ha
   cases hR : (takeP s_rb rest).1
   case true =>
    have Hpo := Lib.hid (po_some true (Hex.out.trans (exE_hit hR hl100)))
    obtain ⟨A, c, rfl⟩ := HO2.out.isSlice
    clear hR
    go_wp2
    rw [← HS.out]
    exact ⟨_, acc, _, true, rfl, HO2.out, hlen, HP2.out, Hpo.out, HA2.out⟩
   case false =>
    rw [take_no hR] at HP2
    have HR := Lib.hid hR
    clear hR
    go_wp2_with fail
    refine (qstep_c b rest true w2 HP2.out).mono ?_
    rintro e w3 ⟨x, l', ok', rfl, hp3, hpo3, ha3⟩
    have HO3 := Lib.hid (HO2.out.keptq ha3 Hb.out)
    have HP3 := Lib.hid hp3
    have HA3 := Lib.hid (HA2.out.trans ha3)
    have Hpo3 := Lib.hid hpo3
    have hsz3 : w.heap.size ≤ w3.heap.size := HA3.out.size
    have hb3 := hp3.lt
    clear hp3 ha3 hpo3 HO2 HP2 HA2
    have hstp : ok' = (stepP rest).isSome := by have := Hpo3.out.1; simpa using this
    have Hstp := Lib.hid hstp
    clear hstp
    by_cases h100 : (100 : Int) < (acc.length : Int) + 1
    all_goals
     go_wp2_with (at_builtin; go_must (
      refine wpList_appG nOk rfl (.tmp 16) (.tmp 19) rfl w.heap.size _ acc [x] (some ⟨w3.heap.size, 0, none⟩) 1 1 rfl (HO3.out.alloc _) rfl rfl (SlG.new nOk.len [x] rfl) (by simp [maxLen]; omega) (by simp; omega) (by simp; omega) ?_
      intro v4 w4 hv4 hg4
      have HO4 := Lib.hid hv4
      have HP4 := Lib.hid (show Pq w4 b l' ok' from HP3.out.same fun k hk => (hg4.block k (by simp; omega) (fun e => by have := (HO3.out.lt _ e.symm).1; have := Hb.out; omega)).trans (Below.heap_alloc _ _ k (by omega)))
      have HA4 := Lib.hid ((HA3.out.alloc _).grown hg4 (fun k hk => by have := (HO3.out.lt k hk).1; omega))
      obtain ⟨q2, hfz4⟩ := HP4.out.ok
      have hbl4 := HP4.out.lt
      obtain ⟨A4, c4, rfl⟩ := hv4.isSlice
      have hln4 : (acc ++ [x]).length = acc.length + 1 := by simp
      rw [hln4] at HO4 ⊢
      clear hv4 hg4 hln4 HO3 HP3 HA3))
    · go_roundw
      case rel =>
       refine ⟨acc ++ [x], l', false, Lib.hid (HO4.out.keptq ((Apq.refl b _).set 2 (.bool false)) Hb.out), Lib.hid (HP4.out.not false), Lib.hid (HA4.out.set 2 _), Lib.hid ⟨fun h => (by cases h), fun _ => ?_⟩, by simp; omega, Lib.hid (fun h => by cases h)⟩
       rw [Hex.out]
       cases hs : stepP rest with
       | none => rw [exE_none HR.out hs]; rfl
       | some z => rw [exE_step (x := z.1) (l' := z.2) HR.out hs, exE_long (by simp; omega)]; rfl
      case measure =>
       rw [(HP4.out.not false).left, Hleft.out]
       simp
    · go_roundw
      case rel =>
       refine ⟨acc ++ [x], l', ok', HO4, HP4, HA4, Lib.hid ⟨fun h => ⟨trivial, ?_⟩, fun h => ?_⟩, by simp; omega, Lib.hid (fun _ => by simp; omega)⟩
       · rw [Hex.out, exE_step HR.out (Hpo3.out.2 h)]
       · rw [Hex.out]
         have hn : stepP rest = none := by
          have := Hstp.out
          rw [h] at this
          cases e : stepP rest with
          | none => rfl
          | some z => rw [e] at this; cases this
         rw [exE_none HR.out hn]; rfl
      case measure =>
       rw [HP4.out.left, Hleft.out]
       cases ok'
       · simp
       · have := step_len (Hpo3.out.2 rfl)
         simp; omega
theorem PO.bind {α β : Type} {ok ok1 ok2 : Bool} {o : Option (α × List Tk)} {f : α × List Tk → Option (β × List Tk)} {v : α} {l1 : List Tk} {v2 : β} {l2 : List Tk} (h1 : PO ok ok1 o v l1) (h2 : PO ok1 ok2 (f (v, l1)) v2 l2) : PO ok ok2 (o.bind f) v2 l2 := by
 obtain ⟨a1, a2⟩ := h1
 obtain ⟨b1, b2⟩ := h2
 cases ok1
 · have e2 : ok2 = false := by rw [b1]; rfl
   subst e2
   refine ⟨?_, fun h => by cases h⟩
   cases ok
   · rfl
   · cases o with
     | none => rfl
     | some z => cases a1
 · have e := a2 rfl
   have eok : ok = true := by cases ok; · cases a1
                              · rfl
   subst e eok
   refine ⟨?_, fun h => ?_⟩
   · rw [b1]; rfl
   · exact b2 h
theorem PO.need {β : Type} {ok ok2 : Bool} {s : List UInt8} {l : List Tk} {f : List Tk → Option (β × List Tk)} {v2 : β} {l2 : List Tk} (h2 : PO (ok && (takeP s l).1) ok2 (f (takeP s l).2) v2 l2) : PO ok ok2 ((needP s l).bind f) v2 l2 := by
 rw [need_takeQ]
 cases hc : (takeP s l).1
 · rw [hc] at h2
   obtain ⟨b1, b2⟩ := h2
   have e2 : ok2 = false := by rw [b1]; simp
   subst e2
   exact ⟨by simp, fun h => by cases h⟩
 · rw [hc, Bool.and_true] at h2
   exact h2
theorem PO.ret {α : Type} (ok : Bool) (v : α) (l : List Tk) : PO ok ok (some (v, l)) v l := ⟨by simp, fun _ => rfl⟩
theorem PO.map {α β : Type} {ok ok1 : Bool} {o : Option (α × List Tk)} {f : α × List Tk → β × List Tk} {v : α} {l1 : List Tk} {v2 : β} {l2 : List Tk} (h1 : PO ok ok1 o v l1) (h2 : f (v, l1) = (v2, l2)) : PO ok ok1 (o.map f) v2 l2 := by
 have e : o.map f = o.bind fun p => some (f p) := by cases o <;> rfl
 rw [e]
 refine h1.bind (f := fun p => some (f p)) ?_
 show PO ok1 ok1 (some (f (v, l1))) v2 l2
 rw [h2]
 exact PO.ret ok1 v2 l2
def AggQ (b : Nat) (w : World) (ok : Bool) (o : Option (Ag × List Tk)) (e : Ending) (w' : World) : Prop := ∃ (x : Ag) (l' : List Tk) (ok' : Bool), e = .returned x.w ∧ Pq w' b l' ok' ∧ PO ok ok' o x l' ∧ Apq b w w'
theorem ret_ag7 {fn : Func} {R : Ending → World → Prop} {F : Act} {w : World} {t : Tmp} {b : Nat} {a : Ag} (hres : fn.results = #[.cell t 74]) (ht : Reg.slot F t = .pointer (some ⟨b, 0, none⟩)) (hb : Bk w b #[.int .i64 a.fn, .int .i64 a.col] 74) (hd : F.defers = [])
 (hR : R (.returned a.w) w) : bodyPost Tryz.prog fn R .ret F w := by
 have h0 : w.cell? ⟨b, 0, none⟩ = some (.int .i64 a.fn) := hb.cell 0
 have h1 : w.cell? ⟨b, 1, none⟩ = some (.int .i64 a.col) := hb.cell 1
 refine bodyPost_ret (v := a.w) ?_ hd hR
 have ht' : F.tmps[t]?.getD undef = .pointer (some ⟨b, 0, none⟩) := by simpa [Reg.slot] using ht
 simp [results, hres, ht', go_sem, h0, h1]
theorem oneW_c (b : Nat) (l : List Tk) (ok : Bool) (ws : List (List UInt8)) (hm : ws.length ≤ 1000) (w : World) (hP : Pq w b l ok) :
 Calls Tryz.prog 61 #[.pointer (some ⟨b, 0, none⟩), .slice (some ⟨w.heap.size, 0, none⟩) ws.length ws.length] (wdN w ws) fun e w' => (∃ (v : Int) (l' : List Tk) (ok' : Bool), e = .returned (.int .i64 v) ∧ (0 ≤ v ∧ v ≤ 1000) ∧ Pq w' b l' ok' ∧ PO ok ok' (oneP ws l) v l') ∧ Apq b w w' := by
 have hlt := hP.lt
 refine (qone_c b l ok ws (some ⟨w.heap.size, 0, none⟩) ws.length ws.length (wdN w ws) (hP.alloc _) (slWN w ws) (fun k hk => by simp at hk; omega) rfl hm).mono ?_
 rintro e w' ⟨h1, h2⟩
 exact ⟨h1, h2.of_alloc⟩
set_option maxHeartbeats 8000000 in
theorem qagg_c (b : Nat) (l : List Tk) (ok : Bool) (w : World) (hP : Pq w b l ok) :
 Calls Tryz.prog 99 #[.pointer (some ⟨b, 0, none⟩)] w fun e w' => AggQ b w ok (aggP l) e w' := by
 obtain ⟨S, hS⟩ : ∃ S, AggQ b w ok (aggP l) = S := ⟨_, rfl⟩
 rw [hS]
 have hb := hP.lt
 have Hb := Lib.hid hb
 have HS := Lib.hid hS
 obtain ⟨W, hW⟩ : ∃ W, w.alloc (.cells #[.int .i64 0, .int .i64 0] 74) = W := ⟨_, rfl⟩
 have hsz : W.heap.size = w.heap.size + 1 := by rw [← hW]; simp
 have HP : Hid (Pq W b l ok) := Lib.hid (by rw [← hW]; exact hP.alloc _)
 have HA : Hid (Apq b w W) := Lib.hid (by rw [← hW]; exact (Apq.refl b w).alloc _)
 have HZ : Hid (Bk W w.heap.size #[.int .i64 0, .int .i64 0] 74) := Lib.hid (by rw [← hW]; exact Bk.new w _ _)
 have HN := Lib.hid (oneW_c b l ok [w_count, w_sum, w_min, w_max] (by decide) W HP.out)
 rw [hsz] at HN
 have HW := Lib.hid hW
 have Hsz := Lib.hid hsz
 clear hW hP hS hsz
 go_enter Tryz.func99, Tryz.ntmps99
 go_wp2_with fail
 rw [HW.out]
 refine HN.out.mono ?_
 rintro e w1 ⟨⟨v, l1, ok1, rfl, hv, hp, hpo⟩, ha⟩
 have HP1 := Lib.hid hp
 have HA1 := Lib.hid (HA.out.trans ha)
 have HZ1 := Lib.hid (HZ.out.keptq ha (by have := Hb.out; omega))
 have Hpo := Lib.hid hpo
 have hb1 := hp.lt
 have n0 : w1.cell? ⟨w.heap.size, 0, none⟩ = some (.int .i64 0) := HZ1.out.cell 0
 have n1 : w1.cell? ⟨w.heap.size, 1, none⟩ = some (.int .i64 0) := HZ1.out.cell 1
 have z0 := HZ1.out.thaw 0
 have z1 := HZ1.out.thaw 1
 have hlt1 := HZ1.out.lt
 clear hp ha hpo HN HP HA HZ HW Hsz
 by_cases hv0 : v = 0
 · subst hv0
   go_wp2
   refine ret_ag7 (b := w.heap.size) (a := ⟨0, 0⟩) Tryz.results99 rfl (Bk.alloc7 (Bk.put HZ1.out [.int .i64 0, .int .i64 0] rfl) _) rfl ?_
   rw [← HS.out]
   exact ⟨⟨0, 0⟩, l1, ok1, rfl, (HP1.out.put Hb.out 0 [.int .i64 0, .int .i64 0]).alloc _, Hpo.out.bind (PO.ret ok1 _ _), (HA1.out.put (Nat.le_refl _) 0 [.int .i64 0, .int .i64 0]).alloc _⟩
 · have hd : (v != 0) = true := by simpa using hv0
   have Hne := Lib.hid hv0
   clear hv0
   go_wp2_with fail
   have HP2 := Lib.hid (HP1.out.alloc (.cells #[.int .i64 v, .int .i64 0] 74))
   have HA2 := Lib.hid (HA1.out.alloc (.cells #[.int .i64 v, .int .i64 0] 74))
   have HZ2 := Lib.hid (HZ1.out.alloc7 (.cells #[.int .i64 v, .int .i64 0] 74))
   have HC2 := Lib.hid (Bk.new w1 #[.int .i64 v, .int .i64 0] 74)
   have hgC : w.heap.size < w1.heap.size := hlt1
   obtain ⟨C, hC⟩ : ∃ C, w1.heap.size = C := ⟨_, rfl⟩
   obtain ⟨W2, hW2⟩ : ∃ W2, w1.alloc (.cells #[.int .i64 v, .int .i64 0] 74) = W2 := ⟨_, rfl⟩
   rw [hW2] at HP2 HA2 HZ2 HC2 ⊢
   rw [hC] at HC2 hgC hb1 ⊢
   clear n0 n1 z0 z1 hlt1 HP1 HA1 HZ1 hW2 hC
   refine (qcol_c b l1 ok1 W2 HP2.out).mono ?_
   rintro e w3 ⟨rfl, ⟨ok3, hp3, hpo3⟩, ha3⟩
   have HP3 := Lib.hid hp3
   have HA3 := Lib.hid (HA2.out.trans ha3)
   have HZ3 := Lib.hid (HZ2.out.keptq ha3 (by have := Hb.out; omega))
   have HC3 := Lib.hid (HC2.out.keptq ha3 (by omega))
   have Hpo3 := Lib.hid hpo3
   obtain ⟨c, hc⟩ : ∃ c, (nextT l1).v.n = c := ⟨_, rfl⟩
   rw [hc] at Hpo3 ⊢
   have n0 : w3.cell? ⟨w.heap.size, 0, none⟩ = some (.int .i64 0) := HZ3.out.cell 0
   have n1 : w3.cell? ⟨w.heap.size, 1, none⟩ = some (.int .i64 0) := HZ3.out.cell 1
   have z0 := HZ3.out.thaw 0
   have z1 := HZ3.out.thaw 1
   have hlt1 := HZ3.out.lt
   have c0 : w3.cell? ⟨C, 0, none⟩ = some (.int .i64 v) := HC3.out.cell 0
   have c1 : w3.cell? ⟨C, 1, none⟩ = some (.int .i64 0) := HC3.out.cell 1
   have f0 := HC3.out.thaw 0
   have f1 := HC3.out.thaw 1
   have hltC := HC3.out.lt
   have hne : ¬ w.heap.size = C := by omega
   have hne2 : ¬ C = w.heap.size := by omega
   clear hp3 ha3 hpo3 HP2 HA2 HZ2 HC2 hc
   go_wp2
   refine ret_ag7 (b := w.heap.size) (a := ⟨v, c⟩) Tryz.results99 rfl (Bk.put (HZ3.out.after (B := C) (Below.setCell (Below.refl C w3) (Nat.le_refl C) _) hgC) [.int .i64 v, .int .i64 c] rfl) rfl ?_
   rw [← HS.out]
   refine ⟨⟨v, c⟩, l1.tail, ok3, rfl, (HP3.out.own hb1 1 (.int .i64 c)).put Hb.out 0 [.int .i64 v, .int .i64 c], Hpo.out.bind ?_, (HA3.out.own (by omega) 1 (.int .i64 c)).put (Nat.le_refl _) 0 [.int .i64 v, .int .i64 c]⟩
   show PO ok1 ok3 (if v = 0 then _ else _) _ _
   rw [if_neg Hne.out]
   exact Hpo3.out.map rfl
def ColumnQ (b : Nat) (w : World) (ok : Bool) (o : Option (Cl × List Tk)) (e : Ending) (w' : World) : Prop := ∃ (x : Cl) (l' : List Tk) (ok' : Bool), e = .returned x.w ∧ Pq w' b l' ok' ∧ PO ok ok' o x l' ∧ Apq b w w'
structure CoI (w : World) (b C : Nat) (u : World) (l : List Tk) (ok : Bool) (c : Cl) : Prop where
 p : Pq u b l ok
 c : BkC u C c
 z : Bk u w.heap.size (rdCl cl0).toArray 64
 a : Apq b w u
theorem CoI.step {w u v : World} {b C : Nat} {l q : List Tk} {ok k : Bool} {c : Cl} (h : CoI w b C u l ok c) (hb : b < w.heap.size) (hC : w.heap.size < C) (hp : Pq v b q k) (ha : Apq b u v) : CoI w b C v q k c :=
 ⟨hp, Bk.keptq h.c ha (by omega), h.z.keptq ha (by omega), h.a.trans ha⟩
theorem CoI.set {w u : World} {b C : Nat} {l : List Tk} {ok : Bool} {c c' : Cl} (h : CoI w b C u l ok c) (hb : b < w.heap.size) (hC : w.heap.size < C) (j : Nat) (x : Value) (hc : ∀ v : World, Bk v C ((#[.string c.name, .int .i64 c.kind, .bool c.nul, .bool c.uni, .string c.ref, .int .i64 c.act] : Array Value).setIfInBounds j x) 64 → BkC v C c') : CoI w b C (u.setCell ⟨C, j, none⟩ x) l ok c' :=
 ⟨h.p.own (by omega) j x, hc _ (Bk.set h.c j x), h.z.after (B := C) (Below.setCell (Below.refl C u) (Nat.le_refl C) _) hC, h.a.own (by omega) j x⟩
set_option maxHeartbeats 8000000 in
theorem qcolumn_c (b : Nat) (l : List Tk) (ok : Bool) (w : World) (hP : Pq w b l ok) :
 Calls Tryz.prog 95 #[.pointer (some ⟨b, 0, none⟩)] w fun e w' => ColumnQ b w ok (columnP l) e w' := by
 obtain ⟨S, hS⟩ : ∃ S, ColumnQ b w ok (columnP l) = S := ⟨_, rfl⟩
 rw [hS]
 have hb := hP.lt
 have Hb := Lib.hid hb
 have HS := Lib.hid hS
 obtain ⟨W, hW⟩ : ∃ W, w.alloc (.cells (rdCl cl0).toArray 64) = W := ⟨_, rfl⟩
 have HP : Hid (Pq W b l ok) := Lib.hid (by rw [← hW]; exact hP.alloc _)
 have HA : Hid (Apq b w W) := Lib.hid (by rw [← hW]; exact (Apq.refl b w).alloc _)
 have HZ : Hid (Bk W w.heap.size (rdCl cl0).toArray 64) := Lib.hid (by rw [← hW]; exact Bk.new w _ _)
 have HW : Hid (w.alloc (.cells #[.string ⟨#[]⟩, .int .i64 0, .bool false, .bool false, .string ⟨#[]⟩, .int .i64 0] 64) = W) := hW
 clear hW hP hS
 go_enter Tryz.func95, Tryz.ntmps95
 go_wp2_with fail
 rw [HW.out]
 refine (qname_c b l ok W HP.out).mono ?_
 rintro e w1 ⟨rfl, ⟨ok1, hp1, hpo1⟩, ha1⟩
 obtain ⟨nm, hnm⟩ : ∃ nm, (nextT l).t = nm := ⟨_, rfl⟩
 obtain ⟨l1, hl1⟩ : ∃ l1, l.tail = l1 := ⟨_, rfl⟩
 rw [hnm, hl1] at hpo1
 rw [hl1] at hp1
 rw [hnm]
 have Hpo1 := Lib.hid hpo1
 have hg1 : w.heap.size < w1.heap.size := Nat.lt_of_lt_of_le HZ.out.lt ha1.size
 have HI1 : Hid (CoI w b w1.heap.size (w1.alloc (.cells #[.string nm, .int .i64 0, .bool false, .bool false, .string ⟨#[]⟩, .int .i64 0] 64)) l1 ok1 ⟨nm, 0, false, false, emp, 0⟩) := Lib.hid ⟨hp1.alloc _, Bk.new _ _ _, (HZ.out.keptq ha1 (by omega)).alloc7 _, (HA.out.trans ha1).alloc _⟩
 have hz1 : (w1.alloc (.cells #[.string nm, .int .i64 0, .bool false, .bool false, .string ⟨#[]⟩, .int .i64 0] 64)).heap.size = w1.heap.size + 1 := by simp
 obtain ⟨C, hC⟩ : ∃ C, w1.heap.size = C := ⟨_, rfl⟩
 obtain ⟨W1, hW1⟩ : ∃ W1, w1.alloc (.cells #[.string nm, .int .i64 0, .bool false, .bool false, .string ⟨#[]⟩, .int .i64 0] 64) = W1 := ⟨_, rfl⟩
 rw [hW1, hC] at HI1 hz1
 rw [hC] at hg1
 have HW1 := Lib.hid hW1
 have HC := Lib.hid hC
 have HgC := Lib.hid hg1
 have Hz1 := Lib.hid hz1
 clear hp1 ha1 hpo1 hnm hl1 HP HA HZ HW hW1 hC hz1
 go_wp2_with fail
 rw [HW1.out, HC.out]
 clear HW1 HC
 have HN := oneW_c b l1 ok1 [w_bool, w_int, w_text] (by decide) W1 HI1.out.p
 rw [Hz1.out] at HN
 refine HN.mono ?_
 rintro e w2 ⟨⟨v, l2, ok2, rfl, hv, hp2, hpo2⟩, ha2⟩
 have HI2 := Lib.hid (HI1.out.step Hb.out HgC.out hp2 ha2)
 have Hpo2 := Lib.hid hpo2
 obtain ⟨c0, c1, c2, c3, c4, c5, f0, f1, f2, f3, f4, f5, hlt⟩ := HI2.out.c.all
 have hv1 := hv.1
 have hv2 := hv.2
 clear hp2 ha2 hpo2 HN HI1 Hz1 hv
 go_wp2_with fail
 have HI3 := Lib.hid (HI2.out.set (c' := ⟨nm, 1 + v, false, false, emp, 0⟩) Hb.out HgC.out 1 (.int .i64 (1 + v)) (fun _ h => h))
 refine (qtake_c b l2 ok2 w_null _ HI3.out.p).mono ?_
 rintro e w4 ⟨rfl, hp4, ha4⟩
 have HI4 := Lib.hid (HI3.out.step Hb.out HgC.out hp4 ha4)
 obtain ⟨nu, hnu⟩ : ∃ nu, (takeP w_null l2).1 = nu := ⟨_, rfl⟩
 obtain ⟨l4, hl4⟩ : ∃ l4, (takeP w_null l2).2 = l4 := ⟨_, rfl⟩
 rw [hl4] at HI4
 rw [hnu]
 have Hnu := Lib.hid hnu
 have Hl4 := Lib.hid hl4
 clear c0 c1 c2 c3 c4 c5 f0 f1 f2 f3 f4 f5 hlt
 obtain ⟨c0, c1, c2, c3, c4, c5, f0, f1, f2, f3, f4, f5, hlt⟩ := HI4.out.c.all
 clear hp4 ha4 hnu hl4 HI2 HI3
 go_wp2_with fail
 have HI5 := Lib.hid (HI4.out.set (c' := ⟨nm, 1 + v, nu, false, emp, 0⟩) Hb.out HgC.out 2 (.bool nu) (fun _ h => h))
 refine (qtake_c b l4 ok2 w_unique _ HI5.out.p).mono ?_
 rintro e w6 ⟨rfl, hp6, ha6⟩
 have HI6 := Lib.hid (HI5.out.step Hb.out HgC.out hp6 ha6)
 obtain ⟨un, hun⟩ : ∃ un, (takeP w_unique l4).1 = un := ⟨_, rfl⟩
 obtain ⟨l6, hl6⟩ : ∃ l6, (takeP w_unique l4).2 = l6 := ⟨_, rfl⟩
 rw [hl6] at HI6
 rw [hun]
 have Hun := Lib.hid hun
 have Hl6 := Lib.hid hl6
 clear c0 c1 c2 c3 c4 c5 f0 f1 f2 f3 f4 f5 hlt
 obtain ⟨c0, c1, c2, c3, c4, c5, f0, f1, f2, f3, f4, f5, hlt⟩ := HI6.out.c.all
 clear hp6 ha6 hun hl6 HI4 HI5
 go_wp2_with fail
 have HI7 := Lib.hid (HI6.out.set (c' := ⟨nm, 1 + v, nu, un, emp, 0⟩) Hb.out HgC.out 3 (.bool un) (fun _ h => h))
 refine (qtake_c b l6 ok2 w_ref _ HI7.out.p).mono ?_
 rintro e w8 ⟨rfl, hp8, ha8⟩
 have HI8 := Lib.hid (HI7.out.step Hb.out HgC.out hp8 ha8)
 clear c0 c1 c2 c3 c4 c5 f0 f1 f2 f3 f4 f5 hlt
 obtain ⟨c0, c1, c2, c3, c4, c5, f0, f1, f2, f3, f4, f5, hlt⟩ := HI8.out.c.all
 have hne : ¬ w.heap.size = C := by have := HgC.out; omega
 have hne2 : ¬ C = w.heap.size := by have := HgC.out; omega
 clear hp8 ha8 HI6 HI7
 have hcol : ∀ (ok' : Bool) (c : Cl) (l' : List Tk), PO ok2 ok' (if (takeP w_ref l6).1 then (nameP (takeP w_ref l6).2).bind fun b => (oneP [w_restrict, w_cascade, w_setnull] b.2).map fun c => ((⟨nm, v + 1, nu, un, b.1, c.1⟩ : Cl), c.2) else some (⟨nm, v + 1, nu, un, emp, 0⟩, l6)) c l' → PO ok ok' (columnP l) c l' := by
  intro ok' c l' h
  unfold columnP
  refine Hpo1.out.bind (Hpo2.out.bind ?_)
  simp only [Hnu.out, Hl4.out, Hun.out, Hl6.out]
  exact h
 have Hcol := Lib.hid hcol
 clear hcol
 cases hR : (takeP w_ref l6).1
 · rw [hR] at Hcol
   rw [take_no hR] at HI8
   obtain ⟨r0, r1, r2, r3, r4, r5, g0, g1, g2, g3, g4, g5, hlt2⟩ := BkC.all (c := cl0) HI8.out.z
   clear hR
   go_wp2
   refine ret_cl (b := w.heap.size) (a := ⟨nm, 1 + v, nu, un, emp, 0⟩) Tryz.results95 rfl (Bk.put HI8.out.z (rdCl ⟨nm, 1 + v, nu, un, emp, 0⟩) rfl) rfl ?_
   rw [← HS.out]
   refine ⟨⟨nm, 1 + v, nu, un, emp, 0⟩, l6, ok2, rfl, HI8.out.p.put Hb.out 0 (rdCl ⟨nm, 1 + v, nu, un, emp, 0⟩), Hcol.out _ _ _ ?_, HI8.out.a.put (Nat.le_refl _) 0 (rdCl ⟨nm, 1 + v, nu, un, emp, 0⟩)⟩
   rw [show (1 : Int) + v = v + 1 by omega]
   exact PO.ret ok2 _ _
 · rw [hR] at Hcol
   obtain ⟨l8, hl8⟩ : ∃ l8, (takeP w_ref l6).2 = l8 := ⟨_, rfl⟩
   rw [hl8] at Hcol HI8
   simp only [if_true] at Hcol
   clear hR hl8
   go_wp2_with fail
   refine (qname_c b l8 ok2 w8 HI8.out.p).mono ?_
   rintro e w9 ⟨rfl, ⟨ok9, hp9, hpo9⟩, ha9⟩
   obtain ⟨rf, hrf⟩ : ∃ rf, (nextT l8).t = rf := ⟨_, rfl⟩
   obtain ⟨l9, hl9⟩ : ∃ l9, l8.tail = l9 := ⟨_, rfl⟩
   rw [hrf, hl9] at hpo9
   rw [hl9] at hp9
   rw [hrf]
   have HI9 := Lib.hid (HI8.out.step Hb.out HgC.out hp9 ha9)
   have Hpo9 := Lib.hid hpo9
   clear c0 c1 c2 c3 c4 c5 f0 f1 f2 f3 f4 f5 hlt
   obtain ⟨c0, c1, c2, c3, c4, c5, f0, f1, f2, f3, f4, f5, hlt⟩ := HI9.out.c.all
   clear hp9 ha9 hpo9 hrf hl9 HI8
   go_wp2_with fail
   have HI10 := Lib.hid (HI9.out.set (c' := ⟨nm, 1 + v, nu, un, rf, 0⟩) Hb.out HgC.out 4 (.string rf) (fun _ h => h))
   have hz10 : (w9.setCell ⟨C, 4, none⟩ (.string rf)).heap.size = w9.heap.size := by simp [World.setCell]
   have HN := oneW_c b l9 ok9 [w_restrict, w_cascade, w_setnull] (by decide) (w9.setCell ⟨C, 4, none⟩ (.string rf)) HI10.out.p
   rw [hz10] at HN
   refine HN.mono ?_
   rintro e w11 ⟨⟨ac, l11, ok11, rfl, hv11, hp11, hpo11⟩, ha11⟩
   have HI11 := Lib.hid (HI10.out.step Hb.out HgC.out hp11 ha11)
   have Hpo11 := Lib.hid hpo11
   clear c0 c1 c2 c3 c4 c5 f0 f1 f2 f3 f4 f5 hlt
   obtain ⟨c0, c1, c2, c3, c4, c5, f0, f1, f2, f3, f4, f5, hlt⟩ := HI11.out.c.all
   obtain ⟨r0, r1, r2, r3, r4, r5, g0, g1, g2, g3, g4, g5, hlt2⟩ := BkC.all (c := cl0) HI11.out.z
   have HI12 := Lib.hid (HI11.out.set (c' := ⟨nm, 1 + v, nu, un, rf, ac⟩) Hb.out HgC.out 5 (.int .i64 ac) (fun _ h => h))
   clear hp11 ha11 hpo11 HI9 HI10 HI11 HN hz10
   go_wp2
   refine ret_cl (b := w.heap.size) (a := ⟨nm, 1 + v, nu, un, rf, ac⟩) Tryz.results95 rfl (Bk.put HI12.out.z (rdCl ⟨nm, 1 + v, nu, un, rf, ac⟩) rfl) rfl ?_
   rw [← HS.out]
   refine ⟨⟨nm, 1 + v, nu, un, rf, ac⟩, l11, ok11, rfl, HI12.out.p.put Hb.out 0 (rdCl ⟨nm, 1 + v, nu, un, rf, ac⟩), Hcol.out _ _ _ ?_, HI12.out.a.put (Nat.le_refl _) 0 (rdCl ⟨nm, 1 + v, nu, un, rf, ac⟩)⟩
   rw [show (1 : Int) + v = v + 1 by omega]
   exact Hpo9.out.bind (Hpo11.out.map rfl)
def SepJ {α : Type} (p : List Tk → Option (α × List Tk)) (ok0 : Bool) (l0 : List Tk) (acc : List α) (rest : List Tk) (okc : Bool) : Prop := (okc = true → ok0 = true ∧ sepP p l0 = (tailG p rest).map fun q => (acc ++ q.1, q.2)) ∧ (okc = false → (ok0 && (sepP p l0).isSome) = false)
theorem SepJ.first {α : Type} {p : List Tk → Option (α × List Tk)} (hp : ∀ l a, p l = some a → a.2.length ≤ l.length) {ok0 ok1 : Bool} {l0 l1 : List Tk} {x : α} (h : PO ok0 ok1 (p l0) x l1) : SepJ p ok0 l0 [x] l1 ok1 := by
 obtain ⟨h1, h2⟩ := h
 refine ⟨fun h => ?_, fun h => ?_⟩
 · have e := h2 h
   refine ⟨?_, by rw [sepP_eq hp, e]; simp⟩
   rw [h1] at h
   simp only [Bool.and_eq_true] at h
   exact h.1
 · rw [h1] at h
   rw [sepP_eq hp]
   cases ok0
   · rfl
   · cases e : p l0 with
     | none => rfl
     | some z => rw [e] at h; cases h
theorem SepJ.next {α : Type} {p : List Tk → Option (α × List Tk)} (hp : ∀ l a, p l = some a → a.2.length ≤ l.length) {ok0 ok2 : Bool} {l0 rest l2 : List Tk} {acc : List α} {x : α} (h : SepJ p ok0 l0 acc rest true) (ht : (takeP s_cm rest).1 = true) (h2 : PO true ok2 (p (takeP s_cm rest).2) x l2) : SepJ p ok0 l0 (acc ++ [x]) l2 ok2 := by
 obtain ⟨hok, he⟩ := h.1 rfl
 subst hok
 have ht2 : tailG p rest = sepP p (takeP s_cm rest).2 := by unfold tailG; rw [ht]; rfl
 rw [ht2, sepP_eq hp (takeP s_cm rest).2] at he
 obtain ⟨a1, a2⟩ := h2
 refine ⟨fun h => ⟨rfl, ?_⟩, fun h => ?_⟩
 · rw [he, a2 h]
   simp only [Option.bind_some]
   cases tailG p l2 with
   | none => rfl
   | some q => simp
 · rw [h] at a1
   cases e : p (takeP s_cm rest).2 with
   | none => rw [he, e]; rfl
   | some z => rw [e] at a1; cases a1
theorem SepJ.stop {α : Type} {p : List Tk → Option (α × List Tk)} {ok0 okc : Bool} {l0 rest : List Tk} {acc : List α} (h : SepJ p ok0 l0 acc rest okc) (ht : okc = true → (takeP s_cm rest).1 = false) : PO ok0 okc (sepP p l0) acc rest := by
 cases okc
 · exact ⟨(h.2 rfl).symm, fun h => by cases h⟩
 · obtain ⟨hok, he⟩ := h.1 rfl
   subst hok
   have e : sepP p l0 = some (acc, rest) := by
    rw [he]
    unfold tailG
    rw [ht rfl]
    simp
   exact po_some true e
structure TC (b C : Nat) (nm : ByteArray) (w0 u : World) (l : List Tk) (ok : Bool) (acc : List Cl) (v : Value) : Prop where
 p : Pq u b l ok
 a : Apq b w0 u
 bk : Bk u C #[.string nm, v, .slice none 0 0] 25
 own : OwnG u (C + 1) 64 6 rdCl v acc
theorem TC.step {b C : Nat} {nm : ByteArray} {w0 u u' : World} {l q : List Tk} {ok k : Bool} {acc : List Cl} {v : Value} (h : TC b C nm w0 u l ok acc v) (hbC : b < C) (hp : Pq u' b q k) (ha : Apq b u u') : TC b C nm w0 u' q k acc v :=
 ⟨hp, h.a.trans ha, h.bk.keptq ha (by omega), h.own.keptq ha (by omega)⟩
def ChkJ (ok0 : Bool) (l0 : List Tk) (hs : List (Sx Nd)) (rest : List Tk) (okc : Bool) : Prop := (okc = true → ok0 = true ∧ checksG l0 = (checksG rest).map fun k => (hs.map (·.xs) ++ k.1, k.2)) ∧ (okc = false → (ok0 && (checksG l0).isSome) = false)
theorem ChkJ.next {ok0 ok2 : Bool} {l0 rest l2 : List Tk} {hs : List (Sx Nd)} {x : Sx Nd} (h : ChkJ ok0 l0 hs rest true) (ht : (takeP w_check rest).1 = true) (h2 : PO true ok2 (exprP (takeP w_check rest).2) x.xs l2) : ChkJ ok0 l0 (hs ++ [x]) l2 ok2 := by
 obtain ⟨hok, he⟩ := h.1 rfl
 subst hok
 rw [checksG_eq rest, ht] at he
 simp only [if_true] at he
 obtain ⟨a1, a2⟩ := h2
 refine ⟨fun h => ⟨rfl, ?_⟩, fun h => ?_⟩
 · rw [he, a2 h]
   simp only [Option.bind_some]
   cases checksG l2 with
   | none => rfl
   | some q => simp
 · rw [h] at a1
   cases e : exprP (takeP w_check rest).2 with
   | none => rw [he, e]; rfl
   | some z => rw [e] at a1; cases a1
theorem ChkJ.stop {ok0 okc : Bool} {l0 rest : List Tk} {hs : List (Sx Nd)} (h : ChkJ ok0 l0 hs rest okc) (ht : okc = true → (takeP w_check rest).1 = false) : PO ok0 okc (checksG l0) (hs.map (·.xs)) rest := by
 cases okc
 · exact ⟨(h.2 rfl).symm, fun h => by cases h⟩
 · obtain ⟨hok, he⟩ := h.1 rfl
   subst hok
   have e : checksG l0 = some (hs.map (·.xs), rest) := by
    rw [he, checksG_eq rest, ht rfl]
    simp
   exact po_some true e
structure TK (b C B : Nat) (nm : ByteArray) (cv : Value) (W w4 u : World) (l : List Tk) (ok : Bool) (hs : List (Sx Nd)) (v : Value) : Prop where
 p : Pq u b l ok
 a : Apq b W u
 bk : Bk u C #[.string nm, cv, v] 25
 own : OwnG u B 28 1 rdX v hs
 each : ∀ h ∈ hs, OutX u v.ownBlock B h
 keep : ∀ k, k < B → k ≠ b → k ≠ C → u.heap[k]? = w4.heap[k]?
 siz : B ≤ u.heap.size
theorem TK.step {b C B : Nat} {nm : ByteArray} {cv : Value} {W w4 u u' : World} {l q : List Tk} {ok k : Bool} {hs : List (Sx Nd)} {v : Value} (h : TK b C B nm cv W w4 u l ok hs v) (hbC : b < C) (hbB : b < B) (hp : Pq u' b q k) (ha : Apq b u u') : TK b C B nm cv W w4 u' q k hs v :=
 ⟨hp, h.a.trans ha, h.bk.keptq ha (by omega), h.own.keptq ha hbB, fun x hx => (h.each x hx).same ha.size fun k h1 h2 h3 => ⟨ha.other k h2 (by omega), h3⟩, fun k h1 h2 h3 => (ha.other k (by have := h.siz; omega) h2).trans (h.keep k h1 h2 h3), Nat.le_trans h.siz ha.size⟩
theorem TK.app {b C B : Nat} {nm : ByteArray} {cv : Value} {W w4 u : World} {l : List Tk} {ok : Bool} {hs : List (Sx Nd)} {v : Value} (h : TK b C B nm cv W w4 u l ok hs v) (hbC : b < C) (hbB : b < B) (hCB : C < B) (hWC : W.heap.size ≤ C) {x : Sx Nd} {lo : Nat} (hlo : B ≤ lo) (hv : ∀ k, v.ownBlock = some k → k < lo) (hx : x.In u 5 rdN) (hxl : ∀ k, x.A.map (·.block) = some k → lo ≤ k ∧ k < u.heap.size) {o : Obj} {u' : World} {nv : Value} (hn : OwnG u' B 28 1 rdX nv (hs ++ [x])) (hg : (u.alloc o).grownBy u' v.ownBlock) (hl : nv.ownBlock = v.ownBlock ∨ nv.ownBlock = some (u.alloc o).heap.size) : TK b C B nm cv W w4 (u'.setCell ⟨C, 2, none⟩ nv) l ok (hs ++ [x]) nv := by
 have hown : ∀ k, v.ownBlock = some k → B ≤ k ∧ k < u.heap.size := fun k hk => h.own.lt k hk
 have hbk2 : ∀ k, k < u.heap.size → some k ≠ v.ownBlock → u'.heap[k]? = u.heap[k]? := fun k hk hne => (hg.block k (by simp; omega) hne).trans (Below.heap_alloc _ _ k hk)
 have hs2 : u.heap.size ≤ u'.heap.size := by have := hg.size; simp at this; omega
 have hset : ∀ k, k ≠ C → (u'.setCell ⟨C, 2, none⟩ nv).heap[k]? = u'.heap[k]? := fun k hk => Below.heap_setCell _ _ _ _ hk
 have hsz2 : (u'.setCell ⟨C, 2, none⟩ nv).heap.size = u'.heap.size := by simp [World.setCell]
 have hCv : some C ≠ v.ownBlock := fun e => by have := (hown C e.symm).1; omega
 have hbu := h.p.lt
 have hsB := h.siz
 have hnew : ∀ k, k < u.heap.size → some k ≠ v.ownBlock → some k ≠ nv.ownBlock := fun k hk hne e => by
  rcases hl with h1 | h1
  · exact hne (e.trans h1)
  · have h2 := e.trans h1
    simp at h2
    omega
 refine ⟨?_, ?_, ?_, ?_, ?_, ?_, ?_⟩
 · exact (h.p.same fun k hk => hbk2 k (by omega) (fun e => by have := (hown k e.symm).1; omega)).own hbC 2 _
 · exact ((h.a.alloc _).grown hg (fun k hk => by have := (hown k hk).1; omega)).own hWC 2 _
 · exact Bk.set (cs := #[.string nm, cv, v]) ((hbk2 C h.bk.lt hCv).trans h.bk) 2 nv
 · exact hn.same fun k hk => hset k (by have := (hn.lt k hk).1; omega)
 · intro y hy
   rcases List.mem_append.1 hy with hy | hy
   · exact (h.each y hy).same (by rw [hsz2]; exact hs2) fun k h1 h2 h3 => ⟨by rw [hset k (by omega)]; exact hbk2 k h2 h3, hnew k h2 h3⟩
   · rw [List.mem_singleton] at hy
     subst hy
     refine ⟨hx.same (by rw [hsz2]; exact hs2) fun k hk => ?_, fun k hk => ?_⟩
     · have h1 := hxl k hk
       rw [hset k (by omega)]
       exact hbk2 k h1.2 (fun e => by have := hv k e.symm; omega)
     · have h1 := hxl k hk
       exact ⟨by omega, by rw [hsz2]; omega, hnew k h1.2 (fun e => by have := hv k e.symm; omega)⟩
 · intro k h1 h2 h3
   rw [hset k h3, hbk2 k (by omega) (fun e => by have := (hown k e.symm).1; omega)]
   exact h.keep k h1 h2 h3
 · rw [hsz2]; omega
theorem TK.fin {b C : Nat} {nm : ByteArray} {Ac : Option Addr} {cc : Nat} {cols : List Cl} {W w4 u : World} {l : List Tk} {ok : Bool} {hs : List (Sx Nd)} {v : Value} (h : TK b C w4.heap.size nm (.slice Ac cols.length cc) W w4 u l ok hs v) (hbC : b < C) (hCw : C < w4.heap.size) (hcin : (⟨Ac, cols.length, cc, cols⟩ : Sx Cl).In w4 6 rdCl) (hclo : ∀ k, Ac.map (·.block) = some k → C + 1 ≤ k ∧ k < w4.heap.size) :
 ∃ Av c5, v = .slice Av hs.length c5 ∧ (⟨nm, ⟨Ac, cols.length, cc, cols⟩, ⟨Av, hs.length, c5, hs⟩⟩ : Tm).In u ∧ (⟨nm, ⟨Ac, cols.length, cc, cols⟩, ⟨Av, hs.length, c5, hs⟩⟩ : Tm).Lo (C + 1) := by
 obtain ⟨Av, c5, hv, hin, hbl⟩ := h.own.sx eOk7.len
 refine ⟨Av, c5, hv, ⟨hcin.same h.siz fun k hk => h.keep k (hclo k hk).2 (by have := (hclo k hk).1; omega) (by have := (hclo k hk).1; omega), hin, fun e he => (h.each e he).1⟩, ⟨fun k hk => (hclo k hk).1, fun k hk => by have := (hbl k hk).1; omega, fun e he k hk => by have := ((h.each e he).2 k hk).1; omega⟩⟩
theorem Tm.In.same' {w w' : World} {x : Tm} {B : Nat} (h : x.In w) (hs : w.heap.size ≤ w'.heap.size) (hl : x.Lo B) (hb : ∀ k, B ≤ k → k < w.heap.size → w'.heap[k]? = w.heap[k]?) : x.In w' :=
 ⟨h.cols.same' hs hl.cols hb, h.chks.same' hs hl.chks hb, fun e he => (h.each e he).same' hs (hl.each e he) hb⟩
def TableQ (b : Nat) (w : World) (ok : Bool) (o : Option (Tb × List Tk)) (e : Ending) (w' : World) : Prop := ∃ (x : Tm) (l' : List Tk) (ok' : Bool), e = .returned x.w ∧ x.In w' ∧ x.Lo w.heap.size ∧ Pq w' b l' ok' ∧ PO ok ok' o x.tb l' ∧ Apq b w w'
set_option maxHeartbeats 2000000 in
theorem qtable_c (b : Nat) (l : List Tk) (ok : Bool) (w : World) (hP : Pq w b l ok) :
 Calls Tryz.prog 62 #[.pointer (some ⟨b, 0, none⟩)] w fun e w' => TableQ b w ok (tableP l) e w' := by
 obtain ⟨S, hS⟩ : ∃ S, TableQ b w ok (tableP l) = S := ⟨_, rfl⟩
 rw [hS]
 rw [tableP_eq] at hS
 have HS := Lib.hid hS
 have hb := hP.lt
 have Hb := Lib.hid hb
 obtain ⟨W, hW⟩ : ∃ W, w.alloc (.cells #[.string emp, .slice none 0 0, .slice none 0 0] 25) = W := ⟨_, rfl⟩
 have HP : Hid (Pq W b l ok) := Lib.hid (by rw [← hW]; exact hP.alloc _)
 have HA : Hid (Apq b w W) := Lib.hid (by rw [← hW]; exact (Apq.refl b w).alloc _)
 have HZ : Hid (Bk W w.heap.size #[.string emp, .slice none 0 0, .slice none 0 0] 25) := Lib.hid (by rw [← hW]; exact Bk.new w _ _)
 have HW : Hid (w.alloc (.cells #[.string ⟨#[]⟩, .slice none 0 0, .slice none 0 0] 25) = W) := hW
 clear hW hP hS
 go_enter Tryz.func62, Tryz.ntmps62
 go_wp2_with fail
 rw [HW.out]
 refine (qname_c b l ok W HP.out).mono ?_
 rintro e w1 ⟨rfl, ⟨ok1, hp1, hpo1⟩, ha1⟩
 obtain ⟨nm, hnm⟩ : ∃ nm, (nextT l).t = nm := ⟨_, rfl⟩
 obtain ⟨l1, hl1⟩ : ∃ l1, l.tail = l1 := ⟨_, rfl⟩
 rw [hnm, hl1] at hpo1
 rw [hl1] at hp1
 rw [hnm]
 have Hpo1 := Lib.hid hpo1
 have hg1 : w.heap.size < w1.heap.size := Nat.lt_of_lt_of_le HZ.out.lt ha1.size
 have hg2 : W.heap.size ≤ w1.heap.size := ha1.size
 have hbW : b < W.heap.size := HP.out.lt
 have HI1 : Hid (TC b w1.heap.size nm W (w1.alloc (.cells #[.string nm, .slice none 0 0, .slice none 0 0] 25)) l1 ok1 [] (.slice none 0 0)) := Lib.hid ⟨hp1.alloc _, ha1.alloc _, Bk.new _ _ _, OwnG.nil _ _ _⟩
 obtain ⟨C, hC⟩ : ∃ C, w1.heap.size = C := ⟨_, rfl⟩
 obtain ⟨W1, hW1⟩ : ∃ W1, w1.alloc (.cells #[.string nm, .slice none 0 0, .slice none 0 0] 25) = W1 := ⟨_, rfl⟩
 rw [hW1, hC] at HI1
 rw [hC] at hg1 hg2
 have hbC : b < C := by omega
 have hg2C : W.heap.size ≤ C := hg2
 have HW1 := Lib.hid hW1
 have HC := Lib.hid hC
 clear hp1 ha1 hpo1 hnm hl1 HP HW hW1 hC
 go_wp2_with fail
 rw [HW1.out, HC.out]
 clear HW1 HC
 refine (qneed_c b l1 ok1 s_lp W1 HI1.out.p).mono ?_
 rintro e w2 ⟨rfl, hp2, ha2⟩
 have HI2 := Lib.hid (HI1.out.step hbC hp2 ha2)
 obtain ⟨l2, hl2⟩ : ∃ l2, (takeP s_lp l1).2 = l2 := ⟨_, rfl⟩
 obtain ⟨ok2, hok2⟩ : ∃ ok2, (ok1 && (takeP s_lp l1).1) = ok2 := ⟨_, rfl⟩
 rw [hl2, hok2] at HI2
 have Hl2 := Lib.hid hl2
 have Hok2 := Lib.hid hok2
 clear hp2 ha2 HI1 hl2 hok2
 go_upto_region 3 with fail
 go_cut [15] (fun _ wx => ∃ (x : Cl) (l3 : List Tk) (ok3 : Bool) (v : Value), Hid (TC b C nm W wx l3 ok3 [x] v) ∧ Hid (PO ok2 ok3 (columnP l2) x l3))
 case first =>
  have c1 : w2.cell? ⟨C, 1, none⟩ = some (.slice none 0 0) := HI2.out.bk.cell 1
  have f1 := HI2.out.bk.thaw 1
  have hlC := HI2.out.bk.lt
  go_wp2_with fail
  go_region_law (first
   | (refine step_callV rfl 95 #[.pointer (some ⟨b, 0, none⟩)] (by kernel_rfl) (fun v' w' => ∃ (x : Cl) (l' : List Tk) (ok' : Bool), v' = x.w ∧ Pq w' b l' ok' ∧ PO ok2 ok' (columnP l2) x l' ∧ Apq b w2 w') ((qcolumn_c b l2 ok2 w2.drew HI2.out.p.drew).mono ?_) ?_
      · rintro e w6 ⟨x, l', ok', rfl, h1, h2, h3⟩
        exact .inl ⟨_, rfl, x, l', ok', rfl, h1, h2, (Apq.refl b w2).drew.trans h3⟩
      rintro v6 w6 ⟨x, l3, ok3, rfl, hp6, hpo6, ha6⟩
      have HI6 := Lib.hid (HI2.out.step hbC hp6 ha6)
      have Hpo3 := Lib.hid hpo6
      have c1' : w6.cell? ⟨C, 1, none⟩ = some (.slice none 0 0) := HI6.out.bk.cell 1
      have f1' := HI6.out.bk.thaw 1
      have hlC1 := HI6.out.bk.lt
      clear hp6 ha6 hpo6)
   | (refine step_appG cOk7 rfl (.tmp 10) (.tmp 13) rfl (C + 1) (.slice none 0 0) ([] : List Cl) [x] rfl (HI6.out.own.alloc _) (some ⟨w6.heap.size, 0, none⟩) 1 1 rfl rfl (by simp) (SlG.new cOk7.len [x] rfl) (by first | (simp [maxLen]; done) | (simp [maxLen]; omega)) (by first | (simp; done) | (simp; omega)) (by simp; omega) ?_
      intro g2 cap w7 hv2 hg2
      have HO4 := Lib.hid hv2
      have hkb : ∀ k, k ≤ C → w7.heap[k]? = w6.heap[k]? := fun k hk => (hg2.block k (by simp; omega) (fun e => by have := (HI6.out.own.lt _ e.symm).1; omega)).trans (Below.heap_alloc _ _ k (by omega))
      have HV4 : Hid (Bk w7 C #[.string nm, (.slice none 0 0), .slice none 0 0] 25) := Lib.hid ((hkb C (Nat.le_refl _)).trans HI6.out.bk)
      have HF4 : Hid (∀ nv, OwnG w7 (C + 1) 64 6 rdCl nv (([] : List Cl) ++ [x]) → TC b C nm W (w7.setCell ⟨C, 1, none⟩ nv) l3 ok3 (([] : List Cl) ++ [x]) nv) := Lib.hid (fun nv ho => ⟨(HI6.out.p.same fun k hk => hkb k (by omega)).own hbC 1 _, ((HI6.out.a.alloc _).grown hg2 (fun k hk => by have := (HI6.out.own.lt k hk).1; omega)).own hg2C 1 _, HV4.out.set 1 _, ho.same fun k hk => Below.heap_setCell _ _ _ _ (by have := (ho.lt k hk).1; show k ≠ C; omega)⟩)
      have c1'' : w7.cell? ⟨C, 1, none⟩ = some (.slice none 0 0) := HV4.out.cell 1
      have f1'' := HV4.out.thaw 1
      have hlC2 := HV4.out.lt
      clear hv2 hg2 hkb))
  all_goals
   go_wp2
   go_meet
   exact ⟨x, l3, ok3, _, Lib.hid (HF4.out (.slice (some ⟨g2, 0, none⟩) 1 cap) HO4.out), Hpo3⟩
 case rest =>
  obtain ⟨x0, l3, ok3, v0, hi3, hpo3⟩ := hcut
  clear HI2
  go_step
  go_step
  go_cut [23] (fun _ wx => ∃ (cols : List Cl) (rest : List Tk) (okc : Bool) (v : Value), Hid (TC b C nm W wx rest okc cols v) ∧ Hid (PO ok2 okc (sepP columnP l2) cols rest) ∧ Hid (cols.length ≤ 20002))
  case first =>
   go_wp2_with fail
   go_loopw [23] (fun _ wr => ∃ (acc : List Cl) (rest : List Tk) (okc : Bool) (v : Value), Hid (TC b C nm W wr rest okc acc v) ∧ Hid (SepJ columnP ok2 l2 acc rest okc) ∧ Hid (acc.length ≤ 20002 ∧ (okc = true → acc.length + rest.length ≤ 20001))) (fun _ wr => pqLen wr b)
   case atStart => exact ⟨[x0], l3, ok3, v0, hi3, Lib.hid (SepJ.first (fun l a h => Nat.le_of_lt (column_len h)) hpo3.out), Lib.hid ⟨by simp, fun _ => by have := hi3.out.p.len; simp; omega⟩⟩
   case round =>
    clear hi3 hpo3
    obtain ⟨acc, rest, okc, v, hi, hj, hn⟩ := hrel
    have Hleft := Lib.hid hi.out.p.left
    obtain ⟨p2, hfz⟩ := hi.out.p.ok
    have hbl := hi.out.p.lt
    cases okc
    case false =>
     have Hpo := Lib.hid (hj.out.stop (fun h => by cases h))
     have Hn := Lib.hid hn.out.1
     clear hj hn
     go_wp2_with fail
     go_meet
     exact ⟨acc, rest, false, v, hi, Hpo, Hn⟩
    case true =>
     have HT := Lib.hid (qtake_c b rest true s_cm wr hi.out.p)
     go_wp2_with fail
     refine HT.out.mono ?_
     rintro e w5 ⟨rfl, hp5, ha5⟩
     have HI5 := Lib.hid (hi.out.step hbC hp5 ha5)
     clear HT hp5 ha5 hi p2 hfz hbl
     cases hR : (takeP s_cm rest).1
     case false =>
      rw [take_no hR] at HI5
      have Hpo := Lib.hid (hj.out.stop (fun _ => hR))
      have Hn := Lib.hid hn.out.1
      clear hj hn hR
      go_wp2_with fail
      go_meet
      exact ⟨acc, rest, true, v, HI5, Hpo, Hn⟩
     case true =>
      have hlt5 := (take_len s_cm rest).2 hR
      have hjn : ∀ (x : Cl) (l2' : List Tk) (ok2' : Bool), PO true ok2' (columnP (takeP s_cm rest).2) x l2' → SepJ columnP ok2 l2 (acc ++ [x]) l2' ok2' := fun x l2' ok2' h => hj.out.next (fun l a h => Nat.le_of_lt (column_len h)) hR h
      have Hjn := Lib.hid hjn
      obtain ⟨l5, hl5⟩ : ∃ l5, (takeP s_cm rest).2 = l5 := ⟨_, rfl⟩
      rw [hl5] at HI5 Hjn hlt5
      have hn1 := hn.out.1
      have hn2 := hn.out.2 (by first | rfl | trivial)
      have c1 : w5.cell? ⟨C, 1, none⟩ = some v := HI5.out.bk.cell 1
      have f1 := HI5.out.bk.thaw 1
      have hlC := HI5.out.bk.lt
      clear hj hn hR hjn hl5
      go_wp2_with fail
      go_region_law (first
       | (refine step_callV rfl 95 #[.pointer (some ⟨b, 0, none⟩)] (by kernel_rfl) (fun v' w' => ∃ (x : Cl) (l' : List Tk) (ok' : Bool), v' = x.w ∧ Pq w' b l' ok' ∧ PO true ok' (columnP l5) x l' ∧ Apq b w5 w') ((qcolumn_c b l5 true w5.drew HI5.out.p.drew).mono ?_) ?_
          · rintro e w6 ⟨x, l', ok', rfl, h1, h2, h3⟩
            exact .inl ⟨_, rfl, x, l', ok', rfl, h1, h2, (Apq.refl b w5).drew.trans h3⟩
          rintro v6 w6 ⟨x, l3, ok3, rfl, hp6, hpo6, ha6⟩
          have HI6 := Lib.hid (HI5.out.step hbC hp6 ha6)
          have Hpo3 := Lib.hid hpo6
          have c1' : w6.cell? ⟨C, 1, none⟩ = some v := HI6.out.bk.cell 1
          have f1' := HI6.out.bk.thaw 1
          have hlC1 := HI6.out.bk.lt
          clear hp6 ha6 hpo6)
       | (refine step_appG cOk7 rfl (.tmp 25) (.tmp 28) rfl (C + 1) v acc [x] rfl (HI6.out.own.alloc _) (some ⟨w6.heap.size, 0, none⟩) 1 1 rfl rfl (by simp) (SlG.new cOk7.len [x] rfl) (by first | (simp [maxLen]; done) | (simp [maxLen]; omega)) (by first | (simp; done) | (simp; omega)) (by simp; omega) ?_
          intro g2 cap w7 hv2 hg2
          have HO4 := Lib.hid hv2
          have hkb : ∀ k, k ≤ C → w7.heap[k]? = w6.heap[k]? := fun k hk => (hg2.block k (by simp; omega) (fun e => by have := (HI6.out.own.lt _ e.symm).1; omega)).trans (Below.heap_alloc _ _ k (by omega))
          have HV4 : Hid (Bk w7 C #[.string nm, v, .slice none 0 0] 25) := Lib.hid ((hkb C (Nat.le_refl _)).trans HI6.out.bk)
          have HF4 : Hid (∀ nv, OwnG w7 (C + 1) 64 6 rdCl nv (acc ++ [x]) → TC b C nm W (w7.setCell ⟨C, 1, none⟩ nv) l3 ok3 (acc ++ [x]) nv) := Lib.hid (fun nv ho => ⟨(HI6.out.p.same fun k hk => hkb k (by omega)).own hbC 1 _, ((HI6.out.a.alloc _).grown hg2 (fun k hk => by have := (HI6.out.own.lt k hk).1; omega)).own hg2C 1 _, HV4.out.set 1 _, ho.same fun k hk => Below.heap_setCell _ _ _ _ (by have := (ho.lt k hk).1; show k ≠ C; omega)⟩)
          have c1'' : w7.cell? ⟨C, 1, none⟩ = some v := HV4.out.cell 1
          have f1'' := HV4.out.thaw 1
          have hlC2 := HV4.out.lt
          clear hv2 hg2 hkb))
      all_goals
       have hlen3 : ok3 = true → l3.length < l5.length := fun h => column_len (Hpo3.out.2 h)
       have Hlen3 := Lib.hid hlen3
       clear hlen3
       go_wp2
       go_roundw
       case rel => exact ⟨acc ++ [x], l3, ok3, _, Lib.hid (HF4.out _ HO4.out), Lib.hid (Hjn.out x l3 ok3 Hpo3.out), Lib.hid ⟨by simp; omega, fun h => by have := Hlen3.out h; simp; omega⟩⟩
       case measure =>
        rw [Hleft.out]
        refine Nat.lt_of_le_of_lt (Nat.le_of_eq (HF4.out _ HO4.out).p.left) ?_
        cases ok3
        · simp
        · have := Hlen3.out rfl
          simp; omega
  case rest =>
   obtain ⟨cols, lc, okc, cv, hi, hpoc, hnc⟩ := hcut
   have HnC := Lib.hid hnc.out
   clear hnc
   go_step
   go_step
   go_cut [32] (fun _ wx => ∃ (l4 : List Tk) (ok4 : Bool), Hid (TC b C nm W wx l4 ok4 cols cv) ∧ Hid (l4 = (takeP s_rp lc).2 ∧ ok4 = (okc && (takeP s_rp lc).1)))
   case first =>
    go_wp2_with fail
    refine (qneed_c b lc okc s_rp wc hi.out.p).mono ?_
    rintro e w4 ⟨rfl, hp4, ha4⟩
    have HI4 := Lib.hid (hi.out.step hbC hp4 ha4)
    clear hp4 ha4 hi
    go_wp2_with fail
    go_meet
    exact ⟨_, _, HI4, Lib.hid ⟨rfl, rfl⟩⟩
   case rest =>
    clear hi
    obtain ⟨l4, ok4, hi, he4⟩ := hcut
    obtain ⟨Ac, cc, hcv, hin4, hbl4⟩ := hi.out.own.sx cOk7.len
    subst hcv
    have HN4 := Lib.hid hin4
    have HL4 := Lib.hid hbl4
    obtain ⟨w4, hw4⟩ : ∃ w4, wc = w4 := ⟨_, rfl⟩
    have hCw : C < w4.heap.size := by rw [← hw4]; exact hi.out.bk.lt
    have HK4 : Hid (TK b C w4.heap.size nm (.slice Ac cols.length cc) W w4 wc l4 ok4 [] (.slice none 0 0)) := Lib.hid (by
     subst hw4
     exact ⟨hi.out.p, hi.out.a, hi.out.bk, OwnG.nil _ _ _, fun x hx => (by cases hx), fun _ _ _ _ => rfl, Nat.le_refl _⟩)
    rw [hw4] at HN4 HL4
    clear hi hin4 hbl4 hw4
    go_step
    go_step
    go_cut [40] (fun _ wx => ∃ (hs : List (Sx Nd)) (rest : List Tk) (okk : Bool) (v : Value), Hid (TK b C w4.heap.size nm (.slice Ac cols.length cc) W w4 wx rest okk hs v) ∧ Hid (PO ok4 okk (checksG l4) (hs.map (·.xs)) rest) ∧ Hid (hs.length ≤ 20002))
    case first =>
     go_wp2_with fail
     go_loopw [40] (fun _ wr => ∃ (hs : List (Sx Nd)) (rest : List Tk) (okk : Bool) (v : Value), Hid (TK b C w4.heap.size nm (.slice Ac cols.length cc) W w4 wr rest okk hs v) ∧ Hid (ChkJ ok4 l4 hs rest okk) ∧ Hid (hs.length ≤ 20002 ∧ (okk = true → hs.length + rest.length ≤ 20001))) (fun _ wr => pqLen wr b)
     case atStart => exact ⟨[], l4, ok4, _, HK4, Lib.hid ⟨fun h => ⟨h, by cases checksG l4 <;> rfl⟩, fun h => by rw [h]; rfl⟩, Lib.hid ⟨by simp, fun _ => by have := HK4.out.p.len; simp; omega⟩⟩
     case round =>
      clear HK4
      obtain ⟨hs, rest, okk, v, hi, hj, hn⟩ := hrel
      have Hleft := Lib.hid hi.out.p.left
      obtain ⟨p2, hfz⟩ := hi.out.p.ok
      have hbl := hi.out.p.lt
      have hbB : b < w4.heap.size := by omega
      cases okk
      case false =>
       have Hpo := Lib.hid (hj.out.stop (fun h => by cases h))
       have Hn := Lib.hid hn.out.1
       clear hj hn
       go_wp2_with fail
       go_meet
       exact ⟨hs, rest, false, v, hi, Hpo, Hn⟩
      case true =>
       have HT := Lib.hid (qtake_c b rest true w_check wr hi.out.p)
       go_wp2_with fail
       refine HT.out.mono ?_
       rintro e w5 ⟨rfl, hp5, ha5⟩
       have HI5 := Lib.hid (hi.out.step hbC hbB hp5 ha5)
       clear HT hp5 ha5 hi p2 hfz hbl
       cases hR : (takeP w_check rest).1
       case false =>
        rw [take_no hR] at HI5
        have Hpo := Lib.hid (hj.out.stop (fun _ => hR))
        have Hn := Lib.hid hn.out.1
        clear hj hn hR
        go_wp2_with fail
        go_meet
        exact ⟨hs, rest, true, v, HI5, Hpo, Hn⟩
       case true =>
        have hlt5 := (take_len w_check rest).2 hR
        have hjn : ∀ (x : Sx Nd) (l2' : List Tk) (ok2' : Bool), PO true ok2' (exprP (takeP w_check rest).2) x.xs l2' → ChkJ ok4 l4 (hs ++ [x]) l2' ok2' := fun x l2' ok2' h => hj.out.next hR h
        have Hjn := Lib.hid hjn
        obtain ⟨l5, hl5⟩ : ∃ l5, (takeP w_check rest).2 = l5 := ⟨_, rfl⟩
        rw [hl5] at HI5 Hjn hlt5
        have hn1 := hn.out.1
        have hn2 := hn.out.2 (by first | rfl | trivial)
        have c2 : w5.cell? ⟨C, 2, none⟩ = some v := HI5.out.bk.cell 2
        have f2 := HI5.out.bk.thaw 2
        have hlC := HI5.out.bk.lt
        have hsz5 := HI5.out.siz
        have Hvl : Hid (∀ k, v.ownBlock = some k → w4.heap.size ≤ k ∧ k < w5.heap.size) := Lib.hid fun k hk => HI5.out.own.lt k hk
        clear hj hn hR hjn hl5
        go_wp2_with fail
        go_region_law (first
         | (refine step_callV rfl 96 #[.pointer (some ⟨b, 0, none⟩)] (by kernel_rfl) (fun v' w' => ∃ (es : List Nd) (l' : List Tk) (ok' : Bool), OwnG w' w5.heap.size 66 5 rdN v' es ∧ es.length ≤ 101 ∧ Pq w' b l' ok' ∧ PO true ok' (exprP l5) es l' ∧ Apq b w5 w') ((qexpr_c b l5 true w5.drew HI5.out.p.drew).mono ?_) ?_
            · rintro e wx ⟨v', es, l', ok', rfl, h1, h2, h3, h4, h5⟩
              exact .inl ⟨v', rfl, es, l', ok', h1, h2, h3, h4, (Apq.refl b w5).drew.trans h5⟩
            rintro ve wx ⟨es, l6, ok6, hoe, hle, hp6, hpo6, hb1⟩
            obtain ⟨Ae, ce, hve, hine, hble⟩ := hoe.sx nOk.len
            subst hve
            have HI6 := Lib.hid (HI5.out.step hbC hbB hp6 hb1)
            have Hpo6 := Lib.hid hpo6
            have Hine := Lib.hid hine
            have Hble := Lib.hid hble
            have c2' : wx.cell? ⟨C, 2, none⟩ = some v := HI6.out.bk.cell 2
            have f2' := HI6.out.bk.thaw 2
            have hlC1 := HI6.out.bk.lt
            have hsz6 := HI6.out.siz
            clear hp6 hb1 hoe hine hble hpo6)
         | (refine step_appL eOk7 rfl (.tmp 42) (.tmp 45) rfl w4.heap.size v hs [⟨Ae, es.length, ce, es⟩] rfl (HI6.out.own.alloc _) (some ⟨wx.heap.size, 0, none⟩) 1 1 rfl rfl (SlG.new eOk7.len [⟨Ae, es.length, ce, es⟩] rfl) (by first | (simp [maxLen]; done) | (simp [maxLen]; omega)) (by first | (simp; done) | (simp; omega)) (by simp; omega) ?_
            intro A2 c2x w2x hv2 hg2 hloc
            have HF : Hid (TK b C w4.heap.size nm (.slice Ac cols.length cc) W w4 (w2x.setCell ⟨C, 2, none⟩ (.slice A2 (hs.length + [(⟨Ae, es.length, ce, es⟩ : Sx Nd)].length) c2x)) l6 ok6 (hs ++ [⟨Ae, es.length, ce, es⟩]) (.slice A2 (hs.length + [(⟨Ae, es.length, ce, es⟩ : Sx Nd)].length) c2x)) := Lib.hid (HI6.out.app hbC hbB hCw hg2C hsz5 (fun k hk => (Hvl.out k hk).2) Hine.out Hble.out hv2 hg2 hloc)
            have HV2 : Hid (Bk w2x C #[.string nm, .slice Ac cols.length cc, v] 25) := Lib.hid (((hg2.block C (by simp; omega) (fun e => by have := (Hvl.out _ e.symm).1; omega)).trans (Below.heap_alloc _ _ C (by omega))).trans HI6.out.bk)
            have c2'' : w2x.cell? ⟨C, 2, none⟩ = some v := HV2.out.cell 2
            have f2'' := HV2.out.thaw 2
            have hlC2 := HV2.out.lt
            clear hv2 hg2 hloc))
        all_goals
         have hlen3 : ok6 = true → l6.length < l5.length := fun h => expr_len (Hpo6.out.2 h)
         have Hlen3 := Lib.hid hlen3
         clear hlen3
         go_wp2
         go_roundw
         case rel => exact ⟨_, l6, ok6, _, HF, Lib.hid (Hjn.out ⟨Ae, es.length, ce, es⟩ l6 ok6 Hpo6.out), Lib.hid ⟨by simp; omega, fun h => by have := Hlen3.out h; simp; omega⟩⟩
         case measure =>
          rw [Hleft.out]
          refine Nat.lt_of_le_of_lt (Nat.le_of_eq HF.out.p.left) ?_
          cases ok6
          · simp
          · have := Hlen3.out rfl
            simp; omega
    case rest =>
     clear HK4
     obtain ⟨hs, lz, okk, v, hi, hpok, hnk⟩ := hcut
     obtain ⟨Av, c5, hv, hin, hlo⟩ := hi.out.fin hbC hCw HN4.out HL4.out
     subst hv
     have Hin := Lib.hid hin
     have Hlo := Lib.hid hlo
     have hR := HZ.out.keptq hi.out.a (by omega)
     have t0 : wc.cell? ⟨w.heap.size, 0, none⟩ = some (.string emp) := hR.cell 0
     have t1 : wc.cell? ⟨w.heap.size, 1, none⟩ = some (.slice none 0 0) := hR.cell 1
     have t2 : wc.cell? ⟨w.heap.size, 2, none⟩ = some (.slice none 0 0) := hR.cell 2
     have z0 := hR.thaw 0
     have z1 := hR.thaw 1
     have z2 := hR.thaw 2
     have hRl := hR.lt
     have HR := Lib.hid hR
     have c0 : wc.cell? ⟨C, 0, none⟩ = some (.string nm) := hi.out.bk.cell 0
     have c1 : wc.cell? ⟨C, 1, none⟩ = some (.slice Ac cols.length cc) := hi.out.bk.cell 1
     have c2 : wc.cell? ⟨C, 2, none⟩ = some (.slice Av hs.length c5) := hi.out.bk.cell 2
     have hCl := hi.out.bk.lt
     obtain ⟨p2, hfz⟩ := hi.out.p.ok
     have hbl := hi.out.p.lt
     have hne : ¬ w.heap.size = C := by omega
     have hne2 : ¬ C = w.heap.size := by omega
     have hne3 : ¬ b = C := by omega
     have hne4 : ¬ C = b := by omega
     have hne5 : ¬ b = w.heap.size := by omega
     have hne6 : ¬ w.heap.size = b := by omega
     have hpoF : ∀ okf, PO okk okf (if cols.length ≤ 40 ∧ (hs.map (·.xs)).length ≤ 40 then some ((⟨nm, cols, hs.map (·.xs)⟩ : Tb), lz) else none) (⟨nm, cols, hs.map (·.xs)⟩ : Tb) lz → ∃ o, TableQ b w ok o = S ∧ PO ok okf o (⟨nm, cols, hs.map (·.xs)⟩ : Tb) lz := by
      intro okf h
      refine ⟨_, HS.out, Hpo1.out.bind (PO.need ?_)⟩
      show PO (ok1 && (takeP s_lp l1).1) okf _ _ _
      rw [Hl2.out, Hok2.out]
      refine hpoc.out.bind (PO.need ?_)
      show PO (okc && (takeP s_rp lc).1) okf _ _ _
      rw [← he4.out.1, ← he4.out.2]
      exact hpok.out.bind h
     have HpoF := Lib.hid hpoF
     clear hpoF hR hin hlo hpok hnk HnC
     by_cases h40 : cols.length ≤ 40
     · have d1 : ¬ (40 : Int) < (cols.length : Int) := by omega
       by_cases k40 : hs.length ≤ 40
       · have d2 : ¬ (40 : Int) < (hs.length : Int) := by omega
         obtain ⟨o, ho, hpo⟩ := HpoF.out okk (by rw [if_pos ⟨h40, by simpa using k40⟩]; exact PO.ret okk _ _)
         have Hfin := Lib.hid (And.intro ho hpo)
         clear ho hpo HpoF h40 k40
         go_wp2
         refine ret_tb (b := w.heap.size) (s := nm) (u := .slice Ac cols.length cc) (v := .slice Av hs.length c5) rfl rfl Tryz.results62 rfl (HR.out.put [.string nm, .slice Ac cols.length cc, .slice Av hs.length c5] rfl) rfl ?_
         rw [← Hfin.out.1]
         exact ⟨⟨nm, ⟨Ac, cols.length, cc, cols⟩, ⟨Av, hs.length, c5, hs⟩⟩, lz, okk, rfl, Hin.out.same' (by simp [World.setCell]) Hlo.out (fun k hk _ => putL_heap [.string nm, .slice Ac cols.length cc, .slice Av hs.length c5] wc w.heap.size 0 k (by omega)), Hlo.out.mono (by omega), hi.out.p.put Hb.out 0 [.string nm, .slice Ac cols.length cc, .slice Av hs.length c5], Hfin.out.2, (HA.out.trans hi.out.a).put (Nat.le_refl _) 0 [.string nm, .slice Ac cols.length cc, .slice Av hs.length c5]⟩
       · have d2 : (40 : Int) < (hs.length : Int) := by omega
         obtain ⟨o, ho, hpo⟩ := HpoF.out false (by rw [if_neg (fun h => k40 (by simpa using h.2))]; exact po_none okk rfl)
         have Hfin := Lib.hid (And.intro ho hpo)
         clear ho hpo HpoF h40 k40
         go_wp2
         refine ret_tb (b := w.heap.size) (s := nm) (u := .slice Ac cols.length cc) (v := .slice Av hs.length c5) rfl rfl Tryz.results62 rfl ((HR.out.keptq ((Apq.refl b wc).set 2 (.bool false)) (by omega)).put [.string nm, .slice Ac cols.length cc, .slice Av hs.length c5] rfl) rfl ?_
         rw [← Hfin.out.1]
         exact ⟨⟨nm, ⟨Ac, cols.length, cc, cols⟩, ⟨Av, hs.length, c5, hs⟩⟩, lz, false, rfl, Hin.out.same' (by simp [World.setCell]) Hlo.out (fun k hk _ => (putL_heap [.string nm, .slice Ac cols.length cc, .slice Av hs.length c5] (wc.setCell ⟨b, 2, none⟩ (.bool false)) w.heap.size 0 k (by omega)).trans (Below.heap_setCell _ _ _ _ (show k ≠ b by omega))), Hlo.out.mono (by omega), (hi.out.p.not false).put Hb.out 0 [.string nm, .slice Ac cols.length cc, .slice Av hs.length c5], Hfin.out.2, ((HA.out.trans hi.out.a).set 2 (.bool false)).put (Nat.le_refl _) 0 [.string nm, .slice Ac cols.length cc, .slice Av hs.length c5]⟩
     · have d1 : (40 : Int) < (cols.length : Int) := by omega
       obtain ⟨o, ho, hpo⟩ := HpoF.out false (by rw [if_neg (fun h => h40 h.1)]; exact po_none okk rfl)
       have Hfin := Lib.hid (And.intro ho hpo)
       clear ho hpo HpoF h40
       go_wp2
       refine ret_tb (b := w.heap.size) (s := nm) (u := .slice Ac cols.length cc) (v := .slice Av hs.length c5) rfl rfl Tryz.results62 rfl ((HR.out.keptq ((Apq.refl b wc).set 2 (.bool false)) (by omega)).put [.string nm, .slice Ac cols.length cc, .slice Av hs.length c5] rfl) rfl ?_
       rw [← Hfin.out.1]
       exact ⟨⟨nm, ⟨Ac, cols.length, cc, cols⟩, ⟨Av, hs.length, c5, hs⟩⟩, lz, false, rfl, Hin.out.same' (by simp [World.setCell]) Hlo.out (fun k hk _ => (putL_heap [.string nm, .slice Ac cols.length cc, .slice Av hs.length c5] (wc.setCell ⟨b, 2, none⟩ (.bool false)) w.heap.size 0 k (by omega)).trans (Below.heap_setCell _ _ _ _ (show k ≠ b by omega))), Hlo.out.mono (by omega), (hi.out.p.not false).put Hb.out 0 [.string nm, .slice Ac cols.length cc, .slice Av hs.length c5], Hfin.out.2, ((HA.out.trans hi.out.a).set 2 (.bool false)).put (Nat.le_refl _) 0 [.string nm, .slice Ac cols.length cc, .slice Av hs.length c5]⟩
structure VQ (b V : Nat) (W u : World) (l : List Tk) (ok : Bool) (cs : Array Value) : Prop where
 p : Pq u b l ok
 a : Apq b W u
 bk : Bk u V cs 32
theorem VQ.step {b V : Nat} {W u u' : World} {l q : List Tk} {ok k : Bool} {cs : Array Value} (h : VQ b V W u l ok cs) (hbV : b < V) (hp : Pq u' b q k) (ha : Apq b u u') : VQ b V W u' q k cs := ⟨hp, h.a.trans ha, h.bk.keptq ha (by omega)⟩
theorem VQ.set {b V : Nat} {W u : World} {l : List Tk} {ok : Bool} {cs : Array Value} (h : VQ b V W u l ok cs) (hbV : b < V) (hWV : W.heap.size ≤ V) (j : Nat) (x : Value) : VQ b V W (u.setCell ⟨V, j, none⟩ x) l ok (cs.setIfInBounds j x) := ⟨h.p.own hbV j x, h.a.own hWV j x, h.bk.set j x⟩
structure VL {α : Type} (b V B : Nat) (W w5 : World) (E : TypeId) (S : Nat) (rd : α → List Value) (cs : Value → Array Value) (u : World) (l : List Tk) (ok : Bool) (v : Value) (acc : List α) : Prop where
 q : VQ b V W u l ok (cs v)
 own : OwnG u B E S rd v acc
 keep : ∀ k, k < B → k ≠ b → k ≠ V → u.heap[k]? = w5.heap[k]?
 siz : B ≤ u.heap.size
section
variable {α : Type} {b V B : Nat} {W w5 : World} {E : TypeId} {S : Nat} {rd : α → List Value} {cs : Value → Array Value}
theorem VL.step {u u' : World} {l q : List Tk} {ok k : Bool} {v : Value} {acc : List α} (h : VL b V B W w5 E S rd cs u l ok v acc) (hbV : b < V) (hbB : b < B) (hp : Pq u' b q k) (ha : Apq b u u') : VL b V B W w5 E S rd cs u' q k v acc :=
 ⟨h.q.step hbV hp ha, h.own.keptq ha hbB, fun k h1 h2 h3 => (ha.other k (by have := h.siz; omega) h2).trans (h.keep k h1 h2 h3), Nat.le_trans h.siz ha.size⟩
theorem VL.app {u : World} {l : List Tk} {ok : Bool} {v : Value} {acc : List α} (h : VL b V B W w5 E S rd cs u l ok v acc) (hbV : b < V) (hbB : b < B) (hVB : V < B) (hWV : W.heap.size ≤ V) (j : Nat) (hcs : ∀ v nv, (cs v).setIfInBounds j nv = cs nv) {x : α} {o : Obj} {u' : World} {nv : Value} (hn : OwnG u' B E S rd nv (acc ++ [x])) (hg : (u.alloc o).grownBy u' v.ownBlock) : VL b V B W w5 E S rd cs (u'.setCell ⟨V, j, none⟩ nv) l ok nv (acc ++ [x]) := by
 have hown : ∀ k, v.ownBlock = some k → B ≤ k ∧ k < u.heap.size := fun k hk => h.own.lt k hk
 have hbk2 : ∀ k, k < u.heap.size → some k ≠ v.ownBlock → u'.heap[k]? = u.heap[k]? := fun k hk hne => (hg.block k (by simp; omega) hne).trans (Below.heap_alloc _ _ k hk)
 have hs2 : u.heap.size ≤ u'.heap.size := by have := hg.size; simp at this; omega
 have hset : ∀ k, k ≠ V → (u'.setCell ⟨V, j, none⟩ nv).heap[k]? = u'.heap[k]? := fun k hk => Below.heap_setCell _ _ _ _ hk
 have hsz2 : (u'.setCell ⟨V, j, none⟩ nv).heap.size = u'.heap.size := by simp [World.setCell]
 have hbu := h.q.p.lt
 have hsB := h.siz
 refine ⟨⟨?_, ?_, ?_⟩, ?_, ?_, ?_⟩
 · exact (h.q.p.same fun k hk => hbk2 k (by omega) (fun e => by have := (hown k e.symm).1; omega)).own hbV j _
 · exact ((h.q.a.alloc _).grown hg (fun k hk => by have := (hown k hk).1; have := h.q.a.size; omega)).own hWV j _
 · have hb : Bk u' V (cs v) 32 := (hbk2 V h.q.bk.lt (fun e => by have := (hown V e.symm).1; omega)).trans h.q.bk
   have := hb.set j nv
   rw [hcs] at this
   exact this
 · exact hn.same fun k hk => hset k (by have := (hn.lt k hk).1; omega)
 · intro k h1 h2 h3
   rw [hset k h3, hbk2 k (by omega) (fun e => by have := (hown k e.symm).1; omega)]
   exact h.keep k h1 h2 h3
 · rw [hsz2]; omega
end
def ViewQ (b : Nat) (w : World) (ok : Bool) (o : Option (Vw × List Tk)) (e : Ending) (w' : World) : Prop := ∃ (x : Vm) (l' : List Tk) (ok' : Bool), e = .returned x.w ∧ x.In w' ∧ x.Lo w.heap.size ∧ Pq w' b l' ok' ∧ PO ok ok' o x.vw l' ∧ Apq b w w'
theorem Vm.In.same' {w w' : World} {x : Vm} {B : Nat} (h : x.In w) (hs : w.heap.size ≤ w'.heap.size) (hl : x.Lo B) (hb : ∀ k, B ≤ k → k < w.heap.size → w'.heap[k]? = w.heap[k]?) : x.In w' :=
 ⟨h.whr.same' hs hl.whr hb, h.pick.same' hs hl.pick hb, h.aggs.same' hs hl.aggs hb⟩
theorem join_po {ok ok1 : Bool} {l l1 : List Tk} {r : (ByteArray × Int × Int)} (ht : (takeP w_join l).1 = true) (h : PO ok ok1 ((nameP (takeP w_join l).2).bind fun a => (needP w_on a.2).bind fun r => (colP r).bind fun x => (needP s_eq x.2).bind fun q => (colP q).map fun y => ((a.1, x.1, y.1), y.2)) r l1) : PO ok ok1 (joinP l) r l1 := by
 unfold joinP
 rw [ht]
 exact h
theorem join_no {l : List Tk} (ht : (takeP w_join l).1 = false) : joinP l = some ((emp, 0, 0), l) := by unfold joinP; rw [ht]; rfl
theorem where_no {l : List Tk} (ht : (takeP w_where l).1 = false) : whereP l = some ([], l) := by unfold whereP; rw [ht]; rfl
theorem where_yes {l : List Tk} (ht : (takeP w_where l).1 = true) : whereP l = exprP (takeP w_where l).2 := by unfold whereP; rw [ht]; rfl
theorem picks_no {l : List Tk} (ht : (l.isEmpty || (takeP w_group l).1) = true) : picksP l = some ([], l) := by unfold picksP; rw [ht]; rfl
theorem picks_yes {l : List Tk} (ht : (l.isEmpty || (takeP w_group l).1) = false) : picksP l = sepP colP l := by unfold picksP; rw [ht]; rfl
theorem aggs_no {l : List Tk} (ht : (takeP w_group l).1 = false) : aggsP l = some ((false, []), l) := by unfold aggsP; rw [ht]; rfl
theorem aggs_end {l : List Tk} (ht : (takeP w_group l).1 = true) (he : (takeP w_group l).2.isEmpty = true) : aggsP l = some ((true, []), []) := by unfold aggsP; rw [ht, he]; rfl
theorem aggs_yes {l : List Tk} (ht : (takeP w_group l).1 = true) (he : (takeP w_group l).2.isEmpty = false) : aggsP l = (sepP aggP (takeP w_group l).2).map fun a => ((true, a.1), a.2) := by unfold aggsP; rw [ht, he]; rfl
end Go.Proofs.YtjgpmnffagdhlaaGreatDoor
