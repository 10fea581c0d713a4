/-
  Part 5 of 11 of what the proof leans on: each part below says what it proves, and of what; no condition besides.
-/
import Derived.Test.YtbpopkgpepmlcaaGreatR04
import Derived.Deep.RegionLaw
import Derived.Deep.AppendLies
set_option linter.unusedVariables false
set_option linter.unusedSimpArgs false
namespace Go.Proofs.YtbpopkgpepmlcaaGreat
open Go Go.RowKit
set_option maxRecDepth 100000
theorem rint_c (n : Int) (w : World) : Calls Tryz.prog 14 #[.int .i64 n] w fun e w' => e = .returned (iv n).v ∧ Below w.heap.size w w' := by
 go_enter Tryz.func14, Tryz.ntmps14
 go_wp2
 exact bodyPost_ret (v := (iv n).v) (by simp [results, Tryz.results14, go_sem, iv]) rfl ⟨rfl, below_one _ _⟩
theorem most_c (w : World) : Calls Tryz.prog 99 #[] w fun e w' => e = .returned (.int .i64 9223372036854775807) ∧ Below w.heap.size w w' := by
 go_enter Tryz.func99, Tryz.ntmps99
 go_wp2
 go_ret
 exact ⟨rfl, Below.refl _ _⟩
set_option maxRecDepth 100000
attribute [local go_sem ↓] run_eqV run_neV
end Go.Proofs.YtbpopkgpepmlcaaGreat
namespace Go.Proofs.YtbpopkgpepmlcaaGreat
open Go Go.RowKit
set_option maxRecDepth 100000
def I6n (n : Int) : Prop := -9223372036854775808 ≤ n ∧ n ≤ 9223372036854775807
theorem rnulls_c (x y : Val) (w : World) : Calls Tryz.prog 79 #[x.v, y.v] w fun e w' => e = .returned (.bool (x.k == 0 || y.k == 0)) ∧ Below w.heap.size w w' := by
 cases h : x.k == 0
 · go_enter Tryz.func79, Tryz.ntmps79
   go_wp2
   go_ret
   exact ⟨rfl, below_two _ _ _⟩
 · go_enter Tryz.func79, Tryz.ntmps79
   go_wp2
   go_ret
   exact ⟨rfl, below_two _ _ _⟩
theorem rints_c (x y : Val) (w : World) : Calls Tryz.prog 98 #[x.v, y.v] w fun e w' => e = .returned (.bool (x.k == 2 && y.k == 2)) ∧ Below w.heap.size w w' := by
 cases h : x.k == 2
 · go_enter Tryz.func98, Tryz.ntmps98
   go_wp2
   go_ret
   exact ⟨rfl, below_two _ _ _⟩
 · go_enter Tryz.func98, Tryz.ntmps98
   go_wp2
   go_ret
   exact ⟨rfl, below_two _ _ _⟩
theorem least_c (w : World) : Calls Tryz.prog 100 #[] w fun e w' => e = .returned (.int .i64 (-9223372036854775808)) ∧ Below w.heap.size w w' := by
 go_enter Tryz.func100, Tryz.ntmps100
 go_wp2
 go_ret
 exact ⟨rfl, Below.refl _ _⟩
theorem enrInts : ∀ args w, (callFunc 98 args).run Tryz.prog w = .ok (.enter 98 args) w := fun _ _ => by kernel_rfl
theorem enrMost : ∀ args w, (callFunc 99 args).run Tryz.prog w = .ok (.enter 99 args) w := fun _ _ => by kernel_rfl
theorem enrLeast : ∀ args w, (callFunc 100 args).run Tryz.prog w = .ok (.enter 100 args) w := fun _ _ => by kernel_rfl
theorem fa_val1 (w : World) (b : Nat) : (Instr.fieldAt 46 (.pointer (some ⟨b, 0, none⟩)) 1).run Tryz.prog w = .ok (.pointer (some ⟨b, 1, none⟩)) w := by go_simp
theorem Bx.ldN {w : World} {b : Nat} {x : Val} (h : Bx w b x) : (Instr.loadAt 3 (.pointer (some ⟨b, 1, none⟩))).run Tryz.prog w = .ok (.int .i64 x.n) w := by
 have h0 := h.cell1
 go_simp
theorem ev_gtC {P : Program} {F : Act} {w : World} {t : Tmp} {k a : Int} {o : Oper} (ho : o.op = .binOp .gtr 3 (.tmp t) (.const (.int .i64 k)) 3) (ht : Reg.slot F t = .int .i64 a) :
 (execOp F.eval o).run P w = .ok (.value (.bool (decide (k < a)))) w := by
 have e1 : F.eval (.tmp t) = .int .i64 a := ht
 have e2 : F.eval (.const (.int .i64 k)) = .int .i64 k := rfl
 simp only [execOp, ho, e1, e2]
 simp [go_sem]
theorem ev_ltC {P : Program} {F : Act} {w : World} {t : Tmp} {k a : Int} {o : Oper} (ho : o.op = .binOp .lss 3 (.tmp t) (.const (.int .i64 k)) 3) (ht : Reg.slot F t = .int .i64 a) :
 (execOp F.eval o).run P w = .ok (.value (.bool (decide (a < k)))) w := by
 have e1 : F.eval (.tmp t) = .int .i64 a := ht
 have e2 : F.eval (.const (.int .i64 k)) = .int .i64 k := rfl
 simp only [execOp, ho, e1, e2]
 simp [go_sem]
theorem ev_gtT {F : Act} {w : World} {t u : Tmp} {a b : Int} {o : Oper} (ho : o.op = .binOp .gtr 3 (.tmp t) (.tmp u) 3) (ht : Reg.slot F t = .int .i64 a) (hu : Reg.slot F u = .int .i64 b) :
 (execOp F.eval o).run Tryz.prog w = .ok (.value (.bool (decide (b < a)))) w := by
 have e1 : F.eval (.tmp t) = .int .i64 a := ht
 have e2 : F.eval (.tmp u) = .int .i64 b := hu
 simp only [execOp, ho, e1, e2]
 simp [go_sem]
theorem ev_ltT {F : Act} {w : World} {t u : Tmp} {a b : Int} {o : Oper} (ho : o.op = .binOp .lss 3 (.tmp t) (.tmp u) 3) (ht : Reg.slot F t = .int .i64 a) (hu : Reg.slot F u = .int .i64 b) :
 (execOp F.eval o).run Tryz.prog w = .ok (.value (.bool (decide (a < b)))) w := by
 have e1 : F.eval (.tmp t) = .int .i64 a := ht
 have e2 : F.eval (.tmp u) = .int .i64 b := hu
 simp only [execOp, ho, e1, e2]
 simp [go_sem]
theorem ev_subT {F : Act} {w : World} {t u : Tmp} {a b : Int} {o : Oper} (ho : o.op = .binOp .sub 3 (.tmp t) (.tmp u) 3) (ht : Reg.slot F t = .int .i64 a) (hu : Reg.slot F u = .int .i64 b) :
 (execOp F.eval o).run Tryz.prog w = .ok (.value (.int .i64 (wrap64 (a - b)))) w := by
 have e1 : F.eval (.tmp t) = .int .i64 a := ht
 have e2 : F.eval (.tmp u) = .int .i64 b := hu
 simp only [execOp, ho, e1, e2]
 simp [go_sem]; rw [IntKind.wrap_i64]; unfold wrap64; rfl
theorem ev_addT {F : Act} {w : World} {t u : Tmp} {a b : Int} {o : Oper} (ho : o.op = .binOp .add 3 (.tmp t) (.tmp u) 3) (ht : Reg.slot F t = .int .i64 a) (hu : Reg.slot F u = .int .i64 b) :
 (execOp F.eval o).run Tryz.prog w = .ok (.value (.int .i64 (wrap64 (a + b)))) w := by
 have e1 : F.eval (.tmp t) = .int .i64 a := ht
 have e2 : F.eval (.tmp u) = .int .i64 b := hu
 simp only [execOp, ho, e1, e2]
 simp [go_sem]; rw [IntKind.wrap_i64]; unfold wrap64; rfl
theorem comp_ints (x y : Val) (r : Int) (f : Bool) (h0 : (x.k == 0 || y.k == 0) = false) (h : (x.k == 2 && y.k == 2) = true) : comp x y r f = if f then (iv r, true) else (nl, false) := by
 unfold comp
 rw [h0]
 simp only [Bool.and_eq_true] at h
 rw [bne, bne, h.1, h.2]
 rfl
theorem comp_none (x y : Val) (r : Int) (f : Bool) (h0 : (x.k == 0 || y.k == 0) = false) (h : (x.k == 2 && y.k == 2) = false) : comp x y r f = (nl, false) := by
 unfold comp
 rw [h0]
 have : (x.k != 2 || y.k != 2) = true := by
  rw [bne, bne]
  cases h1 : x.k == 2
  · rfl
  · rw [h1] at h
    simp at h ⊢
    exact h
 rw [this]
 rfl
theorem comp_nulls (x y : Val) (r : Int) (f : Bool) (h0 : (x.k == 0 || y.k == 0) = true) : comp x y r f = (nl, true) := by
 unfold comp
 rw [h0]
 rfl
theorem add_fit (x y : Int) (h : I6n (x + y)) : (decide (x < wrap64 (x + y)) == decide (0 < y)) = true ∧ wrap64 (x + y) = x + y := by
 unfold I6n at *
 have e : wrap64 (x + y) = x + y := by unfold wrap64; omega
 rw [e]
 refine ⟨?_, rfl⟩
 by_cases h0 : 0 < y
 · rw [decide_eq_true h0, decide_eq_true (by omega)]; rfl
 · rw [decide_eq_false h0, decide_eq_false (by omega)]; rfl
theorem add_over (x y : Int) (hx : I6n x) (hy : I6n y) (h : ¬ I6n (x + y)) : (decide (x < wrap64 (x + y)) == decide (0 < y)) = false := by
 unfold I6n at *
 by_cases h0 : 0 < y
 · rw [decide_eq_true h0, decide_eq_false (by unfold wrap64; omega)]; rfl
 · rw [decide_eq_false h0, decide_eq_true (by unfold wrap64; omega)]; rfl
theorem sub_fit (x y : Int) (h : I6n (x - y)) : (decide (wrap64 (x - y) < x) == decide (0 < y)) = true ∧ wrap64 (x - y) = x - y := by
 unfold I6n at *
 have e : wrap64 (x - y) = x - y := by unfold wrap64; omega
 rw [e]
 refine ⟨?_, rfl⟩
 by_cases h0 : 0 < y
 · rw [decide_eq_true h0, decide_eq_true (by omega)]; rfl
 · rw [decide_eq_false h0, decide_eq_false (by omega)]; rfl
theorem sub_over (x y : Int) (hx : I6n x) (hy : I6n y) (h : ¬ I6n (x - y)) : (decide (wrap64 (x - y) < x) == decide (0 < y)) = false := by
 unfold I6n at *
 by_cases h0 : 0 < y
 · rw [decide_eq_true h0, decide_eq_false (by unfold wrap64; omega)]; rfl
 · rw [decide_eq_false h0, decide_eq_true (by unfold wrap64; omega)]; rfl
set_option maxHeartbeats 1000000 in
theorem radd_I (x y : Val) (w : World) (h0 : (x.k == 0 || y.k == 0) = false) (h12 : (x.k == 2 && y.k == 2) = false) : Calls Tryz.prog 73 #[x.v, y.v] w fun e w' => e = .returned (.tuple #[((nl, false)).1.v, .bool ((nl, false)).2]) ∧ Below w.heap.size w w' := by
 have H12 := Lib.hid h12
 have H0 := Lib.hid h0
 clear h0 h12
 go_enter Tryz.func73, Tryz.ntmps73
 go_wp2_with fail
 refine (rnulls_c x y _).mono ?_
 rintro e w1 ⟨rfl, hb1⟩
 rw [H0.out]
 have b1 : Bx w1 w.heap.size x := (((Bx.new w x).alloc _).alloc _).after hb1
 have b2 : Bx w1 (w.heap.size + 1) y := ((Bx.new1 w y _).alloc _).after hb1
 have b3 : Bx w1 (w.heap.size + 2) nl := (Bx.new2 w nl _ _).after hb1
 have hb : Below w.heap.size w w1 := (below_three _ _ _ _).trans (hb1.mono (by simp; omega))
 clear hb1
 go_wp2_with fail
 have h12 := H12.out
 refine Reg.wp_region_vals mixed (by kernel_rfl) [(10, x.v), (11, y.v), (12, .bool false), (13, .bool true), (14, .bool true), (15, undef), (16, undef), (17, undef), (18, undef), (19, undef), (20, undef), (21, undef), (22, undef), (23, undef), (24, undef), (25, undef), (26, undef), (27, .bool true), (28, .bool true), (29, undef), (30, undef), (31, undef), (32, undef), (33, undef), (34, undef), (35, undef), (36, undef), (37, undef), (38, undef), (39, undef), (40, undef), (41, .bool true)] 49 rfl (by kernel_rfl) ?_ ?_
 · intro F hF w' hB'
   have bx := b1.after hB'
   have byy := b2.after hB'
   refine ⟨?_, ?_, ?_, ?_, ?_, ?_, ?_, ?_, ?_, ?_, ?_, ?_, ?_, ?_, ?_, ?_, ?_, ?_, ?_, ?_, ?_, ?_, ?_, ?_, ?_, ?_, ?_, ?_, ?_, ?_, ?_, ?_, trivial⟩
   · exact Reg.doesV_val (ev_load bx rfl (by rw [hF]; kernel_rfl)) (by rw [hF]; kernel_rfl) (by rw [hF]; kernel_rfl)
   · exact Reg.doesV_val (ev_load byy rfl (by rw [hF]; kernel_rfl)) (by rw [hF]; kernel_rfl) (by rw [hF]; kernel_rfl)
   · exact Reg.doesV_call (by have h := rints_c x y w'; rw [h12] at h; exact h) (ev_call enrInts rfl (by rw [hF]; kernel_rfl)) (by rw [hF]; kernel_rfl) (by rw [hF]; kernel_rfl)
   · exact Reg.doesV_val (ev_not false rfl (by rw [hF]; kernel_rfl)) (by rw [hF]; kernel_rfl) (by rw [hF]; kernel_rfl)
   · exact Reg.doesV_val (ev_move rfl) (by rw [hF]; kernel_rfl) (by rw [hF]; kernel_rfl)
   · exact Reg.doesV_skip (by rw [hF]; kernel_rfl) (by rw [hF]; kernel_rfl)
   · exact Reg.doesV_skip (by rw [hF]; kernel_rfl) (by rw [hF]; kernel_rfl)
   · exact Reg.doesV_skip (by rw [hF]; kernel_rfl) (by rw [hF]; kernel_rfl)
   · exact Reg.doesV_skip (by rw [hF]; kernel_rfl) (by rw [hF]; kernel_rfl)
   · exact Reg.doesV_skip (by rw [hF]; kernel_rfl) (by rw [hF]; kernel_rfl)
   · exact Reg.doesV_skip (by rw [hF]; kernel_rfl) (by rw [hF]; kernel_rfl)
   · exact Reg.doesV_skip (by rw [hF]; kernel_rfl) (by rw [hF]; kernel_rfl)
   · exact Reg.doesV_skip (by rw [hF]; kernel_rfl) (by rw [hF]; kernel_rfl)
   · exact Reg.doesV_skip (by rw [hF]; kernel_rfl) (by rw [hF]; kernel_rfl)
   · exact Reg.doesV_skip (by rw [hF]; kernel_rfl) (by rw [hF]; kernel_rfl)
   · exact Reg.doesV_skip (by rw [hF]; kernel_rfl) (by rw [hF]; kernel_rfl)
   · exact Reg.doesV_skip (by rw [hF]; kernel_rfl) (by rw [hF]; kernel_rfl)
   · exact Reg.doesV_val (ev_pick true rfl (by rw [hF]; kernel_rfl)) (by rw [hF]; kernel_rfl) (by rw [hF]; kernel_rfl)
   · exact Reg.doesV_val (ev_move rfl) (by rw [hF]; kernel_rfl) (by rw [hF]; kernel_rfl)
   · exact Reg.doesV_skip (by rw [hF]; kernel_rfl) (by rw [hF]; kernel_rfl)
   · exact Reg.doesV_skip (by rw [hF]; kernel_rfl) (by rw [hF]; kernel_rfl)
   · exact Reg.doesV_skip (by rw [hF]; kernel_rfl) (by rw [hF]; kernel_rfl)
   · exact Reg.doesV_skip (by rw [hF]; kernel_rfl) (by rw [hF]; kernel_rfl)
   · exact Reg.doesV_skip (by rw [hF]; kernel_rfl) (by rw [hF]; kernel_rfl)
   · exact Reg.doesV_skip (by rw [hF]; kernel_rfl) (by rw [hF]; kernel_rfl)
   · exact Reg.doesV_skip (by rw [hF]; kernel_rfl) (by rw [hF]; kernel_rfl)
   · exact Reg.doesV_skip (by rw [hF]; kernel_rfl) (by rw [hF]; kernel_rfl)
   · exact Reg.doesV_skip (by rw [hF]; kernel_rfl) (by rw [hF]; kernel_rfl)
   · exact Reg.doesV_skip (by rw [hF]; kernel_rfl) (by rw [hF]; kernel_rfl)
   · exact Reg.doesV_skip (by rw [hF]; kernel_rfl) (by rw [hF]; kernel_rfl)
   · exact Reg.doesV_skip (by rw [hF]; kernel_rfl) (by rw [hF]; kernel_rfl)
   · exact Reg.doesV_val (ev_pick true rfl (by rw [hF]; kernel_rfl)) (by rw [hF]; kernel_rfl) (by rw [hF]; kernel_rfl)
 · intro w2 hB'
   simp only [Reg.putAll, Act.put, List.setIfInBounds_toArray, List.set_cons_zero, List.set_cons_succ]
   clear h12
   have c1 := b1.after hB'
   have c2 := b2.after hB'
   have c3 := b3.after hB'
   have hb2 := hb.trans (hB'.mono hb.size)
   clear hB' b1 b2 b3 hb
   have g0 := c3.cell0
   have g1 := c3.cell1
   have g2 := c3.cell2
   have f0 := c3.frozen 0
   have f1 := c3.frozen 1
   have f2 := c3.frozen 2
   go_wp2
   exact ret_valX (a := nl) (z := .bool false) Tryz.results73 rfl rfl (c3.put nl) rfl ⟨rfl, put3_below hb2 (by omega) nl⟩
set_option maxHeartbeats 1000000 in
theorem radd_P1 (x y : Val) (w : World) (h0 : (x.k == 0 || y.k == 0) = false) (h12 : (x.k == 2 && y.k == 2) = true) (h17 : decide (0 < y.n) = true) (h25 : decide (wrap64 (9223372036854775807 - y.n) < x.n) = true) : Calls Tryz.prog 73 #[x.v, y.v] w fun e w' => e = .returned (.tuple #[((nl, false)).1.v, .bool ((nl, false)).2]) ∧ Below w.heap.size w w' := by
 have H12 := Lib.hid h12
 have H17 := Lib.hid h17
 have H25 := Lib.hid h25
 have H0 := Lib.hid h0
 clear h0 h12 h17 h25
 go_enter Tryz.func73, Tryz.ntmps73
 go_wp2_with fail
 refine (rnulls_c x y _).mono ?_
 rintro e w1 ⟨rfl, hb1⟩
 rw [H0.out]
 have b1 : Bx w1 w.heap.size x := (((Bx.new w x).alloc _).alloc _).after hb1
 have b2 : Bx w1 (w.heap.size + 1) y := ((Bx.new1 w y _).alloc _).after hb1
 have b3 : Bx w1 (w.heap.size + 2) nl := (Bx.new2 w nl _ _).after hb1
 have hb : Below w.heap.size w w1 := (below_three _ _ _ _).trans (hb1.mono (by simp; omega))
 clear hb1
 go_wp2_with fail
 have h12 := H12.out
 have h17 := H17.out
 have h25 := H25.out
 refine Reg.wp_region_vals mixed (by kernel_rfl) [(10, x.v), (11, y.v), (12, .bool true), (13, .bool false), (14, .bool false), (15, .pointer (some ⟨w.heap.size + 1, 1, none⟩)), (16, .int .i64 y.n), (17, .bool true), (18, .bool true), (19, .pointer (some ⟨w.heap.size, 1, none⟩)), (20, .int .i64 x.n), (21, .int .i64 9223372036854775807), (22, .pointer (some ⟨w.heap.size + 1, 1, none⟩)), (23, .int .i64 y.n), (24, .int .i64 (wrap64 (9223372036854775807 - y.n))), (25, .bool true), (26, .bool true), (27, .bool true), (28, .bool true), (29, undef), (30, undef), (31, undef), (32, undef), (33, undef), (34, undef), (35, undef), (36, undef), (37, undef), (38, undef), (39, undef), (40, undef), (41, .bool true)] 49 rfl (by kernel_rfl) ?_ ?_
 · intro F hF w' hB'
   have bx := b1.after hB'
   have byy := b2.after hB'
   refine ⟨?_, ?_, ?_, ?_, ?_, ?_, ?_, ?_, ?_, ?_, ?_, ?_, ?_, ?_, ?_, ?_, ?_, ?_, ?_, ?_, ?_, ?_, ?_, ?_, ?_, ?_, ?_, ?_, ?_, ?_, ?_, ?_, trivial⟩
   · exact Reg.doesV_val (ev_load bx rfl (by rw [hF]; kernel_rfl)) (by rw [hF]; kernel_rfl) (by rw [hF]; kernel_rfl)
   · exact Reg.doesV_val (ev_load byy rfl (by rw [hF]; kernel_rfl)) (by rw [hF]; kernel_rfl) (by rw [hF]; kernel_rfl)
   · exact Reg.doesV_call (by have h := rints_c x y w'; rw [h12] at h; exact h) (ev_call enrInts rfl (by rw [hF]; kernel_rfl)) (by rw [hF]; kernel_rfl) (by rw [hF]; kernel_rfl)
   · exact Reg.doesV_val (ev_not true rfl (by rw [hF]; kernel_rfl)) (by rw [hF]; kernel_rfl) (by rw [hF]; kernel_rfl)
   · exact Reg.doesV_val (ev_move rfl) (by rw [hF]; kernel_rfl) (by rw [hF]; kernel_rfl)
   · exact Reg.doesV_val (ev_fa rfl (by rw [hF]; kernel_rfl) (fa_val1 w' (w.heap.size + 1))) (by rw [hF]; kernel_rfl) (by rw [hF]; kernel_rfl)
   · exact Reg.doesV_val (ev_ld rfl (by rw [hF]; kernel_rfl) byy.ldN) (by rw [hF]; kernel_rfl) (by rw [hF]; kernel_rfl)
   · exact Reg.doesV_val (by rw [ev_gtC (a := y.n) rfl (by rw [hF]; kernel_rfl), h17]) (by rw [hF]; kernel_rfl) (by rw [hF]; kernel_rfl)
   · exact Reg.doesV_val (ev_move rfl) (by rw [hF]; kernel_rfl) (by rw [hF]; kernel_rfl)
   · exact Reg.doesV_val (ev_fa rfl (by rw [hF]; kernel_rfl) (fa_val1 w' w.heap.size)) (by rw [hF]; kernel_rfl) (by rw [hF]; kernel_rfl)
   · exact Reg.doesV_val (ev_ld rfl (by rw [hF]; kernel_rfl) bx.ldN) (by rw [hF]; kernel_rfl) (by rw [hF]; kernel_rfl)
   · exact Reg.doesV_call (most_c w') (ev_call enrMost rfl (by simp)) (by rw [hF]; kernel_rfl) (by rw [hF]; kernel_rfl)
   · exact Reg.doesV_val (ev_fa rfl (by rw [hF]; kernel_rfl) (fa_val1 w' (w.heap.size + 1))) (by rw [hF]; kernel_rfl) (by rw [hF]; kernel_rfl)
   · exact Reg.doesV_val (ev_ld rfl (by rw [hF]; kernel_rfl) byy.ldN) (by rw [hF]; kernel_rfl) (by rw [hF]; kernel_rfl)
   · exact Reg.doesV_val (ev_subT (a := 9223372036854775807) (b := y.n) rfl (by rw [hF]; kernel_rfl) (by rw [hF]; kernel_rfl)) (by rw [hF]; kernel_rfl) (by rw [hF]; kernel_rfl)
   · exact Reg.doesV_val (by rw [ev_gtT (a := x.n) (b := wrap64 (9223372036854775807 - y.n)) rfl (by rw [hF]; kernel_rfl) (by rw [hF]; kernel_rfl), h25]) (by rw [hF]; kernel_rfl) (by rw [hF]; kernel_rfl)
   · exact Reg.doesV_val (ev_pick true rfl (by rw [hF]; kernel_rfl)) (by rw [hF]; kernel_rfl) (by rw [hF]; kernel_rfl)
   · exact Reg.doesV_val (ev_pick false rfl (by rw [hF]; kernel_rfl)) (by rw [hF]; kernel_rfl) (by rw [hF]; kernel_rfl)
   · exact Reg.doesV_val (ev_move rfl) (by rw [hF]; kernel_rfl) (by rw [hF]; kernel_rfl)
   · exact Reg.doesV_skip (by rw [hF]; kernel_rfl) (by rw [hF]; kernel_rfl)
   · exact Reg.doesV_skip (by rw [hF]; kernel_rfl) (by rw [hF]; kernel_rfl)
   · exact Reg.doesV_skip (by rw [hF]; kernel_rfl) (by rw [hF]; kernel_rfl)
   · exact Reg.doesV_skip (by rw [hF]; kernel_rfl) (by rw [hF]; kernel_rfl)
   · exact Reg.doesV_skip (by rw [hF]; kernel_rfl) (by rw [hF]; kernel_rfl)
   · exact Reg.doesV_skip (by rw [hF]; kernel_rfl) (by rw [hF]; kernel_rfl)
   · exact Reg.doesV_skip (by rw [hF]; kernel_rfl) (by rw [hF]; kernel_rfl)
   · exact Reg.doesV_skip (by rw [hF]; kernel_rfl) (by rw [hF]; kernel_rfl)
   · exact Reg.doesV_skip (by rw [hF]; kernel_rfl) (by rw [hF]; kernel_rfl)
   · exact Reg.doesV_skip (by rw [hF]; kernel_rfl) (by rw [hF]; kernel_rfl)
   · exact Reg.doesV_skip (by rw [hF]; kernel_rfl) (by rw [hF]; kernel_rfl)
   · exact Reg.doesV_skip (by rw [hF]; kernel_rfl) (by rw [hF]; kernel_rfl)
   · exact Reg.doesV_val (ev_pick true rfl (by rw [hF]; kernel_rfl)) (by rw [hF]; kernel_rfl) (by rw [hF]; kernel_rfl)
 · intro w2 hB'
   simp only [Reg.putAll, Act.put, List.setIfInBounds_toArray, List.set_cons_zero, List.set_cons_succ]
   clear h12 h17 h25
   have c1 := b1.after hB'
   have c2 := b2.after hB'
   have c3 := b3.after hB'
   have hb2 := hb.trans (hB'.mono hb.size)
   clear hB' b1 b2 b3 hb
   have g0 := c3.cell0
   have g1 := c3.cell1
   have g2 := c3.cell2
   have f0 := c3.frozen 0
   have f1 := c3.frozen 1
   have f2 := c3.frozen 2
   go_wp2
   exact ret_valX (a := nl) (z := .bool false) Tryz.results73 rfl rfl (c3.put nl) rfl ⟨rfl, put3_below hb2 (by omega) nl⟩
set_option maxHeartbeats 1000000 in
theorem radd_P0 (x y : Val) (w : World) (h0 : (x.k == 0 || y.k == 0) = false) (h12 : (x.k == 2 && y.k == 2) = true) (h17 : decide (0 < y.n) = true) (h25 : decide (wrap64 (9223372036854775807 - y.n) < x.n) = false) (h31 : decide (y.n < 0) = false) : Calls Tryz.prog 73 #[x.v, y.v] w fun e w' => e = .returned (.tuple #[((iv (wrap64 (x.n + y.n)), true)).1.v, .bool ((iv (wrap64 (x.n + y.n)), true)).2]) ∧ Below w.heap.size w w' := by
 have H12 := Lib.hid h12
 have H17 := Lib.hid h17
 have H25 := Lib.hid h25
 have H31 := Lib.hid h31
 have H0 := Lib.hid h0
 clear h0 h12 h17 h25 h31
 go_enter Tryz.func73, Tryz.ntmps73
 go_wp2_with fail
 refine (rnulls_c x y _).mono ?_
 rintro e w1 ⟨rfl, hb1⟩
 rw [H0.out]
 have b1 : Bx w1 w.heap.size x := (((Bx.new w x).alloc _).alloc _).after hb1
 have b2 : Bx w1 (w.heap.size + 1) y := ((Bx.new1 w y _).alloc _).after hb1
 have b3 : Bx w1 (w.heap.size + 2) nl := (Bx.new2 w nl _ _).after hb1
 have hb : Below w.heap.size w w1 := (below_three _ _ _ _).trans (hb1.mono (by simp; omega))
 clear hb1
 go_wp2_with fail
 have h12 := H12.out
 have h17 := H17.out
 have h25 := H25.out
 have h31 := H31.out
 refine Reg.wp_region_vals mixed (by kernel_rfl) [(10, x.v), (11, y.v), (12, .bool true), (13, .bool false), (14, .bool false), (15, .pointer (some ⟨w.heap.size + 1, 1, none⟩)), (16, .int .i64 y.n), (17, .bool true), (18, .bool true), (19, .pointer (some ⟨w.heap.size, 1, none⟩)), (20, .int .i64 x.n), (21, .int .i64 9223372036854775807), (22, .pointer (some ⟨w.heap.size + 1, 1, none⟩)), (23, .int .i64 y.n), (24, .int .i64 (wrap64 (9223372036854775807 - y.n))), (25, .bool false), (26, .bool false), (27, .bool false), (28, .bool false), (29, .pointer (some ⟨w.heap.size + 1, 1, none⟩)), (30, .int .i64 y.n), (31, .bool false), (32, .bool false), (33, undef), (34, undef), (35, undef), (36, undef), (37, undef), (38, undef), (39, undef), (40, .bool false), (41, .bool false)] 49 rfl (by kernel_rfl) ?_ ?_
 · intro F hF w' hB'
   have bx := b1.after hB'
   have byy := b2.after hB'
   refine ⟨?_, ?_, ?_, ?_, ?_, ?_, ?_, ?_, ?_, ?_, ?_, ?_, ?_, ?_, ?_, ?_, ?_, ?_, ?_, ?_, ?_, ?_, ?_, ?_, ?_, ?_, ?_, ?_, ?_, ?_, ?_, ?_, trivial⟩
   · exact Reg.doesV_val (ev_load bx rfl (by rw [hF]; kernel_rfl)) (by rw [hF]; kernel_rfl) (by rw [hF]; kernel_rfl)
   · exact Reg.doesV_val (ev_load byy rfl (by rw [hF]; kernel_rfl)) (by rw [hF]; kernel_rfl) (by rw [hF]; kernel_rfl)
   · exact Reg.doesV_call (by have h := rints_c x y w'; rw [h12] at h; exact h) (ev_call enrInts rfl (by rw [hF]; kernel_rfl)) (by rw [hF]; kernel_rfl) (by rw [hF]; kernel_rfl)
   · exact Reg.doesV_val (ev_not true rfl (by rw [hF]; kernel_rfl)) (by rw [hF]; kernel_rfl) (by rw [hF]; kernel_rfl)
   · exact Reg.doesV_val (ev_move rfl) (by rw [hF]; kernel_rfl) (by rw [hF]; kernel_rfl)
   · exact Reg.doesV_val (ev_fa rfl (by rw [hF]; kernel_rfl) (fa_val1 w' (w.heap.size + 1))) (by rw [hF]; kernel_rfl) (by rw [hF]; kernel_rfl)
   · exact Reg.doesV_val (ev_ld rfl (by rw [hF]; kernel_rfl) byy.ldN) (by rw [hF]; kernel_rfl) (by rw [hF]; kernel_rfl)
   · exact Reg.doesV_val (by rw [ev_gtC (a := y.n) rfl (by rw [hF]; kernel_rfl), h17]) (by rw [hF]; kernel_rfl) (by rw [hF]; kernel_rfl)
   · exact Reg.doesV_val (ev_move rfl) (by rw [hF]; kernel_rfl) (by rw [hF]; kernel_rfl)
   · exact Reg.doesV_val (ev_fa rfl (by rw [hF]; kernel_rfl) (fa_val1 w' w.heap.size)) (by rw [hF]; kernel_rfl) (by rw [hF]; kernel_rfl)
   · exact Reg.doesV_val (ev_ld rfl (by rw [hF]; kernel_rfl) bx.ldN) (by rw [hF]; kernel_rfl) (by rw [hF]; kernel_rfl)
   · exact Reg.doesV_call (most_c w') (ev_call enrMost rfl (by simp)) (by rw [hF]; kernel_rfl) (by rw [hF]; kernel_rfl)
   · exact Reg.doesV_val (ev_fa rfl (by rw [hF]; kernel_rfl) (fa_val1 w' (w.heap.size + 1))) (by rw [hF]; kernel_rfl) (by rw [hF]; kernel_rfl)
   · exact Reg.doesV_val (ev_ld rfl (by rw [hF]; kernel_rfl) byy.ldN) (by rw [hF]; kernel_rfl) (by rw [hF]; kernel_rfl)
   · exact Reg.doesV_val (ev_subT (a := 9223372036854775807) (b := y.n) rfl (by rw [hF]; kernel_rfl) (by rw [hF]; kernel_rfl)) (by rw [hF]; kernel_rfl) (by rw [hF]; kernel_rfl)
   · exact Reg.doesV_val (by rw [ev_gtT (a := x.n) (b := wrap64 (9223372036854775807 - y.n)) rfl (by rw [hF]; kernel_rfl) (by rw [hF]; kernel_rfl), h25]) (by rw [hF]; kernel_rfl) (by rw [hF]; kernel_rfl)
   · exact Reg.doesV_val (ev_pick true rfl (by rw [hF]; kernel_rfl)) (by rw [hF]; kernel_rfl) (by rw [hF]; kernel_rfl)
   · exact Reg.doesV_val (ev_pick false rfl (by rw [hF]; kernel_rfl)) (by rw [hF]; kernel_rfl) (by rw [hF]; kernel_rfl)
   · exact Reg.doesV_val (ev_move rfl) (by rw [hF]; kernel_rfl) (by rw [hF]; kernel_rfl)
   · exact Reg.doesV_val (ev_fa rfl (by rw [hF]; kernel_rfl) (fa_val1 w' (w.heap.size + 1))) (by rw [hF]; kernel_rfl) (by rw [hF]; kernel_rfl)
   · exact Reg.doesV_val (ev_ld rfl (by rw [hF]; kernel_rfl) byy.ldN) (by rw [hF]; kernel_rfl) (by rw [hF]; kernel_rfl)
   · exact Reg.doesV_val (by rw [ev_ltC (a := y.n) rfl (by rw [hF]; kernel_rfl), h31]) (by rw [hF]; kernel_rfl) (by rw [hF]; kernel_rfl)
   · exact Reg.doesV_val (ev_move rfl) (by rw [hF]; kernel_rfl) (by rw [hF]; kernel_rfl)
   · exact Reg.doesV_skip (by rw [hF]; kernel_rfl) (by rw [hF]; kernel_rfl)
   · exact Reg.doesV_skip (by rw [hF]; kernel_rfl) (by rw [hF]; kernel_rfl)
   · exact Reg.doesV_skip (by rw [hF]; kernel_rfl) (by rw [hF]; kernel_rfl)
   · exact Reg.doesV_skip (by rw [hF]; kernel_rfl) (by rw [hF]; kernel_rfl)
   · exact Reg.doesV_skip (by rw [hF]; kernel_rfl) (by rw [hF]; kernel_rfl)
   · exact Reg.doesV_skip (by rw [hF]; kernel_rfl) (by rw [hF]; kernel_rfl)
   · exact Reg.doesV_skip (by rw [hF]; kernel_rfl) (by rw [hF]; kernel_rfl)
   · exact Reg.doesV_val (ev_pick false rfl (by rw [hF]; kernel_rfl)) (by rw [hF]; kernel_rfl) (by rw [hF]; kernel_rfl)
   · exact Reg.doesV_val (ev_pick false rfl (by rw [hF]; kernel_rfl)) (by rw [hF]; kernel_rfl) (by rw [hF]; kernel_rfl)
 · intro w2 hB'
   simp only [Reg.putAll, Act.put, List.setIfInBounds_toArray, List.set_cons_zero, List.set_cons_succ]
   clear h12 h17 h25 h31
   have c1 := b1.after hB'
   have c2 := b2.after hB'
   have c3 := b3.after hB'
   have hb2 := hb.trans (hB'.mono hb.size)
   clear hB' b1 b2 b3 hb
   have x1 := c1.cell1
   have y1 := c2.cell1
   go_wp2_with fail
   refine (rint_c _ _).mono ?_
   rintro e w3 ⟨rfl, hb3⟩
   have d3 := c3.after hb3
   have hb4 := hb2.trans (hb3.mono hb2.size)
   obtain ⟨R, hR⟩ : ∃ R, iv (wrap64 (x.n + y.n)) = R := ⟨_, rfl⟩
   rw [hR]
   have HR := Lib.hid hR
   clear hb3 hR x1 y1 c1 c2 c3
   have g0 := d3.cell0
   have g1 := d3.cell1
   have g2 := d3.cell2
   have f0 := d3.frozen 0
   have f1 := d3.frozen 1
   have f2 := d3.frozen 2
   go_wp2
   exact ret_valX (a := R) (z := .bool true) Tryz.results73 rfl rfl (d3.put R) rfl ⟨by rw [← HR.out], put3_below hb4 (by omega) R⟩
set_option maxHeartbeats 1000000 in
theorem radd_Q1 (x y : Val) (w : World) (h0 : (x.k == 0 || y.k == 0) = false) (h12 : (x.k == 2 && y.k == 2) = true) (h17 : decide (0 < y.n) = false) (h31 : decide (y.n < 0) = true) (h39 : decide (x.n < wrap64 ((-9223372036854775808) - y.n)) = true) : Calls Tryz.prog 73 #[x.v, y.v] w fun e w' => e = .returned (.tuple #[((nl, false)).1.v, .bool ((nl, false)).2]) ∧ Below w.heap.size w w' := by
 have H12 := Lib.hid h12
 have H17 := Lib.hid h17
 have H31 := Lib.hid h31
 have H39 := Lib.hid h39
 have H0 := Lib.hid h0
 clear h0 h12 h17 h31 h39
 go_enter Tryz.func73, Tryz.ntmps73
 go_wp2_with fail
 refine (rnulls_c x y _).mono ?_
 rintro e w1 ⟨rfl, hb1⟩
 rw [H0.out]
 have b1 : Bx w1 w.heap.size x := (((Bx.new w x).alloc _).alloc _).after hb1
 have b2 : Bx w1 (w.heap.size + 1) y := ((Bx.new1 w y _).alloc _).after hb1
 have b3 : Bx w1 (w.heap.size + 2) nl := (Bx.new2 w nl _ _).after hb1
 have hb : Below w.heap.size w w1 := (below_three _ _ _ _).trans (hb1.mono (by simp; omega))
 clear hb1
 go_wp2_with fail
 have h12 := H12.out
 have h17 := H17.out
 have h31 := H31.out
 have h39 := H39.out
 refine Reg.wp_region_vals mixed (by kernel_rfl) [(10, x.v), (11, y.v), (12, .bool true), (13, .bool false), (14, .bool false), (15, .pointer (some ⟨w.heap.size + 1, 1, none⟩)), (16, .int .i64 y.n), (17, .bool false), (18, .bool false), (19, undef), (20, undef), (21, undef), (22, undef), (23, undef), (24, undef), (25, undef), (26, .bool false), (27, .bool false), (28, .bool false), (29, .pointer (some ⟨w.heap.size + 1, 1, none⟩)), (30, .int .i64 y.n), (31, .bool true), (32, .bool true), (33, .pointer (some ⟨w.heap.size, 1, none⟩)), (34, .int .i64 x.n), (35, .int .i64 (-9223372036854775808)), (36, .pointer (some ⟨w.heap.size + 1, 1, none⟩)), (37, .int .i64 y.n), (38, .int .i64 (wrap64 ((-9223372036854775808) - y.n))), (39, .bool true), (40, .bool true), (41, .bool true)] 49 rfl (by kernel_rfl) ?_ ?_
 · intro F hF w' hB'
   have bx := b1.after hB'
   have byy := b2.after hB'
   refine ⟨?_, ?_, ?_, ?_, ?_, ?_, ?_, ?_, ?_, ?_, ?_, ?_, ?_, ?_, ?_, ?_, ?_, ?_, ?_, ?_, ?_, ?_, ?_, ?_, ?_, ?_, ?_, ?_, ?_, ?_, ?_, ?_, trivial⟩
   · exact Reg.doesV_val (ev_load bx rfl (by rw [hF]; kernel_rfl)) (by rw [hF]; kernel_rfl) (by rw [hF]; kernel_rfl)
   · exact Reg.doesV_val (ev_load byy rfl (by rw [hF]; kernel_rfl)) (by rw [hF]; kernel_rfl) (by rw [hF]; kernel_rfl)
   · exact Reg.doesV_call (by have h := rints_c x y w'; rw [h12] at h; exact h) (ev_call enrInts rfl (by rw [hF]; kernel_rfl)) (by rw [hF]; kernel_rfl) (by rw [hF]; kernel_rfl)
   · exact Reg.doesV_val (ev_not true rfl (by rw [hF]; kernel_rfl)) (by rw [hF]; kernel_rfl) (by rw [hF]; kernel_rfl)
   · exact Reg.doesV_val (ev_move rfl) (by rw [hF]; kernel_rfl) (by rw [hF]; kernel_rfl)
   · exact Reg.doesV_val (ev_fa rfl (by rw [hF]; kernel_rfl) (fa_val1 w' (w.heap.size + 1))) (by rw [hF]; kernel_rfl) (by rw [hF]; kernel_rfl)
   · exact Reg.doesV_val (ev_ld rfl (by rw [hF]; kernel_rfl) byy.ldN) (by rw [hF]; kernel_rfl) (by rw [hF]; kernel_rfl)
   · exact Reg.doesV_val (by rw [ev_gtC (a := y.n) rfl (by rw [hF]; kernel_rfl), h17]) (by rw [hF]; kernel_rfl) (by rw [hF]; kernel_rfl)
   · exact Reg.doesV_val (ev_move rfl) (by rw [hF]; kernel_rfl) (by rw [hF]; kernel_rfl)
   · exact Reg.doesV_skip (by rw [hF]; kernel_rfl) (by rw [hF]; kernel_rfl)
   · exact Reg.doesV_skip (by rw [hF]; kernel_rfl) (by rw [hF]; kernel_rfl)
   · exact Reg.doesV_skip (by rw [hF]; kernel_rfl) (by rw [hF]; kernel_rfl)
   · exact Reg.doesV_skip (by rw [hF]; kernel_rfl) (by rw [hF]; kernel_rfl)
   · exact Reg.doesV_skip (by rw [hF]; kernel_rfl) (by rw [hF]; kernel_rfl)
   · exact Reg.doesV_skip (by rw [hF]; kernel_rfl) (by rw [hF]; kernel_rfl)
   · exact Reg.doesV_skip (by rw [hF]; kernel_rfl) (by rw [hF]; kernel_rfl)
   · exact Reg.doesV_val (ev_pick false rfl (by rw [hF]; kernel_rfl)) (by rw [hF]; kernel_rfl) (by rw [hF]; kernel_rfl)
   · exact Reg.doesV_val (ev_pick false rfl (by rw [hF]; kernel_rfl)) (by rw [hF]; kernel_rfl) (by rw [hF]; kernel_rfl)
   · exact Reg.doesV_val (ev_move rfl) (by rw [hF]; kernel_rfl) (by rw [hF]; kernel_rfl)
   · exact Reg.doesV_val (ev_fa rfl (by rw [hF]; kernel_rfl) (fa_val1 w' (w.heap.size + 1))) (by rw [hF]; kernel_rfl) (by rw [hF]; kernel_rfl)
   · exact Reg.doesV_val (ev_ld rfl (by rw [hF]; kernel_rfl) byy.ldN) (by rw [hF]; kernel_rfl) (by rw [hF]; kernel_rfl)
   · exact Reg.doesV_val (by rw [ev_ltC (a := y.n) rfl (by rw [hF]; kernel_rfl), h31]) (by rw [hF]; kernel_rfl) (by rw [hF]; kernel_rfl)
   · exact Reg.doesV_val (ev_move rfl) (by rw [hF]; kernel_rfl) (by rw [hF]; kernel_rfl)
   · exact Reg.doesV_val (ev_fa rfl (by rw [hF]; kernel_rfl) (fa_val1 w' w.heap.size)) (by rw [hF]; kernel_rfl) (by rw [hF]; kernel_rfl)
   · exact Reg.doesV_val (ev_ld rfl (by rw [hF]; kernel_rfl) bx.ldN) (by rw [hF]; kernel_rfl) (by rw [hF]; kernel_rfl)
   · exact Reg.doesV_call (least_c w') (ev_call enrLeast rfl (by simp)) (by rw [hF]; kernel_rfl) (by rw [hF]; kernel_rfl)
   · exact Reg.doesV_val (ev_fa rfl (by rw [hF]; kernel_rfl) (fa_val1 w' (w.heap.size + 1))) (by rw [hF]; kernel_rfl) (by rw [hF]; kernel_rfl)
   · exact Reg.doesV_val (ev_ld rfl (by rw [hF]; kernel_rfl) byy.ldN) (by rw [hF]; kernel_rfl) (by rw [hF]; kernel_rfl)
   · exact Reg.doesV_val (ev_subT (a := (-9223372036854775808)) (b := y.n) rfl (by rw [hF]; kernel_rfl) (by rw [hF]; kernel_rfl)) (by rw [hF]; kernel_rfl) (by rw [hF]; kernel_rfl)
   · exact Reg.doesV_val (by rw [ev_ltT (a := x.n) (b := wrap64 ((-9223372036854775808) - y.n)) rfl (by rw [hF]; kernel_rfl) (by rw [hF]; kernel_rfl), h39]) (by rw [hF]; kernel_rfl) (by rw [hF]; kernel_rfl)
   · exact Reg.doesV_val (ev_pick true rfl (by rw [hF]; kernel_rfl)) (by rw [hF]; kernel_rfl) (by rw [hF]; kernel_rfl)
   · exact Reg.doesV_val (ev_pick false rfl (by rw [hF]; kernel_rfl)) (by rw [hF]; kernel_rfl) (by rw [hF]; kernel_rfl)
 · intro w2 hB'
   simp only [Reg.putAll, Act.put, List.setIfInBounds_toArray, List.set_cons_zero, List.set_cons_succ]
   clear h12 h17 h31 h39
   have c1 := b1.after hB'
   have c2 := b2.after hB'
   have c3 := b3.after hB'
   have hb2 := hb.trans (hB'.mono hb.size)
   clear hB' b1 b2 b3 hb
   have g0 := c3.cell0
   have g1 := c3.cell1
   have g2 := c3.cell2
   have f0 := c3.frozen 0
   have f1 := c3.frozen 1
   have f2 := c3.frozen 2
   go_wp2
   exact ret_valX (a := nl) (z := .bool false) Tryz.results73 rfl rfl (c3.put nl) rfl ⟨rfl, put3_below hb2 (by omega) nl⟩
set_option maxHeartbeats 1000000 in
theorem radd_Q0 (x y : Val) (w : World) (h0 : (x.k == 0 || y.k == 0) = false) (h12 : (x.k == 2 && y.k == 2) = true) (h17 : decide (0 < y.n) = false) (h31 : decide (y.n < 0) = true) (h39 : decide (x.n < wrap64 ((-9223372036854775808) - y.n)) = false) : Calls Tryz.prog 73 #[x.v, y.v] w fun e w' => e = .returned (.tuple #[((iv (wrap64 (x.n + y.n)), true)).1.v, .bool ((iv (wrap64 (x.n + y.n)), true)).2]) ∧ Below w.heap.size w w' := by
 have H12 := Lib.hid h12
 have H17 := Lib.hid h17
 have H31 := Lib.hid h31
 have H39 := Lib.hid h39
 have H0 := Lib.hid h0
 clear h0 h12 h17 h31 h39
 go_enter Tryz.func73, Tryz.ntmps73
 go_wp2_with fail
 refine (rnulls_c x y _).mono ?_
 rintro e w1 ⟨rfl, hb1⟩
 rw [H0.out]
 have b1 : Bx w1 w.heap.size x := (((Bx.new w x).alloc _).alloc _).after hb1
 have b2 : Bx w1 (w.heap.size + 1) y := ((Bx.new1 w y _).alloc _).after hb1
 have b3 : Bx w1 (w.heap.size + 2) nl := (Bx.new2 w nl _ _).after hb1
 have hb : Below w.heap.size w w1 := (below_three _ _ _ _).trans (hb1.mono (by simp; omega))
 clear hb1
 go_wp2_with fail
 have h12 := H12.out
 have h17 := H17.out
 have h31 := H31.out
 have h39 := H39.out
 refine Reg.wp_region_vals mixed (by kernel_rfl) [(10, x.v), (11, y.v), (12, .bool true), (13, .bool false), (14, .bool false), (15, .pointer (some ⟨w.heap.size + 1, 1, none⟩)), (16, .int .i64 y.n), (17, .bool false), (18, .bool false), (19, undef), (20, undef), (21, undef), (22, undef), (23, undef), (24, undef), (25, undef), (26, .bool false), (27, .bool false), (28, .bool false), (29, .pointer (some ⟨w.heap.size + 1, 1, none⟩)), (30, .int .i64 y.n), (31, .bool true), (32, .bool true), (33, .pointer (some ⟨w.heap.size, 1, none⟩)), (34, .int .i64 x.n), (35, .int .i64 (-9223372036854775808)), (36, .pointer (some ⟨w.heap.size + 1, 1, none⟩)), (37, .int .i64 y.n), (38, .int .i64 (wrap64 ((-9223372036854775808) - y.n))), (39, .bool false), (40, .bool false), (41, .bool false)] 49 rfl (by kernel_rfl) ?_ ?_
 · intro F hF w' hB'
   have bx := b1.after hB'
   have byy := b2.after hB'
   refine ⟨?_, ?_, ?_, ?_, ?_, ?_, ?_, ?_, ?_, ?_, ?_, ?_, ?_, ?_, ?_, ?_, ?_, ?_, ?_, ?_, ?_, ?_, ?_, ?_, ?_, ?_, ?_, ?_, ?_, ?_, ?_, ?_, trivial⟩
   · exact Reg.doesV_val (ev_load bx rfl (by rw [hF]; kernel_rfl)) (by rw [hF]; kernel_rfl) (by rw [hF]; kernel_rfl)
   · exact Reg.doesV_val (ev_load byy rfl (by rw [hF]; kernel_rfl)) (by rw [hF]; kernel_rfl) (by rw [hF]; kernel_rfl)
   · exact Reg.doesV_call (by have h := rints_c x y w'; rw [h12] at h; exact h) (ev_call enrInts rfl (by rw [hF]; kernel_rfl)) (by rw [hF]; kernel_rfl) (by rw [hF]; kernel_rfl)
   · exact Reg.doesV_val (ev_not true rfl (by rw [hF]; kernel_rfl)) (by rw [hF]; kernel_rfl) (by rw [hF]; kernel_rfl)
   · exact Reg.doesV_val (ev_move rfl) (by rw [hF]; kernel_rfl) (by rw [hF]; kernel_rfl)
   · exact Reg.doesV_val (ev_fa rfl (by rw [hF]; kernel_rfl) (fa_val1 w' (w.heap.size + 1))) (by rw [hF]; kernel_rfl) (by rw [hF]; kernel_rfl)
   · exact Reg.doesV_val (ev_ld rfl (by rw [hF]; kernel_rfl) byy.ldN) (by rw [hF]; kernel_rfl) (by rw [hF]; kernel_rfl)
   · exact Reg.doesV_val (by rw [ev_gtC (a := y.n) rfl (by rw [hF]; kernel_rfl), h17]) (by rw [hF]; kernel_rfl) (by rw [hF]; kernel_rfl)
   · exact Reg.doesV_val (ev_move rfl) (by rw [hF]; kernel_rfl) (by rw [hF]; kernel_rfl)
   · exact Reg.doesV_skip (by rw [hF]; kernel_rfl) (by rw [hF]; kernel_rfl)
   · exact Reg.doesV_skip (by rw [hF]; kernel_rfl) (by rw [hF]; kernel_rfl)
   · exact Reg.doesV_skip (by rw [hF]; kernel_rfl) (by rw [hF]; kernel_rfl)
   · exact Reg.doesV_skip (by rw [hF]; kernel_rfl) (by rw [hF]; kernel_rfl)
   · exact Reg.doesV_skip (by rw [hF]; kernel_rfl) (by rw [hF]; kernel_rfl)
   · exact Reg.doesV_skip (by rw [hF]; kernel_rfl) (by rw [hF]; kernel_rfl)
   · exact Reg.doesV_skip (by rw [hF]; kernel_rfl) (by rw [hF]; kernel_rfl)
   · exact Reg.doesV_val (ev_pick false rfl (by rw [hF]; kernel_rfl)) (by rw [hF]; kernel_rfl) (by rw [hF]; kernel_rfl)
   · exact Reg.doesV_val (ev_pick false rfl (by rw [hF]; kernel_rfl)) (by rw [hF]; kernel_rfl) (by rw [hF]; kernel_rfl)
   · exact Reg.doesV_val (ev_move rfl) (by rw [hF]; kernel_rfl) (by rw [hF]; kernel_rfl)
   · exact Reg.doesV_val (ev_fa rfl (by rw [hF]; kernel_rfl) (fa_val1 w' (w.heap.size + 1))) (by rw [hF]; kernel_rfl) (by rw [hF]; kernel_rfl)
   · exact Reg.doesV_val (ev_ld rfl (by rw [hF]; kernel_rfl) byy.ldN) (by rw [hF]; kernel_rfl) (by rw [hF]; kernel_rfl)
   · exact Reg.doesV_val (by rw [ev_ltC (a := y.n) rfl (by rw [hF]; kernel_rfl), h31]) (by rw [hF]; kernel_rfl) (by rw [hF]; kernel_rfl)
   · exact Reg.doesV_val (ev_move rfl) (by rw [hF]; kernel_rfl) (by rw [hF]; kernel_rfl)
   · exact Reg.doesV_val (ev_fa rfl (by rw [hF]; kernel_rfl) (fa_val1 w' w.heap.size)) (by rw [hF]; kernel_rfl) (by rw [hF]; kernel_rfl)
   · exact Reg.doesV_val (ev_ld rfl (by rw [hF]; kernel_rfl) bx.ldN) (by rw [hF]; kernel_rfl) (by rw [hF]; kernel_rfl)
   · exact Reg.doesV_call (least_c w') (ev_call enrLeast rfl (by simp)) (by rw [hF]; kernel_rfl) (by rw [hF]; kernel_rfl)
   · exact Reg.doesV_val (ev_fa rfl (by rw [hF]; kernel_rfl) (fa_val1 w' (w.heap.size + 1))) (by rw [hF]; kernel_rfl) (by rw [hF]; kernel_rfl)
   · exact Reg.doesV_val (ev_ld rfl (by rw [hF]; kernel_rfl) byy.ldN) (by rw [hF]; kernel_rfl) (by rw [hF]; kernel_rfl)
   · exact Reg.doesV_val (ev_subT (a := (-9223372036854775808)) (b := y.n) rfl (by rw [hF]; kernel_rfl) (by rw [hF]; kernel_rfl)) (by rw [hF]; kernel_rfl) (by rw [hF]; kernel_rfl)
   · exact Reg.doesV_val (by rw [ev_ltT (a := x.n) (b := wrap64 ((-9223372036854775808) - y.n)) rfl (by rw [hF]; kernel_rfl) (by rw [hF]; kernel_rfl), h39]) (by rw [hF]; kernel_rfl) (by rw [hF]; kernel_rfl)
   · exact Reg.doesV_val (ev_pick true rfl (by rw [hF]; kernel_rfl)) (by rw [hF]; kernel_rfl) (by rw [hF]; kernel_rfl)
   · exact Reg.doesV_val (ev_pick false rfl (by rw [hF]; kernel_rfl)) (by rw [hF]; kernel_rfl) (by rw [hF]; kernel_rfl)
 · intro w2 hB'
   simp only [Reg.putAll, Act.put, List.setIfInBounds_toArray, List.set_cons_zero, List.set_cons_succ]
   clear h12 h17 h31 h39
   have c1 := b1.after hB'
   have c2 := b2.after hB'
   have c3 := b3.after hB'
   have hb2 := hb.trans (hB'.mono hb.size)
   clear hB' b1 b2 b3 hb
   have x1 := c1.cell1
   have y1 := c2.cell1
   go_wp2_with fail
   refine (rint_c _ _).mono ?_
   rintro e w3 ⟨rfl, hb3⟩
   have d3 := c3.after hb3
   have hb4 := hb2.trans (hb3.mono hb2.size)
   obtain ⟨R, hR⟩ : ∃ R, iv (wrap64 (x.n + y.n)) = R := ⟨_, rfl⟩
   rw [hR]
   have HR := Lib.hid hR
   clear hb3 hR x1 y1 c1 c2 c3
   have g0 := d3.cell0
   have g1 := d3.cell1
   have g2 := d3.cell2
   have f0 := d3.frozen 0
   have f1 := d3.frozen 1
   have f2 := d3.frozen 2
   go_wp2
   exact ret_valX (a := R) (z := .bool true) Tryz.results73 rfl rfl (d3.put R) rfl ⟨by rw [← HR.out], put3_below hb4 (by omega) R⟩
set_option maxHeartbeats 1000000 in
theorem radd_Z (x y : Val) (w : World) (h0 : (x.k == 0 || y.k == 0) = false) (h12 : (x.k == 2 && y.k == 2) = true) (h17 : decide (0 < y.n) = false) (h31 : decide (y.n < 0) = false) : Calls Tryz.prog 73 #[x.v, y.v] w fun e w' => e = .returned (.tuple #[((iv (wrap64 (x.n + y.n)), true)).1.v, .bool ((iv (wrap64 (x.n + y.n)), true)).2]) ∧ Below w.heap.size w w' := by
 have H12 := Lib.hid h12
 have H17 := Lib.hid h17
 have H31 := Lib.hid h31
 have H0 := Lib.hid h0
 clear h0 h12 h17 h31
 go_enter Tryz.func73, Tryz.ntmps73
 go_wp2_with fail
 refine (rnulls_c x y _).mono ?_
 rintro e w1 ⟨rfl, hb1⟩
 rw [H0.out]
 have b1 : Bx w1 w.heap.size x := (((Bx.new w x).alloc _).alloc _).after hb1
 have b2 : Bx w1 (w.heap.size + 1) y := ((Bx.new1 w y _).alloc _).after hb1
 have b3 : Bx w1 (w.heap.size + 2) nl := (Bx.new2 w nl _ _).after hb1
 have hb : Below w.heap.size w w1 := (below_three _ _ _ _).trans (hb1.mono (by simp; omega))
 clear hb1
 go_wp2_with fail
 have h12 := H12.out
 have h17 := H17.out
 have h31 := H31.out
 refine Reg.wp_region_vals mixed (by kernel_rfl) [(10, x.v), (11, y.v), (12, .bool true), (13, .bool false), (14, .bool false), (15, .pointer (some ⟨w.heap.size + 1, 1, none⟩)), (16, .int .i64 y.n), (17, .bool false), (18, .bool false), (19, undef), (20, undef), (21, undef), (22, undef), (23, undef), (24, undef), (25, undef), (26, .bool false), (27, .bool false), (28, .bool false), (29, .pointer (some ⟨w.heap.size + 1, 1, none⟩)), (30, .int .i64 y.n), (31, .bool false), (32, .bool false), (33, undef), (34, undef), (35, undef), (36, undef), (37, undef), (38, undef), (39, undef), (40, .bool false), (41, .bool false)] 49 rfl (by kernel_rfl) ?_ ?_
 · intro F hF w' hB'
   have bx := b1.after hB'
   have byy := b2.after hB'
   refine ⟨?_, ?_, ?_, ?_, ?_, ?_, ?_, ?_, ?_, ?_, ?_, ?_, ?_, ?_, ?_, ?_, ?_, ?_, ?_, ?_, ?_, ?_, ?_, ?_, ?_, ?_, ?_, ?_, ?_, ?_, ?_, ?_, trivial⟩
   · exact Reg.doesV_val (ev_load bx rfl (by rw [hF]; kernel_rfl)) (by rw [hF]; kernel_rfl) (by rw [hF]; kernel_rfl)
   · exact Reg.doesV_val (ev_load byy rfl (by rw [hF]; kernel_rfl)) (by rw [hF]; kernel_rfl) (by rw [hF]; kernel_rfl)
   · exact Reg.doesV_call (by have h := rints_c x y w'; rw [h12] at h; exact h) (ev_call enrInts rfl (by rw [hF]; kernel_rfl)) (by rw [hF]; kernel_rfl) (by rw [hF]; kernel_rfl)
   · exact Reg.doesV_val (ev_not true rfl (by rw [hF]; kernel_rfl)) (by rw [hF]; kernel_rfl) (by rw [hF]; kernel_rfl)
   · exact Reg.doesV_val (ev_move rfl) (by rw [hF]; kernel_rfl) (by rw [hF]; kernel_rfl)
   · exact Reg.doesV_val (ev_fa rfl (by rw [hF]; kernel_rfl) (fa_val1 w' (w.heap.size + 1))) (by rw [hF]; kernel_rfl) (by rw [hF]; kernel_rfl)
   · exact Reg.doesV_val (ev_ld rfl (by rw [hF]; kernel_rfl) byy.ldN) (by rw [hF]; kernel_rfl) (by rw [hF]; kernel_rfl)
   · exact Reg.doesV_val (by rw [ev_gtC (a := y.n) rfl (by rw [hF]; kernel_rfl), h17]) (by rw [hF]; kernel_rfl) (by rw [hF]; kernel_rfl)
   · exact Reg.doesV_val (ev_move rfl) (by rw [hF]; kernel_rfl) (by rw [hF]; kernel_rfl)
   · exact Reg.doesV_skip (by rw [hF]; kernel_rfl) (by rw [hF]; kernel_rfl)
   · exact Reg.doesV_skip (by rw [hF]; kernel_rfl) (by rw [hF]; kernel_rfl)
   · exact Reg.doesV_skip (by rw [hF]; kernel_rfl) (by rw [hF]; kernel_rfl)
   · exact Reg.doesV_skip (by rw [hF]; kernel_rfl) (by rw [hF]; kernel_rfl)
   · exact Reg.doesV_skip (by rw [hF]; kernel_rfl) (by rw [hF]; kernel_rfl)
   · exact Reg.doesV_skip (by rw [hF]; kernel_rfl) (by rw [hF]; kernel_rfl)
   · exact Reg.doesV_skip (by rw [hF]; kernel_rfl) (by rw [hF]; kernel_rfl)
   · exact Reg.doesV_val (ev_pick false rfl (by rw [hF]; kernel_rfl)) (by rw [hF]; kernel_rfl) (by rw [hF]; kernel_rfl)
   · exact Reg.doesV_val (ev_pick false rfl (by rw [hF]; kernel_rfl)) (by rw [hF]; kernel_rfl) (by rw [hF]; kernel_rfl)
   · exact Reg.doesV_val (ev_move rfl) (by rw [hF]; kernel_rfl) (by rw [hF]; kernel_rfl)
   · exact Reg.doesV_val (ev_fa rfl (by rw [hF]; kernel_rfl) (fa_val1 w' (w.heap.size + 1))) (by rw [hF]; kernel_rfl) (by rw [hF]; kernel_rfl)
   · exact Reg.doesV_val (ev_ld rfl (by rw [hF]; kernel_rfl) byy.ldN) (by rw [hF]; kernel_rfl) (by rw [hF]; kernel_rfl)
   · exact Reg.doesV_val (by rw [ev_ltC (a := y.n) rfl (by rw [hF]; kernel_rfl), h31]) (by rw [hF]; kernel_rfl) (by rw [hF]; kernel_rfl)
   · exact Reg.doesV_val (ev_move rfl) (by rw [hF]; kernel_rfl) (by rw [hF]; kernel_rfl)
   · exact Reg.doesV_skip (by rw [hF]; kernel_rfl) (by rw [hF]; kernel_rfl)
   · exact Reg.doesV_skip (by rw [hF]; kernel_rfl) (by rw [hF]; kernel_rfl)
   · exact Reg.doesV_skip (by rw [hF]; kernel_rfl) (by rw [hF]; kernel_rfl)
   · exact Reg.doesV_skip (by rw [hF]; kernel_rfl) (by rw [hF]; kernel_rfl)
   · exact Reg.doesV_skip (by rw [hF]; kernel_rfl) (by rw [hF]; kernel_rfl)
   · exact Reg.doesV_skip (by rw [hF]; kernel_rfl) (by rw [hF]; kernel_rfl)
   · exact Reg.doesV_skip (by rw [hF]; kernel_rfl) (by rw [hF]; kernel_rfl)
   · exact Reg.doesV_val (ev_pick false rfl (by rw [hF]; kernel_rfl)) (by rw [hF]; kernel_rfl) (by rw [hF]; kernel_rfl)
   · exact Reg.doesV_val (ev_pick false rfl (by rw [hF]; kernel_rfl)) (by rw [hF]; kernel_rfl) (by rw [hF]; kernel_rfl)
 · intro w2 hB'
   simp only [Reg.putAll, Act.put, List.setIfInBounds_toArray, List.set_cons_zero, List.set_cons_succ]
   clear h12 h17 h31
   have c1 := b1.after hB'
   have c2 := b2.after hB'
   have c3 := b3.after hB'
   have hb2 := hb.trans (hB'.mono hb.size)
   clear hB' b1 b2 b3 hb
   have x1 := c1.cell1
   have y1 := c2.cell1
   go_wp2_with fail
   refine (rint_c _ _).mono ?_
   rintro e w3 ⟨rfl, hb3⟩
   have d3 := c3.after hb3
   have hb4 := hb2.trans (hb3.mono hb2.size)
   obtain ⟨R, hR⟩ : ∃ R, iv (wrap64 (x.n + y.n)) = R := ⟨_, rfl⟩
   rw [hR]
   have HR := Lib.hid hR
   clear hb3 hR x1 y1 c1 c2 c3
   have g0 := d3.cell0
   have g1 := d3.cell1
   have g2 := d3.cell2
   have f0 := d3.frozen 0
   have f1 := d3.frozen 1
   have f2 := d3.frozen 2
   go_wp2
   exact ret_valX (a := R) (z := .bool true) Tryz.results73 rfl rfl (d3.put R) rfl ⟨by rw [← HR.out], put3_below hb4 (by omega) R⟩
set_option maxHeartbeats 1000000 in
theorem radd_null (x y : Val) (w : World) (h0 : (x.k == 0 || y.k == 0) = true) : Calls Tryz.prog 73 #[x.v, y.v] w fun e w' => e = .returned (.tuple #[nl.v, .bool true]) ∧ Below w.heap.size w w' := by
 have H0 := Lib.hid h0
 clear h0
 go_enter Tryz.func73, Tryz.ntmps73
 go_wp2_with fail
 refine (rnulls_c x y _).mono ?_
 rintro e w1 ⟨rfl, hb1⟩
 rw [H0.out]
 have c3 : Bx w1 (w.heap.size + 2) nl := (Bx.new2 w nl _ _).after hb1
 have hb : Below w.heap.size w w1 := (below_three _ _ _ _).trans (hb1.mono (by simp; omega))
 clear hb1
 have g0 := c3.cell0
 have g1 := c3.cell1
 have g2 := c3.cell2
 have f0 := c3.frozen 0
 have f1 := c3.frozen 1
 have f2 := c3.frozen 2
 go_wp2
 exact ret_valX (a := nl) (z := .bool true) Tryz.results73 rfl rfl (c3.put nl) rfl ⟨rfl, put3_below hb (by omega) nl⟩
theorem r1add_c (x y : Val) (w : World) (hx : I6n x.n) (hy : I6n y.n) : Calls Tryz.prog 73 #[x.v, y.v] w fun e w' => e = .returned (.tuple #[(addR x y).1.v, .bool (addR x y).2]) ∧ Below w.heap.size w w' := by
 unfold addR
 cases h0 : (x.k == 0 || y.k == 0)
 · cases h12 : (x.k == 2 && y.k == 2)
   · rw [comp_none x y _ _ h0 h12]
     exact radd_I x y w h0 h12
   · rw [comp_ints x y _ _ h0 h12]
     obtain ⟨F, hF⟩ : ∃ F, (decide (x.n < wrap64 (x.n + y.n)) == decide (0 < y.n)) = F := ⟨_, rfl⟩
     rw [hF]
     have over : ¬ I6n (x.n + y.n) → F = false := fun h => by rw [← hF]; exact add_over x.n y.n hx hy h
     have fit : I6n (x.n + y.n) → F = true := fun h => by rw [← hF]; exact (add_fit x.n y.n h).1
     clear hF
     unfold I6n at hx hy over fit
     cases h17 : decide (0 < y.n)
     · cases h31 : decide (y.n < 0)
       · obtain rfl := fit (by simp at h17 h31; omega)
         exact radd_Z x y w h0 h12 h17 h31
       · have e38 : wrap64 ((-9223372036854775808) - y.n) = (-9223372036854775808) - y.n := by simp at h31; unfold wrap64; omega
         cases h39 : decide (x.n < wrap64 ((-9223372036854775808) - y.n))
         · obtain rfl := fit (by rw [e38] at h39; simp at h17 h31 h39; omega)
           exact radd_Q0 x y w h0 h12 h17 h31 h39
         · obtain rfl := over (by rw [e38] at h39; simp at h17 h31 h39; omega)
           exact radd_Q1 x y w h0 h12 h17 h31 h39
     · have e24 : wrap64 (9223372036854775807 - y.n) = 9223372036854775807 - y.n := by simp at h17; unfold wrap64; omega
       cases h25 : decide (wrap64 (9223372036854775807 - y.n) < x.n)
       · obtain rfl := fit (by rw [e24] at h25; simp at h17 h25; omega)
         exact radd_P0 x y w h0 h12 h17 h25 (by simp at h17 ⊢; omega)
       · obtain rfl := over (by rw [e24] at h25; simp at h17 h25; omega)
         exact radd_P1 x y w h0 h12 h17 h25
 · rw [comp_nulls x y _ _ h0]
   exact radd_null x y w h0
set_option maxHeartbeats 1000000 in
theorem rsub_I (x y : Val) (w : World) (h0 : (x.k == 0 || y.k == 0) = false) (h12 : (x.k == 2 && y.k == 2) = false) : Calls Tryz.prog 74 #[x.v, y.v] w fun e w' => e = .returned (.tuple #[((nl, false)).1.v, .bool ((nl, false)).2]) ∧ Below w.heap.size w w' := by
 have H12 := Lib.hid h12
 have H0 := Lib.hid h0
 clear h0 h12
 go_enter Tryz.func74, Tryz.ntmps74
 go_wp2_with fail
 refine (rnulls_c x y _).mono ?_
 rintro e w1 ⟨rfl, hb1⟩
 rw [H0.out]
 have b1 : Bx w1 w.heap.size x := (((Bx.new w x).alloc _).alloc _).after hb1
 have b2 : Bx w1 (w.heap.size + 1) y := ((Bx.new1 w y _).alloc _).after hb1
 have b3 : Bx w1 (w.heap.size + 2) nl := (Bx.new2 w nl _ _).after hb1
 have hb : Below w.heap.size w w1 := (below_three _ _ _ _).trans (hb1.mono (by simp; omega))
 clear hb1
 go_wp2_with fail
 have h12 := H12.out
 refine Reg.wp_region_vals mixed (by kernel_rfl) [(10, x.v), (11, y.v), (12, .bool false), (13, .bool true), (14, .bool true), (15, undef), (16, undef), (17, undef), (18, undef), (19, undef), (20, undef), (21, undef), (22, undef), (23, undef), (24, undef), (25, undef), (26, undef), (27, .bool true), (28, .bool true), (29, undef), (30, undef), (31, undef), (32, undef), (33, undef), (34, undef), (35, undef), (36, undef), (37, undef), (38, undef), (39, undef), (40, undef), (41, .bool true)] 49 rfl (by kernel_rfl) ?_ ?_
 · intro F hF w' hB'
   have bx := b1.after hB'
   have byy := b2.after hB'
   refine ⟨?_, ?_, ?_, ?_, ?_, ?_, ?_, ?_, ?_, ?_, ?_, ?_, ?_, ?_, ?_, ?_, ?_, ?_, ?_, ?_, ?_, ?_, ?_, ?_, ?_, ?_, ?_, ?_, ?_, ?_, ?_, ?_, trivial⟩
   · exact Reg.doesV_val (ev_load bx rfl (by rw [hF]; kernel_rfl)) (by rw [hF]; kernel_rfl) (by rw [hF]; kernel_rfl)
   · exact Reg.doesV_val (ev_load byy rfl (by rw [hF]; kernel_rfl)) (by rw [hF]; kernel_rfl) (by rw [hF]; kernel_rfl)
   · exact Reg.doesV_call (by have h := rints_c x y w'; rw [h12] at h; exact h) (ev_call enrInts rfl (by rw [hF]; kernel_rfl)) (by rw [hF]; kernel_rfl) (by rw [hF]; kernel_rfl)
   · exact Reg.doesV_val (ev_not false rfl (by rw [hF]; kernel_rfl)) (by rw [hF]; kernel_rfl) (by rw [hF]; kernel_rfl)
   · exact Reg.doesV_val (ev_move rfl) (by rw [hF]; kernel_rfl) (by rw [hF]; kernel_rfl)
   · exact Reg.doesV_skip (by rw [hF]; kernel_rfl) (by rw [hF]; kernel_rfl)
   · exact Reg.doesV_skip (by rw [hF]; kernel_rfl) (by rw [hF]; kernel_rfl)
   · exact Reg.doesV_skip (by rw [hF]; kernel_rfl) (by rw [hF]; kernel_rfl)
   · exact Reg.doesV_skip (by rw [hF]; kernel_rfl) (by rw [hF]; kernel_rfl)
   · exact Reg.doesV_skip (by rw [hF]; kernel_rfl) (by rw [hF]; kernel_rfl)
   · exact Reg.doesV_skip (by rw [hF]; kernel_rfl) (by rw [hF]; kernel_rfl)
   · exact Reg.doesV_skip (by rw [hF]; kernel_rfl) (by rw [hF]; kernel_rfl)
   · exact Reg.doesV_skip (by rw [hF]; kernel_rfl) (by rw [hF]; kernel_rfl)
   · exact Reg.doesV_skip (by rw [hF]; kernel_rfl) (by rw [hF]; kernel_rfl)
   · exact Reg.doesV_skip (by rw [hF]; kernel_rfl) (by rw [hF]; kernel_rfl)
   · exact Reg.doesV_skip (by rw [hF]; kernel_rfl) (by rw [hF]; kernel_rfl)
   · exact Reg.doesV_skip (by rw [hF]; kernel_rfl) (by rw [hF]; kernel_rfl)
   · exact Reg.doesV_val (ev_pick true rfl (by rw [hF]; kernel_rfl)) (by rw [hF]; kernel_rfl) (by rw [hF]; kernel_rfl)
   · exact Reg.doesV_val (ev_move rfl) (by rw [hF]; kernel_rfl) (by rw [hF]; kernel_rfl)
   · exact Reg.doesV_skip (by rw [hF]; kernel_rfl) (by rw [hF]; kernel_rfl)
   · exact Reg.doesV_skip (by rw [hF]; kernel_rfl) (by rw [hF]; kernel_rfl)
   · exact Reg.doesV_skip (by rw [hF]; kernel_rfl) (by rw [hF]; kernel_rfl)
   · exact Reg.doesV_skip (by rw [hF]; kernel_rfl) (by rw [hF]; kernel_rfl)
   · exact Reg.doesV_skip (by rw [hF]; kernel_rfl) (by rw [hF]; kernel_rfl)
   · exact Reg.doesV_skip (by rw [hF]; kernel_rfl) (by rw [hF]; kernel_rfl)
   · exact Reg.doesV_skip (by rw [hF]; kernel_rfl) (by rw [hF]; kernel_rfl)
   · exact Reg.doesV_skip (by rw [hF]; kernel_rfl) (by rw [hF]; kernel_rfl)
   · exact Reg.doesV_skip (by rw [hF]; kernel_rfl) (by rw [hF]; kernel_rfl)
   · exact Reg.doesV_skip (by rw [hF]; kernel_rfl) (by rw [hF]; kernel_rfl)
   · exact Reg.doesV_skip (by rw [hF]; kernel_rfl) (by rw [hF]; kernel_rfl)
   · exact Reg.doesV_skip (by rw [hF]; kernel_rfl) (by rw [hF]; kernel_rfl)
   · exact Reg.doesV_val (ev_pick true rfl (by rw [hF]; kernel_rfl)) (by rw [hF]; kernel_rfl) (by rw [hF]; kernel_rfl)
 · intro w2 hB'
   simp only [Reg.putAll, Act.put, List.setIfInBounds_toArray, List.set_cons_zero, List.set_cons_succ]
   clear h12
   have c1 := b1.after hB'
   have c2 := b2.after hB'
   have c3 := b3.after hB'
   have hb2 := hb.trans (hB'.mono hb.size)
   clear hB' b1 b2 b3 hb
   have g0 := c3.cell0
   have g1 := c3.cell1
   have g2 := c3.cell2
   have f0 := c3.frozen 0
   have f1 := c3.frozen 1
   have f2 := c3.frozen 2
   go_wp2
   exact ret_valX (a := nl) (z := .bool false) Tryz.results74 rfl rfl (c3.put nl) rfl ⟨rfl, put3_below hb2 (by omega) nl⟩
set_option maxHeartbeats 1000000 in
theorem rsub_P1 (x y : Val) (w : World) (h0 : (x.k == 0 || y.k == 0) = false) (h12 : (x.k == 2 && y.k == 2) = true) (h17 : decide (y.n < 0) = true) (h25 : decide (wrap64 (9223372036854775807 + y.n) < x.n) = true) : Calls Tryz.prog 74 #[x.v, y.v] w fun e w' => e = .returned (.tuple #[((nl, false)).1.v, .bool ((nl, false)).2]) ∧ Below w.heap.size w w' := by
 have H12 := Lib.hid h12
 have H17 := Lib.hid h17
 have H25 := Lib.hid h25
 have H0 := Lib.hid h0
 clear h0 h12 h17 h25
 go_enter Tryz.func74, Tryz.ntmps74
 go_wp2_with fail
 refine (rnulls_c x y _).mono ?_
 rintro e w1 ⟨rfl, hb1⟩
 rw [H0.out]
 have b1 : Bx w1 w.heap.size x := (((Bx.new w x).alloc _).alloc _).after hb1
 have b2 : Bx w1 (w.heap.size + 1) y := ((Bx.new1 w y _).alloc _).after hb1
 have b3 : Bx w1 (w.heap.size + 2) nl := (Bx.new2 w nl _ _).after hb1
 have hb : Below w.heap.size w w1 := (below_three _ _ _ _).trans (hb1.mono (by simp; omega))
 clear hb1
 go_wp2_with fail
 have h12 := H12.out
 have h17 := H17.out
 have h25 := H25.out
 refine Reg.wp_region_vals mixed (by kernel_rfl) [(10, x.v), (11, y.v), (12, .bool true), (13, .bool false), (14, .bool false), (15, .pointer (some ⟨w.heap.size + 1, 1, none⟩)), (16, .int .i64 y.n), (17, .bool true), (18, .bool true), (19, .pointer (some ⟨w.heap.size, 1, none⟩)), (20, .int .i64 x.n), (21, .int .i64 9223372036854775807), (22, .pointer (some ⟨w.heap.size + 1, 1, none⟩)), (23, .int .i64 y.n), (24, .int .i64 (wrap64 (9223372036854775807 + y.n))), (25, .bool true), (26, .bool true), (27, .bool true), (28, .bool true), (29, undef), (30, undef), (31, undef), (32, undef), (33, undef), (34, undef), (35, undef), (36, undef), (37, undef), (38, undef), (39, undef), (40, undef), (41, .bool true)] 49 rfl (by kernel_rfl) ?_ ?_
 · intro F hF w' hB'
   have bx := b1.after hB'
   have byy := b2.after hB'
   refine ⟨?_, ?_, ?_, ?_, ?_, ?_, ?_, ?_, ?_, ?_, ?_, ?_, ?_, ?_, ?_, ?_, ?_, ?_, ?_, ?_, ?_, ?_, ?_, ?_, ?_, ?_, ?_, ?_, ?_, ?_, ?_, ?_, trivial⟩
   · exact Reg.doesV_val (ev_load bx rfl (by rw [hF]; kernel_rfl)) (by rw [hF]; kernel_rfl) (by rw [hF]; kernel_rfl)
   · exact Reg.doesV_val (ev_load byy rfl (by rw [hF]; kernel_rfl)) (by rw [hF]; kernel_rfl) (by rw [hF]; kernel_rfl)
   · exact Reg.doesV_call (by have h := rints_c x y w'; rw [h12] at h; exact h) (ev_call enrInts rfl (by rw [hF]; kernel_rfl)) (by rw [hF]; kernel_rfl) (by rw [hF]; kernel_rfl)
   · exact Reg.doesV_val (ev_not true rfl (by rw [hF]; kernel_rfl)) (by rw [hF]; kernel_rfl) (by rw [hF]; kernel_rfl)
   · exact Reg.doesV_val (ev_move rfl) (by rw [hF]; kernel_rfl) (by rw [hF]; kernel_rfl)
   · exact Reg.doesV_val (ev_fa rfl (by rw [hF]; kernel_rfl) (fa_val1 w' (w.heap.size + 1))) (by rw [hF]; kernel_rfl) (by rw [hF]; kernel_rfl)
   · exact Reg.doesV_val (ev_ld rfl (by rw [hF]; kernel_rfl) byy.ldN) (by rw [hF]; kernel_rfl) (by rw [hF]; kernel_rfl)
   · exact Reg.doesV_val (by rw [ev_ltC (a := y.n) rfl (by rw [hF]; kernel_rfl), h17]) (by rw [hF]; kernel_rfl) (by rw [hF]; kernel_rfl)
   · exact Reg.doesV_val (ev_move rfl) (by rw [hF]; kernel_rfl) (by rw [hF]; kernel_rfl)
   · exact Reg.doesV_val (ev_fa rfl (by rw [hF]; kernel_rfl) (fa_val1 w' w.heap.size)) (by rw [hF]; kernel_rfl) (by rw [hF]; kernel_rfl)
   · exact Reg.doesV_val (ev_ld rfl (by rw [hF]; kernel_rfl) bx.ldN) (by rw [hF]; kernel_rfl) (by rw [hF]; kernel_rfl)
   · exact Reg.doesV_call (most_c w') (ev_call enrMost rfl (by simp)) (by rw [hF]; kernel_rfl) (by rw [hF]; kernel_rfl)
   · exact Reg.doesV_val (ev_fa rfl (by rw [hF]; kernel_rfl) (fa_val1 w' (w.heap.size + 1))) (by rw [hF]; kernel_rfl) (by rw [hF]; kernel_rfl)
   · exact Reg.doesV_val (ev_ld rfl (by rw [hF]; kernel_rfl) byy.ldN) (by rw [hF]; kernel_rfl) (by rw [hF]; kernel_rfl)
   · exact Reg.doesV_val (ev_addT (a := 9223372036854775807) (b := y.n) rfl (by rw [hF]; kernel_rfl) (by rw [hF]; kernel_rfl)) (by rw [hF]; kernel_rfl) (by rw [hF]; kernel_rfl)
   · exact Reg.doesV_val (by rw [ev_gtT (a := x.n) (b := wrap64 (9223372036854775807 + y.n)) rfl (by rw [hF]; kernel_rfl) (by rw [hF]; kernel_rfl), h25]) (by rw [hF]; kernel_rfl) (by rw [hF]; kernel_rfl)
   · exact Reg.doesV_val (ev_pick true rfl (by rw [hF]; kernel_rfl)) (by rw [hF]; kernel_rfl) (by rw [hF]; kernel_rfl)
   · exact Reg.doesV_val (ev_pick false rfl (by rw [hF]; kernel_rfl)) (by rw [hF]; kernel_rfl) (by rw [hF]; kernel_rfl)
   · exact Reg.doesV_val (ev_move rfl) (by rw [hF]; kernel_rfl) (by rw [hF]; kernel_rfl)
   · exact Reg.doesV_skip (by rw [hF]; kernel_rfl) (by rw [hF]; kernel_rfl)
   · exact Reg.doesV_skip (by rw [hF]; kernel_rfl) (by rw [hF]; kernel_rfl)
   · exact Reg.doesV_skip (by rw [hF]; kernel_rfl) (by rw [hF]; kernel_rfl)
   · exact Reg.doesV_skip (by rw [hF]; kernel_rfl) (by rw [hF]; kernel_rfl)
   · exact Reg.doesV_skip (by rw [hF]; kernel_rfl) (by rw [hF]; kernel_rfl)
   · exact Reg.doesV_skip (by rw [hF]; kernel_rfl) (by rw [hF]; kernel_rfl)
   · exact Reg.doesV_skip (by rw [hF]; kernel_rfl) (by rw [hF]; kernel_rfl)
   · exact Reg.doesV_skip (by rw [hF]; kernel_rfl) (by rw [hF]; kernel_rfl)
   · exact Reg.doesV_skip (by rw [hF]; kernel_rfl) (by rw [hF]; kernel_rfl)
   · exact Reg.doesV_skip (by rw [hF]; kernel_rfl) (by rw [hF]; kernel_rfl)
   · exact Reg.doesV_skip (by rw [hF]; kernel_rfl) (by rw [hF]; kernel_rfl)
   · exact Reg.doesV_skip (by rw [hF]; kernel_rfl) (by rw [hF]; kernel_rfl)
   · exact Reg.doesV_val (ev_pick true rfl (by rw [hF]; kernel_rfl)) (by rw [hF]; kernel_rfl) (by rw [hF]; kernel_rfl)
 · intro w2 hB'
   simp only [Reg.putAll, Act.put, List.setIfInBounds_toArray, List.set_cons_zero, List.set_cons_succ]
   clear h12 h17 h25
   have c1 := b1.after hB'
   have c2 := b2.after hB'
   have c3 := b3.after hB'
   have hb2 := hb.trans (hB'.mono hb.size)
   clear hB' b1 b2 b3 hb
   have g0 := c3.cell0
   have g1 := c3.cell1
   have g2 := c3.cell2
   have f0 := c3.frozen 0
   have f1 := c3.frozen 1
   have f2 := c3.frozen 2
   go_wp2
   exact ret_valX (a := nl) (z := .bool false) Tryz.results74 rfl rfl (c3.put nl) rfl ⟨rfl, put3_below hb2 (by omega) nl⟩
set_option maxHeartbeats 1000000 in
theorem rsub_P0 (x y : Val) (w : World) (h0 : (x.k == 0 || y.k == 0) = false) (h12 : (x.k == 2 && y.k == 2) = true) (h17 : decide (y.n < 0) = true) (h25 : decide (wrap64 (9223372036854775807 + y.n) < x.n) = false) (h31 : decide (0 < y.n) = false) : Calls Tryz.prog 74 #[x.v, y.v] w fun e w' => e = .returned (.tuple #[((iv (wrap64 (x.n - y.n)), true)).1.v, .bool ((iv (wrap64 (x.n - y.n)), true)).2]) ∧ Below w.heap.size w w' := by
 have H12 := Lib.hid h12
 have H17 := Lib.hid h17
 have H25 := Lib.hid h25
 have H31 := Lib.hid h31
 have H0 := Lib.hid h0
 clear h0 h12 h17 h25 h31
 go_enter Tryz.func74, Tryz.ntmps74
 go_wp2_with fail
 refine (rnulls_c x y _).mono ?_
 rintro e w1 ⟨rfl, hb1⟩
 rw [H0.out]
 have b1 : Bx w1 w.heap.size x := (((Bx.new w x).alloc _).alloc _).after hb1
 have b2 : Bx w1 (w.heap.size + 1) y := ((Bx.new1 w y _).alloc _).after hb1
 have b3 : Bx w1 (w.heap.size + 2) nl := (Bx.new2 w nl _ _).after hb1
 have hb : Below w.heap.size w w1 := (below_three _ _ _ _).trans (hb1.mono (by simp; omega))
 clear hb1
 go_wp2_with fail
 have h12 := H12.out
 have h17 := H17.out
 have h25 := H25.out
 have h31 := H31.out
 refine Reg.wp_region_vals mixed (by kernel_rfl) [(10, x.v), (11, y.v), (12, .bool true), (13, .bool false), (14, .bool false), (15, .pointer (some ⟨w.heap.size + 1, 1, none⟩)), (16, .int .i64 y.n), (17, .bool true), (18, .bool true), (19, .pointer (some ⟨w.heap.size, 1, none⟩)), (20, .int .i64 x.n), (21, .int .i64 9223372036854775807), (22, .pointer (some ⟨w.heap.size + 1, 1, none⟩)), (23, .int .i64 y.n), (24, .int .i64 (wrap64 (9223372036854775807 + y.n))), (25, .bool false), (26, .bool false), (27, .bool false), (28, .bool false), (29, .pointer (some ⟨w.heap.size + 1, 1, none⟩)), (30, .int .i64 y.n), (31, .bool false), (32, .bool false), (33, undef), (34, undef), (35, undef), (36, undef), (37, undef), (38, undef), (39, undef), (40, .bool false), (41, .bool false)] 49 rfl (by kernel_rfl) ?_ ?_
 · intro F hF w' hB'
   have bx := b1.after hB'
   have byy := b2.after hB'
   refine ⟨?_, ?_, ?_, ?_, ?_, ?_, ?_, ?_, ?_, ?_, ?_, ?_, ?_, ?_, ?_, ?_, ?_, ?_, ?_, ?_, ?_, ?_, ?_, ?_, ?_, ?_, ?_, ?_, ?_, ?_, ?_, ?_, trivial⟩
   · exact Reg.doesV_val (ev_load bx rfl (by rw [hF]; kernel_rfl)) (by rw [hF]; kernel_rfl) (by rw [hF]; kernel_rfl)
   · exact Reg.doesV_val (ev_load byy rfl (by rw [hF]; kernel_rfl)) (by rw [hF]; kernel_rfl) (by rw [hF]; kernel_rfl)
   · exact Reg.doesV_call (by have h := rints_c x y w'; rw [h12] at h; exact h) (ev_call enrInts rfl (by rw [hF]; kernel_rfl)) (by rw [hF]; kernel_rfl) (by rw [hF]; kernel_rfl)
   · exact Reg.doesV_val (ev_not true rfl (by rw [hF]; kernel_rfl)) (by rw [hF]; kernel_rfl) (by rw [hF]; kernel_rfl)
   · exact Reg.doesV_val (ev_move rfl) (by rw [hF]; kernel_rfl) (by rw [hF]; kernel_rfl)
   · exact Reg.doesV_val (ev_fa rfl (by rw [hF]; kernel_rfl) (fa_val1 w' (w.heap.size + 1))) (by rw [hF]; kernel_rfl) (by rw [hF]; kernel_rfl)
   · exact Reg.doesV_val (ev_ld rfl (by rw [hF]; kernel_rfl) byy.ldN) (by rw [hF]; kernel_rfl) (by rw [hF]; kernel_rfl)
   · exact Reg.doesV_val (by rw [ev_ltC (a := y.n) rfl (by rw [hF]; kernel_rfl), h17]) (by rw [hF]; kernel_rfl) (by rw [hF]; kernel_rfl)
   · exact Reg.doesV_val (ev_move rfl) (by rw [hF]; kernel_rfl) (by rw [hF]; kernel_rfl)
   · exact Reg.doesV_val (ev_fa rfl (by rw [hF]; kernel_rfl) (fa_val1 w' w.heap.size)) (by rw [hF]; kernel_rfl) (by rw [hF]; kernel_rfl)
   · exact Reg.doesV_val (ev_ld rfl (by rw [hF]; kernel_rfl) bx.ldN) (by rw [hF]; kernel_rfl) (by rw [hF]; kernel_rfl)
   · exact Reg.doesV_call (most_c w') (ev_call enrMost rfl (by simp)) (by rw [hF]; kernel_rfl) (by rw [hF]; kernel_rfl)
   · exact Reg.doesV_val (ev_fa rfl (by rw [hF]; kernel_rfl) (fa_val1 w' (w.heap.size + 1))) (by rw [hF]; kernel_rfl) (by rw [hF]; kernel_rfl)
   · exact Reg.doesV_val (ev_ld rfl (by rw [hF]; kernel_rfl) byy.ldN) (by rw [hF]; kernel_rfl) (by rw [hF]; kernel_rfl)
   · exact Reg.doesV_val (ev_addT (a := 9223372036854775807) (b := y.n) rfl (by rw [hF]; kernel_rfl) (by rw [hF]; kernel_rfl)) (by rw [hF]; kernel_rfl) (by rw [hF]; kernel_rfl)
   · exact Reg.doesV_val (by rw [ev_gtT (a := x.n) (b := wrap64 (9223372036854775807 + y.n)) rfl (by rw [hF]; kernel_rfl) (by rw [hF]; kernel_rfl), h25]) (by rw [hF]; kernel_rfl) (by rw [hF]; kernel_rfl)
   · exact Reg.doesV_val (ev_pick true rfl (by rw [hF]; kernel_rfl)) (by rw [hF]; kernel_rfl) (by rw [hF]; kernel_rfl)
   · exact Reg.doesV_val (ev_pick false rfl (by rw [hF]; kernel_rfl)) (by rw [hF]; kernel_rfl) (by rw [hF]; kernel_rfl)
   · exact Reg.doesV_val (ev_move rfl) (by rw [hF]; kernel_rfl) (by rw [hF]; kernel_rfl)
   · exact Reg.doesV_val (ev_fa rfl (by rw [hF]; kernel_rfl) (fa_val1 w' (w.heap.size + 1))) (by rw [hF]; kernel_rfl) (by rw [hF]; kernel_rfl)
   · exact Reg.doesV_val (ev_ld rfl (by rw [hF]; kernel_rfl) byy.ldN) (by rw [hF]; kernel_rfl) (by rw [hF]; kernel_rfl)
   · exact Reg.doesV_val (by rw [ev_gtC (a := y.n) rfl (by rw [hF]; kernel_rfl), h31]) (by rw [hF]; kernel_rfl) (by rw [hF]; kernel_rfl)
   · exact Reg.doesV_val (ev_move rfl) (by rw [hF]; kernel_rfl) (by rw [hF]; kernel_rfl)
   · exact Reg.doesV_skip (by rw [hF]; kernel_rfl) (by rw [hF]; kernel_rfl)
   · exact Reg.doesV_skip (by rw [hF]; kernel_rfl) (by rw [hF]; kernel_rfl)
   · exact Reg.doesV_skip (by rw [hF]; kernel_rfl) (by rw [hF]; kernel_rfl)
   · exact Reg.doesV_skip (by rw [hF]; kernel_rfl) (by rw [hF]; kernel_rfl)
   · exact Reg.doesV_skip (by rw [hF]; kernel_rfl) (by rw [hF]; kernel_rfl)
   · exact Reg.doesV_skip (by rw [hF]; kernel_rfl) (by rw [hF]; kernel_rfl)
   · exact Reg.doesV_skip (by rw [hF]; kernel_rfl) (by rw [hF]; kernel_rfl)
   · exact Reg.doesV_val (ev_pick false rfl (by rw [hF]; kernel_rfl)) (by rw [hF]; kernel_rfl) (by rw [hF]; kernel_rfl)
   · exact Reg.doesV_val (ev_pick false rfl (by rw [hF]; kernel_rfl)) (by rw [hF]; kernel_rfl) (by rw [hF]; kernel_rfl)
 · intro w2 hB'
   simp only [Reg.putAll, Act.put, List.setIfInBounds_toArray, List.set_cons_zero, List.set_cons_succ]
   clear h12 h17 h25 h31
   have c1 := b1.after hB'
   have c2 := b2.after hB'
   have c3 := b3.after hB'
   have hb2 := hb.trans (hB'.mono hb.size)
   clear hB' b1 b2 b3 hb
   have x1 := c1.cell1
   have y1 := c2.cell1
   go_wp2_with fail
   refine (rint_c _ _).mono ?_
   rintro e w3 ⟨rfl, hb3⟩
   have d3 := c3.after hb3
   have hb4 := hb2.trans (hb3.mono hb2.size)
   obtain ⟨R, hR⟩ : ∃ R, iv (wrap64 (x.n - y.n)) = R := ⟨_, rfl⟩
   rw [hR]
   have HR := Lib.hid hR
   clear hb3 hR x1 y1 c1 c2 c3
   have g0 := d3.cell0
   have g1 := d3.cell1
   have g2 := d3.cell2
   have f0 := d3.frozen 0
   have f1 := d3.frozen 1
   have f2 := d3.frozen 2
   go_wp2
   exact ret_valX (a := R) (z := .bool true) Tryz.results74 rfl rfl (d3.put R) rfl ⟨by rw [← HR.out], put3_below hb4 (by omega) R⟩
set_option maxHeartbeats 1000000 in
theorem rsub_Q1 (x y : Val) (w : World) (h0 : (x.k == 0 || y.k == 0) = false) (h12 : (x.k == 2 && y.k == 2) = true) (h17 : decide (y.n < 0) = false) (h31 : decide (0 < y.n) = true) (h39 : decide (x.n < wrap64 ((-9223372036854775808) + y.n)) = true) : Calls Tryz.prog 74 #[x.v, y.v] w fun e w' => e = .returned (.tuple #[((nl, false)).1.v, .bool ((nl, false)).2]) ∧ Below w.heap.size w w' := by
 have H12 := Lib.hid h12
 have H17 := Lib.hid h17
 have H31 := Lib.hid h31
 have H39 := Lib.hid h39
 have H0 := Lib.hid h0
 clear h0 h12 h17 h31 h39
 go_enter Tryz.func74, Tryz.ntmps74
 go_wp2_with fail
 refine (rnulls_c x y _).mono ?_
 rintro e w1 ⟨rfl, hb1⟩
 rw [H0.out]
 have b1 : Bx w1 w.heap.size x := (((Bx.new w x).alloc _).alloc _).after hb1
 have b2 : Bx w1 (w.heap.size + 1) y := ((Bx.new1 w y _).alloc _).after hb1
 have b3 : Bx w1 (w.heap.size + 2) nl := (Bx.new2 w nl _ _).after hb1
 have hb : Below w.heap.size w w1 := (below_three _ _ _ _).trans (hb1.mono (by simp; omega))
 clear hb1
 go_wp2_with fail
 have h12 := H12.out
 have h17 := H17.out
 have h31 := H31.out
 have h39 := H39.out
 refine Reg.wp_region_vals mixed (by kernel_rfl) [(10, x.v), (11, y.v), (12, .bool true), (13, .bool false), (14, .bool false), (15, .pointer (some ⟨w.heap.size + 1, 1, none⟩)), (16, .int .i64 y.n), (17, .bool false), (18, .bool false), (19, undef), (20, undef), (21, undef), (22, undef), (23, undef), (24, undef), (25, undef), (26, .bool false), (27, .bool false), (28, .bool false), (29, .pointer (some ⟨w.heap.size + 1, 1, none⟩)), (30, .int .i64 y.n), (31, .bool true), (32, .bool true), (33, .pointer (some ⟨w.heap.size, 1, none⟩)), (34, .int .i64 x.n), (35, .int .i64 (-9223372036854775808)), (36, .pointer (some ⟨w.heap.size + 1, 1, none⟩)), (37, .int .i64 y.n), (38, .int .i64 (wrap64 ((-9223372036854775808) + y.n))), (39, .bool true), (40, .bool true), (41, .bool true)] 49 rfl (by kernel_rfl) ?_ ?_
 · intro F hF w' hB'
   have bx := b1.after hB'
   have byy := b2.after hB'
   refine ⟨?_, ?_, ?_, ?_, ?_, ?_, ?_, ?_, ?_, ?_, ?_, ?_, ?_, ?_, ?_, ?_, ?_, ?_, ?_, ?_, ?_, ?_, ?_, ?_, ?_, ?_, ?_, ?_, ?_, ?_, ?_, ?_, trivial⟩
   · exact Reg.doesV_val (ev_load bx rfl (by rw [hF]; kernel_rfl)) (by rw [hF]; kernel_rfl) (by rw [hF]; kernel_rfl)
   · exact Reg.doesV_val (ev_load byy rfl (by rw [hF]; kernel_rfl)) (by rw [hF]; kernel_rfl) (by rw [hF]; kernel_rfl)
   · exact Reg.doesV_call (by have h := rints_c x y w'; rw [h12] at h; exact h) (ev_call enrInts rfl (by rw [hF]; kernel_rfl)) (by rw [hF]; kernel_rfl) (by rw [hF]; kernel_rfl)
   · exact Reg.doesV_val (ev_not true rfl (by rw [hF]; kernel_rfl)) (by rw [hF]; kernel_rfl) (by rw [hF]; kernel_rfl)
   · exact Reg.doesV_val (ev_move rfl) (by rw [hF]; kernel_rfl) (by rw [hF]; kernel_rfl)
   · exact Reg.doesV_val (ev_fa rfl (by rw [hF]; kernel_rfl) (fa_val1 w' (w.heap.size + 1))) (by rw [hF]; kernel_rfl) (by rw [hF]; kernel_rfl)
   · exact Reg.doesV_val (ev_ld rfl (by rw [hF]; kernel_rfl) byy.ldN) (by rw [hF]; kernel_rfl) (by rw [hF]; kernel_rfl)
   · exact Reg.doesV_val (by rw [ev_ltC (a := y.n) rfl (by rw [hF]; kernel_rfl), h17]) (by rw [hF]; kernel_rfl) (by rw [hF]; kernel_rfl)
   · exact Reg.doesV_val (ev_move rfl) (by rw [hF]; kernel_rfl) (by rw [hF]; kernel_rfl)
   · exact Reg.doesV_skip (by rw [hF]; kernel_rfl) (by rw [hF]; kernel_rfl)
   · exact Reg.doesV_skip (by rw [hF]; kernel_rfl) (by rw [hF]; kernel_rfl)
   · exact Reg.doesV_skip (by rw [hF]; kernel_rfl) (by rw [hF]; kernel_rfl)
   · exact Reg.doesV_skip (by rw [hF]; kernel_rfl) (by rw [hF]; kernel_rfl)
   · exact Reg.doesV_skip (by rw [hF]; kernel_rfl) (by rw [hF]; kernel_rfl)
   · exact Reg.doesV_skip (by rw [hF]; kernel_rfl) (by rw [hF]; kernel_rfl)
   · exact Reg.doesV_skip (by rw [hF]; kernel_rfl) (by rw [hF]; kernel_rfl)
   · exact Reg.doesV_val (ev_pick false rfl (by rw [hF]; kernel_rfl)) (by rw [hF]; kernel_rfl) (by rw [hF]; kernel_rfl)
   · exact Reg.doesV_val (ev_pick false rfl (by rw [hF]; kernel_rfl)) (by rw [hF]; kernel_rfl) (by rw [hF]; kernel_rfl)
   · exact Reg.doesV_val (ev_move rfl) (by rw [hF]; kernel_rfl) (by rw [hF]; kernel_rfl)
   · exact Reg.doesV_val (ev_fa rfl (by rw [hF]; kernel_rfl) (fa_val1 w' (w.heap.size + 1))) (by rw [hF]; kernel_rfl) (by rw [hF]; kernel_rfl)
   · exact Reg.doesV_val (ev_ld rfl (by rw [hF]; kernel_rfl) byy.ldN) (by rw [hF]; kernel_rfl) (by rw [hF]; kernel_rfl)
   · exact Reg.doesV_val (by rw [ev_gtC (a := y.n) rfl (by rw [hF]; kernel_rfl), h31]) (by rw [hF]; kernel_rfl) (by rw [hF]; kernel_rfl)
   · exact Reg.doesV_val (ev_move rfl) (by rw [hF]; kernel_rfl) (by rw [hF]; kernel_rfl)
   · exact Reg.doesV_val (ev_fa rfl (by rw [hF]; kernel_rfl) (fa_val1 w' w.heap.size)) (by rw [hF]; kernel_rfl) (by rw [hF]; kernel_rfl)
   · exact Reg.doesV_val (ev_ld rfl (by rw [hF]; kernel_rfl) bx.ldN) (by rw [hF]; kernel_rfl) (by rw [hF]; kernel_rfl)
   · exact Reg.doesV_call (least_c w') (ev_call enrLeast rfl (by simp)) (by rw [hF]; kernel_rfl) (by rw [hF]; kernel_rfl)
   · exact Reg.doesV_val (ev_fa rfl (by rw [hF]; kernel_rfl) (fa_val1 w' (w.heap.size + 1))) (by rw [hF]; kernel_rfl) (by rw [hF]; kernel_rfl)
   · exact Reg.doesV_val (ev_ld rfl (by rw [hF]; kernel_rfl) byy.ldN) (by rw [hF]; kernel_rfl) (by rw [hF]; kernel_rfl)
   · exact Reg.doesV_val (ev_addT (a := (-9223372036854775808)) (b := y.n) rfl (by rw [hF]; kernel_rfl) (by rw [hF]; kernel_rfl)) (by rw [hF]; kernel_rfl) (by rw [hF]; kernel_rfl)
   · exact Reg.doesV_val (by rw [ev_ltT (a := x.n) (b := wrap64 ((-9223372036854775808) + y.n)) rfl (by rw [hF]; kernel_rfl) (by rw [hF]; kernel_rfl), h39]) (by rw [hF]; kernel_rfl) (by rw [hF]; kernel_rfl)
   · exact Reg.doesV_val (ev_pick true rfl (by rw [hF]; kernel_rfl)) (by rw [hF]; kernel_rfl) (by rw [hF]; kernel_rfl)
   · exact Reg.doesV_val (ev_pick false rfl (by rw [hF]; kernel_rfl)) (by rw [hF]; kernel_rfl) (by rw [hF]; kernel_rfl)
 · intro w2 hB'
   simp only [Reg.putAll, Act.put, List.setIfInBounds_toArray, List.set_cons_zero, List.set_cons_succ]
   clear h12 h17 h31 h39
   have c1 := b1.after hB'
   have c2 := b2.after hB'
   have c3 := b3.after hB'
   have hb2 := hb.trans (hB'.mono hb.size)
   clear hB' b1 b2 b3 hb
   have g0 := c3.cell0
   have g1 := c3.cell1
   have g2 := c3.cell2
   have f0 := c3.frozen 0
   have f1 := c3.frozen 1
   have f2 := c3.frozen 2
   go_wp2
   exact ret_valX (a := nl) (z := .bool false) Tryz.results74 rfl rfl (c3.put nl) rfl ⟨rfl, put3_below hb2 (by omega) nl⟩
set_option maxHeartbeats 1000000 in
theorem rsub_Q0 (x y : Val) (w : World) (h0 : (x.k == 0 || y.k == 0) = false) (h12 : (x.k == 2 && y.k == 2) = true) (h17 : decide (y.n < 0) = false) (h31 : decide (0 < y.n) = true) (h39 : decide (x.n < wrap64 ((-9223372036854775808) + y.n)) = false) : Calls Tryz.prog 74 #[x.v, y.v] w fun e w' => e = .returned (.tuple #[((iv (wrap64 (x.n - y.n)), true)).1.v, .bool ((iv (wrap64 (x.n - y.n)), true)).2]) ∧ Below w.heap.size w w' := by
 have H12 := Lib.hid h12
 have H17 := Lib.hid h17
 have H31 := Lib.hid h31
 have H39 := Lib.hid h39
 have H0 := Lib.hid h0
 clear h0 h12 h17 h31 h39
 go_enter Tryz.func74, Tryz.ntmps74
 go_wp2_with fail
 refine (rnulls_c x y _).mono ?_
 rintro e w1 ⟨rfl, hb1⟩
 rw [H0.out]
 have b1 : Bx w1 w.heap.size x := (((Bx.new w x).alloc _).alloc _).after hb1
 have b2 : Bx w1 (w.heap.size + 1) y := ((Bx.new1 w y _).alloc _).after hb1
 have b3 : Bx w1 (w.heap.size + 2) nl := (Bx.new2 w nl _ _).after hb1
 have hb : Below w.heap.size w w1 := (below_three _ _ _ _).trans (hb1.mono (by simp; omega))
 clear hb1
 go_wp2_with fail
 have h12 := H12.out
 have h17 := H17.out
 have h31 := H31.out
 have h39 := H39.out
 refine Reg.wp_region_vals mixed (by kernel_rfl) [(10, x.v), (11, y.v), (12, .bool true), (13, .bool false), (14, .bool false), (15, .pointer (some ⟨w.heap.size + 1, 1, none⟩)), (16, .int .i64 y.n), (17, .bool false), (18, .bool false), (19, undef), (20, undef), (21, undef), (22, undef), (23, undef), (24, undef), (25, undef), (26, .bool false), (27, .bool false), (28, .bool false), (29, .pointer (some ⟨w.heap.size + 1, 1, none⟩)), (30, .int .i64 y.n), (31, .bool true), (32, .bool true), (33, .pointer (some ⟨w.heap.size, 1, none⟩)), (34, .int .i64 x.n), (35, .int .i64 (-9223372036854775808)), (36, .pointer (some ⟨w.heap.size + 1, 1, none⟩)), (37, .int .i64 y.n), (38, .int .i64 (wrap64 ((-9223372036854775808) + y.n))), (39, .bool false), (40, .bool false), (41, .bool false)] 49 rfl (by kernel_rfl) ?_ ?_
 · intro F hF w' hB'
   have bx := b1.after hB'
   have byy := b2.after hB'
   refine ⟨?_, ?_, ?_, ?_, ?_, ?_, ?_, ?_, ?_, ?_, ?_, ?_, ?_, ?_, ?_, ?_, ?_, ?_, ?_, ?_, ?_, ?_, ?_, ?_, ?_, ?_, ?_, ?_, ?_, ?_, ?_, ?_, trivial⟩
   · exact Reg.doesV_val (ev_load bx rfl (by rw [hF]; kernel_rfl)) (by rw [hF]; kernel_rfl) (by rw [hF]; kernel_rfl)
   · exact Reg.doesV_val (ev_load byy rfl (by rw [hF]; kernel_rfl)) (by rw [hF]; kernel_rfl) (by rw [hF]; kernel_rfl)
   · exact Reg.doesV_call (by have h := rints_c x y w'; rw [h12] at h; exact h) (ev_call enrInts rfl (by rw [hF]; kernel_rfl)) (by rw [hF]; kernel_rfl) (by rw [hF]; kernel_rfl)
   · exact Reg.doesV_val (ev_not true rfl (by rw [hF]; kernel_rfl)) (by rw [hF]; kernel_rfl) (by rw [hF]; kernel_rfl)
   · exact Reg.doesV_val (ev_move rfl) (by rw [hF]; kernel_rfl) (by rw [hF]; kernel_rfl)
   · exact Reg.doesV_val (ev_fa rfl (by rw [hF]; kernel_rfl) (fa_val1 w' (w.heap.size + 1))) (by rw [hF]; kernel_rfl) (by rw [hF]; kernel_rfl)
   · exact Reg.doesV_val (ev_ld rfl (by rw [hF]; kernel_rfl) byy.ldN) (by rw [hF]; kernel_rfl) (by rw [hF]; kernel_rfl)
   · exact Reg.doesV_val (by rw [ev_ltC (a := y.n) rfl (by rw [hF]; kernel_rfl), h17]) (by rw [hF]; kernel_rfl) (by rw [hF]; kernel_rfl)
   · exact Reg.doesV_val (ev_move rfl) (by rw [hF]; kernel_rfl) (by rw [hF]; kernel_rfl)
   · exact Reg.doesV_skip (by rw [hF]; kernel_rfl) (by rw [hF]; kernel_rfl)
   · exact Reg.doesV_skip (by rw [hF]; kernel_rfl) (by rw [hF]; kernel_rfl)
   · exact Reg.doesV_skip (by rw [hF]; kernel_rfl) (by rw [hF]; kernel_rfl)
   · exact Reg.doesV_skip (by rw [hF]; kernel_rfl) (by rw [hF]; kernel_rfl)
   · exact Reg.doesV_skip (by rw [hF]; kernel_rfl) (by rw [hF]; kernel_rfl)
   · exact Reg.doesV_skip (by rw [hF]; kernel_rfl) (by rw [hF]; kernel_rfl)
   · exact Reg.doesV_skip (by rw [hF]; kernel_rfl) (by rw [hF]; kernel_rfl)
   · exact Reg.doesV_val (ev_pick false rfl (by rw [hF]; kernel_rfl)) (by rw [hF]; kernel_rfl) (by rw [hF]; kernel_rfl)
   · exact Reg.doesV_val (ev_pick false rfl (by rw [hF]; kernel_rfl)) (by rw [hF]; kernel_rfl) (by rw [hF]; kernel_rfl)
   · exact Reg.doesV_val (ev_move rfl) (by rw [hF]; kernel_rfl) (by rw [hF]; kernel_rfl)
   · exact Reg.doesV_val (ev_fa rfl (by rw [hF]; kernel_rfl) (fa_val1 w' (w.heap.size + 1))) (by rw [hF]; kernel_rfl) (by rw [hF]; kernel_rfl)
   · exact Reg.doesV_val (ev_ld rfl (by rw [hF]; kernel_rfl) byy.ldN) (by rw [hF]; kernel_rfl) (by rw [hF]; kernel_rfl)
   · exact Reg.doesV_val (by rw [ev_gtC (a := y.n) rfl (by rw [hF]; kernel_rfl), h31]) (by rw [hF]; kernel_rfl) (by rw [hF]; kernel_rfl)
   · exact Reg.doesV_val (ev_move rfl) (by rw [hF]; kernel_rfl) (by rw [hF]; kernel_rfl)
   · exact Reg.doesV_val (ev_fa rfl (by rw [hF]; kernel_rfl) (fa_val1 w' w.heap.size)) (by rw [hF]; kernel_rfl) (by rw [hF]; kernel_rfl)
   · exact Reg.doesV_val (ev_ld rfl (by rw [hF]; kernel_rfl) bx.ldN) (by rw [hF]; kernel_rfl) (by rw [hF]; kernel_rfl)
   · exact Reg.doesV_call (least_c w') (ev_call enrLeast rfl (by simp)) (by rw [hF]; kernel_rfl) (by rw [hF]; kernel_rfl)
   · exact Reg.doesV_val (ev_fa rfl (by rw [hF]; kernel_rfl) (fa_val1 w' (w.heap.size + 1))) (by rw [hF]; kernel_rfl) (by rw [hF]; kernel_rfl)
   · exact Reg.doesV_val (ev_ld rfl (by rw [hF]; kernel_rfl) byy.ldN) (by rw [hF]; kernel_rfl) (by rw [hF]; kernel_rfl)
   · exact Reg.doesV_val (ev_addT (a := (-9223372036854775808)) (b := y.n) rfl (by rw [hF]; kernel_rfl) (by rw [hF]; kernel_rfl)) (by rw [hF]; kernel_rfl) (by rw [hF]; kernel_rfl)
   · exact Reg.doesV_val (by rw [ev_ltT (a := x.n) (b := wrap64 ((-9223372036854775808) + y.n)) rfl (by rw [hF]; kernel_rfl) (by rw [hF]; kernel_rfl), h39]) (by rw [hF]; kernel_rfl) (by rw [hF]; kernel_rfl)
   · exact Reg.doesV_val (ev_pick true rfl (by rw [hF]; kernel_rfl)) (by rw [hF]; kernel_rfl) (by rw [hF]; kernel_rfl)
   · exact Reg.doesV_val (ev_pick false rfl (by rw [hF]; kernel_rfl)) (by rw [hF]; kernel_rfl) (by rw [hF]; kernel_rfl)
 · intro w2 hB'
   simp only [Reg.putAll, Act.put, List.setIfInBounds_toArray, List.set_cons_zero, List.set_cons_succ]
   clear h12 h17 h31 h39
   have c1 := b1.after hB'
   have c2 := b2.after hB'
   have c3 := b3.after hB'
   have hb2 := hb.trans (hB'.mono hb.size)
   clear hB' b1 b2 b3 hb
   have x1 := c1.cell1
   have y1 := c2.cell1
   go_wp2_with fail
   refine (rint_c _ _).mono ?_
   rintro e w3 ⟨rfl, hb3⟩
   have d3 := c3.after hb3
   have hb4 := hb2.trans (hb3.mono hb2.size)
   obtain ⟨R, hR⟩ : ∃ R, iv (wrap64 (x.n - y.n)) = R := ⟨_, rfl⟩
   rw [hR]
   have HR := Lib.hid hR
   clear hb3 hR x1 y1 c1 c2 c3
   have g0 := d3.cell0
   have g1 := d3.cell1
   have g2 := d3.cell2
   have f0 := d3.frozen 0
   have f1 := d3.frozen 1
   have f2 := d3.frozen 2
   go_wp2
   exact ret_valX (a := R) (z := .bool true) Tryz.results74 rfl rfl (d3.put R) rfl ⟨by rw [← HR.out], put3_below hb4 (by omega) R⟩
set_option maxHeartbeats 1000000 in
theorem rsub_Z (x y : Val) (w : World) (h0 : (x.k == 0 || y.k == 0) = false) (h12 : (x.k == 2 && y.k == 2) = true) (h17 : decide (y.n < 0) = false) (h31 : decide (0 < y.n) = false) : Calls Tryz.prog 74 #[x.v, y.v] w fun e w' => e = .returned (.tuple #[((iv (wrap64 (x.n - y.n)), true)).1.v, .bool ((iv (wrap64 (x.n - y.n)), true)).2]) ∧ Below w.heap.size w w' := by
 have H12 := Lib.hid h12
 have H17 := Lib.hid h17
 have H31 := Lib.hid h31
 have H0 := Lib.hid h0
 clear h0 h12 h17 h31
 go_enter Tryz.func74, Tryz.ntmps74
 go_wp2_with fail
 refine (rnulls_c x y _).mono ?_
 rintro e w1 ⟨rfl, hb1⟩
 rw [H0.out]
 have b1 : Bx w1 w.heap.size x := (((Bx.new w x).alloc _).alloc _).after hb1
 have b2 : Bx w1 (w.heap.size + 1) y := ((Bx.new1 w y _).alloc _).after hb1
 have b3 : Bx w1 (w.heap.size + 2) nl := (Bx.new2 w nl _ _).after hb1
 have hb : Below w.heap.size w w1 := (below_three _ _ _ _).trans (hb1.mono (by simp; omega))
 clear hb1
 go_wp2_with fail
 have h12 := H12.out
 have h17 := H17.out
 have h31 := H31.out
 refine Reg.wp_region_vals mixed (by kernel_rfl) [(10, x.v), (11, y.v), (12, .bool true), (13, .bool false), (14, .bool false), (15, .pointer (some ⟨w.heap.size + 1, 1, none⟩)), (16, .int .i64 y.n), (17, .bool false), (18, .bool false), (19, undef), (20, undef), (21, undef), (22, undef), (23, undef), (24, undef), (25, undef), (26, .bool false), (27, .bool false), (28, .bool false), (29, .pointer (some ⟨w.heap.size + 1, 1, none⟩)), (30, .int .i64 y.n), (31, .bool false), (32, .bool false), (33, undef), (34, undef), (35, undef), (36, undef), (37, undef), (38, undef), (39, undef), (40, .bool false), (41, .bool false)] 49 rfl (by kernel_rfl) ?_ ?_
 · intro F hF w' hB'
   have bx := b1.after hB'
   have byy := b2.after hB'
   refine ⟨?_, ?_, ?_, ?_, ?_, ?_, ?_, ?_, ?_, ?_, ?_, ?_, ?_, ?_, ?_, ?_, ?_, ?_, ?_, ?_, ?_, ?_, ?_, ?_, ?_, ?_, ?_, ?_, ?_, ?_, ?_, ?_, trivial⟩
   · exact Reg.doesV_val (ev_load bx rfl (by rw [hF]; kernel_rfl)) (by rw [hF]; kernel_rfl) (by rw [hF]; kernel_rfl)
   · exact Reg.doesV_val (ev_load byy rfl (by rw [hF]; kernel_rfl)) (by rw [hF]; kernel_rfl) (by rw [hF]; kernel_rfl)
   · exact Reg.doesV_call (by have h := rints_c x y w'; rw [h12] at h; exact h) (ev_call enrInts rfl (by rw [hF]; kernel_rfl)) (by rw [hF]; kernel_rfl) (by rw [hF]; kernel_rfl)
   · exact Reg.doesV_val (ev_not true rfl (by rw [hF]; kernel_rfl)) (by rw [hF]; kernel_rfl) (by rw [hF]; kernel_rfl)
   · exact Reg.doesV_val (ev_move rfl) (by rw [hF]; kernel_rfl) (by rw [hF]; kernel_rfl)
   · exact Reg.doesV_val (ev_fa rfl (by rw [hF]; kernel_rfl) (fa_val1 w' (w.heap.size + 1))) (by rw [hF]; kernel_rfl) (by rw [hF]; kernel_rfl)
   · exact Reg.doesV_val (ev_ld rfl (by rw [hF]; kernel_rfl) byy.ldN) (by rw [hF]; kernel_rfl) (by rw [hF]; kernel_rfl)
   · exact Reg.doesV_val (by rw [ev_ltC (a := y.n) rfl (by rw [hF]; kernel_rfl), h17]) (by rw [hF]; kernel_rfl) (by rw [hF]; kernel_rfl)
   · exact Reg.doesV_val (ev_move rfl) (by rw [hF]; kernel_rfl) (by rw [hF]; kernel_rfl)
   · exact Reg.doesV_skip (by rw [hF]; kernel_rfl) (by rw [hF]; kernel_rfl)
   · exact Reg.doesV_skip (by rw [hF]; kernel_rfl) (by rw [hF]; kernel_rfl)
   · exact Reg.doesV_skip (by rw [hF]; kernel_rfl) (by rw [hF]; kernel_rfl)
   · exact Reg.doesV_skip (by rw [hF]; kernel_rfl) (by rw [hF]; kernel_rfl)
   · exact Reg.doesV_skip (by rw [hF]; kernel_rfl) (by rw [hF]; kernel_rfl)
   · exact Reg.doesV_skip (by rw [hF]; kernel_rfl) (by rw [hF]; kernel_rfl)
   · exact Reg.doesV_skip (by rw [hF]; kernel_rfl) (by rw [hF]; kernel_rfl)
   · exact Reg.doesV_val (ev_pick false rfl (by rw [hF]; kernel_rfl)) (by rw [hF]; kernel_rfl) (by rw [hF]; kernel_rfl)
   · exact Reg.doesV_val (ev_pick false rfl (by rw [hF]; kernel_rfl)) (by rw [hF]; kernel_rfl) (by rw [hF]; kernel_rfl)
   · exact Reg.doesV_val (ev_move rfl) (by rw [hF]; kernel_rfl) (by rw [hF]; kernel_rfl)
   · exact Reg.doesV_val (ev_fa rfl (by rw [hF]; kernel_rfl) (fa_val1 w' (w.heap.size + 1))) (by rw [hF]; kernel_rfl) (by rw [hF]; kernel_rfl)
   · exact Reg.doesV_val (ev_ld rfl (by rw [hF]; kernel_rfl) byy.ldN) (by rw [hF]; kernel_rfl) (by rw [hF]; kernel_rfl)
   · exact Reg.doesV_val (by rw [ev_gtC (a := y.n) rfl (by rw [hF]; kernel_rfl), h31]) (by rw [hF]; kernel_rfl) (by rw [hF]; kernel_rfl)
   · exact Reg.doesV_val (ev_move rfl) (by rw [hF]; kernel_rfl) (by rw [hF]; kernel_rfl)
   · exact Reg.doesV_skip (by rw [hF]; kernel_rfl) (by rw [hF]; kernel_rfl)
   · exact Reg.doesV_skip (by rw [hF]; kernel_rfl) (by rw [hF]; kernel_rfl)
   · exact Reg.doesV_skip (by rw [hF]; kernel_rfl) (by rw [hF]; kernel_rfl)
   · exact Reg.doesV_skip (by rw [hF]; kernel_rfl) (by rw [hF]; kernel_rfl)
   · exact Reg.doesV_skip (by rw [hF]; kernel_rfl) (by rw [hF]; kernel_rfl)
   · exact Reg.doesV_skip (by rw [hF]; kernel_rfl) (by rw [hF]; kernel_rfl)
   · exact Reg.doesV_skip (by rw [hF]; kernel_rfl) (by rw [hF]; kernel_rfl)
   · exact Reg.doesV_val (ev_pick false rfl (by rw [hF]; kernel_rfl)) (by rw [hF]; kernel_rfl) (by rw [hF]; kernel_rfl)
   · exact Reg.doesV_val (ev_pick false rfl (by rw [hF]; kernel_rfl)) (by rw [hF]; kernel_rfl) (by rw [hF]; kernel_rfl)
 · intro w2 hB'
   simp only [Reg.putAll, Act.put, List.setIfInBounds_toArray, List.set_cons_zero, List.set_cons_succ]
   clear h12 h17 h31
   have c1 := b1.after hB'
   have c2 := b2.after hB'
   have c3 := b3.after hB'
   have hb2 := hb.trans (hB'.mono hb.size)
   clear hB' b1 b2 b3 hb
   have x1 := c1.cell1
   have y1 := c2.cell1
   go_wp2_with fail
   refine (rint_c _ _).mono ?_
   rintro e w3 ⟨rfl, hb3⟩
   have d3 := c3.after hb3
   have hb4 := hb2.trans (hb3.mono hb2.size)
   obtain ⟨R, hR⟩ : ∃ R, iv (wrap64 (x.n - y.n)) = R := ⟨_, rfl⟩
   rw [hR]
   have HR := Lib.hid hR
   clear hb3 hR x1 y1 c1 c2 c3
   have g0 := d3.cell0
   have g1 := d3.cell1
   have g2 := d3.cell2
   have f0 := d3.frozen 0
   have f1 := d3.frozen 1
   have f2 := d3.frozen 2
   go_wp2
   exact ret_valX (a := R) (z := .bool true) Tryz.results74 rfl rfl (d3.put R) rfl ⟨by rw [← HR.out], put3_below hb4 (by omega) R⟩
set_option maxHeartbeats 1000000 in
theorem rsub_null (x y : Val) (w : World) (h0 : (x.k == 0 || y.k == 0) = true) : Calls Tryz.prog 74 #[x.v, y.v] w fun e w' => e = .returned (.tuple #[nl.v, .bool true]) ∧ Below w.heap.size w w' := by
 have H0 := Lib.hid h0
 clear h0
 go_enter Tryz.func74, Tryz.ntmps74
 go_wp2_with fail
 refine (rnulls_c x y _).mono ?_
 rintro e w1 ⟨rfl, hb1⟩
 rw [H0.out]
 have c3 : Bx w1 (w.heap.size + 2) nl := (Bx.new2 w nl _ _).after hb1
 have hb : Below w.heap.size w w1 := (below_three _ _ _ _).trans (hb1.mono (by simp; omega))
 clear hb1
 have g0 := c3.cell0
 have g1 := c3.cell1
 have g2 := c3.cell2
 have f0 := c3.frozen 0
 have f1 := c3.frozen 1
 have f2 := c3.frozen 2
 go_wp2
 exact ret_valX (a := nl) (z := .bool true) Tryz.results74 rfl rfl (c3.put nl) rfl ⟨rfl, put3_below hb (by omega) nl⟩
theorem rsub_c (x y : Val) (w : World) (hx : I6n x.n) (hy : I6n y.n) : Calls Tryz.prog 74 #[x.v, y.v] w fun e w' => e = .returned (.tuple #[(subR x y).1.v, .bool (subR x y).2]) ∧ Below w.heap.size w w' := by
 unfold subR
 cases h0 : (x.k == 0 || y.k == 0)
 · cases h12 : (x.k == 2 && y.k == 2)
   · rw [comp_none x y _ _ h0 h12]
     exact rsub_I x y w h0 h12
   · rw [comp_ints x y _ _ h0 h12]
     obtain ⟨F, hF⟩ : ∃ F, (decide (wrap64 (x.n - y.n) < x.n) == decide (0 < y.n)) = F := ⟨_, rfl⟩
     rw [hF]
     have over : ¬ I6n (x.n - y.n) → F = false := fun h => by rw [← hF]; exact sub_over x.n y.n hx hy h
     have fit : I6n (x.n - y.n) → F = true := fun h => by rw [← hF]; exact (sub_fit x.n y.n h).1
     clear hF
     unfold I6n at hx hy over fit
     cases h17 : decide (y.n < 0)
     · cases h31 : decide (0 < y.n)
       · obtain rfl := fit (by simp at h17 h31; omega)
         exact rsub_Z x y w h0 h12 h17 h31
       · have e38 : wrap64 ((-9223372036854775808) + y.n) = (-9223372036854775808) + y.n := by simp at h31; unfold wrap64; omega
         cases h39 : decide (x.n < wrap64 ((-9223372036854775808) + y.n))
         · obtain rfl := fit (by rw [e38] at h39; simp at h17 h31 h39; omega)
           exact rsub_Q0 x y w h0 h12 h17 h31 h39
         · obtain rfl := over (by rw [e38] at h39; simp at h17 h31 h39; omega)
           exact rsub_Q1 x y w h0 h12 h17 h31 h39
     · have e24 : wrap64 (9223372036854775807 + y.n) = 9223372036854775807 + y.n := by simp at h17; unfold wrap64; omega
       cases h25 : decide (wrap64 (9223372036854775807 + y.n) < x.n)
       · obtain rfl := fit (by rw [e24] at h25; simp at h17 h25; omega)
         exact rsub_P0 x y w h0 h12 h17 h25 (by simp at h17 ⊢; omega)
       · obtain rfl := over (by rw [e24] at h25; simp at h17 h25; omega)
         exact rsub_P1 x y w h0 h12 h17 h25
 · rw [comp_nulls x y _ _ h0]
   exact rsub_null x y w h0
end Go.Proofs.YtbpopkgpepmlcaaGreat
