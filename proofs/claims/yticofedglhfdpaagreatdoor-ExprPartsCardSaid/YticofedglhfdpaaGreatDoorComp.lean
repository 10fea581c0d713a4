/-
  What a step leaves of the values that it takes: compute, of any step that there is, and any values.
-/
import Derived.Test.YticofedglhfdpaaGreatDoorVals
namespace Go.Proofs.YticofedglhfdpaaGreatDoor
open Go Go.RowKit
set_option maxRecDepth 100000

theorem ev_indexC {F : Act} {w : World} {t : Tmp} {b off n c : Nat} {o : Oper} (k : Nat) (hk : k < n) (ho : o.op = .indexAddr 24 (.tmp t) (.const (.int .i64 k))) (ht : Reg.slot F t = .slice (some ⟨b, off, none⟩) n c) :
    (execOp F.eval o).run Tryz.prog w = .ok (.value (.pointer (some ⟨b, off + k * 3, none⟩))) w := by
  have e1 : F.eval (.tmp t) = .slice (some ⟨b, off, none⟩) n c := ht
  have e2 : F.eval (.const (.int .i64 k)) = .int .i64 k := rfl
  have e0 : (execOp F.eval o).run Tryz.prog w = ((Instr.indexAt 24 (.slice (some ⟨b, off, none⟩) n c) (.int .i64 k)).run Tryz.prog w).andThen fun v w' => .ok (.value v) w' := by
    simp only [execOp, ho, e1, e2, Sem.run_bind, Sem.run_pure]
  rw [e0]
  go_simp
theorem ev_load3 {F : Act} {w : World} {b off : Nat} {a : Val} {t : Tmp} {o : Oper} (h0 : w.cell? ⟨b, off, none⟩ = some (.int .i64 a.k)) (h1 : w.cell? ⟨b, off + 1, none⟩ = some (.int .i64 a.n)) (h2 : w.cell? ⟨b, off + 2, none⟩ = some (.string a.s))
    (ho : o.op = .load 31 (.tmp t)) (ht : Reg.slot F t = .pointer (some ⟨b, off, none⟩)) :
    (execOp F.eval o).run Tryz.prog w = .ok (.value a.v) w := by
  have e : F.eval (.tmp t) = .pointer (some ⟨b, off, none⟩) := ht
  have e0 : (execOp F.eval o).run Tryz.prog w = ((Instr.loadAt 31 (.pointer (some ⟨b, off, none⟩))).run Tryz.prog w).andThen fun v w' => .ok (.value v) w' := by
    simp only [execOp, ho, e, Sem.run_bind, Sem.run_pure]
  rw [e0]
  go_simp
theorem ev_eqI {P : Program} {F : Act} {w : World} {t : Tmp} {k : Int} {a : Int} {o : Oper} (ho : o.op = .binOp .eql 3 (.tmp t) (.const (.int .i64 k)) 3) (ht : Reg.slot F t = .int .i64 a) :
    (execOp F.eval o).run P w = .ok (.value (.bool (a == k))) w := by
  have e1 : F.eval (.tmp t) = .int .i64 a := ht
  have e2 : F.eval (.const (.int .i64 k)) = .int .i64 k := rfl
  simp only [execOp, ho, e1, e2]
  simp [go_sem]
theorem ev_ltI {P : Program} {F : Act} {w : World} {t : Tmp} {k : Int} {a : Int} {o : Oper} (ho : o.op = .binOp .lss 3 (.tmp t) (.const (.int .i64 k)) 3) (ht : Reg.slot F t = .int .i64 a) :
    (execOp F.eval o).run P w = .ok (.value (.bool (decide (a < k)))) w := by
  have e1 : F.eval (.tmp t) = .int .i64 a := ht
  have e2 : F.eval (.const (.int .i64 k)) = .int .i64 k := rfl
  simp only [execOp, ho, e1, e2]
  simp [go_sem]

/-- What is kept while a step is reckoned: the result's block is there, and nothing that was there has turned. -/
def CJ (w w' : World) : Prop := (∃ z, Bx w' w.heap.size z) ∧ Below w.heap.size w w'
theorem CJ.after {w w' w'' : World} (h : CJ w w') (hb : Below w'.heap.size w' w'') : CJ w w'' := ⟨⟨h.1.choose, h.1.choose_spec.after hb⟩, h.2.trans (hb.mono h.2.size)⟩
theorem CJ.put {w w' : World} (h : CJ w w') (a : Val) : CJ w (put3 w' w.heap.size a) := ⟨⟨a, h.1.choose_spec.put a⟩, put3_below h.2 (Nat.le_refl _) a⟩
theorem CJ.drew {w w' : World} (h : CJ w w') : CJ w w'.drew := ⟨h.1, ⟨h.2.os, h.2.tape, h.2.output, h.2.size, h.2.block⟩⟩
theorem CJ.first (w : World) : CJ w (w.alloc (.cells #[.int .i64 nl.k, .int .i64 nl.n, .string nl.s] 31)) := ⟨⟨nl, Bx.new w nl⟩, below_one _ _⟩

/-- What a step leaves of these values, and whether it is not too large. -/
def cmpR (op : Int) (l : List Val) : Val × Bool :=
  if op == 2 then addR (l.getD 0 nl) (l.getD 1 nl) else if op == 3 then subR (l.getD 0 nl) (l.getD 1 nl) else if op == 4 then mulR (l.getD 0 nl) (l.getD 1 nl)
  else if op == 5 then (unl (cmpV (l.getD 0 nl) (l.getD 1 nl) == 0) l, true) else if op == 6 then (unl (decide (cmpV (l.getD 0 nl) (l.getD 1 nl) < 0)) l, true)
  else if op == 7 then (andV l, true) else if op == 8 then (orV l, true) else if op == 9 then (nt (l.getD 0 nl), true) else (tv ((l.getD 0 nl).k == 0), true)

theorem enCompareV : ∀ args w, (callFunc 64 args).run Tryz.prog w = .ok (.enter 64 args) w := fun _ _ => by kernel_rfl
theorem enUnless : ∀ args w, (callFunc 63 args).run Tryz.prog w = .ok (.enter 63 args) w := fun _ _ => by kernel_rfl
theorem enAddV : ∀ args w, (callFunc 60 args).run Tryz.prog w = .ok (.enter 60 args) w := fun _ _ => by kernel_rfl
theorem enSubV : ∀ args w, (callFunc 61 args).run Tryz.prog w = .ok (.enter 61 args) w := fun _ _ => by kernel_rfl
theorem enMulV : ∀ args w, (callFunc 62 args).run Tryz.prog w = .ok (.enter 62 args) w := fun _ _ => by kernel_rfl
set_option maxHeartbeats 4000000 in
theorem comp_add (x y : Val) (A : Option Addr) (c : Nat) (w : World) (hs : Sl w A [x, y]) :
    Calls Tryz.prog 49 #[.int .i64 2, .slice A 2 c] w fun e w' => e = .returned (.tuple #[(addR x y).1.v, .bool (addR x y).2]) ∧ Below w.heap.size w w' := by
  have Hs := Lib.hid hs
  rcases hs with h0 | ⟨b, off, rfl, hlt, hc⟩
  · cases h0
  obtain ⟨c0, c1, c2⟩ := hc 0 x rfl
  obtain ⟨d0, d1, d2⟩ := hc 1 y rfl
  clear hc
  obtain ⟨R, hR⟩ : ∃ R, addR x y = R := ⟨_, rfl⟩
  rw [hR]
  have HR := Lib.hid hR
  clear hR
  go_enter Tryz.func49, Tryz.ntmps49
  go_wp2_with fail
  refine RegJ.wp_region_keep mixed (by kernel_rfl) (CJ w) (fun w' => Bx w' w.heap.size R.1) 9 (of_decide_eq_true (by kernel_rfl)) (CJ.first w).drew
    [(9, .slice (some ⟨b, off, none⟩) 2 c), (10, .pointer (some ⟨b, off + 0 * 3, none⟩)), (11, x.v), (12, .slice (some ⟨b, off, none⟩) 2 c), (13, .pointer (some ⟨b, off + 1 * 3, none⟩)), (14, y.v), (15, .tuple #[R.1.v, .bool R.2]), (16, R.1.v), (17, .bool R.2), (5, .bool R.2)] 83 rfl (by kernel_rfl) ?_ ?_
  · intro F hF w' hJ
    obtain ⟨⟨z, q⟩, hb⟩ := id hJ
    refine ⟨?_, ?_, ?_, ?_, ?_, ?_, ?_, ?_, ?_, ?_, ?_, trivial⟩
    · exact RegJ.doesP_val (by decide) hJ (ev_move rfl) (by rw [hF]; kernel_rfl) (by rw [hF]; kernel_rfl)
    · exact RegJ.doesP_val (by decide) hJ (ev_indexC (b := b) (off := off) (n := 2) (c := c) 0 (by decide) rfl (by rw [hF]; kernel_rfl)) (by rw [hF]; kernel_rfl) (by rw [hF]; kernel_rfl)
    · exact RegJ.doesP_val (by decide) hJ (ev_load3 ((hb.cell hlt).trans c0) ((hb.cell hlt).trans c1) ((hb.cell hlt).trans c2) rfl (by rw [hF]; kernel_rfl)) (by rw [hF]; kernel_rfl) (by rw [hF]; kernel_rfl)
    · exact RegJ.doesP_val (by decide) hJ (ev_move rfl) (by rw [hF]; kernel_rfl) (by rw [hF]; kernel_rfl)
    · exact RegJ.doesP_val (by decide) hJ (ev_indexC (b := b) (off := off) (n := 2) (c := c) 1 (by decide) rfl (by rw [hF]; kernel_rfl)) (by rw [hF]; kernel_rfl) (by rw [hF]; kernel_rfl)
    · exact RegJ.doesP_val (by decide) hJ (ev_load3 ((hb.cell hlt).trans d0) ((hb.cell hlt).trans d1) ((hb.cell hlt).trans d2) rfl (by rw [hF]; kernel_rfl)) (by rw [hF]; kernel_rfl) (by rw [hF]; kernel_rfl)
    · exact RegJ.doesP_call (by decide) (fun w'' h => hJ.after h) (fun w'' h hx => hx.after h) (by have h := add_c x y w'; rw [HR.out] at h; exact h) (ev_call enAddV rfl (by rw [hF]; kernel_rfl)) (by rw [hF]; kernel_rfl) (by rw [hF]; kernel_rfl)
    · exact RegJ.doesP_val (by decide) hJ (ev_extract (vs := #[R.1.v, .bool R.2]) rfl (by rw [hF]; kernel_rfl) rfl) (by rw [hF]; kernel_rfl) (by rw [hF]; kernel_rfl)
    · exact RegJ.doesP_val (by decide) hJ (ev_extract (vs := #[R.1.v, .bool R.2]) rfl (by rw [hF]; kernel_rfl) rfl) (by rw [hF]; kernel_rfl) (by rw [hF]; kernel_rfl)
    · exact RegJ.doesP_store (hJ.put _) (q.put _) (ev_store q rfl (by rw [hF]; kernel_rfl) (by rw [hF]; kernel_rfl)) rfl (by rw [hF]; kernel_rfl)
    · exact RegJ.doesP_val (by decide) hJ (ev_assign rfl) (by rw [hF]; kernel_rfl) (by rw [hF]; kernel_rfl)
  · intro w9 hJ hR
    simp only [Reg.putAll, Act.put, List.setIfInBounds_toArray, List.set_cons_zero, List.set_cons_succ]
    go_wp2
    exact ret_valX (a := R.1) (z := .bool R.2) Tryz.results49 rfl rfl hR rfl ⟨rfl, hJ.2⟩
set_option maxHeartbeats 4000000 in
theorem comp_sub (x y : Val) (A : Option Addr) (c : Nat) (w : World) (hs : Sl w A [x, y]) :
    Calls Tryz.prog 49 #[.int .i64 3, .slice A 2 c] w fun e w' => e = .returned (.tuple #[(subR x y).1.v, .bool (subR x y).2]) ∧ Below w.heap.size w w' := by
  have Hs := Lib.hid hs
  rcases hs with h0 | ⟨b, off, rfl, hlt, hc⟩
  · cases h0
  obtain ⟨c0, c1, c2⟩ := hc 0 x rfl
  obtain ⟨d0, d1, d2⟩ := hc 1 y rfl
  clear hc
  obtain ⟨R, hR⟩ : ∃ R, subR x y = R := ⟨_, rfl⟩
  rw [hR]
  have HR := Lib.hid hR
  clear hR
  go_enter Tryz.func49, Tryz.ntmps49
  go_wp2_with fail
  refine RegJ.wp_region_keep mixed (by kernel_rfl) (CJ w) (fun w' => Bx w' w.heap.size R.1) 9 (of_decide_eq_true (by kernel_rfl)) (CJ.first w).drew
    [(20, .slice (some ⟨b, off, none⟩) 2 c), (21, .pointer (some ⟨b, off + 0 * 3, none⟩)), (22, x.v), (23, .slice (some ⟨b, off, none⟩) 2 c), (24, .pointer (some ⟨b, off + 1 * 3, none⟩)), (25, y.v), (26, .tuple #[R.1.v, .bool R.2]), (27, R.1.v), (28, .bool R.2), (5, .bool R.2)] 83 rfl (by kernel_rfl) ?_ ?_
  · intro F hF w' hJ
    obtain ⟨⟨z, q⟩, hb⟩ := id hJ
    refine ⟨?_, ?_, ?_, ?_, ?_, ?_, ?_, ?_, ?_, ?_, ?_, trivial⟩
    · exact RegJ.doesP_val (by decide) hJ (ev_move rfl) (by rw [hF]; kernel_rfl) (by rw [hF]; kernel_rfl)
    · exact RegJ.doesP_val (by decide) hJ (ev_indexC (b := b) (off := off) (n := 2) (c := c) 0 (by decide) rfl (by rw [hF]; kernel_rfl)) (by rw [hF]; kernel_rfl) (by rw [hF]; kernel_rfl)
    · exact RegJ.doesP_val (by decide) hJ (ev_load3 ((hb.cell hlt).trans c0) ((hb.cell hlt).trans c1) ((hb.cell hlt).trans c2) rfl (by rw [hF]; kernel_rfl)) (by rw [hF]; kernel_rfl) (by rw [hF]; kernel_rfl)
    · exact RegJ.doesP_val (by decide) hJ (ev_move rfl) (by rw [hF]; kernel_rfl) (by rw [hF]; kernel_rfl)
    · exact RegJ.doesP_val (by decide) hJ (ev_indexC (b := b) (off := off) (n := 2) (c := c) 1 (by decide) rfl (by rw [hF]; kernel_rfl)) (by rw [hF]; kernel_rfl) (by rw [hF]; kernel_rfl)
    · exact RegJ.doesP_val (by decide) hJ (ev_load3 ((hb.cell hlt).trans d0) ((hb.cell hlt).trans d1) ((hb.cell hlt).trans d2) rfl (by rw [hF]; kernel_rfl)) (by rw [hF]; kernel_rfl) (by rw [hF]; kernel_rfl)
    · exact RegJ.doesP_call (by decide) (fun w'' h => hJ.after h) (fun w'' h hx => hx.after h) (by have h := sub_c x y w'; rw [HR.out] at h; exact h) (ev_call enSubV rfl (by rw [hF]; kernel_rfl)) (by rw [hF]; kernel_rfl) (by rw [hF]; kernel_rfl)
    · exact RegJ.doesP_val (by decide) hJ (ev_extract (vs := #[R.1.v, .bool R.2]) rfl (by rw [hF]; kernel_rfl) rfl) (by rw [hF]; kernel_rfl) (by rw [hF]; kernel_rfl)
    · exact RegJ.doesP_val (by decide) hJ (ev_extract (vs := #[R.1.v, .bool R.2]) rfl (by rw [hF]; kernel_rfl) rfl) (by rw [hF]; kernel_rfl) (by rw [hF]; kernel_rfl)
    · exact RegJ.doesP_store (hJ.put _) (q.put _) (ev_store q rfl (by rw [hF]; kernel_rfl) (by rw [hF]; kernel_rfl)) rfl (by rw [hF]; kernel_rfl)
    · exact RegJ.doesP_val (by decide) hJ (ev_assign rfl) (by rw [hF]; kernel_rfl) (by rw [hF]; kernel_rfl)
  · intro w9 hJ hR
    simp only [Reg.putAll, Act.put, List.setIfInBounds_toArray, List.set_cons_zero, List.set_cons_succ]
    go_wp2
    exact ret_valX (a := R.1) (z := .bool R.2) Tryz.results49 rfl rfl hR rfl ⟨rfl, hJ.2⟩
set_option maxHeartbeats 4000000 in
theorem comp_mul (x y : Val) (A : Option Addr) (c : Nat) (w : World) (hs : Sl w A [x, y]) :
    Calls Tryz.prog 49 #[.int .i64 4, .slice A 2 c] w fun e w' => e = .returned (.tuple #[(mulR x y).1.v, .bool (mulR x y).2]) ∧ Below w.heap.size w w' := by
  have Hs := Lib.hid hs
  rcases hs with h0 | ⟨b, off, rfl, hlt, hc⟩
  · cases h0
  obtain ⟨c0, c1, c2⟩ := hc 0 x rfl
  obtain ⟨d0, d1, d2⟩ := hc 1 y rfl
  clear hc
  obtain ⟨R, hR⟩ : ∃ R, mulR x y = R := ⟨_, rfl⟩
  rw [hR]
  have HR := Lib.hid hR
  clear hR
  go_enter Tryz.func49, Tryz.ntmps49
  go_wp2_with fail
  refine RegJ.wp_region_keep mixed (by kernel_rfl) (CJ w) (fun w' => Bx w' w.heap.size R.1) 9 (of_decide_eq_true (by kernel_rfl)) (CJ.first w).drew
    [(31, .slice (some ⟨b, off, none⟩) 2 c), (32, .pointer (some ⟨b, off + 0 * 3, none⟩)), (33, x.v), (34, .slice (some ⟨b, off, none⟩) 2 c), (35, .pointer (some ⟨b, off + 1 * 3, none⟩)), (36, y.v), (37, .tuple #[R.1.v, .bool R.2]), (38, R.1.v), (39, .bool R.2), (5, .bool R.2)] 83 rfl (by kernel_rfl) ?_ ?_
  · intro F hF w' hJ
    obtain ⟨⟨z, q⟩, hb⟩ := id hJ
    refine ⟨?_, ?_, ?_, ?_, ?_, ?_, ?_, ?_, ?_, ?_, ?_, trivial⟩
    · exact RegJ.doesP_val (by decide) hJ (ev_move rfl) (by rw [hF]; kernel_rfl) (by rw [hF]; kernel_rfl)
    · exact RegJ.doesP_val (by decide) hJ (ev_indexC (b := b) (off := off) (n := 2) (c := c) 0 (by decide) rfl (by rw [hF]; kernel_rfl)) (by rw [hF]; kernel_rfl) (by rw [hF]; kernel_rfl)
    · exact RegJ.doesP_val (by decide) hJ (ev_load3 ((hb.cell hlt).trans c0) ((hb.cell hlt).trans c1) ((hb.cell hlt).trans c2) rfl (by rw [hF]; kernel_rfl)) (by rw [hF]; kernel_rfl) (by rw [hF]; kernel_rfl)
    · exact RegJ.doesP_val (by decide) hJ (ev_move rfl) (by rw [hF]; kernel_rfl) (by rw [hF]; kernel_rfl)
    · exact RegJ.doesP_val (by decide) hJ (ev_indexC (b := b) (off := off) (n := 2) (c := c) 1 (by decide) rfl (by rw [hF]; kernel_rfl)) (by rw [hF]; kernel_rfl) (by rw [hF]; kernel_rfl)
    · exact RegJ.doesP_val (by decide) hJ (ev_load3 ((hb.cell hlt).trans d0) ((hb.cell hlt).trans d1) ((hb.cell hlt).trans d2) rfl (by rw [hF]; kernel_rfl)) (by rw [hF]; kernel_rfl) (by rw [hF]; kernel_rfl)
    · exact RegJ.doesP_call (by decide) (fun w'' h => hJ.after h) (fun w'' h hx => hx.after h) (by have h := mul_c x y w'; rw [HR.out] at h; exact h) (ev_call enMulV rfl (by rw [hF]; kernel_rfl)) (by rw [hF]; kernel_rfl) (by rw [hF]; kernel_rfl)
    · exact RegJ.doesP_val (by decide) hJ (ev_extract (vs := #[R.1.v, .bool R.2]) rfl (by rw [hF]; kernel_rfl) rfl) (by rw [hF]; kernel_rfl) (by rw [hF]; kernel_rfl)
    · exact RegJ.doesP_val (by decide) hJ (ev_extract (vs := #[R.1.v, .bool R.2]) rfl (by rw [hF]; kernel_rfl) rfl) (by rw [hF]; kernel_rfl) (by rw [hF]; kernel_rfl)
    · exact RegJ.doesP_store (hJ.put _) (q.put _) (ev_store q rfl (by rw [hF]; kernel_rfl) (by rw [hF]; kernel_rfl)) rfl (by rw [hF]; kernel_rfl)
    · exact RegJ.doesP_val (by decide) hJ (ev_assign rfl) (by rw [hF]; kernel_rfl) (by rw [hF]; kernel_rfl)
  · intro w9 hJ hR
    simp only [Reg.putAll, Act.put, List.setIfInBounds_toArray, List.set_cons_zero, List.set_cons_succ]
    go_wp2
    exact ret_valX (a := R.1) (z := .bool R.2) Tryz.results49 rfl rfl hR rfl ⟨rfl, hJ.2⟩
set_option maxHeartbeats 4000000 in
theorem comp_eq (x y : Val) (A : Option Addr) (c : Nat) (w : World) (hs : Sl w A [x, y]) :
    Calls Tryz.prog 49 #[.int .i64 5, .slice A 2 c] w fun e w' => e = .returned (.tuple #[(unl (cmpV x y == 0) [x, y]).v, .bool true]) ∧ Below w.heap.size w w' := by
  have Hs := Lib.hid hs
  rcases hs with h0 | ⟨b, off, rfl, hlt, hc⟩
  · cases h0
  obtain ⟨c0, c1, c2⟩ := hc 0 x rfl
  obtain ⟨d0, d1, d2⟩ := hc 1 y rfl
  clear hc
  obtain ⟨R, hR⟩ : ∃ R, unl (cmpV x y == 0) [x, y] = R := ⟨_, rfl⟩
  rw [hR]
  have HR := Lib.hid hR
  clear hR
  go_enter Tryz.func49, Tryz.ntmps49
  go_wp2_with fail
  refine RegJ.wp_region_keep mixed (by kernel_rfl) (CJ w) (fun w' => Bx w' w.heap.size R) 10 (of_decide_eq_true (by kernel_rfl)) (CJ.first w).drew
    [(42, .slice (some ⟨b, off, none⟩) 2 c), (43, .pointer (some ⟨b, off + 0 * 3, none⟩)), (44, x.v), (45, .slice (some ⟨b, off, none⟩) 2 c), (46, .pointer (some ⟨b, off + 1 * 3, none⟩)), (47, y.v), (48, .int .i64 (cmpV x y)), (49, .bool (cmpV x y == 0)), (50, .slice (some ⟨b, off, none⟩) 2 c), (51, R.v), (5, .bool true)] 83 rfl (by kernel_rfl) ?_ ?_
  · intro F hF w' hJ
    obtain ⟨⟨z, q⟩, hb⟩ := id hJ
    refine ⟨?_, ?_, ?_, ?_, ?_, ?_, ?_, ?_, ?_, ?_, ?_, ?_, trivial⟩
    · exact RegJ.doesP_val (by decide) hJ (ev_move rfl) (by rw [hF]; kernel_rfl) (by rw [hF]; kernel_rfl)
    · exact RegJ.doesP_val (by decide) hJ (ev_indexC (b := b) (off := off) (n := 2) (c := c) 0 (by decide) rfl (by rw [hF]; kernel_rfl)) (by rw [hF]; kernel_rfl) (by rw [hF]; kernel_rfl)
    · exact RegJ.doesP_val (by decide) hJ (ev_load3 ((hb.cell hlt).trans c0) ((hb.cell hlt).trans c1) ((hb.cell hlt).trans c2) rfl (by rw [hF]; kernel_rfl)) (by rw [hF]; kernel_rfl) (by rw [hF]; kernel_rfl)
    · exact RegJ.doesP_val (by decide) hJ (ev_move rfl) (by rw [hF]; kernel_rfl) (by rw [hF]; kernel_rfl)
    · exact RegJ.doesP_val (by decide) hJ (ev_indexC (b := b) (off := off) (n := 2) (c := c) 1 (by decide) rfl (by rw [hF]; kernel_rfl)) (by rw [hF]; kernel_rfl) (by rw [hF]; kernel_rfl)
    · exact RegJ.doesP_val (by decide) hJ (ev_load3 ((hb.cell hlt).trans d0) ((hb.cell hlt).trans d1) ((hb.cell hlt).trans d2) rfl (by rw [hF]; kernel_rfl)) (by rw [hF]; kernel_rfl) (by rw [hF]; kernel_rfl)
    · exact RegJ.doesP_call (by decide) (fun w'' h => hJ.after h) (fun w'' h hx => hx.after h) (compare_c x y w') (ev_call enCompareV rfl (by rw [hF]; kernel_rfl)) (by rw [hF]; kernel_rfl) (by rw [hF]; kernel_rfl)
    · exact RegJ.doesP_val (by decide) hJ (ev_eqI (a := cmpV x y) rfl (by rw [hF]; kernel_rfl)) (by rw [hF]; kernel_rfl) (by rw [hF]; kernel_rfl)
    · exact RegJ.doesP_val (by decide) hJ (ev_move rfl) (by rw [hF]; kernel_rfl) (by rw [hF]; kernel_rfl)
    · exact RegJ.doesP_call (by decide) (fun w'' h => hJ.after h) (fun w'' h hx => hx.after h) (by have h := unlessNull_c (cmpV x y == 0) (some ⟨b, off, none⟩) 2 c [x, y] w' rfl (by decide) (Hs.out.after hb); rw [HR.out] at h; exact h) (ev_call enUnless rfl (by rw [hF]; kernel_rfl)) (by rw [hF]; kernel_rfl) (by rw [hF]; kernel_rfl)
    · exact RegJ.doesP_store (hJ.put _) (q.put _) (ev_store q rfl (by rw [hF]; kernel_rfl) (by rw [hF]; kernel_rfl)) rfl (by rw [hF]; kernel_rfl)
    · exact RegJ.doesP_val (by decide) hJ (ev_assign rfl) (by rw [hF]; kernel_rfl) (by rw [hF]; kernel_rfl)
  · intro w9 hJ hR
    simp only [Reg.putAll, Act.put, List.setIfInBounds_toArray, List.set_cons_zero, List.set_cons_succ]
    go_wp2
    exact ret_valX (a := R) (z := .bool true) Tryz.results49 rfl rfl hR rfl ⟨rfl, hJ.2⟩
set_option maxHeartbeats 4000000 in
theorem comp_less (x y : Val) (A : Option Addr) (c : Nat) (w : World) (hs : Sl w A [x, y]) :
    Calls Tryz.prog 49 #[.int .i64 6, .slice A 2 c] w fun e w' => e = .returned (.tuple #[(unl (decide (cmpV x y < 0)) [x, y]).v, .bool true]) ∧ Below w.heap.size w w' := by
  have Hs := Lib.hid hs
  rcases hs with h0 | ⟨b, off, rfl, hlt, hc⟩
  · cases h0
  obtain ⟨c0, c1, c2⟩ := hc 0 x rfl
  obtain ⟨d0, d1, d2⟩ := hc 1 y rfl
  clear hc
  obtain ⟨R, hR⟩ : ∃ R, unl (decide (cmpV x y < 0)) [x, y] = R := ⟨_, rfl⟩
  rw [hR]
  have HR := Lib.hid hR
  clear hR
  go_enter Tryz.func49, Tryz.ntmps49
  go_wp2_with fail
  refine RegJ.wp_region_keep mixed (by kernel_rfl) (CJ w) (fun w' => Bx w' w.heap.size R) 10 (of_decide_eq_true (by kernel_rfl)) (CJ.first w).drew
    [(54, .slice (some ⟨b, off, none⟩) 2 c), (55, .pointer (some ⟨b, off + 0 * 3, none⟩)), (56, x.v), (57, .slice (some ⟨b, off, none⟩) 2 c), (58, .pointer (some ⟨b, off + 1 * 3, none⟩)), (59, y.v), (60, .int .i64 (cmpV x y)), (61, .bool (decide (cmpV x y < 0))), (62, .slice (some ⟨b, off, none⟩) 2 c), (63, R.v), (5, .bool true)] 83 rfl (by kernel_rfl) ?_ ?_
  · intro F hF w' hJ
    obtain ⟨⟨z, q⟩, hb⟩ := id hJ
    refine ⟨?_, ?_, ?_, ?_, ?_, ?_, ?_, ?_, ?_, ?_, ?_, ?_, trivial⟩
    · exact RegJ.doesP_val (by decide) hJ (ev_move rfl) (by rw [hF]; kernel_rfl) (by rw [hF]; kernel_rfl)
    · exact RegJ.doesP_val (by decide) hJ (ev_indexC (b := b) (off := off) (n := 2) (c := c) 0 (by decide) rfl (by rw [hF]; kernel_rfl)) (by rw [hF]; kernel_rfl) (by rw [hF]; kernel_rfl)
    · exact RegJ.doesP_val (by decide) hJ (ev_load3 ((hb.cell hlt).trans c0) ((hb.cell hlt).trans c1) ((hb.cell hlt).trans c2) rfl (by rw [hF]; kernel_rfl)) (by rw [hF]; kernel_rfl) (by rw [hF]; kernel_rfl)
    · exact RegJ.doesP_val (by decide) hJ (ev_move rfl) (by rw [hF]; kernel_rfl) (by rw [hF]; kernel_rfl)
    · exact RegJ.doesP_val (by decide) hJ (ev_indexC (b := b) (off := off) (n := 2) (c := c) 1 (by decide) rfl (by rw [hF]; kernel_rfl)) (by rw [hF]; kernel_rfl) (by rw [hF]; kernel_rfl)
    · exact RegJ.doesP_val (by decide) hJ (ev_load3 ((hb.cell hlt).trans d0) ((hb.cell hlt).trans d1) ((hb.cell hlt).trans d2) rfl (by rw [hF]; kernel_rfl)) (by rw [hF]; kernel_rfl) (by rw [hF]; kernel_rfl)
    · exact RegJ.doesP_call (by decide) (fun w'' h => hJ.after h) (fun w'' h hx => hx.after h) (compare_c x y w') (ev_call enCompareV rfl (by rw [hF]; kernel_rfl)) (by rw [hF]; kernel_rfl) (by rw [hF]; kernel_rfl)
    · exact RegJ.doesP_val (by decide) hJ (ev_ltI (a := cmpV x y) rfl (by rw [hF]; kernel_rfl)) (by rw [hF]; kernel_rfl) (by rw [hF]; kernel_rfl)
    · exact RegJ.doesP_val (by decide) hJ (ev_move rfl) (by rw [hF]; kernel_rfl) (by rw [hF]; kernel_rfl)
    · exact RegJ.doesP_call (by decide) (fun w'' h => hJ.after h) (fun w'' h hx => hx.after h) (by have h := unlessNull_c (decide (cmpV x y < 0)) (some ⟨b, off, none⟩) 2 c [x, y] w' rfl (by decide) (Hs.out.after hb); rw [HR.out] at h; exact h) (ev_call enUnless rfl (by rw [hF]; kernel_rfl)) (by rw [hF]; kernel_rfl) (by rw [hF]; kernel_rfl)
    · exact RegJ.doesP_store (hJ.put _) (q.put _) (ev_store q rfl (by rw [hF]; kernel_rfl) (by rw [hF]; kernel_rfl)) rfl (by rw [hF]; kernel_rfl)
    · exact RegJ.doesP_val (by decide) hJ (ev_assign rfl) (by rw [hF]; kernel_rfl) (by rw [hF]; kernel_rfl)
  · intro w9 hJ hR
    simp only [Reg.putAll, Act.put, List.setIfInBounds_toArray, List.set_cons_zero, List.set_cons_succ]
    go_wp2
    exact ret_valX (a := R) (z := .bool true) Tryz.results49 rfl rfl hR rfl ⟨rfl, hJ.2⟩
set_option maxHeartbeats 4000000 in
theorem comp_and (l : List Val) (A : Option Addr) (n c : Nat) (w : World) (hn : l.length = n) (hmax : n ≤ 1000) (hs : Sl w A l) :
    Calls Tryz.prog 49 #[.int .i64 7, .slice A n c] w fun e w' => e = .returned (.tuple #[(andV l).v, .bool true]) ∧ Below w.heap.size w w' := by
  have Hs := Lib.hid hs
  have Hn := Lib.hid hn
  obtain ⟨R, hR⟩ : ∃ R, andV l = R := ⟨_, rfl⟩
  rw [hR]
  have HR := Lib.hid hR
  clear hR hs hn
  go_enter Tryz.func49, Tryz.ntmps49
  go_wp2_with fail
  refine (and_c A n c l _ Hn.out (by unfold maxLen; omega) (Hs.out.alloc _)).mono ?_
  rintro e w1 ⟨rfl, hb1⟩
  rw [HR.out]
  have br : Bx w1 w.heap.size nl := (Bx.new w nl).after hb1
  have hb : Below w.heap.size w w1 := (below_one _ _).trans (hb1.mono (by simp))
  have g0 := br.cell0
  have g1 := br.cell1
  have g2 := br.cell2
  have f0 := br.frozen 0
  have f1 := br.frozen 1
  have f2 := br.frozen 2
  clear hb1
  go_wp2
  exact ret_valX (a := R) (z := .bool true) Tryz.results49 rfl rfl (br.put R) rfl ⟨rfl, put3_below hb (Nat.le_refl _) R⟩
set_option maxHeartbeats 4000000 in
theorem comp_or (l : List Val) (A : Option Addr) (n c : Nat) (w : World) (hn : l.length = n) (hmax : n ≤ 1000) (hs : Sl w A l) :
    Calls Tryz.prog 49 #[.int .i64 8, .slice A n c] w fun e w' => e = .returned (.tuple #[(orV l).v, .bool true]) ∧ Below w.heap.size w w' := by
  have Hs := Lib.hid hs
  have Hn := Lib.hid hn
  obtain ⟨R, hR⟩ : ∃ R, orV l = R := ⟨_, rfl⟩
  rw [hR]
  have HR := Lib.hid hR
  clear hR hs hn
  go_enter Tryz.func49, Tryz.ntmps49
  go_wp2_with fail
  refine (or_c A n c l _ Hn.out (by unfold maxLen; omega) (Hs.out.alloc _)).mono ?_
  rintro e w1 ⟨rfl, hb1⟩
  rw [HR.out]
  have br : Bx w1 w.heap.size nl := (Bx.new w nl).after hb1
  have hb : Below w.heap.size w w1 := (below_one _ _).trans (hb1.mono (by simp))
  have g0 := br.cell0
  have g1 := br.cell1
  have g2 := br.cell2
  have f0 := br.frozen 0
  have f1 := br.frozen 1
  have f2 := br.frozen 2
  clear hb1
  go_wp2
  exact ret_valX (a := R) (z := .bool true) Tryz.results49 rfl rfl (br.put R) rfl ⟨rfl, put3_below hb (Nat.le_refl _) R⟩
theorem comp_end {w w1 : World} (br : Bx w1 w.heap.size nl) (hb : Below w.heap.size w w1) (R : Val) : Bx (put3 w1 w.heap.size R) w.heap.size R ∧ Below w.heap.size w (put3 w1 w.heap.size R) := ⟨br.put R, put3_below hb (Nat.le_refl _) R⟩
set_option maxHeartbeats 4000000 in
theorem comp_not (x : Val) (A : Option Addr) (c : Nat) (w : World) (hs : Sl w A [x]) :
    Calls Tryz.prog 49 #[.int .i64 9, .slice A 1 c] w fun e w' => e = .returned (.tuple #[(nt x).v, .bool true]) ∧ Below w.heap.size w w' := by
  rcases hs with h0 | ⟨b, off, rfl, hlt, hc⟩
  · cases h0
  obtain ⟨c0, c1, c2⟩ := hc 0 x rfl
  rw [Nat.zero_mul, Nat.add_zero] at c0 c1 c2
  clear hc
  obtain ⟨R, hR⟩ : ∃ R, nt x = R := ⟨_, rfl⟩
  rw [hR]
  have HR := Lib.hid hR
  clear hR
  go_enter Tryz.func49, Tryz.ntmps49
  go_wp2_with fail
  refine (not_c x _).mono ?_
  rintro e w1 ⟨rfl, hb1⟩
  rw [HR.out]
  have br : Bx w1 w.heap.size nl := (Bx.new w nl).after hb1
  have hb : Below w.heap.size w w1 := (below_one _ _).trans (hb1.mono (by simp))
  have g0 := br.cell0
  have g1 := br.cell1
  have g2 := br.cell2
  have f0 := br.frozen 0
  have f1 := br.frozen 1
  have f2 := br.frozen 2
  clear hb1
  go_wp2
  exact ret_valX (a := R) (z := .bool true) Tryz.results49 rfl rfl (br.put R) rfl ⟨rfl, put3_below hb (Nat.le_refl _) R⟩
set_option maxHeartbeats 4000000 in
theorem comp_null (x : Val) (A : Option Addr) (c : Nat) (w : World) (hs : Sl w A [x]) :
    Calls Tryz.prog 49 #[.int .i64 10, .slice A 1 c] w fun e w' => e = .returned (.tuple #[(tv (x.k == 0)).v, .bool true]) ∧ Below w.heap.size w w' := by
  rcases hs with h0 | ⟨b, off, rfl, hlt, hc⟩
  · cases h0
  obtain ⟨c0, c1, c2⟩ := hc 0 x rfl
  rw [Nat.zero_mul, Nat.add_zero] at c0 c1 c2
  clear hc
  obtain ⟨R, hR⟩ : ∃ R, tv (x.k == 0) = R := ⟨_, rfl⟩
  rw [hR]
  have HR := Lib.hid hR
  clear hR
  go_enter Tryz.func49, Tryz.ntmps49
  go_wp2_with fail
  refine (isNull_c x _).mono ?_
  rintro e w1 ⟨rfl, hb1⟩
  have br : Bx w1 w.heap.size nl := (Bx.new w nl).after hb1
  have hb : Below w.heap.size w w1 := (below_one _ _).trans (hb1.mono (by simp))
  clear hb1 c0 c1 c2
  obtain ⟨t, ht⟩ : ∃ t, (x.k == 0) = t := ⟨_, rfl⟩
  rw [ht]
  have Ht := Lib.hid ht
  clear ht
  go_wp2_with fail
  refine (truth_c t _).mono ?_
  rintro e w2 ⟨rfl, hb2⟩
  have br2 : Bx w2 w.heap.size nl := br.after hb2
  have hb3 : Below w.heap.size w w2 := hb.trans (hb2.mono hb.size)
  have hR : tv t = R := by rw [← Ht.out]; exact HR.out
  rw [hR]
  clear hR br hb hb2
  have g0 := br2.cell0
  have g1 := br2.cell1
  have g2 := br2.cell2
  have f0 := br2.frozen 0
  have f1 := br2.frozen 1
  have f2 := br2.frozen 2
  go_wp2
  exact ret_valX (a := R) (z := .bool true) Tryz.results49 rfl rfl (br2.put R) rfl ⟨rfl, put3_below hb3 (Nat.le_refl _) R⟩
theorem comp_c (op : Int) (l : List Val) (A : Option Addr) (n c : Nat) (w : World) (hop : 2 ≤ op ∧ op ≤ 10) (hn : l.length = n) (ht : l.length = takes op) (hs : Sl w A l) :
    Calls Tryz.prog 49 #[.int .i64 op, .slice A n c] w fun e w' => e = .returned (.tuple #[(cmpR op l).1.v, .bool (cmpR op l).2]) ∧ Below w.heap.size w w' := by
  subst hn
  rcases ops_cases op with rfl | rfl | rfl | rfl | rfl | rfl | rfl | rfl | rfl | ⟨h2, h3, h4, h5, h6, h7, h8, h9, h10⟩
  · match l, ht with
    | [x, y], _ => exact comp_add x y A c w hs
  · match l, ht with
    | [x, y], _ => exact comp_sub x y A c w hs
  · match l, ht with
    | [x, y], _ => exact comp_mul x y A c w hs
  · match l, ht with
    | [x, y], _ => exact comp_eq x y A c w hs
  · match l, ht with
    | [x, y], _ => exact comp_less x y A c w hs
  · match l, ht with
    | [x, y], _ => exact comp_and [x, y] A 2 c w rfl (by decide) hs
  · match l, ht with
    | [x, y], _ => exact comp_or [x, y] A 2 c w rfl (by decide) hs
  · match l, ht with
    | [x], _ => exact comp_not x A c w hs
  · match l, ht with
    | [x], _ => exact comp_null x A c w hs
  · simp only [beq_eq_false_iff_ne] at h2 h3 h4 h5 h6 h7 h8 h9 h10
    omega
end Go.Proofs.YticofedglhfdpaaGreatDoor
