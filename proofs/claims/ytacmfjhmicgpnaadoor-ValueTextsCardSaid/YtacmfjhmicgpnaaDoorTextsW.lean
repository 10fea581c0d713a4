/-
  The law ValueTexts, walked: for every two values it answers true, and turns nothing that was there.
-/
import Derived.Test.YtacmfjhmicgpnaaDoorTextW
namespace Go.Proofs.YtacmfjhmicgpnaaDoor
open Go Go.RowKit

theorem enFixed : ∀ args w, (callFunc 9 args).run Tryd.prog w = .ok (.enter 9 args) w := fun _ _ => by kernel_rfl
theorem enRMay : ∀ args w, (callFunc 23 args).run Tryd.prog w = .ok (.enter 23 args) w := fun _ _ => by kernel_rfl
theorem ev_eqS {F : Act} {w : World} {t u : Tmp} {o : Oper} (l r : List UInt8) (ho : o.op = .binOp .eql 9 (.tmp t) (.tmp u) 9) (ht : Reg.slot F t = .string ⟨l.toArray⟩) (hu : Reg.slot F u = .string ⟨r.toArray⟩) :
    (execOp F.eval o).run Tryd.prog w = .ok (.value (.bool (l == r))) w := by
  have e1 : F.eval (.tmp t) = .string ⟨l.toArray⟩ := ht
  have e2 : F.eval (.tmp u) = .string ⟨r.toArray⟩ := hu
  have e0 : (execOp F.eval o).run Tryd.prog w = ((do eqGuard .eql 9 (.tmp t) (.tmp u) (.string ⟨l.toArray⟩) (.string ⟨r.toArray⟩); binOp .eql 9 (.string ⟨l.toArray⟩) (.string ⟨r.toArray⟩)).run Tryd.prog w).andThen fun v w' => .ok (.value v) w' := by
    simp only [execOp, ho, e1, e2, Sem.run_bind, Sem.run_pure]
  rw [e0]
  go_simp
theorem ev_eqB {F : Act} {w : World} {t u : Tmp} {o : Oper} (a b : Bool) (ho : o.op = .binOp .eql 4 (.tmp t) (.tmp u) 4) (ht : Reg.slot F t = .bool a) (hu : Reg.slot F u = .bool b) :
    (execOp F.eval o).run Tryd.prog w = .ok (.value (.bool (a == b))) w := by
  have e1 : F.eval (.tmp t) = .bool a := ht
  have e2 : F.eval (.tmp u) = .bool b := hu
  have e0 : (execOp F.eval o).run Tryd.prog w = ((do eqGuard .eql 4 (.tmp t) (.tmp u) (.bool a) (.bool b); binOp .eql 4 (.bool a) (.bool b)).run Tryd.prog w).andThen fun v w' => .ok (.value v) w' := by
    simp only [execOp, ho, e1, e2, Sem.run_bind, Sem.run_pure]
  rw [e0]
  go_simp

set_option maxHeartbeats 2000000 in
theorem texts_c (x y : Val) (m : Int) (w : World) (hnx : -9223372036854775808 ≤ x.n ∧ x.n ≤ 9223372036854775807) (hny : -9223372036854775808 ≤ y.n ∧ y.n ≤ 9223372036854775807) (hsx : x.s.size ≤ maxLen) (hsy : y.s.size ≤ maxLen)
    (hm : w.cell? ⟨0, 0, none⟩ = some (.int .i64 m)) (hT : Tab w) (hg : 1 < w.heap.size) :
    Calls Tryd.prog 8 #[x.v, y.v] w fun e w' => e = .returned (.bool true) ∧ Below w.heap.size w w' := by
  have hlt : 0 < w.heap.size := World.block_lt_of_cell? _ _ hm
  have Hm := Lib.hid hm
  have HT := Lib.hid hT
  clear hm hT
  cases hx : rmB x
  · have HX := Lib.hid hx
    clear hx
    go_enter Tryd.func8, Tryd.ntmps8
    go_wp2_with fail
    have tx : Bx ((w.alloc (.cells #[.int .i64 x.k, .int .i64 x.n, .string x.s] 25)).alloc (.cells #[.int .i64 y.k, .int .i64 y.n, .string y.s] 25)) w.heap.size x := (Bx.new w x).alloc _
    have ty : Bx ((w.alloc (.cells #[.int .i64 x.k, .int .i64 x.n, .string x.s] 25)).alloc (.cells #[.int .i64 y.k, .int .i64 y.n, .string y.s] 25)) (w.heap.size + 1) y := Bx.new1 w y _
    have hbw := below_two w (.cells #[.int .i64 x.k, .int .i64 x.n, .string x.s] 25) (.cells #[.int .i64 y.k, .int .i64 y.n, .string y.s] 25)
    generalize ((w.alloc (.cells #[.int .i64 x.k, .int .i64 x.n, .string x.s] 25)).alloc (.cells #[.int .i64 y.k, .int .i64 y.n, .string y.s] 25)) = w1 at *
    refine Reg.wp_region_vals mixed (by kernel_rfl) [(5, .bool true), (6, .bool true), (7, x.v), (8, .bool false), (9, .bool true), (10, .bool true), (11, undef), (12, undef), (13, undef), (14, .bool true), (15, .bool true), (16, undef), (17, undef), (18, undef), (19, undef), (20, undef), (21, undef), (22, undef), (23, undef), (24, undef), (25, .bool true), (26, .bool true), (4, .bool true)] 27 rfl (by kernel_rfl) ?_ ?_
    · intro F hF w' hB
      have tx' := tx.after hB
      have ty' := ty.after hB
      have hbw' := hbw.trans (hB.mono hbw.size)
      have hm' := (hbw'.cell hlt).trans Hm.out
      refine ⟨?_, ?_, ?_, ?_, ?_, ?_, ?_, ?_, ?_, ?_, ?_, ?_, ?_, ?_, ?_, ?_, ?_, ?_, ?_, ?_, ?_, ?_, ?_, trivial⟩
      · exact Reg.doesV_call (fixed_c m w' hm') (ev_call enFixed rfl (by rw [hF]; kernel_rfl)) (by rw [hF]; kernel_rfl) (by rw [hF]; kernel_rfl)
      · exact Reg.doesV_val (ev_move rfl) (by rw [hF]; kernel_rfl) (by rw [hF]; kernel_rfl)
      · exact Reg.doesV_val (ev_load tx' rfl (by rw [hF]; kernel_rfl)) (by rw [hF]; kernel_rfl) (by rw [hF]; kernel_rfl)
      · exact Reg.doesV_call (by have h := rmay_c x w' hsx; rw [HX.out] at h; exact h) (ev_call enRMay rfl (by rw [hF]; kernel_rfl)) (by rw [hF]; kernel_rfl) (by rw [hF]; kernel_rfl)
      · exact Reg.doesV_val (ev_not false rfl (by rw [hF]; kernel_rfl)) (by rw [hF]; kernel_rfl) (by rw [hF]; kernel_rfl)
      · exact Reg.doesV_val (ev_move rfl) (by rw [hF]; kernel_rfl) (by rw [hF]; kernel_rfl)
      · exact Reg.doesV_skip (by rw [hF]; kernel_rfl) (by rw [hF]; kernel_rfl)
      · exact Reg.doesV_skip (by rw [hF]; kernel_rfl) (by rw [hF]; kernel_rfl)
      · exact Reg.doesV_skip (by rw [hF]; kernel_rfl) (by rw [hF]; kernel_rfl)
      · exact Reg.doesV_val (ev_pick true rfl (by rw [hF]; kernel_rfl)) (by rw [hF]; kernel_rfl) (by rw [hF]; kernel_rfl)
      · exact Reg.doesV_val (ev_move rfl) (by rw [hF]; kernel_rfl) (by rw [hF]; kernel_rfl)
      · exact Reg.doesV_skip (by rw [hF]; kernel_rfl) (by rw [hF]; kernel_rfl)
      · exact Reg.doesV_skip (by rw [hF]; kernel_rfl) (by rw [hF]; kernel_rfl)
      · exact Reg.doesV_skip (by rw [hF]; kernel_rfl) (by rw [hF]; kernel_rfl)
      · exact Reg.doesV_skip (by rw [hF]; kernel_rfl) (by rw [hF]; kernel_rfl)
      · exact Reg.doesV_skip (by rw [hF]; kernel_rfl) (by rw [hF]; kernel_rfl)
      · exact Reg.doesV_skip (by rw [hF]; kernel_rfl) (by rw [hF]; kernel_rfl)
      · exact Reg.doesV_skip (by rw [hF]; kernel_rfl) (by rw [hF]; kernel_rfl)
      · exact Reg.doesV_skip (by rw [hF]; kernel_rfl) (by rw [hF]; kernel_rfl)
      · exact Reg.doesV_skip (by rw [hF]; kernel_rfl) (by rw [hF]; kernel_rfl)
      · exact Reg.doesV_val (ev_pick true rfl (by rw [hF]; kernel_rfl)) (by rw [hF]; kernel_rfl) (by rw [hF]; kernel_rfl)
      · exact Reg.doesV_val (ev_pick true rfl (by rw [hF]; kernel_rfl)) (by rw [hF]; kernel_rfl) (by rw [hF]; kernel_rfl)
      · exact Reg.doesV_val (ev_assign rfl) (by rw [hF]; kernel_rfl) (by rw [hF]; kernel_rfl)
    · intro w2 hB
      have hbf := hbw.trans (hB.mono hbw.size)
      simp only [Reg.putAll, Act.put, List.setIfInBounds_toArray, List.set_cons_zero, List.set_cons_succ]
      go_wp2
      go_ret
      exact ⟨rfl, hbf⟩
  · have HX := Lib.hid hx
    cases hy : rmB y
    · have HY := Lib.hid hy
      clear hx hy
      go_enter Tryd.func8, Tryd.ntmps8
      go_wp2_with fail
      have tx : Bx ((w.alloc (.cells #[.int .i64 x.k, .int .i64 x.n, .string x.s] 25)).alloc (.cells #[.int .i64 y.k, .int .i64 y.n, .string y.s] 25)) w.heap.size x := (Bx.new w x).alloc _
      have ty : Bx ((w.alloc (.cells #[.int .i64 x.k, .int .i64 x.n, .string x.s] 25)).alloc (.cells #[.int .i64 y.k, .int .i64 y.n, .string y.s] 25)) (w.heap.size + 1) y := Bx.new1 w y _
      have hbw := below_two w (.cells #[.int .i64 x.k, .int .i64 x.n, .string x.s] 25) (.cells #[.int .i64 y.k, .int .i64 y.n, .string y.s] 25)
      generalize ((w.alloc (.cells #[.int .i64 x.k, .int .i64 x.n, .string x.s] 25)).alloc (.cells #[.int .i64 y.k, .int .i64 y.n, .string y.s] 25)) = w1 at *
      refine Reg.wp_region_vals mixed (by kernel_rfl) [(5, .bool true), (6, .bool true), (7, x.v), (8, .bool true), (9, .bool false), (10, .bool false), (11, y.v), (12, .bool false), (13, .bool true), (14, .bool true), (15, .bool true), (16, undef), (17, undef), (18, undef), (19, undef), (20, undef), (21, undef), (22, undef), (23, undef), (24, undef), (25, .bool true), (26, .bool true), (4, .bool true)] 27 rfl (by kernel_rfl) ?_ ?_
      · intro F hF w' hB
        have tx' := tx.after hB
        have ty' := ty.after hB
        have hbw' := hbw.trans (hB.mono hbw.size)
        have hm' := (hbw'.cell hlt).trans Hm.out
        refine ⟨?_, ?_, ?_, ?_, ?_, ?_, ?_, ?_, ?_, ?_, ?_, ?_, ?_, ?_, ?_, ?_, ?_, ?_, ?_, ?_, ?_, ?_, ?_, trivial⟩
        · exact Reg.doesV_call (fixed_c m w' hm') (ev_call enFixed rfl (by rw [hF]; kernel_rfl)) (by rw [hF]; kernel_rfl) (by rw [hF]; kernel_rfl)
        · exact Reg.doesV_val (ev_move rfl) (by rw [hF]; kernel_rfl) (by rw [hF]; kernel_rfl)
        · exact Reg.doesV_val (ev_load tx' rfl (by rw [hF]; kernel_rfl)) (by rw [hF]; kernel_rfl) (by rw [hF]; kernel_rfl)
        · exact Reg.doesV_call (by have h := rmay_c x w' hsx; rw [HX.out] at h; exact h) (ev_call enRMay rfl (by rw [hF]; kernel_rfl)) (by rw [hF]; kernel_rfl) (by rw [hF]; kernel_rfl)
        · exact Reg.doesV_val (ev_not true rfl (by rw [hF]; kernel_rfl)) (by rw [hF]; kernel_rfl) (by rw [hF]; kernel_rfl)
        · exact Reg.doesV_val (ev_move rfl) (by rw [hF]; kernel_rfl) (by rw [hF]; kernel_rfl)
        · exact Reg.doesV_val (ev_load ty' rfl (by rw [hF]; kernel_rfl)) (by rw [hF]; kernel_rfl) (by rw [hF]; kernel_rfl)
        · exact Reg.doesV_call (by have h := rmay_c y w' hsy; rw [HY.out] at h; exact h) (ev_call enRMay rfl (by rw [hF]; kernel_rfl)) (by rw [hF]; kernel_rfl) (by rw [hF]; kernel_rfl)
        · exact Reg.doesV_val (ev_not false rfl (by rw [hF]; kernel_rfl)) (by rw [hF]; kernel_rfl) (by rw [hF]; kernel_rfl)
        · exact Reg.doesV_val (ev_pick false rfl (by rw [hF]; kernel_rfl)) (by rw [hF]; kernel_rfl) (by rw [hF]; kernel_rfl)
        · exact Reg.doesV_val (ev_move rfl) (by rw [hF]; kernel_rfl) (by rw [hF]; kernel_rfl)
        · exact Reg.doesV_skip (by rw [hF]; kernel_rfl) (by rw [hF]; kernel_rfl)
        · exact Reg.doesV_skip (by rw [hF]; kernel_rfl) (by rw [hF]; kernel_rfl)
        · exact Reg.doesV_skip (by rw [hF]; kernel_rfl) (by rw [hF]; kernel_rfl)
        · exact Reg.doesV_skip (by rw [hF]; kernel_rfl) (by rw [hF]; kernel_rfl)
        · exact Reg.doesV_skip (by rw [hF]; kernel_rfl) (by rw [hF]; kernel_rfl)
        · exact Reg.doesV_skip (by rw [hF]; kernel_rfl) (by rw [hF]; kernel_rfl)
        · exact Reg.doesV_skip (by rw [hF]; kernel_rfl) (by rw [hF]; kernel_rfl)
        · exact Reg.doesV_skip (by rw [hF]; kernel_rfl) (by rw [hF]; kernel_rfl)
        · exact Reg.doesV_skip (by rw [hF]; kernel_rfl) (by rw [hF]; kernel_rfl)
        · exact Reg.doesV_val (ev_pick true rfl (by rw [hF]; kernel_rfl)) (by rw [hF]; kernel_rfl) (by rw [hF]; kernel_rfl)
        · exact Reg.doesV_val (ev_pick true rfl (by rw [hF]; kernel_rfl)) (by rw [hF]; kernel_rfl) (by rw [hF]; kernel_rfl)
        · exact Reg.doesV_val (ev_assign rfl) (by rw [hF]; kernel_rfl) (by rw [hF]; kernel_rfl)
      · intro w2 hB
        have hbf := hbw.trans (hB.mono hbw.size)
        simp only [Reg.putAll, Act.put, List.setIfInBounds_toArray, List.set_cons_zero, List.set_cons_succ]
        go_wp2
        go_ret
        exact ⟨rfl, hbf⟩
    · have HY := Lib.hid hy
      have vx := valid_of x hx
      have vy := valid_of y hy
      have HE : Hid (((textL x == textL y) == x.eq y) = true) := by
        show ((textL x == textL y) == x.eq y) = true
        by_cases h : x = y
        · subst h
          rw [Val.eq_self]; simp
        · rw [Val.eq_false h]
          have : (textL x == textL y) = false := by
            simp only [beq_eq_false_iff_ne]
            exact fun e => h (text_inj vx vy e)
          rw [this]; rfl
      clear hx hy
      go_enter Tryd.func8, Tryd.ntmps8
      go_wp2_with fail
      have tx : Bx ((w.alloc (.cells #[.int .i64 x.k, .int .i64 x.n, .string x.s] 25)).alloc (.cells #[.int .i64 y.k, .int .i64 y.n, .string y.s] 25)) w.heap.size x := (Bx.new w x).alloc _
      have ty : Bx ((w.alloc (.cells #[.int .i64 x.k, .int .i64 x.n, .string x.s] 25)).alloc (.cells #[.int .i64 y.k, .int .i64 y.n, .string y.s] 25)) (w.heap.size + 1) y := Bx.new1 w y _
      have hbw := below_two w (.cells #[.int .i64 x.k, .int .i64 x.n, .string x.s] 25) (.cells #[.int .i64 y.k, .int .i64 y.n, .string y.s] 25)
      generalize ((w.alloc (.cells #[.int .i64 x.k, .int .i64 x.n, .string x.s] 25)).alloc (.cells #[.int .i64 y.k, .int .i64 y.n, .string y.s] 25)) = w1 at *
      refine Reg.wp_region_vals mixed (by kernel_rfl) [(5, .bool true), (6, .bool true), (7, x.v), (8, .bool true), (9, .bool false), (10, .bool false), (11, y.v), (12, .bool true), (13, .bool false), (14, .bool false), (15, .bool false), (16, x.v), (17, .string ⟨(textL x).toArray⟩), (18, y.v), (19, .string ⟨(textL y).toArray⟩), (20, .bool (textL x == textL y)), (21, x.v), (22, y.v), (23, .bool (x.eq y)), (24, .bool true), (25, .bool true), (26, .bool true), (4, .bool true)] 27 rfl (by kernel_rfl) ?_ ?_
      · intro F hF w' hB
        have tx' := tx.after hB
        have ty' := ty.after hB
        have hbw' := hbw.trans (hB.mono hbw.size)
        have hm' := (hbw'.cell hlt).trans Hm.out
        have hT' := HT.out.after hbw' hg
        have hg' := Nat.lt_of_lt_of_le hg hbw'.size
        refine ⟨?_, ?_, ?_, ?_, ?_, ?_, ?_, ?_, ?_, ?_, ?_, ?_, ?_, ?_, ?_, ?_, ?_, ?_, ?_, ?_, ?_, ?_, ?_, trivial⟩
        · exact Reg.doesV_call (fixed_c m w' hm') (ev_call enFixed rfl (by rw [hF]; kernel_rfl)) (by rw [hF]; kernel_rfl) (by rw [hF]; kernel_rfl)
        · exact Reg.doesV_val (ev_move rfl) (by rw [hF]; kernel_rfl) (by rw [hF]; kernel_rfl)
        · exact Reg.doesV_val (ev_load tx' rfl (by rw [hF]; kernel_rfl)) (by rw [hF]; kernel_rfl) (by rw [hF]; kernel_rfl)
        · exact Reg.doesV_call (by have h := rmay_c x w' hsx; rw [HX.out] at h; exact h) (ev_call enRMay rfl (by rw [hF]; kernel_rfl)) (by rw [hF]; kernel_rfl) (by rw [hF]; kernel_rfl)
        · exact Reg.doesV_val (ev_not true rfl (by rw [hF]; kernel_rfl)) (by rw [hF]; kernel_rfl) (by rw [hF]; kernel_rfl)
        · exact Reg.doesV_val (ev_move rfl) (by rw [hF]; kernel_rfl) (by rw [hF]; kernel_rfl)
        · exact Reg.doesV_val (ev_load ty' rfl (by rw [hF]; kernel_rfl)) (by rw [hF]; kernel_rfl) (by rw [hF]; kernel_rfl)
        · exact Reg.doesV_call (by have h := rmay_c y w' hsy; rw [HY.out] at h; exact h) (ev_call enRMay rfl (by rw [hF]; kernel_rfl)) (by rw [hF]; kernel_rfl) (by rw [hF]; kernel_rfl)
        · exact Reg.doesV_val (ev_not true rfl (by rw [hF]; kernel_rfl)) (by rw [hF]; kernel_rfl) (by rw [hF]; kernel_rfl)
        · exact Reg.doesV_val (ev_pick false rfl (by rw [hF]; kernel_rfl)) (by rw [hF]; kernel_rfl) (by rw [hF]; kernel_rfl)
        · exact Reg.doesV_val (ev_move rfl) (by rw [hF]; kernel_rfl) (by rw [hF]; kernel_rfl)
        · exact Reg.doesV_val (ev_load tx' rfl (by rw [hF]; kernel_rfl)) (by rw [hF]; kernel_rfl) (by rw [hF]; kernel_rfl)
        · exact Reg.doesV_call (text_c x m w' vx hnx hm' hT' hg') (ev_call enText rfl (by rw [hF]; kernel_rfl)) (by rw [hF]; kernel_rfl) (by rw [hF]; kernel_rfl)
        · exact Reg.doesV_val (ev_load ty' rfl (by rw [hF]; kernel_rfl)) (by rw [hF]; kernel_rfl) (by rw [hF]; kernel_rfl)
        · exact Reg.doesV_call (text_c y m w' vy hny hm' hT' hg') (ev_call enText rfl (by rw [hF]; kernel_rfl)) (by rw [hF]; kernel_rfl) (by rw [hF]; kernel_rfl)
        · exact Reg.doesV_val (ev_eqS (textL x) (textL y) rfl (by rw [hF]; kernel_rfl) (by rw [hF]; kernel_rfl)) (by rw [hF]; kernel_rfl) (by rw [hF]; kernel_rfl)
        · exact Reg.doesV_val (ev_load tx' rfl (by rw [hF]; kernel_rfl)) (by rw [hF]; kernel_rfl) (by rw [hF]; kernel_rfl)
        · exact Reg.doesV_val (ev_load ty' rfl (by rw [hF]; kernel_rfl)) (by rw [hF]; kernel_rfl) (by rw [hF]; kernel_rfl)
        · exact Reg.doesV_val (ev_eq x y rfl (by rw [hF]; kernel_rfl) (by rw [hF]; kernel_rfl)) (by rw [hF]; kernel_rfl) (by rw [hF]; kernel_rfl)
        · exact Reg.doesV_val (by rw [ev_eqB (textL x == textL y) (x.eq y) rfl (by rw [hF]; kernel_rfl) (by rw [hF]; kernel_rfl), HE.out]) (by rw [hF]; kernel_rfl) (by rw [hF]; kernel_rfl)
        · exact Reg.doesV_val (ev_pick false rfl (by rw [hF]; kernel_rfl)) (by rw [hF]; kernel_rfl) (by rw [hF]; kernel_rfl)
        · exact Reg.doesV_val (ev_pick true rfl (by rw [hF]; kernel_rfl)) (by rw [hF]; kernel_rfl) (by rw [hF]; kernel_rfl)
        · exact Reg.doesV_val (ev_assign rfl) (by rw [hF]; kernel_rfl) (by rw [hF]; kernel_rfl)
      · intro w2 hB
        have hbf := hbw.trans (hB.mono hbw.size)
        simp only [Reg.putAll, Act.put, List.setIfInBounds_toArray, List.set_cons_zero, List.set_cons_succ]
        go_wp2
        go_ret
        exact ⟨rfl, hbf⟩

theorem pow_lt {W : World} (h : Tab W) : 1 < W.heap.size :=
  World.block_lt_of_cell? W ⟨1, 0, none⟩ (Lib.TabIs.cell h (by kernel_rfl) 0 (by rw [Lib.pow10Tab_length]; decide))
end Go.Proofs.YtacmfjhmicgpnaaDoor
