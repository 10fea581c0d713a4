/-
  The law ValueOrder, walked: for every three values it answers true, and turns nothing that was there.
-/
import Derived.Test.YtacmfjhmicgpnaaDoorFix
import Derived.Test.YtacmfjhmicgpnaaDoorOrdP
namespace Go.Proofs.YtacmfjhmicgpnaaDoor
open Go Go.RowKit
attribute [local go_sem ↓] run_eqV run_neV

set_option maxHeartbeats 1000000 in
/-- A text that is too long for the law. -/
theorem order_long (x y z : Val) (m : Int) (w : World) (h : 1000 < x.s.size ∨ 1000 < y.s.size ∨ 1000 < z.s.size) (hx : x.s.size ≤ maxLen) (hy : y.s.size ≤ maxLen) (hz : z.s.size ≤ maxLen) (hm : w.cell? ⟨0, 0, none⟩ = some (.int .i64 m)) :
    Calls Tryd.prog 5 #[x.v, y.v, z.v] w fun e w' => e = .returned (.bool true) ∧ Below w.heap.size w w' := by
  unfold maxLen at hx hy hz
  have Hm := Lib.hid hm
  have hlt : 0 < w.heap.size := World.block_lt_of_cell? _ _ hm
  clear hm
  go_enter Tryd.func5, Tryd.ntmps5
  go_wp2_with fail
  refine (fixed_c m _ ?_).mono ?_
  · rw [World.cell?_alloc_past _ _ _ (by first | (simp; done) | (simp; omega)), World.cell?_alloc_past _ _ _ (by first | (simp; done) | (simp; omega)), World.cell?_alloc_past _ _ _ hlt]; exact Hm.out
  rintro e w1 ⟨rfl, hb1⟩
  have a1 := (((Bx.new w x).alloc _).alloc _).after hb1
  have a2 := ((Bx.new1 w y _).alloc _).after hb1
  have a3 := (Bx.new2 w z _ _).after hb1
  have hb : Below w.heap.size w w1 := (below_three w _ _ _).trans (hb1.mono (by simp; omega))
  have Hm1 : Hid (w1.cell? ⟨0, 0, none⟩ = some (.int .i64 m)) := (hb.cell hlt).trans Hm.out
  clear hb1
  have c1 := a1.cell2
  have c2 := a2.cell2
  have c3 := a3.cell2
  by_cases h1 : 1000 < x.s.size
  · clear h
    go_wp2_with fail
    refine (fixed_c m _ Hm1.out).mono ?_
    rintro e w2 ⟨rfl, hb2⟩
    have hbw := hb.trans (hb2.mono hb.size)
    clear hb2
    go_wp2
    go_ret
    exact ⟨rfl, hbw⟩
  · by_cases h2 : 1000 < y.s.size
    · clear h
      go_wp2_with fail
      refine (fixed_c m _ Hm1.out).mono ?_
      rintro e w2 ⟨rfl, hb2⟩
      have hbw := hb.trans (hb2.mono hb.size)
      clear hb2
      go_wp2
      go_ret
      exact ⟨rfl, hbw⟩
    · have h3 : 1000 < z.s.size := by omega
      clear h
      go_wp2_with fail
      refine (fixed_c m _ Hm1.out).mono ?_
      rintro e w2 ⟨rfl, hb2⟩
      have hbw := hb.trans (hb2.mono hb.size)
      clear hb2
      go_wp2
      go_ret
      exact ⟨rfl, hbw⟩

set_option maxHeartbeats 4000000 in
theorem order_short (x y z : Val) (m : Int) (w : World) (h1 : x.s.size ≤ 1000) (h2 : y.s.size ≤ 1000) (h3 : z.s.size ≤ 1000) (hm : w.cell? ⟨0, 0, none⟩ = some (.int .i64 m)) :
    Calls Tryd.prog 5 #[x.v, y.v, z.v] w fun e w' => e = .returned (.bool true) ∧ Below w.heap.size w w' := by
  obtain ⟨a, b, c, e1, e2, e3, e4, e5, hw⟩ := cmp_ways x y z
  have E1 := Lib.hid e1
  have E2 := Lib.hid e2
  have E3 := Lib.hid e3
  have E4 := Lib.hid e4
  have E5 := Lib.hid e5
  have Hw := Lib.hid hw
  have hcr : -1 ≤ c ∧ c ≤ 1 := by rw [← e3]; rcases cmp_range x z with h | h | h <;> omega
  have Hm := Lib.hid hm
  have hlt : 0 < w.heap.size := World.block_lt_of_cell? _ _ hm
  clear hm e1 e2 e3 e4 e5 hw
  go_enter Tryd.func5, Tryd.ntmps5
  go_wp2_with fail
  refine (fixed_c m _ ?_).mono ?_
  · rw [World.cell?_alloc_past _ _ _ (by first | (simp; done) | (simp; omega)), World.cell?_alloc_past _ _ _ (by first | (simp; done) | (simp; omega)), World.cell?_alloc_past _ _ _ hlt]; exact Hm.out
  rintro e w1 ⟨rfl, hb1⟩
  have a1 := (((Bx.new w x).alloc _).alloc _).after hb1
  have a2 : Bx w1 (w.heap.size + 1) y := ((Bx.new1 w y _).alloc _).after hb1
  have a3 : Bx w1 (w.heap.size + 1 + 1) z := (Bx.new2 w z _ _).after hb1
  have hb : Below w.heap.size w w1 := (below_three w _ _ _).trans (hb1.mono (by simp; omega))
  clear hb1
  have c1 := a1.cell2
  have c2 := a2.cell2
  have c3 := a3.cell2
  go_wp2_with fail
  clear c1 c2 c3 h1 h2 h3
  refine Reg.wp_region_vals mixed (by kernel_rfl) [(31, x.v), (32, y.v), (33, .int .i64 a), (34, y.v), (35, z.v), (36, .int .i64 b), (37, x.v), (38, z.v), (39, .int .i64 c), (7, .int .i64 a), (8, .int .i64 b), (9, .int .i64 c)] 84 rfl (by kernel_rfl) ?_ ?_
  · intro F hF w' hB
    have t1 := a1.after hB
    have t2 := a2.after hB
    have t3 := a3.after hB
    refine ⟨?_, ?_, ?_, ?_, ?_, ?_, ?_, ?_, ?_, ?_, ?_, ?_, trivial⟩
    · exact Reg.doesV_val (ev_load t1 rfl (by rw [hF]; kernel_rfl)) (by rw [hF]; kernel_rfl) (by rw [hF]; kernel_rfl)
    · exact Reg.doesV_val (ev_load t2 rfl (by rw [hF]; kernel_rfl)) (by rw [hF]; kernel_rfl) (by rw [hF]; kernel_rfl)
    · exact Reg.doesV_call (by have h := compare_c x y w'; rw [E1.out] at h; exact h) (ev_call enCmp rfl (by rw [hF]; kernel_rfl)) (by rw [hF]; kernel_rfl) (by rw [hF]; kernel_rfl)
    · exact Reg.doesV_val (ev_load t2 rfl (by rw [hF]; kernel_rfl)) (by rw [hF]; kernel_rfl) (by rw [hF]; kernel_rfl)
    · exact Reg.doesV_val (ev_load t3 rfl (by rw [hF]; kernel_rfl)) (by rw [hF]; kernel_rfl) (by rw [hF]; kernel_rfl)
    · exact Reg.doesV_call (by have h := compare_c y z w'; rw [E2.out] at h; exact h) (ev_call enCmp rfl (by rw [hF]; kernel_rfl)) (by rw [hF]; kernel_rfl) (by rw [hF]; kernel_rfl)
    · exact Reg.doesV_val (ev_load t1 rfl (by rw [hF]; kernel_rfl)) (by rw [hF]; kernel_rfl) (by rw [hF]; kernel_rfl)
    · exact Reg.doesV_val (ev_load t3 rfl (by rw [hF]; kernel_rfl)) (by rw [hF]; kernel_rfl) (by rw [hF]; kernel_rfl)
    · exact Reg.doesV_call (by have h := compare_c x z w'; rw [E3.out] at h; exact h) (ev_call enCmp rfl (by rw [hF]; kernel_rfl)) (by rw [hF]; kernel_rfl) (by rw [hF]; kernel_rfl)
    · exact Reg.doesV_val (ev_assign rfl) (by rw [hF]; kernel_rfl) (by rw [hF]; kernel_rfl)
    · exact Reg.doesV_val (ev_assign rfl) (by rw [hF]; kernel_rfl) (by rw [hF]; kernel_rfl)
    · exact Reg.doesV_val (ev_assign rfl) (by rw [hF]; kernel_rfl) (by rw [hF]; kernel_rfl)
  · intro w2 hB
    simp only [Reg.putAll, Act.put, List.setIfInBounds_toArray, List.set_cons_zero, List.set_cons_succ]
    have a1 := a1.after hB
    have a2 := a2.after hB
    have hbw := hb.trans (hB.mono hb.size)
    clear hB hb
    have x0 := a1.cell0
    have x1 := a1.cell1
    have x2 := a1.cell2
    have y0 := a2.cell0
    have y1 := a2.cell1
    have y2 := a2.cell2
    go_wp2_with fail
    refine (compare_c y x _).mono ?_
    rintro e w3 ⟨rfl, hb3⟩
    rw [E4.out]
    have a1 := a1.after hb3
    have a2 := a2.after hb3
    have hbw3 := hbw.trans (hb3.mono hbw.size)
    clear hb3 hbw x0 x1 x2 y0 y1 y2
    have x0 := a1.cell0
    have x1 := a1.cell1
    have x2 := a1.cell2
    have y0 := a2.cell0
    have y1 := a2.cell1
    have y2 := a2.cell2
    have he5 : Val.eq ⟨x.k, x.n, x.s⟩ ⟨y.k, y.n, y.s⟩ = decide (a = 0) := E5.out
    rcases Hw.out with ⟨rfl, rfl, rfl⟩ | ⟨rfl, rfl, rfl⟩ | ⟨rfl, rfl, rfl⟩ | ⟨rfl, rfl, rfl⟩ | ⟨rfl, rfl, rfl⟩ | ⟨rfl, rfl⟩ | rfl
    all_goals
      clear Hw E1 E2 E3 E4 E5
      simp only [Int.reduceEq, Int.reduceNeg, decide_true, decide_false, reduceCtorEq] at he5
      go_wp2
      go_ret
      exact ⟨rfl, hbw3⟩

theorem order_c (x y z : Val) (m : Int) (w : World) (hx : x.s.size ≤ maxLen) (hy : y.s.size ≤ maxLen) (hz : z.s.size ≤ maxLen) (hm : w.cell? ⟨0, 0, none⟩ = some (.int .i64 m)) :
    Calls Tryd.prog 5 #[x.v, y.v, z.v] w fun e w' => e = .returned (.bool true) ∧ Below w.heap.size w w' := by
  by_cases h : 1000 < x.s.size ∨ 1000 < y.s.size ∨ 1000 < z.s.size
  · exact order_long x y z m w h hx hy hz hm
  · exact order_short x y z m w (by omega) (by omega) (by omega) hm
end Go.Proofs.YtacmfjhmicgpnaaDoor
