/-
  Not, of every value, as the program has it.
-/
import Derived.Test.YticofedglhfdpaaGreatDoorTru
namespace Go.Proofs.YticofedglhfdpaaGreatDoor
open Go Go.RowKit
set_option maxRecDepth 100000


set_option maxHeartbeats 1000000 in
theorem not_t (a : Val) (w : World) (h1 : a.eq tt = true) : Calls Tryz.prog 67 #[a.v] w fun e w' => e = .returned ff.v ∧ Below w.heap.size w w' := by
  have H1 := Lib.hid h1
  clear h1
  go_enter Tryz.func67, Tryz.ntmps67
  go_wp2_with fail
  refine Reg.wp_region_vals mixed (by kernel_rfl) [(3, a.v), (4, tt.v), (5, .bool true)] 12 rfl (by kernel_rfl) ?_ ?_
  · intro F hF w' hB
    have hbx : Bx w' w.heap.size a := ((Bx.new w a).alloc _).after hB
    refine ⟨?_, ?_, ?_, trivial⟩
    · exact Reg.doesV_val (ev_load hbx rfl (by rw [hF]; kernel_rfl)) (by rw [hF]; kernel_rfl) (by rw [hF]; kernel_rfl)
    · exact Reg.doesV_call (truth_c true w') (ev_call enTruth rfl (by rw [hF]; kernel_rfl)) (by rw [hF]; kernel_rfl) (by rw [hF]; kernel_rfl)
    · exact Reg.doesV_val (by rw [ev_eq a tt rfl (by rw [hF]; kernel_rfl) (by rw [hF]; kernel_rfl), H1.out]) (by rw [hF]; kernel_rfl) (by rw [hF]; kernel_rfl)
  · intro w' hB
    simp only [Reg.putAll, Act.put, List.setIfInBounds_toArray, List.set_cons_zero, List.set_cons_succ]
    have hbw : Below w.heap.size w w' := ((below_one _ _).alloc (by simp) _).trans (hB.mono (by simp; omega))
    have hres : Bx w' (w.heap.size + 1) nl := (Bx.new1 w nl _).below hB (by simp)
    clear hB
    go_wp2_with fail
    refine (truth_c false _).mono ?_
    rintro e w1 ⟨rfl, hb1⟩
    have hr1 := hres.after hb1
    have hbw1 := hbw.trans (hb1.mono hbw.size)
    clear hbw hres hb1
    have g0 := hr1.cell0
    have g1 := hr1.cell1
    have g2 := hr1.cell2
    have f0 := hr1.frozen 0
    have f1 := hr1.frozen 1
    have f2 := hr1.frozen 2
    go_wp2
    exact ret_val (a := ff) Tryz.results67 rfl (hr1.put ff) rfl ⟨rfl, put3_below hbw1 (by omega) ff⟩

set_option maxHeartbeats 1000000 in
theorem not_f (a : Val) (w : World) (h1 : a.eq tt = false) (b : Bool) (h2 : a.eq ff = b) : Calls Tryz.prog 67 #[a.v] w fun e w' => e = .returned (if b then tt else nl).v ∧ Below w.heap.size w w' := by
  have H1 := Lib.hid h1
  have H2 := Lib.hid h2
  clear h1 h2
  go_enter Tryz.func67, Tryz.ntmps67
  go_wp2_with fail
  refine Reg.wp_region_vals mixed (by kernel_rfl) [(3, a.v), (4, tt.v), (5, .bool false)] 12 rfl (by kernel_rfl) ?_ ?_
  · intro F hF w' hB
    have hbx : Bx w' w.heap.size a := ((Bx.new w a).alloc _).after hB
    refine ⟨?_, ?_, ?_, trivial⟩
    · exact Reg.doesV_val (ev_load hbx rfl (by rw [hF]; kernel_rfl)) (by rw [hF]; kernel_rfl) (by rw [hF]; kernel_rfl)
    · exact Reg.doesV_call (truth_c true w') (ev_call enTruth rfl (by rw [hF]; kernel_rfl)) (by rw [hF]; kernel_rfl) (by rw [hF]; kernel_rfl)
    · exact Reg.doesV_val (by rw [ev_eq a tt rfl (by rw [hF]; kernel_rfl) (by rw [hF]; kernel_rfl), H1.out]) (by rw [hF]; kernel_rfl) (by rw [hF]; kernel_rfl)
  · intro w' hB
    simp only [Reg.putAll, Act.put, List.setIfInBounds_toArray, List.set_cons_zero, List.set_cons_succ]
    have hbw : Below w.heap.size w w' := ((below_one _ _).alloc (by simp) _).trans (hB.mono (by simp; omega))
    have hres : Bx w' (w.heap.size + 1) nl := (Bx.new1 w nl _).below hB (by simp)
    have harg : Bx w' w.heap.size a := ((Bx.new w a).alloc _).after hB
    clear hB
    go_wp2_with fail
    refine Reg.wp_region_vals mixed (by kernel_rfl) [(7, a.v), (8, ff.v), (9, .bool b)] 12 rfl (by kernel_rfl) ?_ ?_
    · intro F hF w2 hB
      have hbx : Bx w2 w.heap.size a := harg.after hB
      refine ⟨?_, ?_, ?_, trivial⟩
      · exact Reg.doesV_val (ev_load hbx rfl (by rw [hF]; kernel_rfl)) (by rw [hF]; kernel_rfl) (by rw [hF]; kernel_rfl)
      · exact Reg.doesV_call (truth_c false w2) (ev_call enTruth rfl (by rw [hF]; kernel_rfl)) (by rw [hF]; kernel_rfl) (by rw [hF]; kernel_rfl)
      · exact Reg.doesV_val (by rw [ev_eq a ff rfl (by rw [hF]; kernel_rfl) (by rw [hF]; kernel_rfl), H2.out]) (by rw [hF]; kernel_rfl) (by rw [hF]; kernel_rfl)
    · intro w2 hB
      simp only [Reg.putAll, Act.put, List.setIfInBounds_toArray, List.set_cons_zero, List.set_cons_succ]
      have hbw2 := hbw.trans (hB.mono hbw.size)
      have hres2 := hres.after hB
      clear hB hbw hres harg
      cases b
      · have g0 := hres2.cell0
        have g1 := hres2.cell1
        have g2 := hres2.cell2
        have f0 := hres2.frozen 0
        have f1 := hres2.frozen 1
        have f2 := hres2.frozen 2
        go_wp2
        exact ret_val (a := nl) Tryz.results67 rfl (hres2.put nl) rfl ⟨rfl, put3_below hbw2 (by omega) nl⟩
      · go_wp2_with fail
        refine (truth_c true _).mono ?_
        rintro e w1 ⟨rfl, hb1⟩
        have hr1 := hres2.after hb1
        have hbw1 := hbw2.trans (hb1.mono hbw2.size)
        clear hbw2 hres2 hb1
        have g0 := hr1.cell0
        have g1 := hr1.cell1
        have g2 := hr1.cell2
        have f0 := hr1.frozen 0
        have f1 := hr1.frozen 1
        have f2 := hr1.frozen 2
        go_wp2
        exact ret_val (a := tt) Tryz.results67 rfl (hr1.put tt) rfl ⟨rfl, put3_below hbw1 (by omega) tt⟩

theorem not_c (a : Val) (w : World) : Calls Tryz.prog 67 #[a.v] w fun e w' => e = .returned (nt a).v ∧ Below w.heap.size w w' := by
  cases h1 : a.eq tt
  · have e : nt a = if a.eq ff then tt else nl := by unfold nt; rw [h1]; rfl
    rw [e]
    exact not_f a w h1 _ rfl
  · have e : nt a = ff := by unfold nt; rw [h1]; rfl
    rw [e]
    exact not_t a w h1
end Go.Proofs.YticofedglhfdpaaGreatDoor
