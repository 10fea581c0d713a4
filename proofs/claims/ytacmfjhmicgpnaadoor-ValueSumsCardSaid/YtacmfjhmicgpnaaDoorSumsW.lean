/-
  The law ValueSums, walked: for every two numbers it answers true, and turns nothing that was there.
-/
import Derived.Test.YtacmfjhmicgpnaaDoorFix
import Derived.Test.YtacmfjhmicgpnaaDoorSumP
namespace Go.Proofs.YtacmfjhmicgpnaaDoor
open Go Go.RowKit
attribute [local go_sem ↓] run_eqV run_neV

set_option maxHeartbeats 2000000 in
theorem sums_c (a b m : Int) (w : World) (ha : -9223372036854775808 ≤ a ∧ a ≤ 9223372036854775807) (hb : -9223372036854775808 ≤ b ∧ b ≤ 9223372036854775807) (hm : w.cell? ⟨0, 0, none⟩ = some (.int .i64 m)) :
    Calls Tryd.prog 6 #[.int .i64 a, .int .i64 b] w fun e w' => e = .returned (.bool true) ∧ Below w.heap.size w w' := by
  have hlt : 0 < w.heap.size := World.block_lt_of_cell? _ _ hm
  obtain ⟨⟨mv, mo⟩, hM⟩ : ∃ M, mulR (iv a) (iv b) = M := ⟨_, rfl⟩
  have HM1 := Lib.hid hM
  have HM2 : Hid (mulR (iv b) (iv a) = (mv, mo)) := (mul_comm' ha hb).trans hM
  obtain ⟨⟨sv, so⟩, hS⟩ : ∃ S, addR (iv a) (iv b) = S := ⟨_, rfl⟩
  have HS1 := Lib.hid hS
  have HS2 : Hid (addR (iv b) (iv a) = (sv, so)) := (add_comm' ha hb).trans hS
  have Ha : Hid (in64 a) := ha
  have Hb : Hid (in64 b) := hb
  have Hm := Lib.hid hm
  clear hm hM hS ha hb
  go_enter Tryd.func6, Tryd.ntmps6
  go_wp2_with fail
  refine (rint_c a _).mono ?_
  rintro e w1 ⟨rfl, hb1⟩
  go_wp2_with fail
  refine (rint_c b _).mono ?_
  rintro e w2 ⟨rfl, hb2⟩
  have hbw : Below w.heap.size w w2 := hb1.trans (hb2.mono hb1.size)
  clear hb1 hb2
  have px : Bx ((w2.alloc (.cells #[.int .i64 (iv a).k, .int .i64 (iv a).n, .string (iv a).s] 25)).alloc (.cells #[.int .i64 (iv b).k, .int .i64 (iv b).n, .string (iv b).s] 25)) w2.heap.size (iv a) := (Bx.new w2 (iv a)).alloc _
  have py : Bx ((w2.alloc (.cells #[.int .i64 (iv a).k, .int .i64 (iv a).n, .string (iv a).s] 25)).alloc (.cells #[.int .i64 (iv b).k, .int .i64 (iv b).n, .string (iv b).s] 25)) (w2.heap.size + 1) (iv b) := Bx.new1 w2 (iv b) _
  go_wp2_with fail
  refine (add_c (iv a) (iv b) _).mono ?_
  rintro e w3 ⟨rfl, hb3⟩
  rw [HS1.out]
  have px := px.after hb3
  have py := py.after hb3
  have hbw := (hbw.trans ((below_two w2 _ _).mono hbw.size)).trans (hb3.mono (by have := hbw.size; simp; omega))
  clear hb3
  have px0 := px.cell0
  have px1 := px.cell1
  have px2 := px.cell2
  have pxl := px.lt
  have py0 := py.cell0
  have py1 := py.cell1
  have py2 := py.cell2
  have pyl := py.lt
  go_wp2_with fail
  refine (add_c (iv b) (iv a) _).mono ?_
  rintro e w4 ⟨rfl, hb4⟩
  rw [HS2.out]
  clear px0 px1 px2 pxl py0 py1 py2 pyl
  have px := (px.alloc _).after hb4
  have py := (py.alloc _).after hb4
  have ps : Bx w4 w3.heap.size sv := (Bx.new w3 sv).after hb4
  have hbw := (hbw.alloc hbw.size _).trans (hb4.mono (by have := hbw.size; simp; omega))
  clear hb4
  have px0 := px.cell0
  have px1 := px.cell1
  have px2 := px.cell2
  have pxl := px.lt
  have py0 := py.cell0
  have py1 := py.cell1
  have py2 := py.cell2
  have pyl := py.lt
  go_wp2_with fail
  refine (mul_c (iv a) (iv b) _).mono ?_
  rintro e w5 ⟨rfl, hb5⟩
  rw [HM1.out]
  clear px0 px1 px2 pxl py0 py1 py2 pyl
  have px := (px.alloc _).after hb5
  have py := (py.alloc _).after hb5
  have ps := (ps.alloc _).after hb5
  have pt : Bx w5 w4.heap.size sv := (Bx.new w4 sv).after hb5
  have hbw := (hbw.alloc hbw.size _).trans (hb5.mono (by have := hbw.size; simp; omega))
  clear hb5
  have px0 := px.cell0
  have px1 := px.cell1
  have px2 := px.cell2
  have pxl := px.lt
  have py0 := py.cell0
  have py1 := py.cell1
  have py2 := py.cell2
  have pyl := py.lt
  go_wp2_with fail
  refine (mul_c (iv b) (iv a) _).mono ?_
  rintro e w6 ⟨rfl, hb6⟩
  rw [HM2.out]
  clear px0 px1 px2 pxl py0 py1 py2 pyl
  have px := (px.alloc _).after hb6
  have py := (py.alloc _).after hb6
  have ps := (ps.alloc _).after hb6
  have pt := (pt.alloc _).after hb6
  have pu : Bx w6 w5.heap.size mv := (Bx.new w5 mv).after hb6
  have hbw := (hbw.alloc hbw.size _).trans (hb6.mono (by have := hbw.size; simp; omega))
  clear hb6
  go_wp2_with fail
  have hm6 : Hid ((w6.alloc (.cells #[.int .i64 mv.k, .int .i64 mv.n, .string mv.s] 25)).cell? ⟨0, 0, none⟩ = some (.int .i64 m)) := ((hbw.alloc hbw.size _).cell hlt).trans Hm.out
  refine (fixed_c m _ hm6.out).mono ?_
  rintro e w7 ⟨rfl, hb7⟩
  clear hm6
  have px := (px.alloc _).after hb7
  have py := (py.alloc _).after hb7
  have ps := (ps.alloc _).after hb7
  have pt := (pt.alloc _).after hb7
  have pu := (pu.alloc _).after hb7
  have pv : Bx w7 w6.heap.size mv := (Bx.new w6 mv).after hb7
  have hbw := (hbw.alloc hbw.size _).trans (hb7.mono (by have := hbw.size; simp; omega))
  clear hb7
  have px0 := px.cell0
  have px1 := px.cell1
  have px2 := px.cell2
  have py0 := py.cell0
  have py1 := py.cell1
  have py2 := py.cell2
  have ps0 := ps.cell0
  have ps1 := ps.cell1
  have ps2 := ps.cell2
  have pt0 := pt.cell0
  have pt1 := pt.cell1
  have pt2 := pt.cell2
  have pu0 := pu.cell0
  have pu1 := pu.cell1
  have pu2 := pu.cell2
  have pv0 := pv.cell0
  have pv1 := pv.cell1
  have pv2 := pv.cell2
  have q1 := Val.eq_self sv
  have q2 := Val.eq_self mv
  by_cases h : in64 (a + b)
  · -- the sum fits
    have hs := HS1.out
    rw [add_in h] at hs
    injection hs with hs1 hs2
    subst hs1 hs2
    have HSub : Hid (subR (iv (a + b)) (iv b) = (iv a, true)) := by
      have e : a + b - b = a := by omega
      have := sub_in (a := a + b) (b := b) (by rw [e]; exact Ha.out)
      rw [e] at this
      exact this
    clear HS1 HS2 HM1 HM2
    go_wp2_with fail
    refine (sub_c (iv (a + b)) (iv b) _).mono ?_
    rintro e w8 ⟨rfl, hb8⟩
    rw [HSub.out]
    have px := px.after hb8
    have ps := ps.after hb8
    have hbw8 := hbw.trans (hb8.mono hbw.size)
    clear hb8 px0 px1 px2 py0 py1 py2 ps0 ps1 ps2 pt0 pt1 pt2 pu0 pu1 pu2 pv0 pv1 pv2
    have px0 := px.cell0
    have px1 := px.cell1
    have px2 := px.cell2
    have ps1 := ps.cell1
    have pxl := px.lt
    have psl := ps.lt
    have q3 := Val.eq_self (iv a)
    have hn : (iv (a + b)).n = a + b := rfl
    rw [hn] at ps1
    rcases Int.lt_trichotomy b 0 with hb0 | hb0 | hb0
    · have z1 : decide (0 < b) = false := decide_eq_false (by omega)
      have z2 : decide (b < 0) = true := decide_eq_true hb0
      have z3 : decide (a + b < a) = true := decide_eq_true (by omega)
      go_wp2
      go_ret
      exact ⟨rfl, hbw8.alloc hbw8.size _⟩
    · subst hb0
      have z3 : (a + 0 == a) = true := by simp
      go_wp2
      go_ret
      exact ⟨rfl, hbw8.alloc hbw8.size _⟩
    · have z1 : decide (0 < b) = true := decide_eq_true hb0
      have z3 : decide (a < a + b) = true := decide_eq_true (by omega)
      go_wp2
      go_ret
      exact ⟨rfl, hbw8.alloc hbw8.size _⟩
  · -- it does not
    have hs := HS1.out
    rw [add_out Ha.out Hb.out h] at hs
    injection hs with hs1 hs2
    subst hs1 hs2
    have hab : (0 < a ∧ 0 < b) ∨ (a < 0 ∧ b < 0) := by
      have := Ha.out; have := Hb.out; unfold in64 at *; omega
    clear HS1 HS2 HM1 HM2 h
    have q3 := Val.eq_self nl
    rcases hab with ⟨ha0, hb0⟩ | ⟨ha0, hb0⟩
    · have z1 : decide (0 < a) = true := decide_eq_true ha0
      have z2 : decide (0 < b) = true := decide_eq_true hb0
      have z3 : (a != 0) = true := by rw [bne_iff_ne]; omega
      have z4 : (b != 0) = true := by rw [bne_iff_ne]; omega
      go_wp2
      go_ret
      exact ⟨rfl, hbw⟩
    · have z1 : decide (0 < a) = false := decide_eq_false (by omega)
      have z2 : decide (0 < b) = false := decide_eq_false (by omega)
      have z3 : (a != 0) = true := by rw [bne_iff_ne]; omega
      have z4 : (b != 0) = true := by rw [bne_iff_ne]; omega
      go_wp2
      go_ret
      exact ⟨rfl, hbw⟩
end Go.Proofs.YtacmfjhmicgpnaaDoor
