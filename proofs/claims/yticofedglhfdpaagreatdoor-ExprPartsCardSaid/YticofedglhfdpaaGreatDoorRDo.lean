/-
  A step of two values, or one, as the document has it: it is as the program has it.
-/
import Derived.Test.YticofedglhfdpaaGreatDoorRMul
import Derived.Test.YticofedglhfdpaaGreatDoorRAndD
import Derived.Test.YticofedglhfdpaaGreatDoorRCmpV
import Derived.Test.YticofedglhfdpaaGreatDoorRTak
namespace Go.Proofs.YticofedglhfdpaaGreatDoor
open Go Go.RowKit
set_option maxRecDepth 100000

theorem unl_two (t : Bool) (a b : Val) : unl t [a, b] = if (a.k == 0 || b.k == 0) then nl else tv t := by
  unfold unl anyNull anyNull anyNull
  rw [Bool.or_false]

set_option maxHeartbeats 1000000 in
theorem do_add (a b : Val) (w : World) (ha : N64 a.n) (hb : N64 b.n) : Calls Tryz.prog 21 #[.int .i64 2, a.v, b.v] w fun e w' => e = .returned (.tuple #[(addR a b).1.v, .bool (addR a b).2]) ∧ Below w.heap.size w w' := by
  have Ha := Lib.hid ha
  have Hb := Lib.hid hb
  clear ha hb
  have a0 : Bx (((w.alloc (.cells #[.int .i64 a.k, .int .i64 a.n, .string a.s] 31)).alloc (.cells #[.int .i64 b.k, .int .i64 b.n, .string b.s] 31)).alloc (.cells #[.int .i64 nl.k, .int .i64 nl.n, .string nl.s] 31)) w.heap.size a := ((Bx.new w a).alloc _).alloc _
  have b0 : Bx (((w.alloc (.cells #[.int .i64 a.k, .int .i64 a.n, .string a.s] 31)).alloc (.cells #[.int .i64 b.k, .int .i64 b.n, .string b.s] 31)).alloc (.cells #[.int .i64 nl.k, .int .i64 nl.n, .string nl.s] 31)) (w.heap.size + 1) b := (Bx.new1 w b _).alloc _
  have r0 := Bx.new2 w nl (.cells #[.int .i64 a.k, .int .i64 a.n, .string a.s] 31) (.cells #[.int .i64 b.k, .int .i64 b.n, .string b.s] 31)
  have hb0 := below_three w (.cells #[.int .i64 a.k, .int .i64 a.n, .string a.s] 31) (.cells #[.int .i64 b.k, .int .i64 b.n, .string b.s] 31) (.cells #[.int .i64 nl.k, .int .i64 nl.n, .string nl.s] 31)
  obtain ⟨R, hR⟩ : ∃ R, addR a b = R := ⟨_, rfl⟩
  rw [hR]
  have HR := Lib.hid hR
  clear hR
  go_enter Tryz.func21, Tryz.ntmps21
  go_wp2_with fail
  refine (radd_c a b _ Ha.out Hb.out).mono ?_
  rintro e w1 ⟨rfl, hc⟩
  rw [HR.out]
  have r1 := r0.after hc
  have a1 := a0.after hc
  have b1 := b0.after hc
  have hb1 := hb0.trans (hc.mono hb0.size)
  clear hc r0 a0 b0 hb0
  have g0 := r1.cell0
  have g1 := r1.cell1
  have g2 := r1.cell2
  have f0 := r1.frozen 0
  have f1 := r1.frozen 1
  have f2 := r1.frozen 2
  go_wp2
  exact ret_valX (a := R.1) (z := .bool R.2) Tryz.results21 rfl rfl (r1.put R.1) rfl ⟨rfl, put3_below hb1 (by omega) R.1⟩
set_option maxHeartbeats 1000000 in
theorem do_sub (a b : Val) (w : World) (ha : N64 a.n) (hb : N64 b.n) : Calls Tryz.prog 21 #[.int .i64 3, a.v, b.v] w fun e w' => e = .returned (.tuple #[(subR a b).1.v, .bool (subR a b).2]) ∧ Below w.heap.size w w' := by
  have Ha := Lib.hid ha
  have Hb := Lib.hid hb
  clear ha hb
  have a0 : Bx (((w.alloc (.cells #[.int .i64 a.k, .int .i64 a.n, .string a.s] 31)).alloc (.cells #[.int .i64 b.k, .int .i64 b.n, .string b.s] 31)).alloc (.cells #[.int .i64 nl.k, .int .i64 nl.n, .string nl.s] 31)) w.heap.size a := ((Bx.new w a).alloc _).alloc _
  have b0 : Bx (((w.alloc (.cells #[.int .i64 a.k, .int .i64 a.n, .string a.s] 31)).alloc (.cells #[.int .i64 b.k, .int .i64 b.n, .string b.s] 31)).alloc (.cells #[.int .i64 nl.k, .int .i64 nl.n, .string nl.s] 31)) (w.heap.size + 1) b := (Bx.new1 w b _).alloc _
  have r0 := Bx.new2 w nl (.cells #[.int .i64 a.k, .int .i64 a.n, .string a.s] 31) (.cells #[.int .i64 b.k, .int .i64 b.n, .string b.s] 31)
  have hb0 := below_three w (.cells #[.int .i64 a.k, .int .i64 a.n, .string a.s] 31) (.cells #[.int .i64 b.k, .int .i64 b.n, .string b.s] 31) (.cells #[.int .i64 nl.k, .int .i64 nl.n, .string nl.s] 31)
  obtain ⟨R, hR⟩ : ∃ R, subR a b = R := ⟨_, rfl⟩
  rw [hR]
  have HR := Lib.hid hR
  clear hR
  go_enter Tryz.func21, Tryz.ntmps21
  go_wp2_with fail
  refine (rsub_c a b _ Ha.out Hb.out).mono ?_
  rintro e w1 ⟨rfl, hc⟩
  rw [HR.out]
  have r1 := r0.after hc
  have a1 := a0.after hc
  have b1 := b0.after hc
  have hb1 := hb0.trans (hc.mono hb0.size)
  clear hc r0 a0 b0 hb0
  have g0 := r1.cell0
  have g1 := r1.cell1
  have g2 := r1.cell2
  have f0 := r1.frozen 0
  have f1 := r1.frozen 1
  have f2 := r1.frozen 2
  go_wp2
  exact ret_valX (a := R.1) (z := .bool R.2) Tryz.results21 rfl rfl (r1.put R.1) rfl ⟨rfl, put3_below hb1 (by omega) R.1⟩
set_option maxHeartbeats 1000000 in
theorem do_mul (a b : Val) (w : World) (ha : N64 a.n) (hb : N64 b.n) : Calls Tryz.prog 21 #[.int .i64 4, a.v, b.v] w fun e w' => e = .returned (.tuple #[(mulR a b).1.v, .bool (mulR a b).2]) ∧ Below w.heap.size w w' := by
  have Ha := Lib.hid ha
  have Hb := Lib.hid hb
  clear ha hb
  have a0 : Bx (((w.alloc (.cells #[.int .i64 a.k, .int .i64 a.n, .string a.s] 31)).alloc (.cells #[.int .i64 b.k, .int .i64 b.n, .string b.s] 31)).alloc (.cells #[.int .i64 nl.k, .int .i64 nl.n, .string nl.s] 31)) w.heap.size a := ((Bx.new w a).alloc _).alloc _
  have b0 : Bx (((w.alloc (.cells #[.int .i64 a.k, .int .i64 a.n, .string a.s] 31)).alloc (.cells #[.int .i64 b.k, .int .i64 b.n, .string b.s] 31)).alloc (.cells #[.int .i64 nl.k, .int .i64 nl.n, .string nl.s] 31)) (w.heap.size + 1) b := (Bx.new1 w b _).alloc _
  have r0 := Bx.new2 w nl (.cells #[.int .i64 a.k, .int .i64 a.n, .string a.s] 31) (.cells #[.int .i64 b.k, .int .i64 b.n, .string b.s] 31)
  have hb0 := below_three w (.cells #[.int .i64 a.k, .int .i64 a.n, .string a.s] 31) (.cells #[.int .i64 b.k, .int .i64 b.n, .string b.s] 31) (.cells #[.int .i64 nl.k, .int .i64 nl.n, .string nl.s] 31)
  obtain ⟨R, hR⟩ : ∃ R, mulR a b = R := ⟨_, rfl⟩
  rw [hR]
  have HR := Lib.hid hR
  clear hR
  go_enter Tryz.func21, Tryz.ntmps21
  go_wp2_with fail
  refine (rmul_c a b _ Ha.out Hb.out).mono ?_
  rintro e w1 ⟨rfl, hc⟩
  rw [HR.out]
  have r1 := r0.after hc
  have a1 := a0.after hc
  have b1 := b0.after hc
  have hb1 := hb0.trans (hc.mono hb0.size)
  clear hc r0 a0 b0 hb0
  have g0 := r1.cell0
  have g1 := r1.cell1
  have g2 := r1.cell2
  have f0 := r1.frozen 0
  have f1 := r1.frozen 1
  have f2 := r1.frozen 2
  go_wp2
  exact ret_valX (a := R.1) (z := .bool R.2) Tryz.results21 rfl rfl (r1.put R.1) rfl ⟨rfl, put3_below hb1 (by omega) R.1⟩
set_option maxHeartbeats 1000000 in
theorem do_and (a b : Val) (w : World) (ha : N64 a.n) (hb : N64 b.n) : Calls Tryz.prog 21 #[.int .i64 7, a.v, b.v] w fun e w' => e = .returned (.tuple #[(andV [a, b]).v, .bool true]) ∧ Below w.heap.size w w' := by
  have Ha := Lib.hid ha
  have Hb := Lib.hid hb
  clear ha hb
  have a0 : Bx (((w.alloc (.cells #[.int .i64 a.k, .int .i64 a.n, .string a.s] 31)).alloc (.cells #[.int .i64 b.k, .int .i64 b.n, .string b.s] 31)).alloc (.cells #[.int .i64 nl.k, .int .i64 nl.n, .string nl.s] 31)) w.heap.size a := ((Bx.new w a).alloc _).alloc _
  have b0 : Bx (((w.alloc (.cells #[.int .i64 a.k, .int .i64 a.n, .string a.s] 31)).alloc (.cells #[.int .i64 b.k, .int .i64 b.n, .string b.s] 31)).alloc (.cells #[.int .i64 nl.k, .int .i64 nl.n, .string nl.s] 31)) (w.heap.size + 1) b := (Bx.new1 w b _).alloc _
  have r0 := Bx.new2 w nl (.cells #[.int .i64 a.k, .int .i64 a.n, .string a.s] 31) (.cells #[.int .i64 b.k, .int .i64 b.n, .string b.s] 31)
  have hb0 := below_three w (.cells #[.int .i64 a.k, .int .i64 a.n, .string a.s] 31) (.cells #[.int .i64 b.k, .int .i64 b.n, .string b.s] 31) (.cells #[.int .i64 nl.k, .int .i64 nl.n, .string nl.s] 31)
  obtain ⟨R, hR⟩ : ∃ R, andV [a, b] = R := ⟨_, rfl⟩
  rw [hR]
  have HR := Lib.hid hR
  clear hR
  go_enter Tryz.func21, Tryz.ntmps21
  go_wp2_with fail
  have hs := Sl.new2 (((w.alloc (.cells #[.int .i64 a.k, .int .i64 a.n, .string a.s] 31)).alloc (.cells #[.int .i64 b.k, .int .i64 b.n, .string b.s] 31)).alloc (.cells #[.int .i64 nl.k, .int .i64 nl.n, .string nl.s] 31)) a b
  have hsz : (((w.alloc (.cells #[.int .i64 a.k, .int .i64 a.n, .string a.s] 31)).alloc (.cells #[.int .i64 b.k, .int .i64 b.n, .string b.s] 31)).alloc (.cells #[.int .i64 nl.k, .int .i64 nl.n, .string nl.s] 31)).heap.size = w.heap.size + 3 := by simp
  rw [hsz] at hs
  have hba := below_one (((w.alloc (.cells #[.int .i64 a.k, .int .i64 a.n, .string a.s] 31)).alloc (.cells #[.int .i64 b.k, .int .i64 b.n, .string b.s] 31)).alloc (.cells #[.int .i64 nl.k, .int .i64 nl.n, .string nl.s] 31)) (.cells (cells2 a b) 31)
  have r1 := r0.after hba
  have a1 := a0.after hba
  have b1 := b0.after hba
  have hb1 := hb0.trans (hba.mono hb0.size)
  clear hba r0 a0 b0 hb0 hsz
  refine (rand_c (some ⟨w.heap.size + 3, 0, none⟩) 2 2 [a, b] _ rfl (by decide) hs).mono ?_
  rintro e w2 ⟨rfl, hc⟩
  rw [rand_and, HR.out]
  have r2 := r1.after hc
  have hb2 := hb1.trans (hc.mono hb1.size)
  clear hc r1 a1 b1 hb1 hs
  have g0 := r2.cell0
  have g1 := r2.cell1
  have g2 := r2.cell2
  have f0 := r2.frozen 0
  have f1 := r2.frozen 1
  have f2 := r2.frozen 2
  go_wp2
  exact ret_valX (a := R) (z := .bool true) Tryz.results21 rfl rfl (r2.put R) rfl ⟨rfl, put3_below hb2 (by omega) R⟩
set_option maxHeartbeats 1000000 in
theorem do_or (a b : Val) (w : World) (ha : N64 a.n) (hb : N64 b.n) : Calls Tryz.prog 21 #[.int .i64 8, a.v, b.v] w fun e w' => e = .returned (.tuple #[(orV [a, b]).v, .bool true]) ∧ Below w.heap.size w w' := by
  have Ha := Lib.hid ha
  have Hb := Lib.hid hb
  clear ha hb
  have a0 : Bx (((w.alloc (.cells #[.int .i64 a.k, .int .i64 a.n, .string a.s] 31)).alloc (.cells #[.int .i64 b.k, .int .i64 b.n, .string b.s] 31)).alloc (.cells #[.int .i64 nl.k, .int .i64 nl.n, .string nl.s] 31)) w.heap.size a := ((Bx.new w a).alloc _).alloc _
  have b0 : Bx (((w.alloc (.cells #[.int .i64 a.k, .int .i64 a.n, .string a.s] 31)).alloc (.cells #[.int .i64 b.k, .int .i64 b.n, .string b.s] 31)).alloc (.cells #[.int .i64 nl.k, .int .i64 nl.n, .string nl.s] 31)) (w.heap.size + 1) b := (Bx.new1 w b _).alloc _
  have r0 := Bx.new2 w nl (.cells #[.int .i64 a.k, .int .i64 a.n, .string a.s] 31) (.cells #[.int .i64 b.k, .int .i64 b.n, .string b.s] 31)
  have hb0 := below_three w (.cells #[.int .i64 a.k, .int .i64 a.n, .string a.s] 31) (.cells #[.int .i64 b.k, .int .i64 b.n, .string b.s] 31) (.cells #[.int .i64 nl.k, .int .i64 nl.n, .string nl.s] 31)
  obtain ⟨R, hR⟩ : ∃ R, orV [a, b] = R := ⟨_, rfl⟩
  rw [hR]
  have HR := Lib.hid hR
  clear hR
  go_enter Tryz.func21, Tryz.ntmps21
  go_wp2_with fail
  have hs := Sl.new2 (((w.alloc (.cells #[.int .i64 a.k, .int .i64 a.n, .string a.s] 31)).alloc (.cells #[.int .i64 b.k, .int .i64 b.n, .string b.s] 31)).alloc (.cells #[.int .i64 nl.k, .int .i64 nl.n, .string nl.s] 31)) a b
  have hsz : (((w.alloc (.cells #[.int .i64 a.k, .int .i64 a.n, .string a.s] 31)).alloc (.cells #[.int .i64 b.k, .int .i64 b.n, .string b.s] 31)).alloc (.cells #[.int .i64 nl.k, .int .i64 nl.n, .string nl.s] 31)).heap.size = w.heap.size + 3 := by simp
  rw [hsz] at hs
  have hba := below_one (((w.alloc (.cells #[.int .i64 a.k, .int .i64 a.n, .string a.s] 31)).alloc (.cells #[.int .i64 b.k, .int .i64 b.n, .string b.s] 31)).alloc (.cells #[.int .i64 nl.k, .int .i64 nl.n, .string nl.s] 31)) (.cells (cells2 a b) 31)
  have r1 := r0.after hba
  have a1 := a0.after hba
  have b1 := b0.after hba
  have hb1 := hb0.trans (hba.mono hb0.size)
  clear hba r0 a0 b0 hb0 hsz
  refine (ror_c (some ⟨w.heap.size + 3, 0, none⟩) 2 2 [a, b] _ rfl (by decide) hs).mono ?_
  rintro e w2 ⟨rfl, hc⟩
  rw [ror_or, HR.out]
  have r2 := r1.after hc
  have hb2 := hb1.trans (hc.mono hb1.size)
  clear hc r1 a1 b1 hb1 hs
  have g0 := r2.cell0
  have g1 := r2.cell1
  have g2 := r2.cell2
  have f0 := r2.frozen 0
  have f1 := r2.frozen 1
  have f2 := r2.frozen 2
  go_wp2
  exact ret_valX (a := R) (z := .bool true) Tryz.results21 rfl rfl (r2.put R) rfl ⟨rfl, put3_below hb2 (by omega) R⟩
set_option maxHeartbeats 1000000 in
theorem do_not (a b : Val) (w : World) (ha : N64 a.n) (hb : N64 b.n) : Calls Tryz.prog 21 #[.int .i64 9, a.v, b.v] w fun e w' => e = .returned (.tuple #[(nt b).v, .bool true]) ∧ Below w.heap.size w w' := by
  have Ha := Lib.hid ha
  have Hb := Lib.hid hb
  clear ha hb
  have a0 : Bx (((w.alloc (.cells #[.int .i64 a.k, .int .i64 a.n, .string a.s] 31)).alloc (.cells #[.int .i64 b.k, .int .i64 b.n, .string b.s] 31)).alloc (.cells #[.int .i64 nl.k, .int .i64 nl.n, .string nl.s] 31)) w.heap.size a := ((Bx.new w a).alloc _).alloc _
  have b0 : Bx (((w.alloc (.cells #[.int .i64 a.k, .int .i64 a.n, .string a.s] 31)).alloc (.cells #[.int .i64 b.k, .int .i64 b.n, .string b.s] 31)).alloc (.cells #[.int .i64 nl.k, .int .i64 nl.n, .string nl.s] 31)) (w.heap.size + 1) b := (Bx.new1 w b _).alloc _
  have r0 := Bx.new2 w nl (.cells #[.int .i64 a.k, .int .i64 a.n, .string a.s] 31) (.cells #[.int .i64 b.k, .int .i64 b.n, .string b.s] 31)
  have hb0 := below_three w (.cells #[.int .i64 a.k, .int .i64 a.n, .string a.s] 31) (.cells #[.int .i64 b.k, .int .i64 b.n, .string b.s] 31) (.cells #[.int .i64 nl.k, .int .i64 nl.n, .string nl.s] 31)
  obtain ⟨R, hR⟩ : ∃ R, nt b = R := ⟨_, rfl⟩
  rw [hR]
  have HR := Lib.hid hR
  clear hR
  go_enter Tryz.func21, Tryz.ntmps21
  go_wp2_with fail
  refine (rnot_c b _).mono ?_
  rintro e w1 ⟨rfl, hc⟩
  rw [HR.out]
  have r1 := r0.after hc
  have a1 := a0.after hc
  have b1 := b0.after hc
  have hb1 := hb0.trans (hc.mono hb0.size)
  clear hc r0 a0 b0 hb0
  have g0 := r1.cell0
  have g1 := r1.cell1
  have g2 := r1.cell2
  have f0 := r1.frozen 0
  have f1 := r1.frozen 1
  have f2 := r1.frozen 2
  go_wp2
  exact ret_valX (a := R) (z := .bool true) Tryz.results21 rfl rfl (r1.put R) rfl ⟨rfl, put3_below hb1 (by omega) R⟩
set_option maxHeartbeats 1000000 in
theorem do_null (a b : Val) (w : World) (ha : N64 a.n) (hb : N64 b.n) : Calls Tryz.prog 21 #[.int .i64 10, a.v, b.v] w fun e w' => e = .returned (.tuple #[(tv (b.k == 0)).v, .bool true]) ∧ Below w.heap.size w w' := by
  have Ha := Lib.hid ha
  have Hb := Lib.hid hb
  clear ha hb
  have a0 : Bx (((w.alloc (.cells #[.int .i64 a.k, .int .i64 a.n, .string a.s] 31)).alloc (.cells #[.int .i64 b.k, .int .i64 b.n, .string b.s] 31)).alloc (.cells #[.int .i64 nl.k, .int .i64 nl.n, .string nl.s] 31)) w.heap.size a := ((Bx.new w a).alloc _).alloc _
  have b0 : Bx (((w.alloc (.cells #[.int .i64 a.k, .int .i64 a.n, .string a.s] 31)).alloc (.cells #[.int .i64 b.k, .int .i64 b.n, .string b.s] 31)).alloc (.cells #[.int .i64 nl.k, .int .i64 nl.n, .string nl.s] 31)) (w.heap.size + 1) b := (Bx.new1 w b _).alloc _
  have r0 := Bx.new2 w nl (.cells #[.int .i64 a.k, .int .i64 a.n, .string a.s] 31) (.cells #[.int .i64 b.k, .int .i64 b.n, .string b.s] 31)
  have hb0 := below_three w (.cells #[.int .i64 a.k, .int .i64 a.n, .string a.s] 31) (.cells #[.int .i64 b.k, .int .i64 b.n, .string b.s] 31) (.cells #[.int .i64 nl.k, .int .i64 nl.n, .string nl.s] 31)
  obtain ⟨R, hR⟩ : ∃ R, tv (b.k == 0) = R := ⟨_, rfl⟩
  rw [hR]
  have HR := Lib.hid hR
  clear hR
  go_enter Tryz.func21, Tryz.ntmps21
  go_wp2_with fail
  refine (rtruth_c (b.k == 0) _).mono ?_
  rintro e w1 ⟨rfl, hc⟩
  rw [HR.out]
  have r1 := r0.after hc
  have a1 := a0.after hc
  have b1 := b0.after hc
  have hb1 := hb0.trans (hc.mono hb0.size)
  clear hc r0 a0 b0 hb0
  have g0 := r1.cell0
  have g1 := r1.cell1
  have g2 := r1.cell2
  have f0 := r1.frozen 0
  have f1 := r1.frozen 1
  have f2 := r1.frozen 2
  go_wp2
  exact ret_valX (a := R) (z := .bool true) Tryz.results21 rfl rfl (r1.put R) rfl ⟨rfl, put3_below hb1 (by omega) R⟩
set_option maxHeartbeats 1000000 in
theorem do_eq_n (a b : Val) (w : World) (ha : N64 a.n) (hb : N64 b.n) (hn : (a.k == 0 || b.k == 0) = true) : Calls Tryz.prog 21 #[.int .i64 5, a.v, b.v] w fun e w' => e = .returned (.tuple #[(nl).v, .bool true]) ∧ Below w.heap.size w w' := by
  have Ha := Lib.hid ha
  have Hb := Lib.hid hb
  clear ha hb
  have Hn := Lib.hid hn
  clear hn
  have a0 : Bx (((w.alloc (.cells #[.int .i64 a.k, .int .i64 a.n, .string a.s] 31)).alloc (.cells #[.int .i64 b.k, .int .i64 b.n, .string b.s] 31)).alloc (.cells #[.int .i64 nl.k, .int .i64 nl.n, .string nl.s] 31)) w.heap.size a := ((Bx.new w a).alloc _).alloc _
  have b0 : Bx (((w.alloc (.cells #[.int .i64 a.k, .int .i64 a.n, .string a.s] 31)).alloc (.cells #[.int .i64 b.k, .int .i64 b.n, .string b.s] 31)).alloc (.cells #[.int .i64 nl.k, .int .i64 nl.n, .string nl.s] 31)) (w.heap.size + 1) b := (Bx.new1 w b _).alloc _
  have r0 := Bx.new2 w nl (.cells #[.int .i64 a.k, .int .i64 a.n, .string a.s] 31) (.cells #[.int .i64 b.k, .int .i64 b.n, .string b.s] 31)
  have hb0 := below_three w (.cells #[.int .i64 a.k, .int .i64 a.n, .string a.s] 31) (.cells #[.int .i64 b.k, .int .i64 b.n, .string b.s] 31) (.cells #[.int .i64 nl.k, .int .i64 nl.n, .string nl.s] 31)
  go_enter Tryz.func21, Tryz.ntmps21
  go_wp2_with fail
  refine (rnulls_c a b _).mono ?_
  rintro e w1 ⟨rfl, hc⟩
  rw [Hn.out]
  have r1 := r0.after hc
  have a1 := a0.after hc
  have b1 := b0.after hc
  have hb1 := hb0.trans (hc.mono hb0.size)
  clear hc r0 a0 b0 hb0
  have g0 := r1.cell0
  have g1 := r1.cell1
  have g2 := r1.cell2
  have f0 := r1.frozen 0
  have f1 := r1.frozen 1
  have f2 := r1.frozen 2
  go_wp2
  exact ret_valX (a := nl) (z := .bool true) Tryz.results21 rfl rfl (r1.put nl) rfl ⟨rfl, put3_below hb1 (by omega) nl⟩
set_option maxHeartbeats 1000000 in
theorem do_eq_s (a b : Val) (w : World) (ha : N64 a.n) (hb : N64 b.n) (hn : (a.k == 0 || b.k == 0) = false) : Calls Tryz.prog 21 #[.int .i64 5, a.v, b.v] w fun e w' => e = .returned (.tuple #[(tv (cmpV a b == 0)).v, .bool true]) ∧ Below w.heap.size w w' := by
  have Ha := Lib.hid ha
  have Hb := Lib.hid hb
  clear ha hb
  have Hn := Lib.hid hn
  clear hn
  have a0 : Bx (((w.alloc (.cells #[.int .i64 a.k, .int .i64 a.n, .string a.s] 31)).alloc (.cells #[.int .i64 b.k, .int .i64 b.n, .string b.s] 31)).alloc (.cells #[.int .i64 nl.k, .int .i64 nl.n, .string nl.s] 31)) w.heap.size a := ((Bx.new w a).alloc _).alloc _
  have b0 : Bx (((w.alloc (.cells #[.int .i64 a.k, .int .i64 a.n, .string a.s] 31)).alloc (.cells #[.int .i64 b.k, .int .i64 b.n, .string b.s] 31)).alloc (.cells #[.int .i64 nl.k, .int .i64 nl.n, .string nl.s] 31)) (w.heap.size + 1) b := (Bx.new1 w b _).alloc _
  have r0 := Bx.new2 w nl (.cells #[.int .i64 a.k, .int .i64 a.n, .string a.s] 31) (.cells #[.int .i64 b.k, .int .i64 b.n, .string b.s] 31)
  have hb0 := below_three w (.cells #[.int .i64 a.k, .int .i64 a.n, .string a.s] 31) (.cells #[.int .i64 b.k, .int .i64 b.n, .string b.s] 31) (.cells #[.int .i64 nl.k, .int .i64 nl.n, .string nl.s] 31)
  obtain ⟨R, hR⟩ : ∃ R, tv (cmpV a b == 0) = R := ⟨_, rfl⟩
  rw [hR]
  have HR := Lib.hid hR
  clear hR
  go_enter Tryz.func21, Tryz.ntmps21
  go_wp2_with fail
  refine (rnulls_c a b _).mono ?_
  rintro e w1 ⟨rfl, hc⟩
  rw [Hn.out]
  have r1 := r0.after hc
  have a1 := a0.after hc
  have b1 := b0.after hc
  have hb1 := hb0.trans (hc.mono hb0.size)
  clear hc r0 a0 b0 hb0
  have x0 := a1.cell0
  have y0 := b1.cell0
  have x1 := a1.cell1
  have y1 := b1.cell1
  have x2 := a1.cell2
  have y2 := b1.cell2
  go_wp2_with fail
  clear x0 x1 x2 y0 y1 y2
  refine (rcompare_c a b _).mono ?_
  rintro e w2 ⟨rfl, hc⟩
  have r2 := r1.after hc
  have a2 := a1.after hc
  have b2 := b1.after hc
  have hb2 := hb1.trans (hc.mono hb1.size)
  clear hc r1 a1 b1 hb1
  go_wp2_with fail
  refine (rtruth_c (cmpV a b == 0) _).mono ?_
  rintro e w3 ⟨rfl, hc⟩
  rw [HR.out]
  have r3 := r2.after hc
  have a3 := a2.after hc
  have b3 := b2.after hc
  have hb3 := hb2.trans (hc.mono hb2.size)
  clear hc r2 a2 b2 hb2
  have g0 := r3.cell0
  have g1 := r3.cell1
  have g2 := r3.cell2
  have f0 := r3.frozen 0
  have f1 := r3.frozen 1
  have f2 := r3.frozen 2
  go_wp2
  exact ret_valX (a := R) (z := .bool true) Tryz.results21 rfl rfl (r3.put R) rfl ⟨rfl, put3_below hb3 (by omega) R⟩
set_option maxHeartbeats 1000000 in
theorem do_less_n (a b : Val) (w : World) (ha : N64 a.n) (hb : N64 b.n) (hn : (a.k == 0 || b.k == 0) = true) : Calls Tryz.prog 21 #[.int .i64 6, a.v, b.v] w fun e w' => e = .returned (.tuple #[(nl).v, .bool true]) ∧ Below w.heap.size w w' := by
  have Ha := Lib.hid ha
  have Hb := Lib.hid hb
  clear ha hb
  have Hn := Lib.hid hn
  clear hn
  have a0 : Bx (((w.alloc (.cells #[.int .i64 a.k, .int .i64 a.n, .string a.s] 31)).alloc (.cells #[.int .i64 b.k, .int .i64 b.n, .string b.s] 31)).alloc (.cells #[.int .i64 nl.k, .int .i64 nl.n, .string nl.s] 31)) w.heap.size a := ((Bx.new w a).alloc _).alloc _
  have b0 : Bx (((w.alloc (.cells #[.int .i64 a.k, .int .i64 a.n, .string a.s] 31)).alloc (.cells #[.int .i64 b.k, .int .i64 b.n, .string b.s] 31)).alloc (.cells #[.int .i64 nl.k, .int .i64 nl.n, .string nl.s] 31)) (w.heap.size + 1) b := (Bx.new1 w b _).alloc _
  have r0 := Bx.new2 w nl (.cells #[.int .i64 a.k, .int .i64 a.n, .string a.s] 31) (.cells #[.int .i64 b.k, .int .i64 b.n, .string b.s] 31)
  have hb0 := below_three w (.cells #[.int .i64 a.k, .int .i64 a.n, .string a.s] 31) (.cells #[.int .i64 b.k, .int .i64 b.n, .string b.s] 31) (.cells #[.int .i64 nl.k, .int .i64 nl.n, .string nl.s] 31)
  go_enter Tryz.func21, Tryz.ntmps21
  go_wp2_with fail
  refine (rnulls_c a b _).mono ?_
  rintro e w1 ⟨rfl, hc⟩
  rw [Hn.out]
  have r1 := r0.after hc
  have a1 := a0.after hc
  have b1 := b0.after hc
  have hb1 := hb0.trans (hc.mono hb0.size)
  clear hc r0 a0 b0 hb0
  have g0 := r1.cell0
  have g1 := r1.cell1
  have g2 := r1.cell2
  have f0 := r1.frozen 0
  have f1 := r1.frozen 1
  have f2 := r1.frozen 2
  go_wp2
  exact ret_valX (a := nl) (z := .bool true) Tryz.results21 rfl rfl (r1.put nl) rfl ⟨rfl, put3_below hb1 (by omega) nl⟩
set_option maxHeartbeats 1000000 in
theorem do_less_s (a b : Val) (w : World) (ha : N64 a.n) (hb : N64 b.n) (hn : (a.k == 0 || b.k == 0) = false) : Calls Tryz.prog 21 #[.int .i64 6, a.v, b.v] w fun e w' => e = .returned (.tuple #[(tv (decide (cmpV a b < 0))).v, .bool true]) ∧ Below w.heap.size w w' := by
  have Ha := Lib.hid ha
  have Hb := Lib.hid hb
  clear ha hb
  have Hn := Lib.hid hn
  clear hn
  have a0 : Bx (((w.alloc (.cells #[.int .i64 a.k, .int .i64 a.n, .string a.s] 31)).alloc (.cells #[.int .i64 b.k, .int .i64 b.n, .string b.s] 31)).alloc (.cells #[.int .i64 nl.k, .int .i64 nl.n, .string nl.s] 31)) w.heap.size a := ((Bx.new w a).alloc _).alloc _
  have b0 : Bx (((w.alloc (.cells #[.int .i64 a.k, .int .i64 a.n, .string a.s] 31)).alloc (.cells #[.int .i64 b.k, .int .i64 b.n, .string b.s] 31)).alloc (.cells #[.int .i64 nl.k, .int .i64 nl.n, .string nl.s] 31)) (w.heap.size + 1) b := (Bx.new1 w b _).alloc _
  have r0 := Bx.new2 w nl (.cells #[.int .i64 a.k, .int .i64 a.n, .string a.s] 31) (.cells #[.int .i64 b.k, .int .i64 b.n, .string b.s] 31)
  have hb0 := below_three w (.cells #[.int .i64 a.k, .int .i64 a.n, .string a.s] 31) (.cells #[.int .i64 b.k, .int .i64 b.n, .string b.s] 31) (.cells #[.int .i64 nl.k, .int .i64 nl.n, .string nl.s] 31)
  obtain ⟨R, hR⟩ : ∃ R, tv (decide (cmpV a b < 0)) = R := ⟨_, rfl⟩
  rw [hR]
  have HR := Lib.hid hR
  clear hR
  go_enter Tryz.func21, Tryz.ntmps21
  go_wp2_with fail
  refine (rnulls_c a b _).mono ?_
  rintro e w1 ⟨rfl, hc⟩
  rw [Hn.out]
  have r1 := r0.after hc
  have a1 := a0.after hc
  have b1 := b0.after hc
  have hb1 := hb0.trans (hc.mono hb0.size)
  clear hc r0 a0 b0 hb0
  have x0 := a1.cell0
  have y0 := b1.cell0
  have x1 := a1.cell1
  have y1 := b1.cell1
  have x2 := a1.cell2
  have y2 := b1.cell2
  go_wp2_with fail
  clear x0 x1 x2 y0 y1 y2
  refine (rcompare_c a b _).mono ?_
  rintro e w2 ⟨rfl, hc⟩
  have r2 := r1.after hc
  have a2 := a1.after hc
  have b2 := b1.after hc
  have hb2 := hb1.trans (hc.mono hb1.size)
  clear hc r1 a1 b1 hb1
  go_wp2_with fail
  refine (rtruth_c (decide (cmpV a b < 0)) _).mono ?_
  rintro e w3 ⟨rfl, hc⟩
  rw [HR.out]
  have r3 := r2.after hc
  have a3 := a2.after hc
  have b3 := b2.after hc
  have hb3 := hb2.trans (hc.mono hb2.size)
  clear hc r2 a2 b2 hb2
  have g0 := r3.cell0
  have g1 := r3.cell1
  have g2 := r3.cell2
  have f0 := r3.frozen 0
  have f1 := r3.frozen 1
  have f2 := r3.frozen 2
  go_wp2
  exact ret_valX (a := R) (z := .bool true) Tryz.results21 rfl rfl (r3.put R) rfl ⟨rfl, put3_below hb3 (by omega) R⟩
/-- THE DOCUMENT's STEP IS THE PROGRAM's. -/
theorem do2_c (op : Int) (a b : Val) (w : World) (h2 : 2 ≤ op) (h8 : op ≤ 8) (ha : N64 a.n) (hb : N64 b.n) : Calls Tryz.prog 21 #[.int .i64 op, a.v, b.v] w fun e w' => e = .returned (.tuple #[(cmpR op [a, b]).1.v, .bool (cmpR op [a, b]).2]) ∧ Below w.heap.size w w' := by
  rcases ops_cases op with rfl | rfl | rfl | rfl | rfl | rfl | rfl | rfl | rfl | ⟨e2, e3, e4, e5, e6, e7, e8, _, _⟩
  · exact do_add a b w ha hb
  · exact do_sub a b w ha hb
  · exact do_mul a b w ha hb
  · show Calls _ _ _ _ fun e w' => e = .returned (.tuple #[(unl (cmpV a b == 0) [a, b]).v, .bool true]) ∧ Below w.heap.size w w'
    rw [unl_two]
    cases hn : (a.k == 0 || b.k == 0)
    · exact do_eq_s a b w ha hb hn
    · exact do_eq_n a b w ha hb hn
  · show Calls _ _ _ _ fun e w' => e = .returned (.tuple #[(unl (decide (cmpV a b < 0)) [a, b]).v, .bool true]) ∧ Below w.heap.size w w'
    rw [unl_two]
    cases hn : (a.k == 0 || b.k == 0)
    · exact do_less_s a b w ha hb hn
    · exact do_less_n a b w ha hb hn
  · exact do_and a b w ha hb
  · exact do_or a b w ha hb
  · omega
  · omega
  · simp only [beq_eq_false_iff_ne] at e2 e3 e4 e5 e6 e7 e8
    omega
theorem do1_c (op : Int) (a b : Val) (w : World) (h : op = 9 ∨ op = 10) (ha : N64 a.n) (hb : N64 b.n) : Calls Tryz.prog 21 #[.int .i64 op, a.v, b.v] w fun e w' => e = .returned (.tuple #[(cmpR op [b]).1.v, .bool (cmpR op [b]).2]) ∧ Below w.heap.size w w' := by
  rcases h with rfl | rfl
  · exact do_not a b w ha hb
  · exact do_null a b w ha hb
end Go.Proofs.YticofedglhfdpaaGreatDoor
