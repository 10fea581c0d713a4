/-
  Part 6 of 11 of what the proof leans on: each part below says what it proves, and of what; no condition besides.
-/
import Derived.Test.YtbpopkgpepmlcaaGreatR05
import Derived.Deep.RegionLaw
import Derived.Deep.AppendLies
set_option linter.unusedVariables false
set_option linter.unusedSimpArgs false
namespace Go.Proofs.YtbpopkgpepmlcaaGreat
open Go Go.RowKit
set_option maxRecDepth 100000
set_option maxRecDepth 100000
attribute [local go_sem ↓] run_eqV run_neV
end Go.Proofs.YtbpopkgpepmlcaaGreat
namespace Go.Proofs.YtbpopkgpepmlcaaGreat
open Go Go.RowKit
set_option maxRecDepth 100000
def in64 (n : Int) : Prop := -9223372036854775808 ≤ n ∧ n ≤ 9223372036854775807
theorem w64 (n : Int) : wrap64 n = (n + 9223372036854775808) % 18446744073709551616 - 9223372036854775808 := by unfold wrap64; rfl
theorem w64_in {n : Int} (h : in64 n) : wrap64 n = n := by unfold in64 at h; rw [w64]; omega
theorem comp_iv (a b r : Int) (f : Bool) : comp (iv a) (iv b) r f = if f then (iv r, true) else (nl, false) := by
 unfold comp iv; rfl
theorem tdiv_mul (a b : Int) (h : a ≠ 0) : (a * b).tdiv a = b := by
 rw [Int.mul_comm]; exact Int.mul_tdiv_cancel b h
theorem mul_in {a b : Int} (hb : in64 b) (h : in64 (a * b)) : mulR (iv a) (iv b) = (iv (a * b), true) := by
 unfold mulR
 rw [comp_iv]
 show (if mulFits a b = true then (iv (mulIs a b), true) else (nl, false)) = _
 by_cases h0 : a = 0
 · subst h0
   have e1 : mulFits 0 b = true := by simp [mulFits]
   have e2 : mulIs 0 b = 0 * b := by simp [mulIs]
   rw [e1, e2]; rfl
 · have n0 : (a == 0) = false := by simpa using h0
   have n1 : (a == -1 && b == -9223372036854775808) = false := by
    cases hq : (a == -1 && b == -9223372036854775808) with
    | false => rfl
    | true =>
      simp only [Bool.and_eq_true, beq_iff_eq] at hq
      obtain ⟨rfl, rfl⟩ := hq
      unfold in64 at h; omega
   have e2 : mulIs a b = a * b := by unfold mulIs; rw [n0, n1]; exact w64_in h
   have e1 : mulFits a b = true := by
    unfold mulFits; rw [n0, n1]
    show (wrap64 ((wrap64 (a * b)).tdiv a) == b) = true
    rw [w64_in h, tdiv_mul a b h0, w64_in hb]; simp
   rw [e1, e2]; rfl
theorem mul_out {a b : Int} (ha : in64 a) (h : ¬ in64 (a * b)) : mulR (iv a) (iv b) = (nl, false) := by
 unfold mulR
 rw [comp_iv]
 show (if mulFits a b = true then (iv (mulIs a b), true) else (nl, false)) = _
 have h0 : a ≠ 0 := by rintro rfl; exact h (by unfold in64; omega)
 have n0 : (a == 0) = false := by simpa using h0
 have key : mulFits a b = false := by
  unfold mulFits; rw [n0]
  show (if (a == -1 && b == -9223372036854775808) = true then false else wrap64 ((wrap64 (a * b)).tdiv a) == b) = false
  cases hq : (a == -1 && b == -9223372036854775808) with
  | true => rfl
  | false =>
    show (wrap64 ((wrap64 (a * b)).tdiv a) == b) = false
    cases hc : (wrap64 ((wrap64 (a * b)).tdiv a) == b) with
    | false => rfl
    | true =>
      exfalso
      have hc' := beq_iff_eq.1 hc
      obtain ⟨P, hP⟩ : ∃ P, a * b = P := ⟨_, rfl⟩
      rw [hP] at hc' h
      have hw := w64 P
      obtain ⟨p, hp⟩ : ∃ p, wrap64 P = p := ⟨_, rfl⟩
      rw [hp] at hc' hw
      have hpr : in64 p := by unfold in64; omega
      have hdiv := Int.mul_tdiv_add_tmod p a
      have hmod : (p.tmod a).natAbs < a.natAbs := by rw [Int.natAbs_tmod]; exact Nat.mod_lt _ (by omega)
      -- the quotient fits, but for the one case that was left out
      have hq1 : in64 (p.tdiv a) := by
       have hle : (p.tdiv a).natAbs ≤ p.natAbs := by rw [Int.natAbs_tdiv]; exact Nat.div_le_self _ _
       unfold in64 at *
       by_cases hm : p.tdiv a = 9223372036854775808
       · exfalso
         -- then p is the least number and a is -1, so b is the least number, too
         have hb' : b = -9223372036854775808 := by rw [← hc', hm, w64]; omega
         have hpa : p = -9223372036854775808 := by omega
         have ha1 : a = -1 := by
          rw [hm, hpa] at hdiv
          have : (p.tmod a).natAbs < a.natAbs := hmod
          rw [hpa] at this
          omega
         rw [ha1, hb'] at hq
         exact Bool.noConfusion hq
       · omega
      rw [w64_in hq1] at hc'
      rw [hc', hP] at hdiv
      unfold in64 at *
      omega
 rw [key]; rfl
set_option maxRecDepth 100000
theorem ev_eqTI {P : Program} {F : Act} {w : World} {t u ty ty' : Nat} {a b : Int} {o : Oper} (ho : o.op = .binOp .eql ty (.tmp t) (.tmp u) ty') (ht : Reg.slot F t = .int .i64 a) (hu : Reg.slot F u = .int .i64 b) :
 (execOp F.eval o).run P w = .ok (.value (.bool (a == b))) w := by
 have e1 : F.eval (.tmp t) = .int .i64 a := ht
 have e2 : F.eval (.tmp u) = .int .i64 b := hu
 simp only [execOp, ho, e1, e2]
 simp [go_sem]
theorem mulR_ints (x y : Val) (h0 : (x.k == 0 || y.k == 0) = false) (h : (x.k == 2 && y.k == 2) = true) : mulR x y = mulR (iv x.n) (iv y.n) := by
 unfold mulR
 rw [comp_ints x y _ _ h0 h, comp_ints (iv x.n) (iv y.n) _ _ rfl rfl]
 rfl
theorem quo_out (a b : Int) (hb : I6n b) (h0 : (b == 0) = false) (hl : (b == -1 && a == -9223372036854775808) = false) (h : ¬ I6n (a * b)) : (wrap64 ((wrap64 (a * b)).tdiv b) == a) = false := by
 have h' : ¬ in64 (b * a) := by rw [Int.mul_comm]; exact h
 have h1 := mul_out (a := b) (b := a) hb h'
 unfold mulR at h1
 rw [comp_iv] at h1
 have h2 : mulFits b a = false := by
  cases hm : mulFits b a
  · rfl
  · exfalso
    have h3 : (if mulFits b a = true then (iv (mulIs b a), true) else (nl, false)) = (nl, false) := h1
    rw [hm, if_pos rfl] at h3
    have := congrArg Prod.snd h3
    cases this
 unfold mulFits at h2
 rw [h0, hl] at h2
 rw [Int.mul_comm]
 exact h2
theorem quo_in (a b : Int) (ha : I6n a) (h0 : (b == 0) = false) (h : I6n (a * b)) : wrap64 (a * b) = a * b ∧ wrap64 ((a * b).tdiv b) = a ∧ (a * b).tmod b = 0 := by
 have hb0 : b ≠ 0 := by simpa using h0
 refine ⟨w64_in h, ?_, ?_⟩
 · rw [Int.mul_comm, tdiv_mul b a hb0]
   exact w64_in ha
 · exact Int.mul_tmod_left a b
set_option maxHeartbeats 1000000 in
theorem rmul_null (x y : Val) (w : World) (h0 : (x.k == 0 || y.k == 0) = true) : Calls Tryz.prog 75 #[x.v, y.v] w fun e w' => e = .returned (.tuple #[nl.v, .bool true]) ∧ Below w.heap.size w w' := by
 have H0 := Lib.hid h0
 clear h0
 go_enter Tryz.func75, Tryz.ntmps75
 go_wp2_with fail
 refine (rnulls_c x y _).mono ?_
 rintro e w1 ⟨rfl, hb1⟩
 rw [H0.out]
 have b1 : Bx w1 w.heap.size x := (((Bx.new w x).alloc _).alloc _).after hb1
 have b2 : Bx w1 (w.heap.size + 1) y := ((Bx.new1 w y _).alloc _).after hb1
 have b3 : Bx w1 (w.heap.size + 2) nl := (Bx.new2 w nl _ _).after hb1
 have hb : Below w.heap.size w w1 := (below_three _ _ _ _).trans (hb1.mono (by simp; omega))
 clear hb1
 have g0 := b3.cell0
 have g1 := b3.cell1
 have g2 := b3.cell2
 have f0 := b3.frozen 0
 have f1 := b3.frozen 1
 have f2 := b3.frozen 2
 go_wp2
 exact ret_valX (a := nl) (z := .bool true) Tryz.results75 rfl rfl (b3.put nl) rfl ⟨rfl, put3_below hb (by omega) nl⟩
set_option maxHeartbeats 2000000 in
theorem rmul_I (x y : Val) (w : World) (h0 : (x.k == 0 || y.k == 0) = false) (h12 : (x.k == 2 && y.k == 2) = false) : Calls Tryz.prog 75 #[x.v, y.v] w fun e w' => e = .returned (.tuple #[nl.v, .bool false]) ∧ Below w.heap.size w w' := by
 have H0 := Lib.hid h0
 have H12 := Lib.hid h12
 clear h0 h12
 go_enter Tryz.func75, Tryz.ntmps75
 go_wp2_with fail
 refine (rnulls_c x y _).mono ?_
 rintro e w1 ⟨rfl, hb1⟩
 rw [H0.out]
 have b1 : Bx w1 w.heap.size x := (((Bx.new w x).alloc _).alloc _).after hb1
 have b2 : Bx w1 (w.heap.size + 1) y := ((Bx.new1 w y _).alloc _).after hb1
 have b3 : Bx w1 (w.heap.size + 2) nl := (Bx.new2 w nl _ _).after hb1
 have hb : Below w.heap.size w w1 := (below_three _ _ _ _).trans (hb1.mono (by simp; omega))
 clear hb1
 have x0 := b1.cell0
 have x1 := b1.cell1
 have x2 := b1.cell2
 have y0 := b2.cell0
 have y1 := b2.cell1
 have y2 := b2.cell2
 go_wp2_with fail
 refine (rints_c x y _).mono ?_
 rintro e w2 ⟨rfl, hb2⟩
 rw [H12.out]
 have c1 := b1.after hb2
 have c2 := b2.after hb2
 have c3 := b3.after hb2
 have hbb := hb.trans (hb2.mono hb.size)
 clear hb2 hb x0 x1 x2 y0 y1 y2 b1 b2 b3
 have g0 := c3.cell0
 have g1 := c3.cell1
 have g2 := c3.cell2
 have f0 := c3.frozen 0
 have f1 := c3.frozen 1
 have f2 := c3.frozen 2
 go_wp2
 exact ret_valX (a := nl) (z := .bool false) Tryz.results75 rfl rfl (c3.put nl) rfl ⟨rfl, put3_below hbb (by omega) nl⟩
set_option maxHeartbeats 2000000 in
theorem rmul_Z1 (x y : Val) (w : World) (h0 : (x.k == 0 || y.k == 0) = false) (h12 : (x.k == 2 && y.k == 2) = true) (ha : (x.n == 0) = true) : Calls Tryz.prog 75 #[x.v, y.v] w fun e w' => e = .returned (.tuple #[(iv 0).v, .bool true]) ∧ Below w.heap.size w w' := by
 have H0 := Lib.hid h0
 have H12 := Lib.hid h12
 have Ha := Lib.hid ha
 clear h0 h12 ha
 go_enter Tryz.func75, Tryz.ntmps75
 go_wp2_with fail
 refine (rnulls_c x y _).mono ?_
 rintro e w1 ⟨rfl, hb1⟩
 rw [H0.out]
 have b1 : Bx w1 w.heap.size x := (((Bx.new w x).alloc _).alloc _).after hb1
 have b2 : Bx w1 (w.heap.size + 1) y := ((Bx.new1 w y _).alloc _).after hb1
 have b3 : Bx w1 (w.heap.size + 2) nl := (Bx.new2 w nl _ _).after hb1
 have hb : Below w.heap.size w w1 := (below_three _ _ _ _).trans (hb1.mono (by simp; omega))
 clear hb1
 have x0 := b1.cell0
 have x1 := b1.cell1
 have x2 := b1.cell2
 have y0 := b2.cell0
 have y1 := b2.cell1
 have y2 := b2.cell2
 go_wp2_with fail
 refine (rints_c x y _).mono ?_
 rintro e w2 ⟨rfl, hb2⟩
 rw [H12.out]
 have c1 := b1.after hb2
 have c2 := b2.after hb2
 have c3 := b3.after hb2
 have hbb := hb.trans (hb2.mono hb.size)
 clear hb2 hb x0 x1 x2 y0 y1 y2 b1 b2 b3
 have x1 := c1.cell1
 have y1 := c2.cell1
 have ha := Ha.out
 go_wp2_with fail
 refine (rint_c 0 _).mono ?_
 rintro e w3 ⟨rfl, hb3⟩
 have d3 := c3.after hb3
 have hb4 := hbb.trans (hb3.mono hbb.size)
 clear hb3 c1 c2 c3 x1 y1 ha
 have g0 := d3.cell0
 have g1 := d3.cell1
 have g2 := d3.cell2
 have f0 := d3.frozen 0
 have f1 := d3.frozen 1
 have f2 := d3.frozen 2
 go_wp2
 exact ret_valX (a := iv 0) (z := .bool true) Tryz.results75 rfl rfl (d3.put (iv 0)) rfl ⟨rfl, put3_below hb4 (by omega) (iv 0)⟩
set_option maxHeartbeats 2000000 in
theorem rmul_Z2 (x y : Val) (w : World) (h0 : (x.k == 0 || y.k == 0) = false) (h12 : (x.k == 2 && y.k == 2) = true) (ha : (x.n == 0) = false) (hb : (y.n == 0) = true) : Calls Tryz.prog 75 #[x.v, y.v] w fun e w' => e = .returned (.tuple #[(iv 0).v, .bool true]) ∧ Below w.heap.size w w' := by
 have H0 := Lib.hid h0
 have H12 := Lib.hid h12
 have Ha := Lib.hid ha
 have Hb := Lib.hid hb
 clear h0 h12 ha hb
 go_enter Tryz.func75, Tryz.ntmps75
 go_wp2_with fail
 refine (rnulls_c x y _).mono ?_
 rintro e w1 ⟨rfl, hb1⟩
 rw [H0.out]
 have b1 : Bx w1 w.heap.size x := (((Bx.new w x).alloc _).alloc _).after hb1
 have b2 : Bx w1 (w.heap.size + 1) y := ((Bx.new1 w y _).alloc _).after hb1
 have b3 : Bx w1 (w.heap.size + 2) nl := (Bx.new2 w nl _ _).after hb1
 have hb : Below w.heap.size w w1 := (below_three _ _ _ _).trans (hb1.mono (by simp; omega))
 clear hb1
 have x0 := b1.cell0
 have x1 := b1.cell1
 have x2 := b1.cell2
 have y0 := b2.cell0
 have y1 := b2.cell1
 have y2 := b2.cell2
 go_wp2_with fail
 refine (rints_c x y _).mono ?_
 rintro e w2 ⟨rfl, hb2⟩
 rw [H12.out]
 have c1 := b1.after hb2
 have c2 := b2.after hb2
 have c3 := b3.after hb2
 have hbb := hb.trans (hb2.mono hb.size)
 clear hb2 hb x0 x1 x2 y0 y1 y2 b1 b2 b3
 have x1 := c1.cell1
 have y1 := c2.cell1
 have ha := Ha.out
 have hb := Hb.out
 go_wp2_with fail
 refine (rint_c 0 _).mono ?_
 rintro e w3 ⟨rfl, hb3⟩
 have d3 := c3.after hb3
 have hb4 := hbb.trans (hb3.mono hbb.size)
 clear hb3 c1 c2 c3 x1 y1 ha hb
 have g0 := d3.cell0
 have g1 := d3.cell1
 have g2 := d3.cell2
 have f0 := d3.frozen 0
 have f1 := d3.frozen 1
 have f2 := d3.frozen 2
 go_wp2
 exact ret_valX (a := iv 0) (z := .bool true) Tryz.results75 rfl rfl (d3.put (iv 0)) rfl ⟨rfl, put3_below hb4 (by omega) (iv 0)⟩
set_option maxHeartbeats 2000000 in
theorem rmul_A (x y : Val) (w : World) (h0 : (x.k == 0 || y.k == 0) = false) (h12 : (x.k == 2 && y.k == 2) = true) (ha : (x.n == 0) = false) (hb : (y.n == 0) = false) (h27 : (x.n == -1) = true) (h32 : (y.n == -9223372036854775808) = true) : Calls Tryz.prog 75 #[x.v, y.v] w fun e w' => e = .returned (.tuple #[nl.v, .bool false]) ∧ Below w.heap.size w w' := by
 have H0 := Lib.hid h0
 have H12 := Lib.hid h12
 have Ha := Lib.hid ha
 have Hb := Lib.hid hb
 have H27 := Lib.hid h27
 have H32 := Lib.hid h32
 clear h0 h12 ha hb h27 h32
 go_enter Tryz.func75, Tryz.ntmps75
 go_wp2_with fail
 refine (rnulls_c x y _).mono ?_
 rintro e w1 ⟨rfl, hb1⟩
 rw [H0.out]
 have b1 : Bx w1 w.heap.size x := (((Bx.new w x).alloc _).alloc _).after hb1
 have b2 : Bx w1 (w.heap.size + 1) y := ((Bx.new1 w y _).alloc _).after hb1
 have b3 : Bx w1 (w.heap.size + 2) nl := (Bx.new2 w nl _ _).after hb1
 have hb : Below w.heap.size w w1 := (below_three _ _ _ _).trans (hb1.mono (by simp; omega))
 clear hb1
 have x0 := b1.cell0
 have x1 := b1.cell1
 have x2 := b1.cell2
 have y0 := b2.cell0
 have y1 := b2.cell1
 have y2 := b2.cell2
 go_wp2_with fail
 refine (rints_c x y _).mono ?_
 rintro e w2 ⟨rfl, hb2⟩
 rw [H12.out]
 have c1 := b1.after hb2
 have c2 := b2.after hb2
 have c3 := b3.after hb2
 have hbb := hb.trans (hb2.mono hb.size)
 clear hb2 hb x0 x1 x2 y0 y1 y2 b1 b2 b3
 have x1 := c1.cell1
 have y1 := c2.cell1
 have ha := Ha.out
 have hbz := Hb.out
 go_wp2_with fail
 have h27 := H27.out
 have h32 := H32.out
 refine Reg.wp_region_vals mixed (by kernel_rfl) [(25, .pointer (some ⟨w.heap.size, 1, none⟩)), (26, .int .i64 x.n), (27, .bool true), (28, .bool true), (29, .pointer (some ⟨w.heap.size + 1, 1, none⟩)), (30, .int .i64 y.n), (31, .int .i64 (-9223372036854775808)), (32, .bool true), (33, .bool true), (34, .bool true), (35, undef), (36, undef), (37, undef), (38, undef), (39, undef), (40, undef), (41, undef), (42, undef), (43, undef), (44, .bool true)] 68 rfl (by kernel_rfl) ?_ ?_
 · intro F hF w' hB'
   have bx := c1.after hB'
   have byy := c2.after hB'
   refine ⟨?_, ?_, ?_, ?_, ?_, ?_, ?_, ?_, ?_, ?_, ?_, ?_, ?_, ?_, ?_, ?_, ?_, ?_, ?_, ?_, trivial⟩
   · exact Reg.doesV_val (ev_fa rfl (by rw [hF]; kernel_rfl) (fa_val1 w' w.heap.size)) (by rw [hF]; kernel_rfl) (by rw [hF]; kernel_rfl)
   · exact Reg.doesV_val (ev_ld rfl (by rw [hF]; kernel_rfl) bx.ldN) (by rw [hF]; kernel_rfl) (by rw [hF]; kernel_rfl)
   · exact Reg.doesV_val (by rw [ev_eqI (a := x.n) (k := -1) rfl (by rw [hF]; kernel_rfl), h27]) (by rw [hF]; kernel_rfl) (by rw [hF]; kernel_rfl)
   · exact Reg.doesV_val (ev_move rfl) (by rw [hF]; kernel_rfl) (by rw [hF]; kernel_rfl)
   · exact Reg.doesV_val (ev_fa rfl (by rw [hF]; kernel_rfl) (fa_val1 w' (w.heap.size + 1))) (by rw [hF]; kernel_rfl) (by rw [hF]; kernel_rfl)
   · exact Reg.doesV_val (ev_ld rfl (by rw [hF]; kernel_rfl) byy.ldN) (by rw [hF]; kernel_rfl) (by rw [hF]; kernel_rfl)
   · exact Reg.doesV_call (least_c w') (ev_call enrLeast rfl (by simp)) (by rw [hF]; kernel_rfl) (by rw [hF]; kernel_rfl)
   · exact Reg.doesV_val (by rw [ev_eqTI (a := y.n) (b := (-9223372036854775808)) rfl (by rw [hF]; kernel_rfl) (by rw [hF]; kernel_rfl), h32]) (by rw [hF]; kernel_rfl) (by rw [hF]; kernel_rfl)
   · exact Reg.doesV_val (ev_pick true rfl (by rw [hF]; kernel_rfl)) (by rw [hF]; kernel_rfl) (by rw [hF]; kernel_rfl)
   · exact Reg.doesV_val (ev_move rfl) (by rw [hF]; kernel_rfl) (by rw [hF]; kernel_rfl)
   · exact Reg.doesV_skip (by rw [hF]; kernel_rfl) (by rw [hF]; kernel_rfl)
   · exact Reg.doesV_skip (by rw [hF]; kernel_rfl) (by rw [hF]; kernel_rfl)
   · exact Reg.doesV_skip (by rw [hF]; kernel_rfl) (by rw [hF]; kernel_rfl)
   · exact Reg.doesV_skip (by rw [hF]; kernel_rfl) (by rw [hF]; kernel_rfl)
   · exact Reg.doesV_skip (by rw [hF]; kernel_rfl) (by rw [hF]; kernel_rfl)
   · exact Reg.doesV_skip (by rw [hF]; kernel_rfl) (by rw [hF]; kernel_rfl)
   · exact Reg.doesV_skip (by rw [hF]; kernel_rfl) (by rw [hF]; kernel_rfl)
   · exact Reg.doesV_skip (by rw [hF]; kernel_rfl) (by rw [hF]; kernel_rfl)
   · exact Reg.doesV_skip (by rw [hF]; kernel_rfl) (by rw [hF]; kernel_rfl)
   · exact Reg.doesV_val (ev_pick true rfl (by rw [hF]; kernel_rfl)) (by rw [hF]; kernel_rfl) (by rw [hF]; kernel_rfl)
 intro w3 hB'
 simp only [Reg.putAll, Act.put, List.setIfInBounds_toArray, List.set_cons_zero, List.set_cons_succ]
 clear x1 y1 h27 h32
 have d1 := c1.after hB'
 have d2 := c2.after hB'
 have d3 := c3.after hB'
 have hb4 := hbb.trans (hB'.mono hbb.size)
 clear hB' c1 c2 c3 hbb
 clear ha hbz
 have g0 := d3.cell0
 have g1 := d3.cell1
 have g2 := d3.cell2
 have f0 := d3.frozen 0
 have f1 := d3.frozen 1
 have f2 := d3.frozen 2
 go_wp2
 exact ret_valX (a := nl) (z := .bool false) Tryz.results75 rfl rfl (d3.put nl) rfl ⟨rfl, put3_below hb4 (by omega) nl⟩
set_option maxHeartbeats 2000000 in
theorem rmul_B (x y : Val) (w : World) (h0 : (x.k == 0 || y.k == 0) = false) (h12 : (x.k == 2 && y.k == 2) = true) (ha : (x.n == 0) = false) (hb : (y.n == 0) = false) (h27 : (x.n == -1) = false) (h37 : (y.n == -1) = true) (h42 : (x.n == -9223372036854775808) = true) : Calls Tryz.prog 75 #[x.v, y.v] w fun e w' => e = .returned (.tuple #[nl.v, .bool false]) ∧ Below w.heap.size w w' := by
 have H0 := Lib.hid h0
 have H12 := Lib.hid h12
 have Ha := Lib.hid ha
 have Hb := Lib.hid hb
 have H27 := Lib.hid h27
 have H37 := Lib.hid h37
 have H42 := Lib.hid h42
 clear h0 h12 ha hb h27 h37 h42
 go_enter Tryz.func75, Tryz.ntmps75
 go_wp2_with fail
 refine (rnulls_c x y _).mono ?_
 rintro e w1 ⟨rfl, hb1⟩
 rw [H0.out]
 have b1 : Bx w1 w.heap.size x := (((Bx.new w x).alloc _).alloc _).after hb1
 have b2 : Bx w1 (w.heap.size + 1) y := ((Bx.new1 w y _).alloc _).after hb1
 have b3 : Bx w1 (w.heap.size + 2) nl := (Bx.new2 w nl _ _).after hb1
 have hb : Below w.heap.size w w1 := (below_three _ _ _ _).trans (hb1.mono (by simp; omega))
 clear hb1
 have x0 := b1.cell0
 have x1 := b1.cell1
 have x2 := b1.cell2
 have y0 := b2.cell0
 have y1 := b2.cell1
 have y2 := b2.cell2
 go_wp2_with fail
 refine (rints_c x y _).mono ?_
 rintro e w2 ⟨rfl, hb2⟩
 rw [H12.out]
 have c1 := b1.after hb2
 have c2 := b2.after hb2
 have c3 := b3.after hb2
 have hbb := hb.trans (hb2.mono hb.size)
 clear hb2 hb x0 x1 x2 y0 y1 y2 b1 b2 b3
 have x1 := c1.cell1
 have y1 := c2.cell1
 have ha := Ha.out
 have hbz := Hb.out
 go_wp2_with fail
 have h27 := H27.out
 have h37 := H37.out
 have h42 := H42.out
 refine Reg.wp_region_vals mixed (by kernel_rfl) [(25, .pointer (some ⟨w.heap.size, 1, none⟩)), (26, .int .i64 x.n), (27, .bool false), (28, .bool false), (29, undef), (30, undef), (31, undef), (32, undef), (33, .bool false), (34, .bool false), (35, .pointer (some ⟨w.heap.size + 1, 1, none⟩)), (36, .int .i64 y.n), (37, .bool true), (38, .bool true), (39, .pointer (some ⟨w.heap.size, 1, none⟩)), (40, .int .i64 x.n), (41, .int .i64 (-9223372036854775808)), (42, .bool true), (43, .bool true), (44, .bool true)] 68 rfl (by kernel_rfl) ?_ ?_
 · intro F hF w' hB'
   have bx := c1.after hB'
   have byy := c2.after hB'
   refine ⟨?_, ?_, ?_, ?_, ?_, ?_, ?_, ?_, ?_, ?_, ?_, ?_, ?_, ?_, ?_, ?_, ?_, ?_, ?_, ?_, trivial⟩
   · exact Reg.doesV_val (ev_fa rfl (by rw [hF]; kernel_rfl) (fa_val1 w' w.heap.size)) (by rw [hF]; kernel_rfl) (by rw [hF]; kernel_rfl)
   · exact Reg.doesV_val (ev_ld rfl (by rw [hF]; kernel_rfl) bx.ldN) (by rw [hF]; kernel_rfl) (by rw [hF]; kernel_rfl)
   · exact Reg.doesV_val (by rw [ev_eqI (a := x.n) (k := -1) rfl (by rw [hF]; kernel_rfl), h27]) (by rw [hF]; kernel_rfl) (by rw [hF]; kernel_rfl)
   · exact Reg.doesV_val (ev_move rfl) (by rw [hF]; kernel_rfl) (by rw [hF]; kernel_rfl)
   · exact Reg.doesV_skip (by rw [hF]; kernel_rfl) (by rw [hF]; kernel_rfl)
   · exact Reg.doesV_skip (by rw [hF]; kernel_rfl) (by rw [hF]; kernel_rfl)
   · exact Reg.doesV_skip (by rw [hF]; kernel_rfl) (by rw [hF]; kernel_rfl)
   · exact Reg.doesV_skip (by rw [hF]; kernel_rfl) (by rw [hF]; kernel_rfl)
   · exact Reg.doesV_val (ev_pick false rfl (by rw [hF]; kernel_rfl)) (by rw [hF]; kernel_rfl) (by rw [hF]; kernel_rfl)
   · exact Reg.doesV_val (ev_move rfl) (by rw [hF]; kernel_rfl) (by rw [hF]; kernel_rfl)
   · exact Reg.doesV_val (ev_fa rfl (by rw [hF]; kernel_rfl) (fa_val1 w' (w.heap.size + 1))) (by rw [hF]; kernel_rfl) (by rw [hF]; kernel_rfl)
   · exact Reg.doesV_val (ev_ld rfl (by rw [hF]; kernel_rfl) byy.ldN) (by rw [hF]; kernel_rfl) (by rw [hF]; kernel_rfl)
   · exact Reg.doesV_val (by rw [ev_eqI (a := y.n) (k := -1) rfl (by rw [hF]; kernel_rfl), h37]) (by rw [hF]; kernel_rfl) (by rw [hF]; kernel_rfl)
   · exact Reg.doesV_val (ev_move rfl) (by rw [hF]; kernel_rfl) (by rw [hF]; kernel_rfl)
   · exact Reg.doesV_val (ev_fa rfl (by rw [hF]; kernel_rfl) (fa_val1 w' w.heap.size)) (by rw [hF]; kernel_rfl) (by rw [hF]; kernel_rfl)
   · exact Reg.doesV_val (ev_ld rfl (by rw [hF]; kernel_rfl) bx.ldN) (by rw [hF]; kernel_rfl) (by rw [hF]; kernel_rfl)
   · exact Reg.doesV_call (least_c w') (ev_call enrLeast rfl (by simp)) (by rw [hF]; kernel_rfl) (by rw [hF]; kernel_rfl)
   · exact Reg.doesV_val (by rw [ev_eqTI (a := x.n) (b := (-9223372036854775808)) rfl (by rw [hF]; kernel_rfl) (by rw [hF]; kernel_rfl), h42]) (by rw [hF]; kernel_rfl) (by rw [hF]; kernel_rfl)
   · exact Reg.doesV_val (ev_pick true rfl (by rw [hF]; kernel_rfl)) (by rw [hF]; kernel_rfl) (by rw [hF]; kernel_rfl)
   · exact Reg.doesV_val (ev_pick false rfl (by rw [hF]; kernel_rfl)) (by rw [hF]; kernel_rfl) (by rw [hF]; kernel_rfl)
 intro w3 hB'
 simp only [Reg.putAll, Act.put, List.setIfInBounds_toArray, List.set_cons_zero, List.set_cons_succ]
 clear x1 y1 h27 h37 h42
 have d1 := c1.after hB'
 have d2 := c2.after hB'
 have d3 := c3.after hB'
 have hb4 := hbb.trans (hB'.mono hbb.size)
 clear hB' c1 c2 c3 hbb
 clear ha hbz
 have g0 := d3.cell0
 have g1 := d3.cell1
 have g2 := d3.cell2
 have f0 := d3.frozen 0
 have f1 := d3.frozen 1
 have f2 := d3.frozen 2
 go_wp2
 exact ret_valX (a := nl) (z := .bool false) Tryz.results75 rfl rfl (d3.put nl) rfl ⟨rfl, put3_below hb4 (by omega) nl⟩
set_option maxHeartbeats 2000000 in
theorem rmul_F1q (x y : Val) (w : World) (h0 : (x.k == 0 || y.k == 0) = false) (h12 : (x.k == 2 && y.k == 2) = true) (ha : (x.n == 0) = false) (hb : (y.n == 0) = false) (h27 : (x.n == -1) = true) (h32 : (y.n == -9223372036854775808) = false) (h37 : (y.n == -1) = true) (h42 : (x.n == -9223372036854775808) = false) (hq : (wrap64 ((wrap64 (x.n * y.n)).tdiv y.n) != x.n) = true) : Calls Tryz.prog 75 #[x.v, y.v] w fun e w' => e = .returned (.tuple #[nl.v, .bool false]) ∧ Below w.heap.size w w' := by
 have H0 := Lib.hid h0
 have H12 := Lib.hid h12
 have Ha := Lib.hid ha
 have Hb := Lib.hid hb
 have H27 := Lib.hid h27
 have H32 := Lib.hid h32
 have H37 := Lib.hid h37
 have H42 := Lib.hid h42
 have Hq := Lib.hid hq
 clear h0 h12 ha hb h27 h32 h37 h42 hq
 go_enter Tryz.func75, Tryz.ntmps75
 go_wp2_with fail
 refine (rnulls_c x y _).mono ?_
 rintro e w1 ⟨rfl, hb1⟩
 rw [H0.out]
 have b1 : Bx w1 w.heap.size x := (((Bx.new w x).alloc _).alloc _).after hb1
 have b2 : Bx w1 (w.heap.size + 1) y := ((Bx.new1 w y _).alloc _).after hb1
 have b3 : Bx w1 (w.heap.size + 2) nl := (Bx.new2 w nl _ _).after hb1
 have hb : Below w.heap.size w w1 := (below_three _ _ _ _).trans (hb1.mono (by simp; omega))
 clear hb1
 have x0 := b1.cell0
 have x1 := b1.cell1
 have x2 := b1.cell2
 have y0 := b2.cell0
 have y1 := b2.cell1
 have y2 := b2.cell2
 go_wp2_with fail
 refine (rints_c x y _).mono ?_
 rintro e w2 ⟨rfl, hb2⟩
 rw [H12.out]
 have c1 := b1.after hb2
 have c2 := b2.after hb2
 have c3 := b3.after hb2
 have hbb := hb.trans (hb2.mono hb.size)
 clear hb2 hb x0 x1 x2 y0 y1 y2 b1 b2 b3
 have x1 := c1.cell1
 have y1 := c2.cell1
 have ha := Ha.out
 have hbz := Hb.out
 go_wp2_with fail
 have h27 := H27.out
 have h32 := H32.out
 have h37 := H37.out
 have h42 := H42.out
 refine Reg.wp_region_vals mixed (by kernel_rfl) [(25, .pointer (some ⟨w.heap.size, 1, none⟩)), (26, .int .i64 x.n), (27, .bool true), (28, .bool true), (29, .pointer (some ⟨w.heap.size + 1, 1, none⟩)), (30, .int .i64 y.n), (31, .int .i64 (-9223372036854775808)), (32, .bool false), (33, .bool false), (34, .bool false), (35, .pointer (some ⟨w.heap.size + 1, 1, none⟩)), (36, .int .i64 y.n), (37, .bool true), (38, .bool true), (39, .pointer (some ⟨w.heap.size, 1, none⟩)), (40, .int .i64 x.n), (41, .int .i64 (-9223372036854775808)), (42, .bool false), (43, .bool false), (44, .bool false)] 68 rfl (by kernel_rfl) ?_ ?_
 · intro F hF w' hB'
   have bx := c1.after hB'
   have byy := c2.after hB'
   refine ⟨?_, ?_, ?_, ?_, ?_, ?_, ?_, ?_, ?_, ?_, ?_, ?_, ?_, ?_, ?_, ?_, ?_, ?_, ?_, ?_, trivial⟩
   · exact Reg.doesV_val (ev_fa rfl (by rw [hF]; kernel_rfl) (fa_val1 w' w.heap.size)) (by rw [hF]; kernel_rfl) (by rw [hF]; kernel_rfl)
   · exact Reg.doesV_val (ev_ld rfl (by rw [hF]; kernel_rfl) bx.ldN) (by rw [hF]; kernel_rfl) (by rw [hF]; kernel_rfl)
   · exact Reg.doesV_val (by rw [ev_eqI (a := x.n) (k := -1) rfl (by rw [hF]; kernel_rfl), h27]) (by rw [hF]; kernel_rfl) (by rw [hF]; kernel_rfl)
   · exact Reg.doesV_val (ev_move rfl) (by rw [hF]; kernel_rfl) (by rw [hF]; kernel_rfl)
   · exact Reg.doesV_val (ev_fa rfl (by rw [hF]; kernel_rfl) (fa_val1 w' (w.heap.size + 1))) (by rw [hF]; kernel_rfl) (by rw [hF]; kernel_rfl)
   · exact Reg.doesV_val (ev_ld rfl (by rw [hF]; kernel_rfl) byy.ldN) (by rw [hF]; kernel_rfl) (by rw [hF]; kernel_rfl)
   · exact Reg.doesV_call (least_c w') (ev_call enrLeast rfl (by simp)) (by rw [hF]; kernel_rfl) (by rw [hF]; kernel_rfl)
   · exact Reg.doesV_val (by rw [ev_eqTI (a := y.n) (b := (-9223372036854775808)) rfl (by rw [hF]; kernel_rfl) (by rw [hF]; kernel_rfl), h32]) (by rw [hF]; kernel_rfl) (by rw [hF]; kernel_rfl)
   · exact Reg.doesV_val (ev_pick true rfl (by rw [hF]; kernel_rfl)) (by rw [hF]; kernel_rfl) (by rw [hF]; kernel_rfl)
   · exact Reg.doesV_val (ev_move rfl) (by rw [hF]; kernel_rfl) (by rw [hF]; kernel_rfl)
   · exact Reg.doesV_val (ev_fa rfl (by rw [hF]; kernel_rfl) (fa_val1 w' (w.heap.size + 1))) (by rw [hF]; kernel_rfl) (by rw [hF]; kernel_rfl)
   · exact Reg.doesV_val (ev_ld rfl (by rw [hF]; kernel_rfl) byy.ldN) (by rw [hF]; kernel_rfl) (by rw [hF]; kernel_rfl)
   · exact Reg.doesV_val (by rw [ev_eqI (a := y.n) (k := -1) rfl (by rw [hF]; kernel_rfl), h37]) (by rw [hF]; kernel_rfl) (by rw [hF]; kernel_rfl)
   · exact Reg.doesV_val (ev_move rfl) (by rw [hF]; kernel_rfl) (by rw [hF]; kernel_rfl)
   · exact Reg.doesV_val (ev_fa rfl (by rw [hF]; kernel_rfl) (fa_val1 w' w.heap.size)) (by rw [hF]; kernel_rfl) (by rw [hF]; kernel_rfl)
   · exact Reg.doesV_val (ev_ld rfl (by rw [hF]; kernel_rfl) bx.ldN) (by rw [hF]; kernel_rfl) (by rw [hF]; kernel_rfl)
   · exact Reg.doesV_call (least_c w') (ev_call enrLeast rfl (by simp)) (by rw [hF]; kernel_rfl) (by rw [hF]; kernel_rfl)
   · exact Reg.doesV_val (by rw [ev_eqTI (a := x.n) (b := (-9223372036854775808)) rfl (by rw [hF]; kernel_rfl) (by rw [hF]; kernel_rfl), h42]) (by rw [hF]; kernel_rfl) (by rw [hF]; kernel_rfl)
   · exact Reg.doesV_val (ev_pick true rfl (by rw [hF]; kernel_rfl)) (by rw [hF]; kernel_rfl) (by rw [hF]; kernel_rfl)
   · exact Reg.doesV_val (ev_pick false rfl (by rw [hF]; kernel_rfl)) (by rw [hF]; kernel_rfl) (by rw [hF]; kernel_rfl)
 intro w3 hB'
 simp only [Reg.putAll, Act.put, List.setIfInBounds_toArray, List.set_cons_zero, List.set_cons_succ]
 clear x1 y1 h27 h32 h37 h42
 have d1 := c1.after hB'
 have d2 := c2.after hB'
 have d3 := c3.after hB'
 have hb4 := hbb.trans (hB'.mono hbb.size)
 clear hB' c1 c2 c3 hbb
 have x1 := d1.cell1
 have y1 := d2.cell1
 have hbn : y.n ≠ 0 := by simpa using hbz
 obtain ⟨p, hp⟩ : ∃ p, wrap64 (x.n * y.n) = p := ⟨_, rfl⟩
 have Hp := Lib.hid hp
 have hq := Hq.out
 rw [hp] at hq
 clear ha
 go_wp2_with fail
 try rw [hp]
 go_region
 all_goals
  have g0 := d3.cell0
  have g1 := d3.cell1
  have g2 := d3.cell2
  have f0 := d3.frozen 0
  have f1 := d3.frozen 1
  have f2 := d3.frozen 2
  go_wp2
  exact ret_valX (a := nl) (z := .bool false) Tryz.results75 rfl rfl (d3.put nl) rfl ⟨rfl, by have h := put3_below hb4 (show w.heap.size ≤ w.heap.size + 2 by omega) nl; exact ⟨h.os, h.tape, h.output, h.size, h.block⟩⟩
set_option maxHeartbeats 2000000 in
theorem rmul_F1r (x y : Val) (w : World) (h0 : (x.k == 0 || y.k == 0) = false) (h12 : (x.k == 2 && y.k == 2) = true) (ha : (x.n == 0) = false) (hb : (y.n == 0) = false) (h27 : (x.n == -1) = true) (h32 : (y.n == -9223372036854775808) = false) (h37 : (y.n == -1) = true) (h42 : (x.n == -9223372036854775808) = false) (hq : (wrap64 ((wrap64 (x.n * y.n)).tdiv y.n) != x.n) = false) (hr : ((wrap64 (x.n * y.n)).tmod y.n != 0) = true) : Calls Tryz.prog 75 #[x.v, y.v] w fun e w' => e = .returned (.tuple #[nl.v, .bool false]) ∧ Below w.heap.size w w' := by
 have H0 := Lib.hid h0
 have H12 := Lib.hid h12
 have Ha := Lib.hid ha
 have Hb := Lib.hid hb
 have H27 := Lib.hid h27
 have H32 := Lib.hid h32
 have H37 := Lib.hid h37
 have H42 := Lib.hid h42
 have Hq := Lib.hid hq
 have Hr := Lib.hid hr
 clear h0 h12 ha hb h27 h32 h37 h42 hq hr
 go_enter Tryz.func75, Tryz.ntmps75
 go_wp2_with fail
 refine (rnulls_c x y _).mono ?_
 rintro e w1 ⟨rfl, hb1⟩
 rw [H0.out]
 have b1 : Bx w1 w.heap.size x := (((Bx.new w x).alloc _).alloc _).after hb1
 have b2 : Bx w1 (w.heap.size + 1) y := ((Bx.new1 w y _).alloc _).after hb1
 have b3 : Bx w1 (w.heap.size + 2) nl := (Bx.new2 w nl _ _).after hb1
 have hb : Below w.heap.size w w1 := (below_three _ _ _ _).trans (hb1.mono (by simp; omega))
 clear hb1
 have x0 := b1.cell0
 have x1 := b1.cell1
 have x2 := b1.cell2
 have y0 := b2.cell0
 have y1 := b2.cell1
 have y2 := b2.cell2
 go_wp2_with fail
 refine (rints_c x y _).mono ?_
 rintro e w2 ⟨rfl, hb2⟩
 rw [H12.out]
 have c1 := b1.after hb2
 have c2 := b2.after hb2
 have c3 := b3.after hb2
 have hbb := hb.trans (hb2.mono hb.size)
 clear hb2 hb x0 x1 x2 y0 y1 y2 b1 b2 b3
 have x1 := c1.cell1
 have y1 := c2.cell1
 have ha := Ha.out
 have hbz := Hb.out
 go_wp2_with fail
 have h27 := H27.out
 have h32 := H32.out
 have h37 := H37.out
 have h42 := H42.out
 refine Reg.wp_region_vals mixed (by kernel_rfl) [(25, .pointer (some ⟨w.heap.size, 1, none⟩)), (26, .int .i64 x.n), (27, .bool true), (28, .bool true), (29, .pointer (some ⟨w.heap.size + 1, 1, none⟩)), (30, .int .i64 y.n), (31, .int .i64 (-9223372036854775808)), (32, .bool false), (33, .bool false), (34, .bool false), (35, .pointer (some ⟨w.heap.size + 1, 1, none⟩)), (36, .int .i64 y.n), (37, .bool true), (38, .bool true), (39, .pointer (some ⟨w.heap.size, 1, none⟩)), (40, .int .i64 x.n), (41, .int .i64 (-9223372036854775808)), (42, .bool false), (43, .bool false), (44, .bool false)] 68 rfl (by kernel_rfl) ?_ ?_
 · intro F hF w' hB'
   have bx := c1.after hB'
   have byy := c2.after hB'
   refine ⟨?_, ?_, ?_, ?_, ?_, ?_, ?_, ?_, ?_, ?_, ?_, ?_, ?_, ?_, ?_, ?_, ?_, ?_, ?_, ?_, trivial⟩
   · exact Reg.doesV_val (ev_fa rfl (by rw [hF]; kernel_rfl) (fa_val1 w' w.heap.size)) (by rw [hF]; kernel_rfl) (by rw [hF]; kernel_rfl)
   · exact Reg.doesV_val (ev_ld rfl (by rw [hF]; kernel_rfl) bx.ldN) (by rw [hF]; kernel_rfl) (by rw [hF]; kernel_rfl)
   · exact Reg.doesV_val (by rw [ev_eqI (a := x.n) (k := -1) rfl (by rw [hF]; kernel_rfl), h27]) (by rw [hF]; kernel_rfl) (by rw [hF]; kernel_rfl)
   · exact Reg.doesV_val (ev_move rfl) (by rw [hF]; kernel_rfl) (by rw [hF]; kernel_rfl)
   · exact Reg.doesV_val (ev_fa rfl (by rw [hF]; kernel_rfl) (fa_val1 w' (w.heap.size + 1))) (by rw [hF]; kernel_rfl) (by rw [hF]; kernel_rfl)
   · exact Reg.doesV_val (ev_ld rfl (by rw [hF]; kernel_rfl) byy.ldN) (by rw [hF]; kernel_rfl) (by rw [hF]; kernel_rfl)
   · exact Reg.doesV_call (least_c w') (ev_call enrLeast rfl (by simp)) (by rw [hF]; kernel_rfl) (by rw [hF]; kernel_rfl)
   · exact Reg.doesV_val (by rw [ev_eqTI (a := y.n) (b := (-9223372036854775808)) rfl (by rw [hF]; kernel_rfl) (by rw [hF]; kernel_rfl), h32]) (by rw [hF]; kernel_rfl) (by rw [hF]; kernel_rfl)
   · exact Reg.doesV_val (ev_pick true rfl (by rw [hF]; kernel_rfl)) (by rw [hF]; kernel_rfl) (by rw [hF]; kernel_rfl)
   · exact Reg.doesV_val (ev_move rfl) (by rw [hF]; kernel_rfl) (by rw [hF]; kernel_rfl)
   · exact Reg.doesV_val (ev_fa rfl (by rw [hF]; kernel_rfl) (fa_val1 w' (w.heap.size + 1))) (by rw [hF]; kernel_rfl) (by rw [hF]; kernel_rfl)
   · exact Reg.doesV_val (ev_ld rfl (by rw [hF]; kernel_rfl) byy.ldN) (by rw [hF]; kernel_rfl) (by rw [hF]; kernel_rfl)
   · exact Reg.doesV_val (by rw [ev_eqI (a := y.n) (k := -1) rfl (by rw [hF]; kernel_rfl), h37]) (by rw [hF]; kernel_rfl) (by rw [hF]; kernel_rfl)
   · exact Reg.doesV_val (ev_move rfl) (by rw [hF]; kernel_rfl) (by rw [hF]; kernel_rfl)
   · exact Reg.doesV_val (ev_fa rfl (by rw [hF]; kernel_rfl) (fa_val1 w' w.heap.size)) (by rw [hF]; kernel_rfl) (by rw [hF]; kernel_rfl)
   · exact Reg.doesV_val (ev_ld rfl (by rw [hF]; kernel_rfl) bx.ldN) (by rw [hF]; kernel_rfl) (by rw [hF]; kernel_rfl)
   · exact Reg.doesV_call (least_c w') (ev_call enrLeast rfl (by simp)) (by rw [hF]; kernel_rfl) (by rw [hF]; kernel_rfl)
   · exact Reg.doesV_val (by rw [ev_eqTI (a := x.n) (b := (-9223372036854775808)) rfl (by rw [hF]; kernel_rfl) (by rw [hF]; kernel_rfl), h42]) (by rw [hF]; kernel_rfl) (by rw [hF]; kernel_rfl)
   · exact Reg.doesV_val (ev_pick true rfl (by rw [hF]; kernel_rfl)) (by rw [hF]; kernel_rfl) (by rw [hF]; kernel_rfl)
   · exact Reg.doesV_val (ev_pick false rfl (by rw [hF]; kernel_rfl)) (by rw [hF]; kernel_rfl) (by rw [hF]; kernel_rfl)
 intro w3 hB'
 simp only [Reg.putAll, Act.put, List.setIfInBounds_toArray, List.set_cons_zero, List.set_cons_succ]
 clear x1 y1 h27 h32 h37 h42
 have d1 := c1.after hB'
 have d2 := c2.after hB'
 have d3 := c3.after hB'
 have hb4 := hbb.trans (hB'.mono hbb.size)
 clear hB' c1 c2 c3 hbb
 have x1 := d1.cell1
 have y1 := d2.cell1
 have hbn : y.n ≠ 0 := by simpa using hbz
 obtain ⟨p, hp⟩ : ∃ p, wrap64 (x.n * y.n) = p := ⟨_, rfl⟩
 have Hp := Lib.hid hp
 have hq := Hq.out
 have hr := Hr.out
 rw [hp] at hq
 rw [hp] at hr
 clear ha
 go_wp2_with fail
 try rw [hp]
 go_region
 all_goals
  have g0 := d3.cell0
  have g1 := d3.cell1
  have g2 := d3.cell2
  have f0 := d3.frozen 0
  have f1 := d3.frozen 1
  have f2 := d3.frozen 2
  go_wp2
  exact ret_valX (a := nl) (z := .bool false) Tryz.results75 rfl rfl (d3.put nl) rfl ⟨rfl, by have h := put3_below hb4 (show w.heap.size ≤ w.heap.size + 2 by omega) nl; exact ⟨h.os, h.tape, h.output, h.size, h.block⟩⟩
set_option maxHeartbeats 2000000 in
theorem rmul_F1ok (x y : Val) (w : World) (h0 : (x.k == 0 || y.k == 0) = false) (h12 : (x.k == 2 && y.k == 2) = true) (ha : (x.n == 0) = false) (hb : (y.n == 0) = false) (h27 : (x.n == -1) = true) (h32 : (y.n == -9223372036854775808) = false) (h37 : (y.n == -1) = true) (h42 : (x.n == -9223372036854775808) = false) (hq : (wrap64 ((wrap64 (x.n * y.n)).tdiv y.n) != x.n) = false) (hr : ((wrap64 (x.n * y.n)).tmod y.n != 0) = false) : Calls Tryz.prog 75 #[x.v, y.v] w fun e w' => e = .returned (.tuple #[(iv (wrap64 (x.n * y.n))).v, .bool true]) ∧ Below w.heap.size w w' := by
 have H0 := Lib.hid h0
 have H12 := Lib.hid h12
 have Ha := Lib.hid ha
 have Hb := Lib.hid hb
 have H27 := Lib.hid h27
 have H32 := Lib.hid h32
 have H37 := Lib.hid h37
 have H42 := Lib.hid h42
 have Hq := Lib.hid hq
 have Hr := Lib.hid hr
 clear h0 h12 ha hb h27 h32 h37 h42 hq hr
 go_enter Tryz.func75, Tryz.ntmps75
 go_wp2_with fail
 refine (rnulls_c x y _).mono ?_
 rintro e w1 ⟨rfl, hb1⟩
 rw [H0.out]
 have b1 : Bx w1 w.heap.size x := (((Bx.new w x).alloc _).alloc _).after hb1
 have b2 : Bx w1 (w.heap.size + 1) y := ((Bx.new1 w y _).alloc _).after hb1
 have b3 : Bx w1 (w.heap.size + 2) nl := (Bx.new2 w nl _ _).after hb1
 have hb : Below w.heap.size w w1 := (below_three _ _ _ _).trans (hb1.mono (by simp; omega))
 clear hb1
 have x0 := b1.cell0
 have x1 := b1.cell1
 have x2 := b1.cell2
 have y0 := b2.cell0
 have y1 := b2.cell1
 have y2 := b2.cell2
 go_wp2_with fail
 refine (rints_c x y _).mono ?_
 rintro e w2 ⟨rfl, hb2⟩
 rw [H12.out]
 have c1 := b1.after hb2
 have c2 := b2.after hb2
 have c3 := b3.after hb2
 have hbb := hb.trans (hb2.mono hb.size)
 clear hb2 hb x0 x1 x2 y0 y1 y2 b1 b2 b3
 have x1 := c1.cell1
 have y1 := c2.cell1
 have ha := Ha.out
 have hbz := Hb.out
 go_wp2_with fail
 have h27 := H27.out
 have h32 := H32.out
 have h37 := H37.out
 have h42 := H42.out
 refine Reg.wp_region_vals mixed (by kernel_rfl) [(25, .pointer (some ⟨w.heap.size, 1, none⟩)), (26, .int .i64 x.n), (27, .bool true), (28, .bool true), (29, .pointer (some ⟨w.heap.size + 1, 1, none⟩)), (30, .int .i64 y.n), (31, .int .i64 (-9223372036854775808)), (32, .bool false), (33, .bool false), (34, .bool false), (35, .pointer (some ⟨w.heap.size + 1, 1, none⟩)), (36, .int .i64 y.n), (37, .bool true), (38, .bool true), (39, .pointer (some ⟨w.heap.size, 1, none⟩)), (40, .int .i64 x.n), (41, .int .i64 (-9223372036854775808)), (42, .bool false), (43, .bool false), (44, .bool false)] 68 rfl (by kernel_rfl) ?_ ?_
 · intro F hF w' hB'
   have bx := c1.after hB'
   have byy := c2.after hB'
   refine ⟨?_, ?_, ?_, ?_, ?_, ?_, ?_, ?_, ?_, ?_, ?_, ?_, ?_, ?_, ?_, ?_, ?_, ?_, ?_, ?_, trivial⟩
   · exact Reg.doesV_val (ev_fa rfl (by rw [hF]; kernel_rfl) (fa_val1 w' w.heap.size)) (by rw [hF]; kernel_rfl) (by rw [hF]; kernel_rfl)
   · exact Reg.doesV_val (ev_ld rfl (by rw [hF]; kernel_rfl) bx.ldN) (by rw [hF]; kernel_rfl) (by rw [hF]; kernel_rfl)
   · exact Reg.doesV_val (by rw [ev_eqI (a := x.n) (k := -1) rfl (by rw [hF]; kernel_rfl), h27]) (by rw [hF]; kernel_rfl) (by rw [hF]; kernel_rfl)
   · exact Reg.doesV_val (ev_move rfl) (by rw [hF]; kernel_rfl) (by rw [hF]; kernel_rfl)
   · exact Reg.doesV_val (ev_fa rfl (by rw [hF]; kernel_rfl) (fa_val1 w' (w.heap.size + 1))) (by rw [hF]; kernel_rfl) (by rw [hF]; kernel_rfl)
   · exact Reg.doesV_val (ev_ld rfl (by rw [hF]; kernel_rfl) byy.ldN) (by rw [hF]; kernel_rfl) (by rw [hF]; kernel_rfl)
   · exact Reg.doesV_call (least_c w') (ev_call enrLeast rfl (by simp)) (by rw [hF]; kernel_rfl) (by rw [hF]; kernel_rfl)
   · exact Reg.doesV_val (by rw [ev_eqTI (a := y.n) (b := (-9223372036854775808)) rfl (by rw [hF]; kernel_rfl) (by rw [hF]; kernel_rfl), h32]) (by rw [hF]; kernel_rfl) (by rw [hF]; kernel_rfl)
   · exact Reg.doesV_val (ev_pick true rfl (by rw [hF]; kernel_rfl)) (by rw [hF]; kernel_rfl) (by rw [hF]; kernel_rfl)
   · exact Reg.doesV_val (ev_move rfl) (by rw [hF]; kernel_rfl) (by rw [hF]; kernel_rfl)
   · exact Reg.doesV_val (ev_fa rfl (by rw [hF]; kernel_rfl) (fa_val1 w' (w.heap.size + 1))) (by rw [hF]; kernel_rfl) (by rw [hF]; kernel_rfl)
   · exact Reg.doesV_val (ev_ld rfl (by rw [hF]; kernel_rfl) byy.ldN) (by rw [hF]; kernel_rfl) (by rw [hF]; kernel_rfl)
   · exact Reg.doesV_val (by rw [ev_eqI (a := y.n) (k := -1) rfl (by rw [hF]; kernel_rfl), h37]) (by rw [hF]; kernel_rfl) (by rw [hF]; kernel_rfl)
   · exact Reg.doesV_val (ev_move rfl) (by rw [hF]; kernel_rfl) (by rw [hF]; kernel_rfl)
   · exact Reg.doesV_val (ev_fa rfl (by rw [hF]; kernel_rfl) (fa_val1 w' w.heap.size)) (by rw [hF]; kernel_rfl) (by rw [hF]; kernel_rfl)
   · exact Reg.doesV_val (ev_ld rfl (by rw [hF]; kernel_rfl) bx.ldN) (by rw [hF]; kernel_rfl) (by rw [hF]; kernel_rfl)
   · exact Reg.doesV_call (least_c w') (ev_call enrLeast rfl (by simp)) (by rw [hF]; kernel_rfl) (by rw [hF]; kernel_rfl)
   · exact Reg.doesV_val (by rw [ev_eqTI (a := x.n) (b := (-9223372036854775808)) rfl (by rw [hF]; kernel_rfl) (by rw [hF]; kernel_rfl), h42]) (by rw [hF]; kernel_rfl) (by rw [hF]; kernel_rfl)
   · exact Reg.doesV_val (ev_pick true rfl (by rw [hF]; kernel_rfl)) (by rw [hF]; kernel_rfl) (by rw [hF]; kernel_rfl)
   · exact Reg.doesV_val (ev_pick false rfl (by rw [hF]; kernel_rfl)) (by rw [hF]; kernel_rfl) (by rw [hF]; kernel_rfl)
 intro w3 hB'
 simp only [Reg.putAll, Act.put, List.setIfInBounds_toArray, List.set_cons_zero, List.set_cons_succ]
 clear x1 y1 h27 h32 h37 h42
 have d1 := c1.after hB'
 have d2 := c2.after hB'
 have d3 := c3.after hB'
 have hb4 := hbb.trans (hB'.mono hbb.size)
 clear hB' c1 c2 c3 hbb
 have x1 := d1.cell1
 have y1 := d2.cell1
 have hbn : y.n ≠ 0 := by simpa using hbz
 obtain ⟨p, hp⟩ : ∃ p, wrap64 (x.n * y.n) = p := ⟨_, rfl⟩
 have Hp := Lib.hid hp
 have hq := Hq.out
 have hr := Hr.out
 rw [hp] at hq
 rw [hp] at hr
 clear ha
 go_wp2_with fail
 try rw [hp]
 go_region
 all_goals
  go_wp2_with fail
  refine (rint_c _ _).mono ?_
  rintro e w5 ⟨rfl, hb5⟩
  have e3 : Bx w5 (w.heap.size + 2) nl := Bx.after (w := w3.drew) d3 hb5
  have hb4d : Below w.heap.size w w3.drew := ⟨hb4.os, hb4.tape, hb4.output, hb4.size, hb4.block⟩
  have hb6 : Below w.heap.size w w5 := hb4d.trans (hb5.mono hb4.size)
  obtain ⟨R, hR2⟩ : ∃ R, iv p = R := ⟨_, rfl⟩
  have HR := Lib.hid (show iv (wrap64 (x.n * y.n)) = R by rw [hp]; exact hR2)
  rw [hR2]
  clear hb5 x1 y1 d1 d2 d3 hq hr hp hR2 hb4d
  have g0 := e3.cell0
  have g1 := e3.cell1
  have g2 := e3.cell2
  have f0 := e3.frozen 0
  have f1 := e3.frozen 1
  have f2 := e3.frozen 2
  go_wp2
  exact ret_valX (a := R) (z := .bool true) Tryz.results75 rfl rfl (e3.put R) rfl ⟨by rw [HR.out], put3_below hb6 (by omega) R⟩
set_option maxHeartbeats 2000000 in
theorem rmul_F2q (x y : Val) (w : World) (h0 : (x.k == 0 || y.k == 0) = false) (h12 : (x.k == 2 && y.k == 2) = true) (ha : (x.n == 0) = false) (hb : (y.n == 0) = false) (h27 : (x.n == -1) = true) (h32 : (y.n == -9223372036854775808) = false) (h37 : (y.n == -1) = false) (hq : (wrap64 ((wrap64 (x.n * y.n)).tdiv y.n) != x.n) = true) : Calls Tryz.prog 75 #[x.v, y.v] w fun e w' => e = .returned (.tuple #[nl.v, .bool false]) ∧ Below w.heap.size w w' := by
 have H0 := Lib.hid h0
 have H12 := Lib.hid h12
 have Ha := Lib.hid ha
 have Hb := Lib.hid hb
 have H27 := Lib.hid h27
 have H32 := Lib.hid h32
 have H37 := Lib.hid h37
 have Hq := Lib.hid hq
 clear h0 h12 ha hb h27 h32 h37 hq
 go_enter Tryz.func75, Tryz.ntmps75
 go_wp2_with fail
 refine (rnulls_c x y _).mono ?_
 rintro e w1 ⟨rfl, hb1⟩
 rw [H0.out]
 have b1 : Bx w1 w.heap.size x := (((Bx.new w x).alloc _).alloc _).after hb1
 have b2 : Bx w1 (w.heap.size + 1) y := ((Bx.new1 w y _).alloc _).after hb1
 have b3 : Bx w1 (w.heap.size + 2) nl := (Bx.new2 w nl _ _).after hb1
 have hb : Below w.heap.size w w1 := (below_three _ _ _ _).trans (hb1.mono (by simp; omega))
 clear hb1
 have x0 := b1.cell0
 have x1 := b1.cell1
 have x2 := b1.cell2
 have y0 := b2.cell0
 have y1 := b2.cell1
 have y2 := b2.cell2
 go_wp2_with fail
 refine (rints_c x y _).mono ?_
 rintro e w2 ⟨rfl, hb2⟩
 rw [H12.out]
 have c1 := b1.after hb2
 have c2 := b2.after hb2
 have c3 := b3.after hb2
 have hbb := hb.trans (hb2.mono hb.size)
 clear hb2 hb x0 x1 x2 y0 y1 y2 b1 b2 b3
 have x1 := c1.cell1
 have y1 := c2.cell1
 have ha := Ha.out
 have hbz := Hb.out
 go_wp2_with fail
 have h27 := H27.out
 have h32 := H32.out
 have h37 := H37.out
 refine Reg.wp_region_vals mixed (by kernel_rfl) [(25, .pointer (some ⟨w.heap.size, 1, none⟩)), (26, .int .i64 x.n), (27, .bool true), (28, .bool true), (29, .pointer (some ⟨w.heap.size + 1, 1, none⟩)), (30, .int .i64 y.n), (31, .int .i64 (-9223372036854775808)), (32, .bool false), (33, .bool false), (34, .bool false), (35, .pointer (some ⟨w.heap.size + 1, 1, none⟩)), (36, .int .i64 y.n), (37, .bool false), (38, .bool false), (39, undef), (40, undef), (41, undef), (42, undef), (43, .bool false), (44, .bool false)] 68 rfl (by kernel_rfl) ?_ ?_
 · intro F hF w' hB'
   have bx := c1.after hB'
   have byy := c2.after hB'
   refine ⟨?_, ?_, ?_, ?_, ?_, ?_, ?_, ?_, ?_, ?_, ?_, ?_, ?_, ?_, ?_, ?_, ?_, ?_, ?_, ?_, trivial⟩
   · exact Reg.doesV_val (ev_fa rfl (by rw [hF]; kernel_rfl) (fa_val1 w' w.heap.size)) (by rw [hF]; kernel_rfl) (by rw [hF]; kernel_rfl)
   · exact Reg.doesV_val (ev_ld rfl (by rw [hF]; kernel_rfl) bx.ldN) (by rw [hF]; kernel_rfl) (by rw [hF]; kernel_rfl)
   · exact Reg.doesV_val (by rw [ev_eqI (a := x.n) (k := -1) rfl (by rw [hF]; kernel_rfl), h27]) (by rw [hF]; kernel_rfl) (by rw [hF]; kernel_rfl)
   · exact Reg.doesV_val (ev_move rfl) (by rw [hF]; kernel_rfl) (by rw [hF]; kernel_rfl)
   · exact Reg.doesV_val (ev_fa rfl (by rw [hF]; kernel_rfl) (fa_val1 w' (w.heap.size + 1))) (by rw [hF]; kernel_rfl) (by rw [hF]; kernel_rfl)
   · exact Reg.doesV_val (ev_ld rfl (by rw [hF]; kernel_rfl) byy.ldN) (by rw [hF]; kernel_rfl) (by rw [hF]; kernel_rfl)
   · exact Reg.doesV_call (least_c w') (ev_call enrLeast rfl (by simp)) (by rw [hF]; kernel_rfl) (by rw [hF]; kernel_rfl)
   · exact Reg.doesV_val (by rw [ev_eqTI (a := y.n) (b := (-9223372036854775808)) rfl (by rw [hF]; kernel_rfl) (by rw [hF]; kernel_rfl), h32]) (by rw [hF]; kernel_rfl) (by rw [hF]; kernel_rfl)
   · exact Reg.doesV_val (ev_pick true rfl (by rw [hF]; kernel_rfl)) (by rw [hF]; kernel_rfl) (by rw [hF]; kernel_rfl)
   · exact Reg.doesV_val (ev_move rfl) (by rw [hF]; kernel_rfl) (by rw [hF]; kernel_rfl)
   · exact Reg.doesV_val (ev_fa rfl (by rw [hF]; kernel_rfl) (fa_val1 w' (w.heap.size + 1))) (by rw [hF]; kernel_rfl) (by rw [hF]; kernel_rfl)
   · exact Reg.doesV_val (ev_ld rfl (by rw [hF]; kernel_rfl) byy.ldN) (by rw [hF]; kernel_rfl) (by rw [hF]; kernel_rfl)
   · exact Reg.doesV_val (by rw [ev_eqI (a := y.n) (k := -1) rfl (by rw [hF]; kernel_rfl), h37]) (by rw [hF]; kernel_rfl) (by rw [hF]; kernel_rfl)
   · exact Reg.doesV_val (ev_move rfl) (by rw [hF]; kernel_rfl) (by rw [hF]; kernel_rfl)
   · exact Reg.doesV_skip (by rw [hF]; kernel_rfl) (by rw [hF]; kernel_rfl)
   · exact Reg.doesV_skip (by rw [hF]; kernel_rfl) (by rw [hF]; kernel_rfl)
   · exact Reg.doesV_skip (by rw [hF]; kernel_rfl) (by rw [hF]; kernel_rfl)
   · exact Reg.doesV_skip (by rw [hF]; kernel_rfl) (by rw [hF]; kernel_rfl)
   · exact Reg.doesV_val (ev_pick false rfl (by rw [hF]; kernel_rfl)) (by rw [hF]; kernel_rfl) (by rw [hF]; kernel_rfl)
   · exact Reg.doesV_val (ev_pick false rfl (by rw [hF]; kernel_rfl)) (by rw [hF]; kernel_rfl) (by rw [hF]; kernel_rfl)
 intro w3 hB'
 simp only [Reg.putAll, Act.put, List.setIfInBounds_toArray, List.set_cons_zero, List.set_cons_succ]
 clear x1 y1 h27 h32 h37
 have d1 := c1.after hB'
 have d2 := c2.after hB'
 have d3 := c3.after hB'
 have hb4 := hbb.trans (hB'.mono hbb.size)
 clear hB' c1 c2 c3 hbb
 have x1 := d1.cell1
 have y1 := d2.cell1
 have hbn : y.n ≠ 0 := by simpa using hbz
 obtain ⟨p, hp⟩ : ∃ p, wrap64 (x.n * y.n) = p := ⟨_, rfl⟩
 have Hp := Lib.hid hp
 have hq := Hq.out
 rw [hp] at hq
 clear ha
 go_wp2_with fail
 try rw [hp]
 go_region
 all_goals
  have g0 := d3.cell0
  have g1 := d3.cell1
  have g2 := d3.cell2
  have f0 := d3.frozen 0
  have f1 := d3.frozen 1
  have f2 := d3.frozen 2
  go_wp2
  exact ret_valX (a := nl) (z := .bool false) Tryz.results75 rfl rfl (d3.put nl) rfl ⟨rfl, by have h := put3_below hb4 (show w.heap.size ≤ w.heap.size + 2 by omega) nl; exact ⟨h.os, h.tape, h.output, h.size, h.block⟩⟩
set_option maxHeartbeats 2000000 in
theorem rmul_F2r (x y : Val) (w : World) (h0 : (x.k == 0 || y.k == 0) = false) (h12 : (x.k == 2 && y.k == 2) = true) (ha : (x.n == 0) = false) (hb : (y.n == 0) = false) (h27 : (x.n == -1) = true) (h32 : (y.n == -9223372036854775808) = false) (h37 : (y.n == -1) = false) (hq : (wrap64 ((wrap64 (x.n * y.n)).tdiv y.n) != x.n) = false) (hr : ((wrap64 (x.n * y.n)).tmod y.n != 0) = true) : Calls Tryz.prog 75 #[x.v, y.v] w fun e w' => e = .returned (.tuple #[nl.v, .bool false]) ∧ Below w.heap.size w w' := by
 have H0 := Lib.hid h0
 have H12 := Lib.hid h12
 have Ha := Lib.hid ha
 have Hb := Lib.hid hb
 have H27 := Lib.hid h27
 have H32 := Lib.hid h32
 have H37 := Lib.hid h37
 have Hq := Lib.hid hq
 have Hr := Lib.hid hr
 clear h0 h12 ha hb h27 h32 h37 hq hr
 go_enter Tryz.func75, Tryz.ntmps75
 go_wp2_with fail
 refine (rnulls_c x y _).mono ?_
 rintro e w1 ⟨rfl, hb1⟩
 rw [H0.out]
 have b1 : Bx w1 w.heap.size x := (((Bx.new w x).alloc _).alloc _).after hb1
 have b2 : Bx w1 (w.heap.size + 1) y := ((Bx.new1 w y _).alloc _).after hb1
 have b3 : Bx w1 (w.heap.size + 2) nl := (Bx.new2 w nl _ _).after hb1
 have hb : Below w.heap.size w w1 := (below_three _ _ _ _).trans (hb1.mono (by simp; omega))
 clear hb1
 have x0 := b1.cell0
 have x1 := b1.cell1
 have x2 := b1.cell2
 have y0 := b2.cell0
 have y1 := b2.cell1
 have y2 := b2.cell2
 go_wp2_with fail
 refine (rints_c x y _).mono ?_
 rintro e w2 ⟨rfl, hb2⟩
 rw [H12.out]
 have c1 := b1.after hb2
 have c2 := b2.after hb2
 have c3 := b3.after hb2
 have hbb := hb.trans (hb2.mono hb.size)
 clear hb2 hb x0 x1 x2 y0 y1 y2 b1 b2 b3
 have x1 := c1.cell1
 have y1 := c2.cell1
 have ha := Ha.out
 have hbz := Hb.out
 go_wp2_with fail
 have h27 := H27.out
 have h32 := H32.out
 have h37 := H37.out
 refine Reg.wp_region_vals mixed (by kernel_rfl) [(25, .pointer (some ⟨w.heap.size, 1, none⟩)), (26, .int .i64 x.n), (27, .bool true), (28, .bool true), (29, .pointer (some ⟨w.heap.size + 1, 1, none⟩)), (30, .int .i64 y.n), (31, .int .i64 (-9223372036854775808)), (32, .bool false), (33, .bool false), (34, .bool false), (35, .pointer (some ⟨w.heap.size + 1, 1, none⟩)), (36, .int .i64 y.n), (37, .bool false), (38, .bool false), (39, undef), (40, undef), (41, undef), (42, undef), (43, .bool false), (44, .bool false)] 68 rfl (by kernel_rfl) ?_ ?_
 · intro F hF w' hB'
   have bx := c1.after hB'
   have byy := c2.after hB'
   refine ⟨?_, ?_, ?_, ?_, ?_, ?_, ?_, ?_, ?_, ?_, ?_, ?_, ?_, ?_, ?_, ?_, ?_, ?_, ?_, ?_, trivial⟩
   · exact Reg.doesV_val (ev_fa rfl (by rw [hF]; kernel_rfl) (fa_val1 w' w.heap.size)) (by rw [hF]; kernel_rfl) (by rw [hF]; kernel_rfl)
   · exact Reg.doesV_val (ev_ld rfl (by rw [hF]; kernel_rfl) bx.ldN) (by rw [hF]; kernel_rfl) (by rw [hF]; kernel_rfl)
   · exact Reg.doesV_val (by rw [ev_eqI (a := x.n) (k := -1) rfl (by rw [hF]; kernel_rfl), h27]) (by rw [hF]; kernel_rfl) (by rw [hF]; kernel_rfl)
   · exact Reg.doesV_val (ev_move rfl) (by rw [hF]; kernel_rfl) (by rw [hF]; kernel_rfl)
   · exact Reg.doesV_val (ev_fa rfl (by rw [hF]; kernel_rfl) (fa_val1 w' (w.heap.size + 1))) (by rw [hF]; kernel_rfl) (by rw [hF]; kernel_rfl)
   · exact Reg.doesV_val (ev_ld rfl (by rw [hF]; kernel_rfl) byy.ldN) (by rw [hF]; kernel_rfl) (by rw [hF]; kernel_rfl)
   · exact Reg.doesV_call (least_c w') (ev_call enrLeast rfl (by simp)) (by rw [hF]; kernel_rfl) (by rw [hF]; kernel_rfl)
   · exact Reg.doesV_val (by rw [ev_eqTI (a := y.n) (b := (-9223372036854775808)) rfl (by rw [hF]; kernel_rfl) (by rw [hF]; kernel_rfl), h32]) (by rw [hF]; kernel_rfl) (by rw [hF]; kernel_rfl)
   · exact Reg.doesV_val (ev_pick true rfl (by rw [hF]; kernel_rfl)) (by rw [hF]; kernel_rfl) (by rw [hF]; kernel_rfl)
   · exact Reg.doesV_val (ev_move rfl) (by rw [hF]; kernel_rfl) (by rw [hF]; kernel_rfl)
   · exact Reg.doesV_val (ev_fa rfl (by rw [hF]; kernel_rfl) (fa_val1 w' (w.heap.size + 1))) (by rw [hF]; kernel_rfl) (by rw [hF]; kernel_rfl)
   · exact Reg.doesV_val (ev_ld rfl (by rw [hF]; kernel_rfl) byy.ldN) (by rw [hF]; kernel_rfl) (by rw [hF]; kernel_rfl)
   · exact Reg.doesV_val (by rw [ev_eqI (a := y.n) (k := -1) rfl (by rw [hF]; kernel_rfl), h37]) (by rw [hF]; kernel_rfl) (by rw [hF]; kernel_rfl)
   · exact Reg.doesV_val (ev_move rfl) (by rw [hF]; kernel_rfl) (by rw [hF]; kernel_rfl)
   · exact Reg.doesV_skip (by rw [hF]; kernel_rfl) (by rw [hF]; kernel_rfl)
   · exact Reg.doesV_skip (by rw [hF]; kernel_rfl) (by rw [hF]; kernel_rfl)
   · exact Reg.doesV_skip (by rw [hF]; kernel_rfl) (by rw [hF]; kernel_rfl)
   · exact Reg.doesV_skip (by rw [hF]; kernel_rfl) (by rw [hF]; kernel_rfl)
   · exact Reg.doesV_val (ev_pick false rfl (by rw [hF]; kernel_rfl)) (by rw [hF]; kernel_rfl) (by rw [hF]; kernel_rfl)
   · exact Reg.doesV_val (ev_pick false rfl (by rw [hF]; kernel_rfl)) (by rw [hF]; kernel_rfl) (by rw [hF]; kernel_rfl)
 intro w3 hB'
 simp only [Reg.putAll, Act.put, List.setIfInBounds_toArray, List.set_cons_zero, List.set_cons_succ]
 clear x1 y1 h27 h32 h37
 have d1 := c1.after hB'
 have d2 := c2.after hB'
 have d3 := c3.after hB'
 have hb4 := hbb.trans (hB'.mono hbb.size)
 clear hB' c1 c2 c3 hbb
 have x1 := d1.cell1
 have y1 := d2.cell1
 have hbn : y.n ≠ 0 := by simpa using hbz
 obtain ⟨p, hp⟩ : ∃ p, wrap64 (x.n * y.n) = p := ⟨_, rfl⟩
 have Hp := Lib.hid hp
 have hq := Hq.out
 have hr := Hr.out
 rw [hp] at hq
 rw [hp] at hr
 clear ha
 go_wp2_with fail
 try rw [hp]
 go_region
 all_goals
  have g0 := d3.cell0
  have g1 := d3.cell1
  have g2 := d3.cell2
  have f0 := d3.frozen 0
  have f1 := d3.frozen 1
  have f2 := d3.frozen 2
  go_wp2
  exact ret_valX (a := nl) (z := .bool false) Tryz.results75 rfl rfl (d3.put nl) rfl ⟨rfl, by have h := put3_below hb4 (show w.heap.size ≤ w.heap.size + 2 by omega) nl; exact ⟨h.os, h.tape, h.output, h.size, h.block⟩⟩
set_option maxHeartbeats 2000000 in
theorem rmul_F2ok (x y : Val) (w : World) (h0 : (x.k == 0 || y.k == 0) = false) (h12 : (x.k == 2 && y.k == 2) = true) (ha : (x.n == 0) = false) (hb : (y.n == 0) = false) (h27 : (x.n == -1) = true) (h32 : (y.n == -9223372036854775808) = false) (h37 : (y.n == -1) = false) (hq : (wrap64 ((wrap64 (x.n * y.n)).tdiv y.n) != x.n) = false) (hr : ((wrap64 (x.n * y.n)).tmod y.n != 0) = false) : Calls Tryz.prog 75 #[x.v, y.v] w fun e w' => e = .returned (.tuple #[(iv (wrap64 (x.n * y.n))).v, .bool true]) ∧ Below w.heap.size w w' := by
 have H0 := Lib.hid h0
 have H12 := Lib.hid h12
 have Ha := Lib.hid ha
 have Hb := Lib.hid hb
 have H27 := Lib.hid h27
 have H32 := Lib.hid h32
 have H37 := Lib.hid h37
 have Hq := Lib.hid hq
 have Hr := Lib.hid hr
 clear h0 h12 ha hb h27 h32 h37 hq hr
 go_enter Tryz.func75, Tryz.ntmps75
 go_wp2_with fail
 refine (rnulls_c x y _).mono ?_
 rintro e w1 ⟨rfl, hb1⟩
 rw [H0.out]
 have b1 : Bx w1 w.heap.size x := (((Bx.new w x).alloc _).alloc _).after hb1
 have b2 : Bx w1 (w.heap.size + 1) y := ((Bx.new1 w y _).alloc _).after hb1
 have b3 : Bx w1 (w.heap.size + 2) nl := (Bx.new2 w nl _ _).after hb1
 have hb : Below w.heap.size w w1 := (below_three _ _ _ _).trans (hb1.mono (by simp; omega))
 clear hb1
 have x0 := b1.cell0
 have x1 := b1.cell1
 have x2 := b1.cell2
 have y0 := b2.cell0
 have y1 := b2.cell1
 have y2 := b2.cell2
 go_wp2_with fail
 refine (rints_c x y _).mono ?_
 rintro e w2 ⟨rfl, hb2⟩
 rw [H12.out]
 have c1 := b1.after hb2
 have c2 := b2.after hb2
 have c3 := b3.after hb2
 have hbb := hb.trans (hb2.mono hb.size)
 clear hb2 hb x0 x1 x2 y0 y1 y2 b1 b2 b3
 have x1 := c1.cell1
 have y1 := c2.cell1
 have ha := Ha.out
 have hbz := Hb.out
 go_wp2_with fail
 have h27 := H27.out
 have h32 := H32.out
 have h37 := H37.out
 refine Reg.wp_region_vals mixed (by kernel_rfl) [(25, .pointer (some ⟨w.heap.size, 1, none⟩)), (26, .int .i64 x.n), (27, .bool true), (28, .bool true), (29, .pointer (some ⟨w.heap.size + 1, 1, none⟩)), (30, .int .i64 y.n), (31, .int .i64 (-9223372036854775808)), (32, .bool false), (33, .bool false), (34, .bool false), (35, .pointer (some ⟨w.heap.size + 1, 1, none⟩)), (36, .int .i64 y.n), (37, .bool false), (38, .bool false), (39, undef), (40, undef), (41, undef), (42, undef), (43, .bool false), (44, .bool false)] 68 rfl (by kernel_rfl) ?_ ?_
 · intro F hF w' hB'
   have bx := c1.after hB'
   have byy := c2.after hB'
   refine ⟨?_, ?_, ?_, ?_, ?_, ?_, ?_, ?_, ?_, ?_, ?_, ?_, ?_, ?_, ?_, ?_, ?_, ?_, ?_, ?_, trivial⟩
   · exact Reg.doesV_val (ev_fa rfl (by rw [hF]; kernel_rfl) (fa_val1 w' w.heap.size)) (by rw [hF]; kernel_rfl) (by rw [hF]; kernel_rfl)
   · exact Reg.doesV_val (ev_ld rfl (by rw [hF]; kernel_rfl) bx.ldN) (by rw [hF]; kernel_rfl) (by rw [hF]; kernel_rfl)
   · exact Reg.doesV_val (by rw [ev_eqI (a := x.n) (k := -1) rfl (by rw [hF]; kernel_rfl), h27]) (by rw [hF]; kernel_rfl) (by rw [hF]; kernel_rfl)
   · exact Reg.doesV_val (ev_move rfl) (by rw [hF]; kernel_rfl) (by rw [hF]; kernel_rfl)
   · exact Reg.doesV_val (ev_fa rfl (by rw [hF]; kernel_rfl) (fa_val1 w' (w.heap.size + 1))) (by rw [hF]; kernel_rfl) (by rw [hF]; kernel_rfl)
   · exact Reg.doesV_val (ev_ld rfl (by rw [hF]; kernel_rfl) byy.ldN) (by rw [hF]; kernel_rfl) (by rw [hF]; kernel_rfl)
   · exact Reg.doesV_call (least_c w') (ev_call enrLeast rfl (by simp)) (by rw [hF]; kernel_rfl) (by rw [hF]; kernel_rfl)
   · exact Reg.doesV_val (by rw [ev_eqTI (a := y.n) (b := (-9223372036854775808)) rfl (by rw [hF]; kernel_rfl) (by rw [hF]; kernel_rfl), h32]) (by rw [hF]; kernel_rfl) (by rw [hF]; kernel_rfl)
   · exact Reg.doesV_val (ev_pick true rfl (by rw [hF]; kernel_rfl)) (by rw [hF]; kernel_rfl) (by rw [hF]; kernel_rfl)
   · exact Reg.doesV_val (ev_move rfl) (by rw [hF]; kernel_rfl) (by rw [hF]; kernel_rfl)
   · exact Reg.doesV_val (ev_fa rfl (by rw [hF]; kernel_rfl) (fa_val1 w' (w.heap.size + 1))) (by rw [hF]; kernel_rfl) (by rw [hF]; kernel_rfl)
   · exact Reg.doesV_val (ev_ld rfl (by rw [hF]; kernel_rfl) byy.ldN) (by rw [hF]; kernel_rfl) (by rw [hF]; kernel_rfl)
   · exact Reg.doesV_val (by rw [ev_eqI (a := y.n) (k := -1) rfl (by rw [hF]; kernel_rfl), h37]) (by rw [hF]; kernel_rfl) (by rw [hF]; kernel_rfl)
   · exact Reg.doesV_val (ev_move rfl) (by rw [hF]; kernel_rfl) (by rw [hF]; kernel_rfl)
   · exact Reg.doesV_skip (by rw [hF]; kernel_rfl) (by rw [hF]; kernel_rfl)
   · exact Reg.doesV_skip (by rw [hF]; kernel_rfl) (by rw [hF]; kernel_rfl)
   · exact Reg.doesV_skip (by rw [hF]; kernel_rfl) (by rw [hF]; kernel_rfl)
   · exact Reg.doesV_skip (by rw [hF]; kernel_rfl) (by rw [hF]; kernel_rfl)
   · exact Reg.doesV_val (ev_pick false rfl (by rw [hF]; kernel_rfl)) (by rw [hF]; kernel_rfl) (by rw [hF]; kernel_rfl)
   · exact Reg.doesV_val (ev_pick false rfl (by rw [hF]; kernel_rfl)) (by rw [hF]; kernel_rfl) (by rw [hF]; kernel_rfl)
 intro w3 hB'
 simp only [Reg.putAll, Act.put, List.setIfInBounds_toArray, List.set_cons_zero, List.set_cons_succ]
 clear x1 y1 h27 h32 h37
 have d1 := c1.after hB'
 have d2 := c2.after hB'
 have d3 := c3.after hB'
 have hb4 := hbb.trans (hB'.mono hbb.size)
 clear hB' c1 c2 c3 hbb
 have x1 := d1.cell1
 have y1 := d2.cell1
 have hbn : y.n ≠ 0 := by simpa using hbz
 obtain ⟨p, hp⟩ : ∃ p, wrap64 (x.n * y.n) = p := ⟨_, rfl⟩
 have Hp := Lib.hid hp
 have hq := Hq.out
 have hr := Hr.out
 rw [hp] at hq
 rw [hp] at hr
 clear ha
 go_wp2_with fail
 try rw [hp]
 go_region
 all_goals
  go_wp2_with fail
  refine (rint_c _ _).mono ?_
  rintro e w5 ⟨rfl, hb5⟩
  have e3 : Bx w5 (w.heap.size + 2) nl := Bx.after (w := w3.drew) d3 hb5
  have hb4d : Below w.heap.size w w3.drew := ⟨hb4.os, hb4.tape, hb4.output, hb4.size, hb4.block⟩
  have hb6 : Below w.heap.size w w5 := hb4d.trans (hb5.mono hb4.size)
  obtain ⟨R, hR2⟩ : ∃ R, iv p = R := ⟨_, rfl⟩
  have HR := Lib.hid (show iv (wrap64 (x.n * y.n)) = R by rw [hp]; exact hR2)
  rw [hR2]
  clear hb5 x1 y1 d1 d2 d3 hq hr hp hR2 hb4d
  have g0 := e3.cell0
  have g1 := e3.cell1
  have g2 := e3.cell2
  have f0 := e3.frozen 0
  have f1 := e3.frozen 1
  have f2 := e3.frozen 2
  go_wp2
  exact ret_valX (a := R) (z := .bool true) Tryz.results75 rfl rfl (e3.put R) rfl ⟨by rw [HR.out], put3_below hb6 (by omega) R⟩
set_option maxHeartbeats 2000000 in
theorem rmul_F3q (x y : Val) (w : World) (h0 : (x.k == 0 || y.k == 0) = false) (h12 : (x.k == 2 && y.k == 2) = true) (ha : (x.n == 0) = false) (hb : (y.n == 0) = false) (h27 : (x.n == -1) = false) (h37 : (y.n == -1) = true) (h42 : (x.n == -9223372036854775808) = false) (hq : (wrap64 ((wrap64 (x.n * y.n)).tdiv y.n) != x.n) = true) : Calls Tryz.prog 75 #[x.v, y.v] w fun e w' => e = .returned (.tuple #[nl.v, .bool false]) ∧ Below w.heap.size w w' := by
 have H0 := Lib.hid h0
 have H12 := Lib.hid h12
 have Ha := Lib.hid ha
 have Hb := Lib.hid hb
 have H27 := Lib.hid h27
 have H37 := Lib.hid h37
 have H42 := Lib.hid h42
 have Hq := Lib.hid hq
 clear h0 h12 ha hb h27 h37 h42 hq
 go_enter Tryz.func75, Tryz.ntmps75
 go_wp2_with fail
 refine (rnulls_c x y _).mono ?_
 rintro e w1 ⟨rfl, hb1⟩
 rw [H0.out]
 have b1 : Bx w1 w.heap.size x := (((Bx.new w x).alloc _).alloc _).after hb1
 have b2 : Bx w1 (w.heap.size + 1) y := ((Bx.new1 w y _).alloc _).after hb1
 have b3 : Bx w1 (w.heap.size + 2) nl := (Bx.new2 w nl _ _).after hb1
 have hb : Below w.heap.size w w1 := (below_three _ _ _ _).trans (hb1.mono (by simp; omega))
 clear hb1
 have x0 := b1.cell0
 have x1 := b1.cell1
 have x2 := b1.cell2
 have y0 := b2.cell0
 have y1 := b2.cell1
 have y2 := b2.cell2
 go_wp2_with fail
 refine (rints_c x y _).mono ?_
 rintro e w2 ⟨rfl, hb2⟩
 rw [H12.out]
 have c1 := b1.after hb2
 have c2 := b2.after hb2
 have c3 := b3.after hb2
 have hbb := hb.trans (hb2.mono hb.size)
 clear hb2 hb x0 x1 x2 y0 y1 y2 b1 b2 b3
 have x1 := c1.cell1
 have y1 := c2.cell1
 have ha := Ha.out
 have hbz := Hb.out
 go_wp2_with fail
 have h27 := H27.out
 have h37 := H37.out
 have h42 := H42.out
 refine Reg.wp_region_vals mixed (by kernel_rfl) [(25, .pointer (some ⟨w.heap.size, 1, none⟩)), (26, .int .i64 x.n), (27, .bool false), (28, .bool false), (29, undef), (30, undef), (31, undef), (32, undef), (33, .bool false), (34, .bool false), (35, .pointer (some ⟨w.heap.size + 1, 1, none⟩)), (36, .int .i64 y.n), (37, .bool true), (38, .bool true), (39, .pointer (some ⟨w.heap.size, 1, none⟩)), (40, .int .i64 x.n), (41, .int .i64 (-9223372036854775808)), (42, .bool false), (43, .bool false), (44, .bool false)] 68 rfl (by kernel_rfl) ?_ ?_
 · intro F hF w' hB'
   have bx := c1.after hB'
   have byy := c2.after hB'
   refine ⟨?_, ?_, ?_, ?_, ?_, ?_, ?_, ?_, ?_, ?_, ?_, ?_, ?_, ?_, ?_, ?_, ?_, ?_, ?_, ?_, trivial⟩
   · exact Reg.doesV_val (ev_fa rfl (by rw [hF]; kernel_rfl) (fa_val1 w' w.heap.size)) (by rw [hF]; kernel_rfl) (by rw [hF]; kernel_rfl)
   · exact Reg.doesV_val (ev_ld rfl (by rw [hF]; kernel_rfl) bx.ldN) (by rw [hF]; kernel_rfl) (by rw [hF]; kernel_rfl)
   · exact Reg.doesV_val (by rw [ev_eqI (a := x.n) (k := -1) rfl (by rw [hF]; kernel_rfl), h27]) (by rw [hF]; kernel_rfl) (by rw [hF]; kernel_rfl)
   · exact Reg.doesV_val (ev_move rfl) (by rw [hF]; kernel_rfl) (by rw [hF]; kernel_rfl)
   · exact Reg.doesV_skip (by rw [hF]; kernel_rfl) (by rw [hF]; kernel_rfl)
   · exact Reg.doesV_skip (by rw [hF]; kernel_rfl) (by rw [hF]; kernel_rfl)
   · exact Reg.doesV_skip (by rw [hF]; kernel_rfl) (by rw [hF]; kernel_rfl)
   · exact Reg.doesV_skip (by rw [hF]; kernel_rfl) (by rw [hF]; kernel_rfl)
   · exact Reg.doesV_val (ev_pick false rfl (by rw [hF]; kernel_rfl)) (by rw [hF]; kernel_rfl) (by rw [hF]; kernel_rfl)
   · exact Reg.doesV_val (ev_move rfl) (by rw [hF]; kernel_rfl) (by rw [hF]; kernel_rfl)
   · exact Reg.doesV_val (ev_fa rfl (by rw [hF]; kernel_rfl) (fa_val1 w' (w.heap.size + 1))) (by rw [hF]; kernel_rfl) (by rw [hF]; kernel_rfl)
   · exact Reg.doesV_val (ev_ld rfl (by rw [hF]; kernel_rfl) byy.ldN) (by rw [hF]; kernel_rfl) (by rw [hF]; kernel_rfl)
   · exact Reg.doesV_val (by rw [ev_eqI (a := y.n) (k := -1) rfl (by rw [hF]; kernel_rfl), h37]) (by rw [hF]; kernel_rfl) (by rw [hF]; kernel_rfl)
   · exact Reg.doesV_val (ev_move rfl) (by rw [hF]; kernel_rfl) (by rw [hF]; kernel_rfl)
   · exact Reg.doesV_val (ev_fa rfl (by rw [hF]; kernel_rfl) (fa_val1 w' w.heap.size)) (by rw [hF]; kernel_rfl) (by rw [hF]; kernel_rfl)
   · exact Reg.doesV_val (ev_ld rfl (by rw [hF]; kernel_rfl) bx.ldN) (by rw [hF]; kernel_rfl) (by rw [hF]; kernel_rfl)
   · exact Reg.doesV_call (least_c w') (ev_call enrLeast rfl (by simp)) (by rw [hF]; kernel_rfl) (by rw [hF]; kernel_rfl)
   · exact Reg.doesV_val (by rw [ev_eqTI (a := x.n) (b := (-9223372036854775808)) rfl (by rw [hF]; kernel_rfl) (by rw [hF]; kernel_rfl), h42]) (by rw [hF]; kernel_rfl) (by rw [hF]; kernel_rfl)
   · exact Reg.doesV_val (ev_pick true rfl (by rw [hF]; kernel_rfl)) (by rw [hF]; kernel_rfl) (by rw [hF]; kernel_rfl)
   · exact Reg.doesV_val (ev_pick false rfl (by rw [hF]; kernel_rfl)) (by rw [hF]; kernel_rfl) (by rw [hF]; kernel_rfl)
 intro w3 hB'
 simp only [Reg.putAll, Act.put, List.setIfInBounds_toArray, List.set_cons_zero, List.set_cons_succ]
 clear x1 y1 h27 h37 h42
 have d1 := c1.after hB'
 have d2 := c2.after hB'
 have d3 := c3.after hB'
 have hb4 := hbb.trans (hB'.mono hbb.size)
 clear hB' c1 c2 c3 hbb
 have x1 := d1.cell1
 have y1 := d2.cell1
 have hbn : y.n ≠ 0 := by simpa using hbz
 obtain ⟨p, hp⟩ : ∃ p, wrap64 (x.n * y.n) = p := ⟨_, rfl⟩
 have Hp := Lib.hid hp
 have hq := Hq.out
 rw [hp] at hq
 clear ha
 go_wp2_with fail
 try rw [hp]
 go_region
 all_goals
  have g0 := d3.cell0
  have g1 := d3.cell1
  have g2 := d3.cell2
  have f0 := d3.frozen 0
  have f1 := d3.frozen 1
  have f2 := d3.frozen 2
  go_wp2
  exact ret_valX (a := nl) (z := .bool false) Tryz.results75 rfl rfl (d3.put nl) rfl ⟨rfl, by have h := put3_below hb4 (show w.heap.size ≤ w.heap.size + 2 by omega) nl; exact ⟨h.os, h.tape, h.output, h.size, h.block⟩⟩
set_option maxHeartbeats 2000000 in
theorem rmul_F3r (x y : Val) (w : World) (h0 : (x.k == 0 || y.k == 0) = false) (h12 : (x.k == 2 && y.k == 2) = true) (ha : (x.n == 0) = false) (hb : (y.n == 0) = false) (h27 : (x.n == -1) = false) (h37 : (y.n == -1) = true) (h42 : (x.n == -9223372036854775808) = false) (hq : (wrap64 ((wrap64 (x.n * y.n)).tdiv y.n) != x.n) = false) (hr : ((wrap64 (x.n * y.n)).tmod y.n != 0) = true) : Calls Tryz.prog 75 #[x.v, y.v] w fun e w' => e = .returned (.tuple #[nl.v, .bool false]) ∧ Below w.heap.size w w' := by
 have H0 := Lib.hid h0
 have H12 := Lib.hid h12
 have Ha := Lib.hid ha
 have Hb := Lib.hid hb
 have H27 := Lib.hid h27
 have H37 := Lib.hid h37
 have H42 := Lib.hid h42
 have Hq := Lib.hid hq
 have Hr := Lib.hid hr
 clear h0 h12 ha hb h27 h37 h42 hq hr
 go_enter Tryz.func75, Tryz.ntmps75
 go_wp2_with fail
 refine (rnulls_c x y _).mono ?_
 rintro e w1 ⟨rfl, hb1⟩
 rw [H0.out]
 have b1 : Bx w1 w.heap.size x := (((Bx.new w x).alloc _).alloc _).after hb1
 have b2 : Bx w1 (w.heap.size + 1) y := ((Bx.new1 w y _).alloc _).after hb1
 have b3 : Bx w1 (w.heap.size + 2) nl := (Bx.new2 w nl _ _).after hb1
 have hb : Below w.heap.size w w1 := (below_three _ _ _ _).trans (hb1.mono (by simp; omega))
 clear hb1
 have x0 := b1.cell0
 have x1 := b1.cell1
 have x2 := b1.cell2
 have y0 := b2.cell0
 have y1 := b2.cell1
 have y2 := b2.cell2
 go_wp2_with fail
 refine (rints_c x y _).mono ?_
 rintro e w2 ⟨rfl, hb2⟩
 rw [H12.out]
 have c1 := b1.after hb2
 have c2 := b2.after hb2
 have c3 := b3.after hb2
 have hbb := hb.trans (hb2.mono hb.size)
 clear hb2 hb x0 x1 x2 y0 y1 y2 b1 b2 b3
 have x1 := c1.cell1
 have y1 := c2.cell1
 have ha := Ha.out
 have hbz := Hb.out
 go_wp2_with fail
 have h27 := H27.out
 have h37 := H37.out
 have h42 := H42.out
 refine Reg.wp_region_vals mixed (by kernel_rfl) [(25, .pointer (some ⟨w.heap.size, 1, none⟩)), (26, .int .i64 x.n), (27, .bool false), (28, .bool false), (29, undef), (30, undef), (31, undef), (32, undef), (33, .bool false), (34, .bool false), (35, .pointer (some ⟨w.heap.size + 1, 1, none⟩)), (36, .int .i64 y.n), (37, .bool true), (38, .bool true), (39, .pointer (some ⟨w.heap.size, 1, none⟩)), (40, .int .i64 x.n), (41, .int .i64 (-9223372036854775808)), (42, .bool false), (43, .bool false), (44, .bool false)] 68 rfl (by kernel_rfl) ?_ ?_
 · intro F hF w' hB'
   have bx := c1.after hB'
   have byy := c2.after hB'
   refine ⟨?_, ?_, ?_, ?_, ?_, ?_, ?_, ?_, ?_, ?_, ?_, ?_, ?_, ?_, ?_, ?_, ?_, ?_, ?_, ?_, trivial⟩
   · exact Reg.doesV_val (ev_fa rfl (by rw [hF]; kernel_rfl) (fa_val1 w' w.heap.size)) (by rw [hF]; kernel_rfl) (by rw [hF]; kernel_rfl)
   · exact Reg.doesV_val (ev_ld rfl (by rw [hF]; kernel_rfl) bx.ldN) (by rw [hF]; kernel_rfl) (by rw [hF]; kernel_rfl)
   · exact Reg.doesV_val (by rw [ev_eqI (a := x.n) (k := -1) rfl (by rw [hF]; kernel_rfl), h27]) (by rw [hF]; kernel_rfl) (by rw [hF]; kernel_rfl)
   · exact Reg.doesV_val (ev_move rfl) (by rw [hF]; kernel_rfl) (by rw [hF]; kernel_rfl)
   · exact Reg.doesV_skip (by rw [hF]; kernel_rfl) (by rw [hF]; kernel_rfl)
   · exact Reg.doesV_skip (by rw [hF]; kernel_rfl) (by rw [hF]; kernel_rfl)
   · exact Reg.doesV_skip (by rw [hF]; kernel_rfl) (by rw [hF]; kernel_rfl)
   · exact Reg.doesV_skip (by rw [hF]; kernel_rfl) (by rw [hF]; kernel_rfl)
   · exact Reg.doesV_val (ev_pick false rfl (by rw [hF]; kernel_rfl)) (by rw [hF]; kernel_rfl) (by rw [hF]; kernel_rfl)
   · exact Reg.doesV_val (ev_move rfl) (by rw [hF]; kernel_rfl) (by rw [hF]; kernel_rfl)
   · exact Reg.doesV_val (ev_fa rfl (by rw [hF]; kernel_rfl) (fa_val1 w' (w.heap.size + 1))) (by rw [hF]; kernel_rfl) (by rw [hF]; kernel_rfl)
   · exact Reg.doesV_val (ev_ld rfl (by rw [hF]; kernel_rfl) byy.ldN) (by rw [hF]; kernel_rfl) (by rw [hF]; kernel_rfl)
   · exact Reg.doesV_val (by rw [ev_eqI (a := y.n) (k := -1) rfl (by rw [hF]; kernel_rfl), h37]) (by rw [hF]; kernel_rfl) (by rw [hF]; kernel_rfl)
   · exact Reg.doesV_val (ev_move rfl) (by rw [hF]; kernel_rfl) (by rw [hF]; kernel_rfl)
   · exact Reg.doesV_val (ev_fa rfl (by rw [hF]; kernel_rfl) (fa_val1 w' w.heap.size)) (by rw [hF]; kernel_rfl) (by rw [hF]; kernel_rfl)
   · exact Reg.doesV_val (ev_ld rfl (by rw [hF]; kernel_rfl) bx.ldN) (by rw [hF]; kernel_rfl) (by rw [hF]; kernel_rfl)
   · exact Reg.doesV_call (least_c w') (ev_call enrLeast rfl (by simp)) (by rw [hF]; kernel_rfl) (by rw [hF]; kernel_rfl)
   · exact Reg.doesV_val (by rw [ev_eqTI (a := x.n) (b := (-9223372036854775808)) rfl (by rw [hF]; kernel_rfl) (by rw [hF]; kernel_rfl), h42]) (by rw [hF]; kernel_rfl) (by rw [hF]; kernel_rfl)
   · exact Reg.doesV_val (ev_pick true rfl (by rw [hF]; kernel_rfl)) (by rw [hF]; kernel_rfl) (by rw [hF]; kernel_rfl)
   · exact Reg.doesV_val (ev_pick false rfl (by rw [hF]; kernel_rfl)) (by rw [hF]; kernel_rfl) (by rw [hF]; kernel_rfl)
 intro w3 hB'
 simp only [Reg.putAll, Act.put, List.setIfInBounds_toArray, List.set_cons_zero, List.set_cons_succ]
 clear x1 y1 h27 h37 h42
 have d1 := c1.after hB'
 have d2 := c2.after hB'
 have d3 := c3.after hB'
 have hb4 := hbb.trans (hB'.mono hbb.size)
 clear hB' c1 c2 c3 hbb
 have x1 := d1.cell1
 have y1 := d2.cell1
 have hbn : y.n ≠ 0 := by simpa using hbz
 obtain ⟨p, hp⟩ : ∃ p, wrap64 (x.n * y.n) = p := ⟨_, rfl⟩
 have Hp := Lib.hid hp
 have hq := Hq.out
 have hr := Hr.out
 rw [hp] at hq
 rw [hp] at hr
 clear ha
 go_wp2_with fail
 try rw [hp]
 go_region
 all_goals
  have g0 := d3.cell0
  have g1 := d3.cell1
  have g2 := d3.cell2
  have f0 := d3.frozen 0
  have f1 := d3.frozen 1
  have f2 := d3.frozen 2
  go_wp2
  exact ret_valX (a := nl) (z := .bool false) Tryz.results75 rfl rfl (d3.put nl) rfl ⟨rfl, by have h := put3_below hb4 (show w.heap.size ≤ w.heap.size + 2 by omega) nl; exact ⟨h.os, h.tape, h.output, h.size, h.block⟩⟩
set_option maxHeartbeats 2000000 in
theorem rmul_F3ok (x y : Val) (w : World) (h0 : (x.k == 0 || y.k == 0) = false) (h12 : (x.k == 2 && y.k == 2) = true) (ha : (x.n == 0) = false) (hb : (y.n == 0) = false) (h27 : (x.n == -1) = false) (h37 : (y.n == -1) = true) (h42 : (x.n == -9223372036854775808) = false) (hq : (wrap64 ((wrap64 (x.n * y.n)).tdiv y.n) != x.n) = false) (hr : ((wrap64 (x.n * y.n)).tmod y.n != 0) = false) : Calls Tryz.prog 75 #[x.v, y.v] w fun e w' => e = .returned (.tuple #[(iv (wrap64 (x.n * y.n))).v, .bool true]) ∧ Below w.heap.size w w' := by
 have H0 := Lib.hid h0
 have H12 := Lib.hid h12
 have Ha := Lib.hid ha
 have Hb := Lib.hid hb
 have H27 := Lib.hid h27
 have H37 := Lib.hid h37
 have H42 := Lib.hid h42
 have Hq := Lib.hid hq
 have Hr := Lib.hid hr
 clear h0 h12 ha hb h27 h37 h42 hq hr
 go_enter Tryz.func75, Tryz.ntmps75
 go_wp2_with fail
 refine (rnulls_c x y _).mono ?_
 rintro e w1 ⟨rfl, hb1⟩
 rw [H0.out]
 have b1 : Bx w1 w.heap.size x := (((Bx.new w x).alloc _).alloc _).after hb1
 have b2 : Bx w1 (w.heap.size + 1) y := ((Bx.new1 w y _).alloc _).after hb1
 have b3 : Bx w1 (w.heap.size + 2) nl := (Bx.new2 w nl _ _).after hb1
 have hb : Below w.heap.size w w1 := (below_three _ _ _ _).trans (hb1.mono (by simp; omega))
 clear hb1
 have x0 := b1.cell0
 have x1 := b1.cell1
 have x2 := b1.cell2
 have y0 := b2.cell0
 have y1 := b2.cell1
 have y2 := b2.cell2
 go_wp2_with fail
 refine (rints_c x y _).mono ?_
 rintro e w2 ⟨rfl, hb2⟩
 rw [H12.out]
 have c1 := b1.after hb2
 have c2 := b2.after hb2
 have c3 := b3.after hb2
 have hbb := hb.trans (hb2.mono hb.size)
 clear hb2 hb x0 x1 x2 y0 y1 y2 b1 b2 b3
 have x1 := c1.cell1
 have y1 := c2.cell1
 have ha := Ha.out
 have hbz := Hb.out
 go_wp2_with fail
 have h27 := H27.out
 have h37 := H37.out
 have h42 := H42.out
 refine Reg.wp_region_vals mixed (by kernel_rfl) [(25, .pointer (some ⟨w.heap.size, 1, none⟩)), (26, .int .i64 x.n), (27, .bool false), (28, .bool false), (29, undef), (30, undef), (31, undef), (32, undef), (33, .bool false), (34, .bool false), (35, .pointer (some ⟨w.heap.size + 1, 1, none⟩)), (36, .int .i64 y.n), (37, .bool true), (38, .bool true), (39, .pointer (some ⟨w.heap.size, 1, none⟩)), (40, .int .i64 x.n), (41, .int .i64 (-9223372036854775808)), (42, .bool false), (43, .bool false), (44, .bool false)] 68 rfl (by kernel_rfl) ?_ ?_
 · intro F hF w' hB'
   have bx := c1.after hB'
   have byy := c2.after hB'
   refine ⟨?_, ?_, ?_, ?_, ?_, ?_, ?_, ?_, ?_, ?_, ?_, ?_, ?_, ?_, ?_, ?_, ?_, ?_, ?_, ?_, trivial⟩
   · exact Reg.doesV_val (ev_fa rfl (by rw [hF]; kernel_rfl) (fa_val1 w' w.heap.size)) (by rw [hF]; kernel_rfl) (by rw [hF]; kernel_rfl)
   · exact Reg.doesV_val (ev_ld rfl (by rw [hF]; kernel_rfl) bx.ldN) (by rw [hF]; kernel_rfl) (by rw [hF]; kernel_rfl)
   · exact Reg.doesV_val (by rw [ev_eqI (a := x.n) (k := -1) rfl (by rw [hF]; kernel_rfl), h27]) (by rw [hF]; kernel_rfl) (by rw [hF]; kernel_rfl)
   · exact Reg.doesV_val (ev_move rfl) (by rw [hF]; kernel_rfl) (by rw [hF]; kernel_rfl)
   · exact Reg.doesV_skip (by rw [hF]; kernel_rfl) (by rw [hF]; kernel_rfl)
   · exact Reg.doesV_skip (by rw [hF]; kernel_rfl) (by rw [hF]; kernel_rfl)
   · exact Reg.doesV_skip (by rw [hF]; kernel_rfl) (by rw [hF]; kernel_rfl)
   · exact Reg.doesV_skip (by rw [hF]; kernel_rfl) (by rw [hF]; kernel_rfl)
   · exact Reg.doesV_val (ev_pick false rfl (by rw [hF]; kernel_rfl)) (by rw [hF]; kernel_rfl) (by rw [hF]; kernel_rfl)
   · exact Reg.doesV_val (ev_move rfl) (by rw [hF]; kernel_rfl) (by rw [hF]; kernel_rfl)
   · exact Reg.doesV_val (ev_fa rfl (by rw [hF]; kernel_rfl) (fa_val1 w' (w.heap.size + 1))) (by rw [hF]; kernel_rfl) (by rw [hF]; kernel_rfl)
   · exact Reg.doesV_val (ev_ld rfl (by rw [hF]; kernel_rfl) byy.ldN) (by rw [hF]; kernel_rfl) (by rw [hF]; kernel_rfl)
   · exact Reg.doesV_val (by rw [ev_eqI (a := y.n) (k := -1) rfl (by rw [hF]; kernel_rfl), h37]) (by rw [hF]; kernel_rfl) (by rw [hF]; kernel_rfl)
   · exact Reg.doesV_val (ev_move rfl) (by rw [hF]; kernel_rfl) (by rw [hF]; kernel_rfl)
   · exact Reg.doesV_val (ev_fa rfl (by rw [hF]; kernel_rfl) (fa_val1 w' w.heap.size)) (by rw [hF]; kernel_rfl) (by rw [hF]; kernel_rfl)
   · exact Reg.doesV_val (ev_ld rfl (by rw [hF]; kernel_rfl) bx.ldN) (by rw [hF]; kernel_rfl) (by rw [hF]; kernel_rfl)
   · exact Reg.doesV_call (least_c w') (ev_call enrLeast rfl (by simp)) (by rw [hF]; kernel_rfl) (by rw [hF]; kernel_rfl)
   · exact Reg.doesV_val (by rw [ev_eqTI (a := x.n) (b := (-9223372036854775808)) rfl (by rw [hF]; kernel_rfl) (by rw [hF]; kernel_rfl), h42]) (by rw [hF]; kernel_rfl) (by rw [hF]; kernel_rfl)
   · exact Reg.doesV_val (ev_pick true rfl (by rw [hF]; kernel_rfl)) (by rw [hF]; kernel_rfl) (by rw [hF]; kernel_rfl)
   · exact Reg.doesV_val (ev_pick false rfl (by rw [hF]; kernel_rfl)) (by rw [hF]; kernel_rfl) (by rw [hF]; kernel_rfl)
 intro w3 hB'
 simp only [Reg.putAll, Act.put, List.setIfInBounds_toArray, List.set_cons_zero, List.set_cons_succ]
 clear x1 y1 h27 h37 h42
 have d1 := c1.after hB'
 have d2 := c2.after hB'
 have d3 := c3.after hB'
 have hb4 := hbb.trans (hB'.mono hbb.size)
 clear hB' c1 c2 c3 hbb
 have x1 := d1.cell1
 have y1 := d2.cell1
 have hbn : y.n ≠ 0 := by simpa using hbz
 obtain ⟨p, hp⟩ : ∃ p, wrap64 (x.n * y.n) = p := ⟨_, rfl⟩
 have Hp := Lib.hid hp
 have hq := Hq.out
 have hr := Hr.out
 rw [hp] at hq
 rw [hp] at hr
 clear ha
 go_wp2_with fail
 try rw [hp]
 go_region
 all_goals
  go_wp2_with fail
  refine (rint_c _ _).mono ?_
  rintro e w5 ⟨rfl, hb5⟩
  have e3 : Bx w5 (w.heap.size + 2) nl := Bx.after (w := w3.drew) d3 hb5
  have hb4d : Below w.heap.size w w3.drew := ⟨hb4.os, hb4.tape, hb4.output, hb4.size, hb4.block⟩
  have hb6 : Below w.heap.size w w5 := hb4d.trans (hb5.mono hb4.size)
  obtain ⟨R, hR2⟩ : ∃ R, iv p = R := ⟨_, rfl⟩
  have HR := Lib.hid (show iv (wrap64 (x.n * y.n)) = R by rw [hp]; exact hR2)
  rw [hR2]
  clear hb5 x1 y1 d1 d2 d3 hq hr hp hR2 hb4d
  have g0 := e3.cell0
  have g1 := e3.cell1
  have g2 := e3.cell2
  have f0 := e3.frozen 0
  have f1 := e3.frozen 1
  have f2 := e3.frozen 2
  go_wp2
  exact ret_valX (a := R) (z := .bool true) Tryz.results75 rfl rfl (e3.put R) rfl ⟨by rw [HR.out], put3_below hb6 (by omega) R⟩
set_option maxHeartbeats 2000000 in
theorem rmul_F4q (x y : Val) (w : World) (h0 : (x.k == 0 || y.k == 0) = false) (h12 : (x.k == 2 && y.k == 2) = true) (ha : (x.n == 0) = false) (hb : (y.n == 0) = false) (h27 : (x.n == -1) = false) (h37 : (y.n == -1) = false) (hq : (wrap64 ((wrap64 (x.n * y.n)).tdiv y.n) != x.n) = true) : Calls Tryz.prog 75 #[x.v, y.v] w fun e w' => e = .returned (.tuple #[nl.v, .bool false]) ∧ Below w.heap.size w w' := by
 have H0 := Lib.hid h0
 have H12 := Lib.hid h12
 have Ha := Lib.hid ha
 have Hb := Lib.hid hb
 have H27 := Lib.hid h27
 have H37 := Lib.hid h37
 have Hq := Lib.hid hq
 clear h0 h12 ha hb h27 h37 hq
 go_enter Tryz.func75, Tryz.ntmps75
 go_wp2_with fail
 refine (rnulls_c x y _).mono ?_
 rintro e w1 ⟨rfl, hb1⟩
 rw [H0.out]
 have b1 : Bx w1 w.heap.size x := (((Bx.new w x).alloc _).alloc _).after hb1
 have b2 : Bx w1 (w.heap.size + 1) y := ((Bx.new1 w y _).alloc _).after hb1
 have b3 : Bx w1 (w.heap.size + 2) nl := (Bx.new2 w nl _ _).after hb1
 have hb : Below w.heap.size w w1 := (below_three _ _ _ _).trans (hb1.mono (by simp; omega))
 clear hb1
 have x0 := b1.cell0
 have x1 := b1.cell1
 have x2 := b1.cell2
 have y0 := b2.cell0
 have y1 := b2.cell1
 have y2 := b2.cell2
 go_wp2_with fail
 refine (rints_c x y _).mono ?_
 rintro e w2 ⟨rfl, hb2⟩
 rw [H12.out]
 have c1 := b1.after hb2
 have c2 := b2.after hb2
 have c3 := b3.after hb2
 have hbb := hb.trans (hb2.mono hb.size)
 clear hb2 hb x0 x1 x2 y0 y1 y2 b1 b2 b3
 have x1 := c1.cell1
 have y1 := c2.cell1
 have ha := Ha.out
 have hbz := Hb.out
 go_wp2_with fail
 have h27 := H27.out
 have h37 := H37.out
 refine Reg.wp_region_vals mixed (by kernel_rfl) [(25, .pointer (some ⟨w.heap.size, 1, none⟩)), (26, .int .i64 x.n), (27, .bool false), (28, .bool false), (29, undef), (30, undef), (31, undef), (32, undef), (33, .bool false), (34, .bool false), (35, .pointer (some ⟨w.heap.size + 1, 1, none⟩)), (36, .int .i64 y.n), (37, .bool false), (38, .bool false), (39, undef), (40, undef), (41, undef), (42, undef), (43, .bool false), (44, .bool false)] 68 rfl (by kernel_rfl) ?_ ?_
 · intro F hF w' hB'
   have bx := c1.after hB'
   have byy := c2.after hB'
   refine ⟨?_, ?_, ?_, ?_, ?_, ?_, ?_, ?_, ?_, ?_, ?_, ?_, ?_, ?_, ?_, ?_, ?_, ?_, ?_, ?_, trivial⟩
   · exact Reg.doesV_val (ev_fa rfl (by rw [hF]; kernel_rfl) (fa_val1 w' w.heap.size)) (by rw [hF]; kernel_rfl) (by rw [hF]; kernel_rfl)
   · exact Reg.doesV_val (ev_ld rfl (by rw [hF]; kernel_rfl) bx.ldN) (by rw [hF]; kernel_rfl) (by rw [hF]; kernel_rfl)
   · exact Reg.doesV_val (by rw [ev_eqI (a := x.n) (k := -1) rfl (by rw [hF]; kernel_rfl), h27]) (by rw [hF]; kernel_rfl) (by rw [hF]; kernel_rfl)
   · exact Reg.doesV_val (ev_move rfl) (by rw [hF]; kernel_rfl) (by rw [hF]; kernel_rfl)
   · exact Reg.doesV_skip (by rw [hF]; kernel_rfl) (by rw [hF]; kernel_rfl)
   · exact Reg.doesV_skip (by rw [hF]; kernel_rfl) (by rw [hF]; kernel_rfl)
   · exact Reg.doesV_skip (by rw [hF]; kernel_rfl) (by rw [hF]; kernel_rfl)
   · exact Reg.doesV_skip (by rw [hF]; kernel_rfl) (by rw [hF]; kernel_rfl)
   · exact Reg.doesV_val (ev_pick false rfl (by rw [hF]; kernel_rfl)) (by rw [hF]; kernel_rfl) (by rw [hF]; kernel_rfl)
   · exact Reg.doesV_val (ev_move rfl) (by rw [hF]; kernel_rfl) (by rw [hF]; kernel_rfl)
   · exact Reg.doesV_val (ev_fa rfl (by rw [hF]; kernel_rfl) (fa_val1 w' (w.heap.size + 1))) (by rw [hF]; kernel_rfl) (by rw [hF]; kernel_rfl)
   · exact Reg.doesV_val (ev_ld rfl (by rw [hF]; kernel_rfl) byy.ldN) (by rw [hF]; kernel_rfl) (by rw [hF]; kernel_rfl)
   · exact Reg.doesV_val (by rw [ev_eqI (a := y.n) (k := -1) rfl (by rw [hF]; kernel_rfl), h37]) (by rw [hF]; kernel_rfl) (by rw [hF]; kernel_rfl)
   · exact Reg.doesV_val (ev_move rfl) (by rw [hF]; kernel_rfl) (by rw [hF]; kernel_rfl)
   · exact Reg.doesV_skip (by rw [hF]; kernel_rfl) (by rw [hF]; kernel_rfl)
   · exact Reg.doesV_skip (by rw [hF]; kernel_rfl) (by rw [hF]; kernel_rfl)
   · exact Reg.doesV_skip (by rw [hF]; kernel_rfl) (by rw [hF]; kernel_rfl)
   · exact Reg.doesV_skip (by rw [hF]; kernel_rfl) (by rw [hF]; kernel_rfl)
   · exact Reg.doesV_val (ev_pick false rfl (by rw [hF]; kernel_rfl)) (by rw [hF]; kernel_rfl) (by rw [hF]; kernel_rfl)
   · exact Reg.doesV_val (ev_pick false rfl (by rw [hF]; kernel_rfl)) (by rw [hF]; kernel_rfl) (by rw [hF]; kernel_rfl)
 intro w3 hB'
 simp only [Reg.putAll, Act.put, List.setIfInBounds_toArray, List.set_cons_zero, List.set_cons_succ]
 clear x1 y1 h27 h37
 have d1 := c1.after hB'
 have d2 := c2.after hB'
 have d3 := c3.after hB'
 have hb4 := hbb.trans (hB'.mono hbb.size)
 clear hB' c1 c2 c3 hbb
 have x1 := d1.cell1
 have y1 := d2.cell1
 have hbn : y.n ≠ 0 := by simpa using hbz
 obtain ⟨p, hp⟩ : ∃ p, wrap64 (x.n * y.n) = p := ⟨_, rfl⟩
 have Hp := Lib.hid hp
 have hq := Hq.out
 rw [hp] at hq
 clear ha
 go_wp2_with fail
 try rw [hp]
 go_region
 all_goals
  have g0 := d3.cell0
  have g1 := d3.cell1
  have g2 := d3.cell2
  have f0 := d3.frozen 0
  have f1 := d3.frozen 1
  have f2 := d3.frozen 2
  go_wp2
  exact ret_valX (a := nl) (z := .bool false) Tryz.results75 rfl rfl (d3.put nl) rfl ⟨rfl, by have h := put3_below hb4 (show w.heap.size ≤ w.heap.size + 2 by omega) nl; exact ⟨h.os, h.tape, h.output, h.size, h.block⟩⟩
set_option maxHeartbeats 2000000 in
theorem rmul_F4r (x y : Val) (w : World) (h0 : (x.k == 0 || y.k == 0) = false) (h12 : (x.k == 2 && y.k == 2) = true) (ha : (x.n == 0) = false) (hb : (y.n == 0) = false) (h27 : (x.n == -1) = false) (h37 : (y.n == -1) = false) (hq : (wrap64 ((wrap64 (x.n * y.n)).tdiv y.n) != x.n) = false) (hr : ((wrap64 (x.n * y.n)).tmod y.n != 0) = true) : Calls Tryz.prog 75 #[x.v, y.v] w fun e w' => e = .returned (.tuple #[nl.v, .bool false]) ∧ Below w.heap.size w w' := by
 have H0 := Lib.hid h0
 have H12 := Lib.hid h12
 have Ha := Lib.hid ha
 have Hb := Lib.hid hb
 have H27 := Lib.hid h27
 have H37 := Lib.hid h37
 have Hq := Lib.hid hq
 have Hr := Lib.hid hr
 clear h0 h12 ha hb h27 h37 hq hr
 go_enter Tryz.func75, Tryz.ntmps75
 go_wp2_with fail
 refine (rnulls_c x y _).mono ?_
 rintro e w1 ⟨rfl, hb1⟩
 rw [H0.out]
 have b1 : Bx w1 w.heap.size x := (((Bx.new w x).alloc _).alloc _).after hb1
 have b2 : Bx w1 (w.heap.size + 1) y := ((Bx.new1 w y _).alloc _).after hb1
 have b3 : Bx w1 (w.heap.size + 2) nl := (Bx.new2 w nl _ _).after hb1
 have hb : Below w.heap.size w w1 := (below_three _ _ _ _).trans (hb1.mono (by simp; omega))
 clear hb1
 have x0 := b1.cell0
 have x1 := b1.cell1
 have x2 := b1.cell2
 have y0 := b2.cell0
 have y1 := b2.cell1
 have y2 := b2.cell2
 go_wp2_with fail
 refine (rints_c x y _).mono ?_
 rintro e w2 ⟨rfl, hb2⟩
 rw [H12.out]
 have c1 := b1.after hb2
 have c2 := b2.after hb2
 have c3 := b3.after hb2
 have hbb := hb.trans (hb2.mono hb.size)
 clear hb2 hb x0 x1 x2 y0 y1 y2 b1 b2 b3
 have x1 := c1.cell1
 have y1 := c2.cell1
 have ha := Ha.out
 have hbz := Hb.out
 go_wp2_with fail
 have h27 := H27.out
 have h37 := H37.out
 refine Reg.wp_region_vals mixed (by kernel_rfl) [(25, .pointer (some ⟨w.heap.size, 1, none⟩)), (26, .int .i64 x.n), (27, .bool false), (28, .bool false), (29, undef), (30, undef), (31, undef), (32, undef), (33, .bool false), (34, .bool false), (35, .pointer (some ⟨w.heap.size + 1, 1, none⟩)), (36, .int .i64 y.n), (37, .bool false), (38, .bool false), (39, undef), (40, undef), (41, undef), (42, undef), (43, .bool false), (44, .bool false)] 68 rfl (by kernel_rfl) ?_ ?_
 · intro F hF w' hB'
   have bx := c1.after hB'
   have byy := c2.after hB'
   refine ⟨?_, ?_, ?_, ?_, ?_, ?_, ?_, ?_, ?_, ?_, ?_, ?_, ?_, ?_, ?_, ?_, ?_, ?_, ?_, ?_, trivial⟩
   · exact Reg.doesV_val (ev_fa rfl (by rw [hF]; kernel_rfl) (fa_val1 w' w.heap.size)) (by rw [hF]; kernel_rfl) (by rw [hF]; kernel_rfl)
   · exact Reg.doesV_val (ev_ld rfl (by rw [hF]; kernel_rfl) bx.ldN) (by rw [hF]; kernel_rfl) (by rw [hF]; kernel_rfl)
   · exact Reg.doesV_val (by rw [ev_eqI (a := x.n) (k := -1) rfl (by rw [hF]; kernel_rfl), h27]) (by rw [hF]; kernel_rfl) (by rw [hF]; kernel_rfl)
   · exact Reg.doesV_val (ev_move rfl) (by rw [hF]; kernel_rfl) (by rw [hF]; kernel_rfl)
   · exact Reg.doesV_skip (by rw [hF]; kernel_rfl) (by rw [hF]; kernel_rfl)
   · exact Reg.doesV_skip (by rw [hF]; kernel_rfl) (by rw [hF]; kernel_rfl)
   · exact Reg.doesV_skip (by rw [hF]; kernel_rfl) (by rw [hF]; kernel_rfl)
   · exact Reg.doesV_skip (by rw [hF]; kernel_rfl) (by rw [hF]; kernel_rfl)
   · exact Reg.doesV_val (ev_pick false rfl (by rw [hF]; kernel_rfl)) (by rw [hF]; kernel_rfl) (by rw [hF]; kernel_rfl)
   · exact Reg.doesV_val (ev_move rfl) (by rw [hF]; kernel_rfl) (by rw [hF]; kernel_rfl)
   · exact Reg.doesV_val (ev_fa rfl (by rw [hF]; kernel_rfl) (fa_val1 w' (w.heap.size + 1))) (by rw [hF]; kernel_rfl) (by rw [hF]; kernel_rfl)
   · exact Reg.doesV_val (ev_ld rfl (by rw [hF]; kernel_rfl) byy.ldN) (by rw [hF]; kernel_rfl) (by rw [hF]; kernel_rfl)
   · exact Reg.doesV_val (by rw [ev_eqI (a := y.n) (k := -1) rfl (by rw [hF]; kernel_rfl), h37]) (by rw [hF]; kernel_rfl) (by rw [hF]; kernel_rfl)
   · exact Reg.doesV_val (ev_move rfl) (by rw [hF]; kernel_rfl) (by rw [hF]; kernel_rfl)
   · exact Reg.doesV_skip (by rw [hF]; kernel_rfl) (by rw [hF]; kernel_rfl)
   · exact Reg.doesV_skip (by rw [hF]; kernel_rfl) (by rw [hF]; kernel_rfl)
   · exact Reg.doesV_skip (by rw [hF]; kernel_rfl) (by rw [hF]; kernel_rfl)
   · exact Reg.doesV_skip (by rw [hF]; kernel_rfl) (by rw [hF]; kernel_rfl)
   · exact Reg.doesV_val (ev_pick false rfl (by rw [hF]; kernel_rfl)) (by rw [hF]; kernel_rfl) (by rw [hF]; kernel_rfl)
   · exact Reg.doesV_val (ev_pick false rfl (by rw [hF]; kernel_rfl)) (by rw [hF]; kernel_rfl) (by rw [hF]; kernel_rfl)
 intro w3 hB'
 simp only [Reg.putAll, Act.put, List.setIfInBounds_toArray, List.set_cons_zero, List.set_cons_succ]
 clear x1 y1 h27 h37
 have d1 := c1.after hB'
 have d2 := c2.after hB'
 have d3 := c3.after hB'
 have hb4 := hbb.trans (hB'.mono hbb.size)
 clear hB' c1 c2 c3 hbb
 have x1 := d1.cell1
 have y1 := d2.cell1
 have hbn : y.n ≠ 0 := by simpa using hbz
 obtain ⟨p, hp⟩ : ∃ p, wrap64 (x.n * y.n) = p := ⟨_, rfl⟩
 have Hp := Lib.hid hp
 have hq := Hq.out
 have hr := Hr.out
 rw [hp] at hq
 rw [hp] at hr
 clear ha
 go_wp2_with fail
 try rw [hp]
 go_region
 all_goals
  have g0 := d3.cell0
  have g1 := d3.cell1
  have g2 := d3.cell2
  have f0 := d3.frozen 0
  have f1 := d3.frozen 1
  have f2 := d3.frozen 2
  go_wp2
  exact ret_valX (a := nl) (z := .bool false) Tryz.results75 rfl rfl (d3.put nl) rfl ⟨rfl, by have h := put3_below hb4 (show w.heap.size ≤ w.heap.size + 2 by omega) nl; exact ⟨h.os, h.tape, h.output, h.size, h.block⟩⟩
set_option maxHeartbeats 2000000 in
theorem rmul_F4ok (x y : Val) (w : World) (h0 : (x.k == 0 || y.k == 0) = false) (h12 : (x.k == 2 && y.k == 2) = true) (ha : (x.n == 0) = false) (hb : (y.n == 0) = false) (h27 : (x.n == -1) = false) (h37 : (y.n == -1) = false) (hq : (wrap64 ((wrap64 (x.n * y.n)).tdiv y.n) != x.n) = false) (hr : ((wrap64 (x.n * y.n)).tmod y.n != 0) = false) : Calls Tryz.prog 75 #[x.v, y.v] w fun e w' => e = .returned (.tuple #[(iv (wrap64 (x.n * y.n))).v, .bool true]) ∧ Below w.heap.size w w' := by
 have H0 := Lib.hid h0
 have H12 := Lib.hid h12
 have Ha := Lib.hid ha
 have Hb := Lib.hid hb
 have H27 := Lib.hid h27
 have H37 := Lib.hid h37
 have Hq := Lib.hid hq
 have Hr := Lib.hid hr
 clear h0 h12 ha hb h27 h37 hq hr
 go_enter Tryz.func75, Tryz.ntmps75
 go_wp2_with fail
 refine (rnulls_c x y _).mono ?_
 rintro e w1 ⟨rfl, hb1⟩
 rw [H0.out]
 have b1 : Bx w1 w.heap.size x := (((Bx.new w x).alloc _).alloc _).after hb1
 have b2 : Bx w1 (w.heap.size + 1) y := ((Bx.new1 w y _).alloc _).after hb1
 have b3 : Bx w1 (w.heap.size + 2) nl := (Bx.new2 w nl _ _).after hb1
 have hb : Below w.heap.size w w1 := (below_three _ _ _ _).trans (hb1.mono (by simp; omega))
 clear hb1
 have x0 := b1.cell0
 have x1 := b1.cell1
 have x2 := b1.cell2
 have y0 := b2.cell0
 have y1 := b2.cell1
 have y2 := b2.cell2
 go_wp2_with fail
 refine (rints_c x y _).mono ?_
 rintro e w2 ⟨rfl, hb2⟩
 rw [H12.out]
 have c1 := b1.after hb2
 have c2 := b2.after hb2
 have c3 := b3.after hb2
 have hbb := hb.trans (hb2.mono hb.size)
 clear hb2 hb x0 x1 x2 y0 y1 y2 b1 b2 b3
 have x1 := c1.cell1
 have y1 := c2.cell1
 have ha := Ha.out
 have hbz := Hb.out
 go_wp2_with fail
 have h27 := H27.out
 have h37 := H37.out
 refine Reg.wp_region_vals mixed (by kernel_rfl) [(25, .pointer (some ⟨w.heap.size, 1, none⟩)), (26, .int .i64 x.n), (27, .bool false), (28, .bool false), (29, undef), (30, undef), (31, undef), (32, undef), (33, .bool false), (34, .bool false), (35, .pointer (some ⟨w.heap.size + 1, 1, none⟩)), (36, .int .i64 y.n), (37, .bool false), (38, .bool false), (39, undef), (40, undef), (41, undef), (42, undef), (43, .bool false), (44, .bool false)] 68 rfl (by kernel_rfl) ?_ ?_
 · intro F hF w' hB'
   have bx := c1.after hB'
   have byy := c2.after hB'
   refine ⟨?_, ?_, ?_, ?_, ?_, ?_, ?_, ?_, ?_, ?_, ?_, ?_, ?_, ?_, ?_, ?_, ?_, ?_, ?_, ?_, trivial⟩
   · exact Reg.doesV_val (ev_fa rfl (by rw [hF]; kernel_rfl) (fa_val1 w' w.heap.size)) (by rw [hF]; kernel_rfl) (by rw [hF]; kernel_rfl)
   · exact Reg.doesV_val (ev_ld rfl (by rw [hF]; kernel_rfl) bx.ldN) (by rw [hF]; kernel_rfl) (by rw [hF]; kernel_rfl)
   · exact Reg.doesV_val (by rw [ev_eqI (a := x.n) (k := -1) rfl (by rw [hF]; kernel_rfl), h27]) (by rw [hF]; kernel_rfl) (by rw [hF]; kernel_rfl)
   · exact Reg.doesV_val (ev_move rfl) (by rw [hF]; kernel_rfl) (by rw [hF]; kernel_rfl)
   · exact Reg.doesV_skip (by rw [hF]; kernel_rfl) (by rw [hF]; kernel_rfl)
   · exact Reg.doesV_skip (by rw [hF]; kernel_rfl) (by rw [hF]; kernel_rfl)
   · exact Reg.doesV_skip (by rw [hF]; kernel_rfl) (by rw [hF]; kernel_rfl)
   · exact Reg.doesV_skip (by rw [hF]; kernel_rfl) (by rw [hF]; kernel_rfl)
   · exact Reg.doesV_val (ev_pick false rfl (by rw [hF]; kernel_rfl)) (by rw [hF]; kernel_rfl) (by rw [hF]; kernel_rfl)
   · exact Reg.doesV_val (ev_move rfl) (by rw [hF]; kernel_rfl) (by rw [hF]; kernel_rfl)
   · exact Reg.doesV_val (ev_fa rfl (by rw [hF]; kernel_rfl) (fa_val1 w' (w.heap.size + 1))) (by rw [hF]; kernel_rfl) (by rw [hF]; kernel_rfl)
   · exact Reg.doesV_val (ev_ld rfl (by rw [hF]; kernel_rfl) byy.ldN) (by rw [hF]; kernel_rfl) (by rw [hF]; kernel_rfl)
   · exact Reg.doesV_val (by rw [ev_eqI (a := y.n) (k := -1) rfl (by rw [hF]; kernel_rfl), h37]) (by rw [hF]; kernel_rfl) (by rw [hF]; kernel_rfl)
   · exact Reg.doesV_val (ev_move rfl) (by rw [hF]; kernel_rfl) (by rw [hF]; kernel_rfl)
   · exact Reg.doesV_skip (by rw [hF]; kernel_rfl) (by rw [hF]; kernel_rfl)
   · exact Reg.doesV_skip (by rw [hF]; kernel_rfl) (by rw [hF]; kernel_rfl)
   · exact Reg.doesV_skip (by rw [hF]; kernel_rfl) (by rw [hF]; kernel_rfl)
   · exact Reg.doesV_skip (by rw [hF]; kernel_rfl) (by rw [hF]; kernel_rfl)
   · exact Reg.doesV_val (ev_pick false rfl (by rw [hF]; kernel_rfl)) (by rw [hF]; kernel_rfl) (by rw [hF]; kernel_rfl)
   · exact Reg.doesV_val (ev_pick false rfl (by rw [hF]; kernel_rfl)) (by rw [hF]; kernel_rfl) (by rw [hF]; kernel_rfl)
 intro w3 hB'
 simp only [Reg.putAll, Act.put, List.setIfInBounds_toArray, List.set_cons_zero, List.set_cons_succ]
 clear x1 y1 h27 h37
 have d1 := c1.after hB'
 have d2 := c2.after hB'
 have d3 := c3.after hB'
 have hb4 := hbb.trans (hB'.mono hbb.size)
 clear hB' c1 c2 c3 hbb
 have x1 := d1.cell1
 have y1 := d2.cell1
 have hbn : y.n ≠ 0 := by simpa using hbz
 obtain ⟨p, hp⟩ : ∃ p, wrap64 (x.n * y.n) = p := ⟨_, rfl⟩
 have Hp := Lib.hid hp
 have hq := Hq.out
 have hr := Hr.out
 rw [hp] at hq
 rw [hp] at hr
 clear ha
 go_wp2_with fail
 try rw [hp]
 go_region
 all_goals
  go_wp2_with fail
  refine (rint_c _ _).mono ?_
  rintro e w5 ⟨rfl, hb5⟩
  have e3 : Bx w5 (w.heap.size + 2) nl := Bx.after (w := w3.drew) d3 hb5
  have hb4d : Below w.heap.size w w3.drew := ⟨hb4.os, hb4.tape, hb4.output, hb4.size, hb4.block⟩
  have hb6 : Below w.heap.size w w5 := hb4d.trans (hb5.mono hb4.size)
  obtain ⟨R, hR2⟩ : ∃ R, iv p = R := ⟨_, rfl⟩
  have HR := Lib.hid (show iv (wrap64 (x.n * y.n)) = R by rw [hp]; exact hR2)
  rw [hR2]
  clear hb5 x1 y1 d1 d2 d3 hq hr hp hR2 hb4d
  have g0 := e3.cell0
  have g1 := e3.cell1
  have g2 := e3.cell2
  have f0 := e3.frozen 0
  have f1 := e3.frozen 1
  have f2 := e3.frozen 2
  go_wp2
  exact ret_valX (a := R) (z := .bool true) Tryz.results75 rfl rfl (e3.put R) rfl ⟨by rw [HR.out], put3_below hb6 (by omega) R⟩
theorem rmul_rest (x y : Val) (w : World) (h0 : (x.k == 0 || y.k == 0) = false) (h12 : (x.k == 2 && y.k == 2) = true) (hx : I6n x.n) (hy : I6n y.n) (ha : (x.n == 0) = false) (hb : (y.n == 0) = false) (hA : (x.n == -1 && y.n == -9223372036854775808) = false) (hB : (y.n == -1 && x.n == -9223372036854775808) = false) :
 Calls Tryz.prog 75 #[x.v, y.v] w fun e w' => e = .returned (.tuple #[(mulR (iv x.n) (iv y.n)).1.v, .bool (mulR (iv x.n) (iv y.n)).2]) ∧ Below w.heap.size w w' := by
 have go : ∀ (q r : Bool), (wrap64 ((wrap64 (x.n * y.n)).tdiv y.n) != x.n) = q → ((wrap64 (x.n * y.n)).tmod y.n != 0) = r → Calls Tryz.prog 75 #[x.v, y.v] w fun e w' => e = .returned (.tuple #[(if q || r then nl else iv (wrap64 (x.n * y.n))).v, .bool (!(q || r))]) ∧ Below w.heap.size w w' := by
  intro q r hq hr
  cases h27 : (x.n == -1)
  · cases h37 : (y.n == -1)
    · cases q
      · cases r
        · exact rmul_F4ok x y w h0 h12 ha hb h27 h37 hq hr
        · exact rmul_F4r x y w h0 h12 ha hb h27 h37 hq hr
      · exact rmul_F4q x y w h0 h12 ha hb h27 h37 hq
    · have h42 : (x.n == -9223372036854775808) = false := by rw [h37] at hB; simpa using hB
      cases q
      · cases r
        · exact rmul_F3ok x y w h0 h12 ha hb h27 h37 h42 hq hr
        · exact rmul_F3r x y w h0 h12 ha hb h27 h37 h42 hq hr
      · exact rmul_F3q x y w h0 h12 ha hb h27 h37 h42 hq
  · have h32 : (y.n == -9223372036854775808) = false := by rw [h27] at hA; simpa using hA
    cases h37 : (y.n == -1)
    · cases q
      · cases r
        · exact rmul_F2ok x y w h0 h12 ha hb h27 h32 h37 hq hr
        · exact rmul_F2r x y w h0 h12 ha hb h27 h32 h37 hq hr
      · exact rmul_F2q x y w h0 h12 ha hb h27 h32 h37 hq
    · have h42 : (x.n == -9223372036854775808) = false := by rw [h37] at hB; simpa using hB
      cases q
      · cases r
        · exact rmul_F1ok x y w h0 h12 ha hb h27 h32 h37 h42 hq hr
        · exact rmul_F1r x y w h0 h12 ha hb h27 h32 h37 h42 hq hr
      · exact rmul_F1q x y w h0 h12 ha hb h27 h32 h37 h42 hq
 by_cases h : I6n (x.n * y.n)
 · obtain ⟨e1, e2, e3⟩ := quo_in x.n y.n hx hb h
   rw [mul_in hy h]
   have := go false false (by rw [e1, e2]; simp) (by rw [e1, e3]; rfl)
   rw [e1] at this
   exact this
 · rw [mul_out hx h]
   have := go true ((wrap64 (x.n * y.n)).tmod y.n != 0) (by rw [bne, quo_out x.n y.n hy hb hB h]; rfl) rfl
   exact this
theorem rmul_c (x y : Val) (w : World) (hx : I6n x.n) (hy : I6n y.n) : Calls Tryz.prog 75 #[x.v, y.v] w fun e w' => e = .returned (.tuple #[(mulR x y).1.v, .bool (mulR x y).2]) ∧ Below w.heap.size w w' := by
 cases h0 : (x.k == 0 || y.k == 0)
 · cases h12 : (x.k == 2 && y.k == 2)
   · unfold mulR
     rw [comp_none x y _ _ h0 h12]
     exact rmul_I x y w h0 h12
   · rw [mulR_ints x y h0 h12]
     cases ha : (x.n == 0)
     · cases hb : (y.n == 0)
       · cases hA : (x.n == -1 && y.n == -9223372036854775808)
         · cases hB : (y.n == -1 && x.n == -9223372036854775808)
           · exact rmul_rest x y w h0 h12 hx hy ha hb hA hB
           · have h1 := hB
             simp only [Bool.and_eq_true] at h1
             have hn : ¬ I6n (x.n * y.n) := by
              have e1 : y.n = -1 := by simpa using h1.1
              have e2 : x.n = -9223372036854775808 := by simpa using h1.2
              rw [e1, e2]; unfold I6n; omega
             rw [mul_out hx hn]
             have h27 : (x.n == -1) = false := by
              have e2 : x.n = -9223372036854775808 := by simpa using h1.2
              rw [e2]; rfl
             exact rmul_B x y w h0 h12 ha hb h27 h1.1 h1.2
         · have h1 := hA
           simp only [Bool.and_eq_true] at h1
           have hn : ¬ I6n (x.n * y.n) := by
            have e1 : x.n = -1 := by simpa using h1.1
            have e2 : y.n = -9223372036854775808 := by simpa using h1.2
            rw [e1, e2]; unfold I6n; omega
           rw [mul_out hx hn]
           exact rmul_A x y w h0 h12 ha hb h1.1 h1.2
       · have e : y.n = 0 := by simpa using hb
         rw [mul_in hy (by rw [e, Int.mul_zero]; unfold in64; omega), e, Int.mul_zero]
         exact rmul_Z2 x y w h0 h12 ha hb
     · have e : x.n = 0 := by simpa using ha
       rw [mul_in hy (by rw [e, Int.zero_mul]; unfold in64; omega), e, Int.zero_mul]
       exact rmul_Z1 x y w h0 h12 ha
 · unfold mulR
   rw [comp_nulls x y _ _ h0]
   exact rmul_null x y w h0
end Go.Proofs.YtbpopkgpepmlcaaGreat
