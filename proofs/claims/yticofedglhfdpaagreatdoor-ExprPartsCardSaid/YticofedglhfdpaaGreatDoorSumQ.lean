/-
  Add, Sub and Mul of any two values: what they return, told by the sum, difference or product of their numbers as 64 bits hold it, and whether it fits.
-/
import Derived.Test.YticofedglhfdpaaGreatDoorNotP
namespace Go.Proofs.YticofedglhfdpaaGreatDoor
open Go Go.RowKit

theorem ret_val2 {fn : Func} {R : Ending → World → Prop} {F : Act} {w : World} {t u : Tmp} {b : Nat} {a : Val} {ok : Bool} (hres : fn.results = #[.cell t 31, .tmp u]) (ht : Reg.slot F t = .pointer (some ⟨b, 0, none⟩)) (hu : Reg.slot F u = .bool ok) (hb : Bx w b a) (hd : F.defers = [])
    (hR : R (.returned (.tuple #[a.v, .bool ok])) w) : bodyPost Tryz.prog fn R .ret F w := by
  have h0 := hb.cell0
  have h1 := hb.cell1
  have h2 := hb.cell2
  refine bodyPost_ret (v := .tuple #[a.v, .bool ok]) ?_ hd hR
  have ht' : F.tmps[t]?.getD undef = .pointer (some ⟨b, 0, none⟩) := by simpa [Reg.slot] using ht
  have hu' : F.tmps[u]?.getD undef = .bool ok := by simpa [Reg.slot] using hu
  simp [results, hres, ht', hu', go_sem, h0, h1, h2]

/-- What is computed of two values, if r is the number, and fits says whether it fits. -/
def comp (x y : Val) (r : Int) (fits : Bool) : Val × Bool :=
  if x.k == 0 || y.k == 0 then (nl, true) else if x.k != 2 || y.k != 2 then (nl, false) else if fits then (iv r, true) else (nl, false)

theorem Bx.new2 (w : World) (a : Val) (o o' : Obj) : Bx (((w.alloc o).alloc o').alloc (.cells #[.int .i64 a.k, .int .i64 a.n, .string a.s] 31)) (w.heap.size + 2) a := by
  have := Bx.new ((w.alloc o).alloc o') a
  simpa using this
theorem below_three (w : World) (o o' o'' : Obj) : Below w.heap.size w (((w.alloc o).alloc o').alloc o'') := ((below_one _ _).alloc (by simp) _).alloc (by simp; omega) _

set_option maxHeartbeats 400000 in
theorem compute_null (x y : Val) (fv : Value) (w : World) (h : (x.k == 0 || y.k == 0) = true) :
    Calls Tryz.prog 74 #[x.v, y.v, fv] w fun e w' => e = .returned (.tuple #[nl.v, .bool true]) ∧ Below w.heap.size w w' := by
  cases h1 : x.k == 0
  · have h2 : (y.k == 0) = true := by rw [h1] at h; exact h
    clear h
    go_enter Tryz.func74, Tryz.ntmps74
    go_wp2
    exact ret_val2 (a := nl) Tryz.results74 rfl rfl (Bx.new2 w nl _ _) rfl ⟨rfl, below_three _ _ _ _⟩
  · clear h
    go_enter Tryz.func74, Tryz.ntmps74
    go_wp2
    exact ret_val2 (a := nl) Tryz.results74 rfl rfl (Bx.new2 w nl _ _) rfl ⟨rfl, below_three _ _ _ _⟩
set_option maxHeartbeats 400000 in
theorem compute_kind (x y : Val) (fv : Value) (w : World) (h0 : (x.k == 0) = false) (h0' : (y.k == 0) = false) (h : (x.k != 2 || y.k != 2) = true) :
    Calls Tryz.prog 74 #[x.v, y.v, fv] w fun e w' => e = .returned (.tuple #[nl.v, .bool false]) ∧ Below w.heap.size w w' := by
  cases h1 : x.k != 2
  · have h2 : (y.k != 2) = true := by rw [h1] at h; exact h
    clear h
    go_enter Tryz.func74, Tryz.ntmps74
    go_wp2
    exact ret_val2 (a := nl) Tryz.results74 rfl rfl (Bx.new2 w nl _ _) rfl ⟨rfl, below_three _ _ _ _⟩
  · clear h
    go_enter Tryz.func74, Tryz.ntmps74
    go_wp2
    exact ret_val2 (a := nl) Tryz.results74 rfl rfl (Bx.new2 w nl _ _) rfl ⟨rfl, below_three _ _ _ _⟩
set_option maxHeartbeats 400000 in
theorem compute_ints (x y : Val) (f : FuncId) (p q : Value) (r : Int) (fits : Bool) (w : World) (h0 : (x.k == 0) = false) (h0' : (y.k == 0) = false) (h : (x.k != 2) = false) (h' : (y.k != 2) = false)
    (hE : ∀ args w, (callFunc f args).run Tryz.prog w = .ok (.enter f args) w)
    (hf : ∀ w1, Below w.heap.size w w1 → Calls Tryz.prog f #[p, q] w1 fun e w' => e = .returned (.tuple #[.int .i64 r, .bool fits]) ∧ Below w1.heap.size w1 w') :
    Calls Tryz.prog 74 #[x.v, y.v, .func (.func f) #[] #[p, q]] w fun e w' => e = .returned (.tuple #[(if fits then iv r else nl).v, .bool fits]) ∧ Below w.heap.size w w' := by
  have Hf := Lib.hid hf
  clear hf
  go_enter Tryz.func74, Tryz.ntmps74
  go_wp2_with fail
  refine (Hf.out _ (below_three _ _ _ _)).mono ?_
  rintro e w1 ⟨rfl, hb1⟩
  have r1 : Bx w1 (w.heap.size + 2) nl := (Bx.new2 w nl _ _).below hb1 (by simp)
  have hb : Below w.heap.size w w1 := (below_three _ _ _ _).trans (hb1.mono (by simp; omega))
  clear hb1
  have g0 := r1.cell0
  have g1 := r1.cell1
  have g2 := r1.cell2
  have f0 := r1.frozen 0
  have f1 := r1.frozen 1
  have f2 := r1.frozen 2
  cases fits
  · go_wp2
    rw [put3_fold]
    exact ret_val2 (a := nl) Tryz.results74 rfl rfl (r1.put nl) rfl ⟨rfl, put3_below hb (by omega) nl⟩
  · go_wp2
    rw [put3_fold]
    exact ret_val2 (a := iv r) Tryz.results74 rfl rfl (r1.put (iv r)) rfl ⟨rfl, put3_below hb (by omega) (iv r)⟩

theorem compute_c (x y : Val) (f : FuncId) (p q : Value) (r : Int) (fits : Bool) (w : World)
    (hE : ∀ args w, (callFunc f args).run Tryz.prog w = .ok (.enter f args) w)
    (hf : ∀ w1, Below w.heap.size w w1 → Calls Tryz.prog f #[p, q] w1 fun e w' => e = .returned (.tuple #[.int .i64 r, .bool fits]) ∧ Below w1.heap.size w1 w') :
    Calls Tryz.prog 74 #[x.v, y.v, .func (.func f) #[] #[p, q]] w fun e w' => e = .returned (.tuple #[(comp x y r fits).1.v, .bool (comp x y r fits).2]) ∧ Below w.heap.size w w' := by
  cases h : x.k == 0 || y.k == 0
  · obtain ⟨h0, h0'⟩ := Bool.or_eq_false_iff.1 h
    cases h2 : x.k != 2 || y.k != 2
    · obtain ⟨h3, h3'⟩ := Bool.or_eq_false_iff.1 h2
      have e : comp x y r fits = (if fits then iv r else nl, fits) := by
        simp only [comp, h, h2, Bool.false_eq_true, if_false]; cases fits <;> rfl
      rw [e]
      exact compute_ints x y f p q r fits w h0 h0' h3 h3' hE hf
    · have e : comp x y r fits = (nl, false) := by
        simp only [comp, h, h2, Bool.false_eq_true, if_false, if_true]
      rw [e]
      exact compute_kind x y _ w h0 h0' h2
  · have e : comp x y r fits = (nl, true) := by simp only [comp, h, if_true]
    rw [e]
    exact compute_null x y _ w h


set_option maxHeartbeats 400000 in
theorem add1_c (x y : Val) (b c : Nat) (w : World) (hx : Bx w b x) (hy : Bx w c y) :
    Calls Tryz.prog 75 #[.pointer (some ⟨b, 0, none⟩), .pointer (some ⟨c, 0, none⟩)] w fun e w' => e = .returned (.tuple #[.int .i64 (wrap64 (x.n + y.n)), .bool (decide (x.n < wrap64 (x.n + y.n)) == decide (0 < y.n))]) ∧ Below w.heap.size w w' := by
  have x1 := hx.cell1
  have y1 := hy.cell1
  clear hx hy
  go_enter Tryz.func75, Tryz.ntmps75
  go_wp2_with fail
  go_quiet (fail)
  go_wp2
  go_ret2
  exact ⟨rfl, ⟨rfl, rfl, rfl, Nat.le_refl _, fun _ _ => rfl⟩⟩

set_option maxHeartbeats 400000 in
theorem sub1_c (x y : Val) (b c : Nat) (w : World) (hx : Bx w b x) (hy : Bx w c y) :
    Calls Tryz.prog 76 #[.pointer (some ⟨b, 0, none⟩), .pointer (some ⟨c, 0, none⟩)] w fun e w' => e = .returned (.tuple #[.int .i64 (wrap64 (x.n - y.n)), .bool (decide (wrap64 (x.n - y.n) < x.n) == decide (0 < y.n))]) ∧ Below w.heap.size w w' := by
  have x1 := hx.cell1
  have y1 := hy.cell1
  clear hx hy
  go_enter Tryz.func76, Tryz.ntmps76
  go_wp2_with fail
  go_quiet (fail)
  go_wp2
  go_ret2
  exact ⟨rfl, ⟨rfl, rfl, rfl, Nat.le_refl _, fun _ _ => rfl⟩⟩

/-- Whether the product fits, as the program has it; and the product. -/
def mulFits (a b : Int) : Bool := if a == 0 then true else if a == -1 && b == -9223372036854775808 then false else wrap64 ((wrap64 (a * b)).tdiv a) == b
def mulIs (a b : Int) : Int := if a == 0 then 0 else if a == -1 && b == -9223372036854775808 then 0 else wrap64 (a * b)
set_option maxHeartbeats 400000 in
theorem mul1_zero (x : Val) (b c : Nat) (w : World) (hx : Bx w b x) (h0 : (x.n == 0) = true) :
    Calls Tryz.prog 77 #[.pointer (some ⟨b, 0, none⟩), .pointer (some ⟨c, 0, none⟩)] w fun e w' => e = .returned (.tuple #[.int .i64 0, .bool true]) ∧ Below w.heap.size w w' := by
  have x1 := hx.cell1
  clear hx
  go_enter Tryz.func77, Tryz.ntmps77
  go_wp2
  go_ret2
  exact ⟨rfl, Below.refl _ _⟩
set_option maxHeartbeats 400000 in
theorem mul1_min (x y : Val) (b c : Nat) (w : World) (hx : Bx w b x) (hy : Bx w c y) (h0 : (x.n == 0) = false) (h1 : (x.n == -1) = true) (h2 : (y.n == -9223372036854775808) = true) :
    Calls Tryz.prog 77 #[.pointer (some ⟨b, 0, none⟩), .pointer (some ⟨c, 0, none⟩)] w fun e w' => e = .returned (.tuple #[.int .i64 0, .bool false]) ∧ Below w.heap.size w w' := by
  have x1 := hx.cell1
  have y1 := hy.cell1
  clear hx hy
  go_enter Tryz.func77, Tryz.ntmps77
  go_wp2
  go_ret2
  exact ⟨rfl, Below.refl _ _⟩
set_option maxHeartbeats 400000 in
theorem mul1_some (x y : Val) (b c : Nat) (w : World) (hx : Bx w b x) (hy : Bx w c y) (h0 : (x.n == 0) = false) (h12 : (x.n == -1 && y.n == -9223372036854775808) = false) :
    Calls Tryz.prog 77 #[.pointer (some ⟨b, 0, none⟩), .pointer (some ⟨c, 0, none⟩)] w fun e w' => e = .returned (.tuple #[.int .i64 (wrap64 (x.n * y.n)), .bool (wrap64 ((wrap64 (x.n * y.n)).tdiv x.n) == y.n)]) ∧ Below w.heap.size w w' := by
  have x1 := hx.cell1
  have y1 := hy.cell1
  clear hx hy
  have hne : x.n ≠ 0 := by simpa using h0
  cases h1 : x.n == -1
  · clear h12
    go_enter Tryz.func77, Tryz.ntmps77
    go_wp2_with fail
    go_quiet (fail)
    go_wp2
    go_ret2
    exact ⟨rfl, ⟨rfl, rfl, rfl, Nat.le_refl _, fun _ _ => rfl⟩⟩
  · have h2 : (y.n == -9223372036854775808) = false := by rw [h1] at h12; exact h12
    clear h12
    go_enter Tryz.func77, Tryz.ntmps77
    go_wp2_with fail
    go_quiet (fail)
    go_wp2
    go_ret2
    exact ⟨rfl, ⟨rfl, rfl, rfl, Nat.le_refl _, fun _ _ => rfl⟩⟩
theorem mul1_c (x y : Val) (b c : Nat) (w : World) (hx : Bx w b x) (hy : Bx w c y) :
    Calls Tryz.prog 77 #[.pointer (some ⟨b, 0, none⟩), .pointer (some ⟨c, 0, none⟩)] w fun e w' => e = .returned (.tuple #[.int .i64 (mulIs x.n y.n), .bool (mulFits x.n y.n)]) ∧ Below w.heap.size w w' := by
  unfold mulIs mulFits
  cases h0 : x.n == 0
  · cases h12 : x.n == -1 && y.n == -9223372036854775808
    · exact mul1_some x y b c w hx hy h0 h12
    · obtain ⟨h1, h2⟩ := Bool.and_eq_true_iff.1 h12
      exact mul1_min x y b c w hx hy h0 h1 h2
  · exact mul1_zero x b c w hx h0

theorem enAdd : ∀ args w, (callFunc 75 args).run Tryz.prog w = .ok (.enter 75 args) w := fun _ _ => by kernel_rfl
def addR (x y : Val) : Val × Bool := comp x y (wrap64 (x.n + y.n)) (decide (x.n < wrap64 (x.n + y.n)) == decide (0 < y.n))
set_option maxHeartbeats 400000 in
theorem add_c (x y : Val) (w : World) :
    Calls Tryz.prog 60 #[x.v, y.v] w fun e w' => e = .returned (.tuple #[(addR x y).1.v, .bool (addR x y).2]) ∧ Below w.heap.size w w' := by
  obtain ⟨R, hR⟩ : ∃ R, addR x y = R := ⟨_, rfl⟩
  have HR := Lib.hid hR
  rw [hR]
  clear hR
  have hmf : ∀ (fn : Fn) (first cap : Array Value) (w : World), (Instr.makeFunc fn first cap).run Tryz.prog w = .ok (.func fn first cap) w := fun _ _ _ _ => rfl
  go_enter Tryz.func60, Tryz.ntmps60
  go_wp2_with fail
  refine (compute_c x y 75 _ _ (wrap64 (x.n + y.n)) (decide (x.n < wrap64 (x.n + y.n)) == decide (0 < y.n)) _ enAdd ?_).mono ?_
  · intro w1 hb1
    exact add1_c x y _ _ w1 ((((Bx.new w x).alloc _).alloc _).after hb1) ((((Bx.new1 w y _)).alloc _).after hb1)
  rintro e w1 ⟨rfl, hb1⟩
  have hrr : comp x y (wrap64 (x.n + y.n)) (decide (x.n < wrap64 (x.n + y.n)) == decide (0 < y.n)) = R := HR.out
  rw [hrr]
  clear hrr
  have r1 : Bx w1 (w.heap.size + 2) nl := (Bx.new2 w nl _ _).below hb1 (by simp)
  have hb : Below w.heap.size w w1 := (below_three _ _ _ _).trans (hb1.mono (by simp; omega))
  clear hb1
  obtain ⟨rv, ok⟩ := R
  have g0 := r1.cell0
  have g1 := r1.cell1
  have g2 := r1.cell2
  have f0 := r1.frozen 0
  have f1 := r1.frozen 1
  have f2 := r1.frozen 2
  go_wp2
  rw [put3_fold]
  exact ret_val2 (a := rv) Tryz.results60 rfl rfl (r1.put rv) rfl ⟨rfl, put3_below hb (by omega) rv⟩

theorem enSub : ∀ args w, (callFunc 76 args).run Tryz.prog w = .ok (.enter 76 args) w := fun _ _ => by kernel_rfl
def subR (x y : Val) : Val × Bool := comp x y (wrap64 (x.n - y.n)) (decide (wrap64 (x.n - y.n) < x.n) == decide (0 < y.n))
set_option maxHeartbeats 400000 in
theorem sub_c (x y : Val) (w : World) :
    Calls Tryz.prog 61 #[x.v, y.v] w fun e w' => e = .returned (.tuple #[(subR x y).1.v, .bool (subR x y).2]) ∧ Below w.heap.size w w' := by
  obtain ⟨R, hR⟩ : ∃ R, subR x y = R := ⟨_, rfl⟩
  have HR := Lib.hid hR
  rw [hR]
  clear hR
  have hmf : ∀ (fn : Fn) (first cap : Array Value) (w : World), (Instr.makeFunc fn first cap).run Tryz.prog w = .ok (.func fn first cap) w := fun _ _ _ _ => rfl
  go_enter Tryz.func61, Tryz.ntmps61
  go_wp2_with fail
  refine (compute_c x y 76 _ _ (wrap64 (x.n - y.n)) (decide (wrap64 (x.n - y.n) < x.n) == decide (0 < y.n)) _ enSub ?_).mono ?_
  · intro w1 hb1
    exact sub1_c x y _ _ w1 ((((Bx.new w x).alloc _).alloc _).after hb1) ((((Bx.new1 w y _)).alloc _).after hb1)
  rintro e w1 ⟨rfl, hb1⟩
  have hrr : comp x y (wrap64 (x.n - y.n)) (decide (wrap64 (x.n - y.n) < x.n) == decide (0 < y.n)) = R := HR.out
  rw [hrr]
  clear hrr
  have r1 : Bx w1 (w.heap.size + 2) nl := (Bx.new2 w nl _ _).below hb1 (by simp)
  have hb : Below w.heap.size w w1 := (below_three _ _ _ _).trans (hb1.mono (by simp; omega))
  clear hb1
  obtain ⟨rv, ok⟩ := R
  have g0 := r1.cell0
  have g1 := r1.cell1
  have g2 := r1.cell2
  have f0 := r1.frozen 0
  have f1 := r1.frozen 1
  have f2 := r1.frozen 2
  go_wp2
  rw [put3_fold]
  exact ret_val2 (a := rv) Tryz.results61 rfl rfl (r1.put rv) rfl ⟨rfl, put3_below hb (by omega) rv⟩

theorem enMul : ∀ args w, (callFunc 77 args).run Tryz.prog w = .ok (.enter 77 args) w := fun _ _ => by kernel_rfl
def mulR (x y : Val) : Val × Bool := comp x y (mulIs x.n y.n) (mulFits x.n y.n)
set_option maxHeartbeats 400000 in
theorem mul_c (x y : Val) (w : World) :
    Calls Tryz.prog 62 #[x.v, y.v] w fun e w' => e = .returned (.tuple #[(mulR x y).1.v, .bool (mulR x y).2]) ∧ Below w.heap.size w w' := by
  obtain ⟨R, hR⟩ : ∃ R, mulR x y = R := ⟨_, rfl⟩
  have HR := Lib.hid hR
  rw [hR]
  clear hR
  have hmf : ∀ (fn : Fn) (first cap : Array Value) (w : World), (Instr.makeFunc fn first cap).run Tryz.prog w = .ok (.func fn first cap) w := fun _ _ _ _ => rfl
  go_enter Tryz.func62, Tryz.ntmps62
  go_wp2_with fail
  refine (compute_c x y 77 _ _ (mulIs x.n y.n) (mulFits x.n y.n) _ enMul ?_).mono ?_
  · intro w1 hb1
    exact mul1_c x y _ _ w1 ((((Bx.new w x).alloc _).alloc _).after hb1) ((((Bx.new1 w y _)).alloc _).after hb1)
  rintro e w1 ⟨rfl, hb1⟩
  have hrr : comp x y (mulIs x.n y.n) (mulFits x.n y.n) = R := HR.out
  rw [hrr]
  clear hrr
  have r1 : Bx w1 (w.heap.size + 2) nl := (Bx.new2 w nl _ _).below hb1 (by simp)
  have hb : Below w.heap.size w w1 := (below_three _ _ _ _).trans (hb1.mono (by simp; omega))
  clear hb1
  obtain ⟨rv, ok⟩ := R
  have g0 := r1.cell0
  have g1 := r1.cell1
  have g2 := r1.cell2
  have f0 := r1.frozen 0
  have f1 := r1.frozen 1
  have f2 := r1.frozen 2
  go_wp2
  rw [put3_fold]
  exact ret_val2 (a := rv) Tryz.results62 rfl rfl (r1.put rv) rfl ⟨rfl, put3_below hb (by omega) rv⟩
end Go.Proofs.YticofedglhfdpaaGreatDoor
