/-
  Part 2 of 6 of what the proof leans on: each part below says what it proves, and of what; no condition besides.
-/
import Derived.Test.YtbpopkgpepmlcaaQ01
import Derived.Deep.RegionHeld3
set_option linter.unusedVariables false
set_option linter.unusedSimpArgs false
namespace Go.Proofs.Ytbpopkgpepmlcaa
open Go Go.RowKit
set_option maxRecDepth 100000
theorem ev_index {F : Act} {w : World} {t u : Tmp} {b off n c k : Nat} {o : Oper} (hk : k < n) (ho : o.op = .indexAddr 43 (.tmp t) (.tmp u)) (ht : Reg.slot F t = .slice (some ⟨b, off, none⟩) n c) (hu : Reg.slot F u = .int .i64 k) :
 (execOp F.eval o).run Try.prog w = .ok (.value (.pointer (some ⟨b, off + k * 3, none⟩))) w := by
 have e1 : F.eval (.tmp t) = .slice (some ⟨b, off, none⟩) n c := ht
 have e2 : F.eval (.tmp u) = .int .i64 k := hu
 have e0 : (execOp F.eval o).run Try.prog w = ((Instr.indexAt 43 (.slice (some ⟨b, off, none⟩) n c) (.int .i64 k)).run Try.prog w).andThen fun v w' => .ok (.value v) w' := by
  simp only [execOp, ho, e1, e2, Sem.run_bind, Sem.run_pure]
 rw [e0]
 go_simp
theorem ev_load3 {F : Act} {w : World} {b off : Nat} {a : Val} {t : Tmp} {o : Oper} (h0 : w.cell? ⟨b, off, none⟩ = some (.int .i64 a.k)) (h1 : w.cell? ⟨b, off + 1, none⟩ = some (.int .i64 a.n)) (h2 : w.cell? ⟨b, off + 2, none⟩ = some (.string a.s))
 (ho : o.op = .load 48 (.tmp t)) (ht : Reg.slot F t = .pointer (some ⟨b, off, none⟩)) :
 (execOp F.eval o).run Try.prog w = .ok (.value a.v) w := by
 have e : F.eval (.tmp t) = .pointer (some ⟨b, off, none⟩) := ht
 have e0 : (execOp F.eval o).run Try.prog w = ((Instr.loadAt 48 (.pointer (some ⟨b, off, none⟩))).run Try.prog w).andThen fun v w' => .ok (.value v) w' := by
  simp only [execOp, ho, e, Sem.run_bind, Sem.run_pure]
 rw [e0]
 go_simp
theorem enrCompare : ∀ args w, (callFunc 38 args).run Try.prog w = .ok (.enter 38 args) w := fun _ _ => by kernel_rfl
set_option maxHeartbeats 2000000 in
theorem rcompareL_c (A B : Option Addr) (n m c d : Nat) (xs ys : List Val) (w : World) (hn : xs.length = n) (hm : ys.length = m) (hn1 : n ≤ maxLen) (hm1 : m ≤ maxLen) (hs : Sl w A xs) (ht : Sl w B ys) :
 Calls Try.prog 24 #[.slice A n c, .slice B m d] w fun e w' => e = .returned (.int .i64 (cmpL xs ys)) ∧ Below w.heap.size w w' := by
 unfold maxLen at hn1 hm1
 have Hn := Lib.hid hn
 have Hm := Lib.hid hm
 have Hs := Lib.hid hs
 have Ht := Lib.hid ht
 clear hn hm hs ht
 go_enter Try.func24, Try.ntmps24
 go_wp2_with fail
 go_loopw [5] (fun i wr => ∃ k : Nat, k ≤ n ∧ k ≤ m ∧ i = .int .i64 k ∧ Below w.heap.size w wr ∧ Hid (cmpL (xs.drop k) (ys.drop k) = cmpL xs ys)) (fun i _ => n - (intOf i).toNat)
 case atStart => exact ⟨0, Nat.zero_le _, Nat.zero_le _, rfl, Below.refl _ _, rfl⟩
 case round =>
  obtain ⟨k, hk, hkm, rfl, hb, hinv⟩ := hrel
  by_cases hlt : k < n
  · by_cases hlt2 : k < m
    · obtain ⟨b, off, x, rfl, hblt, hx, c0, c1, c2⟩ := Hs.out.at (by rw [Hn.out]; exact hlt)
      have d0 : Hid _ := (hb.cell (p := ⟨b, off + k * 3, none⟩) hblt).trans c0
      have d1 : Hid _ := (hb.cell (p := ⟨b, off + k * 3 + 1, none⟩) hblt).trans c1
      have d2 : Hid _ := (hb.cell (p := ⟨b, off + k * 3 + 2, none⟩) hblt).trans c2
      have Hx := Lib.hid hx
      clear c0 c1 c2 hx
      have l1 := hb.size
      obtain ⟨b', off', y, rfl, hblt', hy, c0, c1, c2⟩ := Ht.out.at (by rw [Hm.out]; exact hlt2)
      have d3 : Hid _ := (hb.cell (p := ⟨b', off' + k * 3, none⟩) hblt').trans c0
      have d4 : Hid _ := (hb.cell (p := ⟨b', off' + k * 3 + 1, none⟩) hblt').trans c1
      have d5 : Hid _ := (hb.cell (p := ⟨b', off' + k * 3 + 2, none⟩) hblt').trans c2
      have Hy := Lib.hid hy
      clear c0 c1 c2 hy
      have l2 : b' < wr.heap.size := by omega
      have l3 : b < wr.heap.size := by omega
      have hstep := cmpL_drop xs ys k x y Hx.out Hy.out
      have Hst := Lib.hid (hstep.symm.trans hinv.out)
      clear hstep hinv
      go_wp2_with fail
      refine Reg.wp_region_vals mixed (by kernel_rfl) [(19, .slice (some ⟨b, off, none⟩) n c), (20, .int .i64 k), (21, .pointer (some ⟨b, off + k * 3, none⟩)), (22, x.v), (23, .slice (some ⟨b', off', none⟩) m d), (24, .int .i64 k), (25, .pointer (some ⟨b', off' + k * 3, none⟩)), (26, y.v), (27, .int .i64 (cmpV x y)), (6, .int .i64 (cmpV x y))] 41 rfl (by kernel_rfl) ?_ ?_
      · intro F hF w' hB
        have e0 := (hB.cell (p := ⟨b, off + k * 3, none⟩) l3).trans d0.out
        have e1 := (hB.cell (p := ⟨b, off + k * 3 + 1, none⟩) l3).trans d1.out
        have e2 := (hB.cell (p := ⟨b, off + k * 3 + 2, none⟩) l3).trans d2.out
        have e3 := (hB.cell (p := ⟨b', off' + k * 3, none⟩) l2).trans d3.out
        have e4 := (hB.cell (p := ⟨b', off' + k * 3 + 1, none⟩) l2).trans d4.out
        have e5 := (hB.cell (p := ⟨b', off' + k * 3 + 2, none⟩) l2).trans d5.out
        refine ⟨?_, ?_, ?_, ?_, ?_, ?_, ?_, ?_, ?_, ?_, trivial⟩
        · exact Reg.doesV_val (ev_move rfl) (by rw [hF]; kernel_rfl) (by rw [hF]; kernel_rfl)
        · exact Reg.doesV_val (ev_move rfl) (by rw [hF]; kernel_rfl) (by rw [hF]; kernel_rfl)
        · exact Reg.doesV_val (ev_index (b := b) (off := off) (c := c) hlt rfl (by rw [hF]; kernel_rfl) (by rw [hF]; kernel_rfl)) (by rw [hF]; kernel_rfl) (by rw [hF]; kernel_rfl)
        · exact Reg.doesV_val (ev_load3 e0 e1 e2 rfl (by rw [hF]; kernel_rfl)) (by rw [hF]; kernel_rfl) (by rw [hF]; kernel_rfl)
        · exact Reg.doesV_val (ev_move rfl) (by rw [hF]; kernel_rfl) (by rw [hF]; kernel_rfl)
        · exact Reg.doesV_val (ev_move rfl) (by rw [hF]; kernel_rfl) (by rw [hF]; kernel_rfl)
        · exact Reg.doesV_val (ev_index (b := b') (off := off') (c := d) hlt2 rfl (by rw [hF]; kernel_rfl) (by rw [hF]; kernel_rfl)) (by rw [hF]; kernel_rfl) (by rw [hF]; kernel_rfl)
        · exact Reg.doesV_val (ev_load3 e3 e4 e5 rfl (by rw [hF]; kernel_rfl)) (by rw [hF]; kernel_rfl) (by rw [hF]; kernel_rfl)
        · exact Reg.doesV_call (rcompare_c x y w') (ev_call enrCompare rfl (by rw [hF]; kernel_rfl)) (by rw [hF]; kernel_rfl) (by rw [hF]; kernel_rfl)
        · exact Reg.doesV_val (ev_assign rfl) (by rw [hF]; kernel_rfl) (by rw [hF]; kernel_rfl)
      · intro w2 hB
        simp only [Reg.putAll, Act.put, List.setIfInBounds_toArray, List.set_cons_zero, List.set_cons_succ]
        have hb2 := hb.trans (hB.mono hb.size)
        clear hB hb l1 l2 l3 d0 d1 d2 d3 d4 d5
        cases hc : cmpV x y != 0
        · have Hst' : Hid (cmpL (xs.drop (k + 1)) (ys.drop (k + 1)) = cmpL xs ys) := by have := Hst.out; rw [hc] at this; exact this
          clear Hst
          go_wp2
          go_roundw
          case rel => exact ⟨k + 1, by omega, by omega, by go_num, hb2, Hst'.out⟩
          case measure => simp [intOf]; omega
        · have Hst' : Hid (cmpV x y = cmpL xs ys) := by have := Hst.out; rw [hc] at this; exact this
          clear Hst
          go_wp2
          go_ret
          exact ⟨congrArg (fun z => Ending.returned (Value.int .i64 z)) Hst'.out, hb2⟩
    · obtain rfl : k = m := by omega
      have Hst : Hid (1 = cmpL xs ys) := by
       have := hinv.out
       rw [show ys.drop k = [] from List.drop_eq_nil_of_le (by rw [Hm.out]; omega), cmpL_nil_right, if_neg (by rw [List.length_drop, Hn.out]; omega)] at this
       exact this
      clear hinv
      go_wp2
      go_ret
      exact ⟨congrArg (fun z => Ending.returned (Value.int .i64 z)) Hst.out, hb⟩
  · obtain rfl : k = n := by omega
    by_cases hlt2 : k < m
    · have Hst : Hid (-1 = cmpL xs ys) := by
       have := hinv.out
       rw [show xs.drop k = [] from List.drop_eq_nil_of_le (by rw [Hn.out]; omega), cmpL_nil_left, if_neg (by rw [List.length_drop, Hm.out]; omega)] at this
       exact this
      clear hinv
      go_wp2
      go_ret
      exact ⟨congrArg (fun z => Ending.returned (Value.int .i64 z)) Hst.out, hb⟩
    · have Hst : Hid (0 = cmpL xs ys) := by
       have := hinv.out
       rw [show xs.drop k = [] from List.drop_eq_nil_of_le (by rw [Hn.out]; omega), cmpL_nil_left, if_pos (by rw [List.length_drop, Hm.out]; omega)] at this
       exact this
      obtain rfl : k = m := by omega
      clear hinv
      go_wp2
      go_ret
      exact ⟨congrArg (fun z => Ending.returned (Value.int .i64 z)) Hst.out, hb⟩
def shortB (xs : List Val) : Bool := xs.all (fun x => decide (x.s.size ≤ 1000)) && decide (xs.length ≤ 40)
theorem all_dropV (p : Val → Bool) (xs : List Val) (k : Nat) (x : Val) (hx : xs[k]? = some x) : (xs.drop k).all p = (p x && (xs.drop (k + 1)).all p) := by
 have h1 := List.drop_eq_getElem_cons (List.getElem?_eq_some_iff.1 hx).1
 rw [(List.getElem?_eq_some_iff.1 hx).2] at h1
 rw [h1, List.all_cons]
set_option maxHeartbeats 2000000 in
theorem short_c (A : Option Addr) (n c : Nat) (xs : List Val) (w : World) (hn : xs.length = n) (hn1 : n ≤ maxLen) (hs : Sl w A xs) (hz : ∀ x ∈ xs, x.s.size ≤ maxLen) :
 Calls Try.prog 34 #[.slice A n c] w fun e w' => e = .returned (.bool (shortB xs)) ∧ Below w.heap.size w w' := by
 unfold maxLen at hn1 hz
 have Hn := Lib.hid hn
 have Hs := Lib.hid hs
 have Hz := Lib.hid hz
 clear hn hs hz
 go_enter Try.func34, Try.ntmps34
 go_wp2_with fail
 go_loop [3] (fun i => ∃ k : Nat, k ≤ n ∧ i = .int .i64 k ∧ Hid ((xs.drop k).all (fun x => decide (x.s.size ≤ 1000)) = xs.all (fun x => decide (x.s.size ≤ 1000)))) (fun i => n - (intOf i).toNat)
 case atStart => exact ⟨0, Nat.zero_le _, rfl, rfl⟩
 case round =>
  obtain ⟨k, hk, rfl, hinv⟩ := hrel
  by_cases hlt : k < n
  · obtain ⟨b, off, x, rfl, hblt, hx, c0, c1, c2⟩ := Hs.out.at (by rw [Hn.out]; exact hlt)
    have hxz := Hz.out x (List.mem_of_getElem? hx)
    have Hst := Lib.hid ((all_dropV (fun x => decide (x.s.size ≤ 1000)) xs k x hx).symm.trans hinv.out)
    clear hinv hx
    by_cases hz : x.s.size ≤ 1000
    · have hz2 : decide (1000 < (x.s.size : Int)) = false := decide_eq_false (by omega)
      have Hst' : Hid ((xs.drop (k + 1)).all (fun x => decide (x.s.size ≤ 1000)) = xs.all (fun x => decide (x.s.size ≤ 1000))) := by
       have := Hst.out
       rw [show decide (x.s.size ≤ 1000) = true from decide_eq_true hz, Bool.true_and] at this
       exact this
      clear Hst
      go_wp2
      go_round
      case rel => exact ⟨k + 1, by omega, by go_num, Hst'.out⟩
      case measure => simp [intOf]; omega
    · have hz2 : decide (1000 < (x.s.size : Int)) = true := decide_eq_true (by omega)
      have Hst' : Hid (false = shortB xs) := by
       have := Hst.out
       rw [show decide (x.s.size ≤ 1000) = false from decide_eq_false hz, Bool.false_and] at this
       unfold shortB
       rw [← this]
       rfl
      clear Hst
      go_wp2
      go_ret
      exact ⟨congrArg (fun z => Ending.returned (Value.bool z)) Hst'.out, Below.refl _ _⟩
  · obtain rfl : k = n := by omega
    have Hst' : Hid (decide ((k : Int) ≤ 40) = shortB xs) := by
     have := hinv.out
     rw [show xs.drop k = [] from List.drop_eq_nil_of_le (by rw [Hn.out]; omega)] at this
     unfold shortB
     rw [← this, Hn.out]
     simp only [List.all_nil, Bool.true_and]
     exact decide_eq_decide.2 (by omega)
    clear hinv
    go_wp2
    go_ret
    exact ⟨congrArg (fun z => Ending.returned (Value.bool z)) Hst'.out, Below.refl _ _⟩
set_option maxHeartbeats 2000000 in
theorem rmayL_c (A : Option Addr) (n c : Nat) (xs : List Val) (w : World) (hn : xs.length = n) (hn1 : n ≤ maxLen) (hs : Sl w A xs) (hz : ∀ x ∈ xs, x.s.size ≤ maxLen) :
 Calls Try.prog 37 #[.slice A n c] w fun e w' => e = .returned (.bool (xs.all rmB)) ∧ Below w.heap.size w w' := by
 unfold maxLen at hn1
 have Hn := Lib.hid hn
 have Hs := Lib.hid hs
 have Hz := Lib.hid hz
 clear hn hs hz
 go_enter Try.func37, Try.ntmps37
 go_wp2_with fail
 go_loopw [3] (fun i wr => ∃ k : Nat, k ≤ n ∧ i = .int .i64 k ∧ Below w.heap.size w wr ∧ Hid ((xs.drop k).all rmB = xs.all rmB)) (fun i _ => n - (intOf i).toNat)
 case atStart => exact ⟨0, Nat.zero_le _, rfl, Below.refl _ _, rfl⟩
 case round =>
  obtain ⟨k, hk, rfl, hb, hinv⟩ := hrel
  by_cases hlt : k < n
  · obtain ⟨b, off, x, rfl, hblt, hx, c0, c1, c2⟩ := Hs.out.at (by rw [Hn.out]; exact hlt)
    have d0 := (hb.cell (p := ⟨b, off + k * 3, none⟩) hblt).trans c0
    have d1 := (hb.cell (p := ⟨b, off + k * 3 + 1, none⟩) hblt).trans c1
    have d2 := (hb.cell (p := ⟨b, off + k * 3 + 2, none⟩) hblt).trans c2
    have Hxz := Lib.hid (Hz.out x (List.mem_of_getElem? hx))
    have Hst := Lib.hid ((all_dropV rmB xs k x hx).symm.trans hinv.out)
    clear hinv hx c0 c1 c2
    cases hm : rmB x
    · have Hst' : Hid (false = xs.all rmB) := by
       have := Hst.out
       rw [hm, Bool.false_and] at this
       exact this
      clear Hst
      go_wp2_with fail
      refine (rmay_c x wr Hxz.out).mono ?_
      rintro e w1 ⟨rfl, hb1⟩
      have hb2 := hb.trans (hb1.mono hb.size)
      clear hb1 hb
      go_wp2
      go_ret
      exact ⟨congrArg (fun z => Ending.returned (Value.bool z)) Hst'.out, hb2⟩
    · have Hst' : Hid ((xs.drop (k + 1)).all rmB = xs.all rmB) := by
       have := Hst.out
       rw [hm, Bool.true_and] at this
       exact this
      clear Hst
      go_wp2_with fail
      refine (rmay_c x wr Hxz.out).mono ?_
      rintro e w1 ⟨rfl, hb1⟩
      have hb2 := hb.trans (hb1.mono hb.size)
      clear hb1 hb
      go_wp2
      go_roundw
      case rel => exact ⟨k + 1, by omega, by go_num, hb2, Hst'.out⟩
      case measure => simp [intOf]; omega
  · obtain rfl : k = n := by omega
    have Hst' : Hid (true = xs.all rmB) := by
     have := hinv.out
     rw [show xs.drop k = [] from List.drop_eq_nil_of_le (by rw [Hn.out]; omega)] at this
     exact this
    clear hinv
    go_wp2
    go_ret
    exact ⟨congrArg (fun z => Ending.returned (Value.bool z)) Hst'.out, hb⟩
theorem ev_neIC {F : Act} {w : World} {t : Tmp} {o : Oper} (a b : Int) (ho : o.op = .binOp .neq 3 (.tmp t) (.const (.int .i64 b)) 3) (ht : Reg.slot F t = .int .i64 a) :
 (execOp F.eval o).run Try.prog w = .ok (.value (.bool (a != b))) w := by
 have e1 : F.eval (.tmp t) = .int .i64 a := ht
 have e2 : F.eval (.const (.int .i64 b)) = .int .i64 b := rfl
 have e0 : (execOp F.eval o).run Try.prog w = ((do eqGuard .neq 3 (.tmp t) (.const (.int .i64 b)) (.int .i64 a) (.int .i64 b); binOp .neq 3 (.int .i64 a) (.int .i64 b)).run Try.prog w).andThen fun v w' => .ok (.value v) w' := by
  simp only [execOp, ho, e1, e2, Sem.run_bind, Sem.run_pure]
 rw [e0]
 go_simp
theorem enRCompareL : ∀ args w, (callFunc 24 args).run Try.prog w = .ok (.enter 24 args) w := fun _ _ => by kernel_rfl
def rmayR (xs : List Val) : Bool := decide (xs.length ≤ 40) && xs.all rmB
set_option maxHeartbeats 1000000 in
theorem rmayRow_c (A : Option Addr) (n c : Nat) (xs : List Val) (w : World) (hn : xs.length = n) (hn1 : n ≤ maxLen) (hs : Sl w A xs) (hz : ∀ x ∈ xs, x.s.size ≤ maxLen) :
 Calls Try.prog 23 #[.slice A n c] w fun e w' => e = .returned (.bool (rmayR xs)) ∧ Below w.heap.size w w' := by
 have HM := Lib.hid (rmayL_c A n c xs w hn hn1 hs hz)
 unfold maxLen at hn1
 unfold rmayR
 rw [hn]
 clear hn hs hz
 by_cases h40 : n ≤ 40
 · rw [decide_eq_true h40, Bool.true_and]
   obtain ⟨R, hR⟩ : ∃ R, xs.all rmB = R := ⟨_, rfl⟩
   rw [hR] at HM ⊢
   clear hR
   go_enter Try.func23, Try.ntmps23
   go_wp2_with fail
   refine HM.out.mono ?_
   rintro e w1 ⟨rfl, hb1⟩
   go_wp2
   go_ret
   exact ⟨rfl, hb1⟩
 · rw [decide_eq_false h40, Bool.false_and]
   clear HM
   go_enter Try.func23, Try.ntmps23
   go_wp2
   go_ret
   exact ⟨rfl, Below.refl _ _⟩
theorem ev_idxC {F : Act} {w : World} {t u : Tmp} {b off n c k : Nat} {o : Oper} (hk : k < n) (ho : o.op = .indexAddr 30 (.tmp t) (.tmp u)) (ht : Reg.slot F t = .slice (some ⟨b, off, none⟩) n c) (hu : Reg.slot F u = .int .i64 k) :
 (execOp F.eval o).run Try.prog w = .ok (.value (.pointer (some ⟨b, off + k * 2, none⟩))) w := by
 have e1 : F.eval (.tmp t) = .slice (some ⟨b, off, none⟩) n c := ht
 have e2 : F.eval (.tmp u) = .int .i64 k := hu
 have e0 : (execOp F.eval o).run Try.prog w = ((Instr.indexAt 30 (.slice (some ⟨b, off, none⟩) n c) (.int .i64 k)).run Try.prog w).andThen fun v w' => .ok (.value v) w' := by
  simp only [execOp, ho, e1, e2, Sem.run_bind, Sem.run_pure]
 rw [e0]
 go_simp
theorem ev_c0 {F : Act} {w : World} {b off : Nat} {t : Tmp} {o : Oper} (ho : o.op = .fieldAddr 46 (.tmp t) 0) (ht : Reg.slot F t = .pointer (some ⟨b, off, none⟩)) :
 (execOp F.eval o).run Try.prog w = .ok (.value (.pointer (some ⟨b, off, none⟩))) w := by
 have e : F.eval (.tmp t) = .pointer (some ⟨b, off, none⟩) := ht
 have e0 : (execOp F.eval o).run Try.prog w = ((Instr.fieldAt 46 (.pointer (some ⟨b, off, none⟩)) 0).run Try.prog w).andThen fun v w' => .ok (.value v) w' := by
  simp only [execOp, ho, e, Sem.run_bind, Sem.run_pure]
 rw [e0]
 go_simp
theorem ev_c1 {F : Act} {w : World} {b off : Nat} {t : Tmp} {o : Oper} (ho : o.op = .fieldAddr 46 (.tmp t) 1) (ht : Reg.slot F t = .pointer (some ⟨b, off, none⟩)) :
 (execOp F.eval o).run Try.prog w = .ok (.value (.pointer (some ⟨b, off + 1, none⟩))) w := by
 have e : F.eval (.tmp t) = .pointer (some ⟨b, off, none⟩) := ht
 have e0 : (execOp F.eval o).run Try.prog w = ((Instr.fieldAt 46 (.pointer (some ⟨b, off, none⟩)) 1).run Try.prog w).andThen fun v w' => .ok (.value v) w' := by
  simp only [execOp, ho, e, Sem.run_bind, Sem.run_pure]
 rw [e0]
 go_simp
theorem ev_ldR {F : Act} {w : World} {b off : Nat} {A : Option Addr} {n c : Nat} {t : Tmp} {o : Oper} (h0 : w.cell? ⟨b, off, none⟩ = some (.slice A n c)) (ho : o.op = .load 44 (.tmp t)) (ht : Reg.slot F t = .pointer (some ⟨b, off, none⟩)) :
 (execOp F.eval o).run Try.prog w = .ok (.value (.slice A n c)) w := by
 have e : F.eval (.tmp t) = .pointer (some ⟨b, off, none⟩) := ht
 have e0 : (execOp F.eval o).run Try.prog w = ((Instr.loadAt 44 (.pointer (some ⟨b, off, none⟩))).run Try.prog w).andThen fun v w' => .ok (.value v) w' := by
  simp only [execOp, ho, e, Sem.run_bind, Sem.run_pure]
 rw [e0]
 go_simp
theorem ev_ldI {F : Act} {w : World} {b off : Nat} {k : Int} {t : Tmp} {o : Oper} (h0 : w.cell? ⟨b, off, none⟩ = some (.int .i64 k)) (ho : o.op = .load 3 (.tmp t)) (ht : Reg.slot F t = .pointer (some ⟨b, off, none⟩)) :
 (execOp F.eval o).run Try.prog w = .ok (.value (.int .i64 k)) w := by
 have e : F.eval (.tmp t) = .pointer (some ⟨b, off, none⟩) := ht
 have e0 : (execOp F.eval o).run Try.prog w = ((Instr.loadAt 3 (.pointer (some ⟨b, off, none⟩))).run Try.prog w).andThen fun v w' => .ok (.value v) w' := by
  simp only [execOp, ho, e, Sem.run_bind, Sem.run_pure]
 rw [e0]
 go_simp
theorem ev_eqC5 {F : Act} {w : World} {t : Tmp} {o : Oper} (a b : Int) (ho : o.op = .binOp .eql 3 (.tmp t) (.const (.int .i64 b)) 3) (ht : Reg.slot F t = .int .i64 a) :
 (execOp F.eval o).run Try.prog w = .ok (.value (.bool (a == b))) w := by
 have e1 : F.eval (.tmp t) = .int .i64 a := ht
 have e2 : F.eval (.const (.int .i64 b)) = .int .i64 b := rfl
 have e0 : (execOp F.eval o).run Try.prog w = ((do eqGuard .eql 3 (.tmp t) (.const (.int .i64 b)) (.int .i64 a) (.int .i64 b); binOp .eql 3 (.int .i64 a) (.int .i64 b)).run Try.prog w).andThen fun v w' => .ok (.value v) w' := by
  simp only [execOp, ho, e1, e2, Sem.run_bind, Sem.run_pure]
 rw [e0]
 go_simp
theorem ev_gtC5 {F : Act} {w : World} {t : Tmp} {o : Oper} (a b : Int) (ho : o.op = .binOp .gtr 3 (.tmp t) (.const (.int .i64 b)) 3) (ht : Reg.slot F t = .int .i64 a) :
 (execOp F.eval o).run Try.prog w = .ok (.value (.bool (decide (b < a)))) w := by
 have e1 : F.eval (.tmp t) = .int .i64 a := ht
 have e2 : F.eval (.const (.int .i64 b)) = .int .i64 b := rfl
 have e0 : (execOp F.eval o).run Try.prog w = ((do eqGuard .gtr 3 (.tmp t) (.const (.int .i64 b)) (.int .i64 a) (.int .i64 b); binOp .gtr 3 (.int .i64 a) (.int .i64 b)).run Try.prog w).andThen fun v w' => .ok (.value v) w' := by
  simp only [execOp, ho, e1, e2, Sem.run_bind, Sem.run_pure]
 rw [e0]
 go_simp
theorem ev_geC5 {F : Act} {w : World} {t : Tmp} {o : Oper} (a b : Int) (ho : o.op = .binOp .geq 3 (.tmp t) (.const (.int .i64 b)) 3) (ht : Reg.slot F t = .int .i64 a) :
 (execOp F.eval o).run Try.prog w = .ok (.value (.bool (decide (b ≤ a)))) w := by
 have e1 : F.eval (.tmp t) = .int .i64 a := ht
 have e2 : F.eval (.const (.int .i64 b)) = .int .i64 b := rfl
 have e0 : (execOp F.eval o).run Try.prog w = ((do eqGuard .geq 3 (.tmp t) (.const (.int .i64 b)) (.int .i64 a) (.int .i64 b); binOp .geq 3 (.int .i64 a) (.int .i64 b)).run Try.prog w).andThen fun v w' => .ok (.value v) w' := by
  simp only [execOp, ho, e1, e2, Sem.run_bind, Sem.run_pure]
 rw [e0]
 go_simp
theorem ev_neT5 {F : Act} {w : World} {t u : Tmp} {o : Oper} (a b : Int) (ho : o.op = .binOp .neq 3 (.tmp t) (.tmp u) 3) (ht : Reg.slot F t = .int .i64 a) (hu : Reg.slot F u = .int .i64 b) :
 (execOp F.eval o).run Try.prog w = .ok (.value (.bool (a != b))) w := by
 have e1 : F.eval (.tmp t) = .int .i64 a := ht
 have e2 : F.eval (.tmp u) = .int .i64 b := hu
 have e0 : (execOp F.eval o).run Try.prog w = ((do eqGuard .neq 3 (.tmp t) (.tmp u) (.int .i64 a) (.int .i64 b); binOp .neq 3 (.int .i64 a) (.int .i64 b)).run Try.prog w).andThen fun v w' => .ok (.value v) w' := by
  simp only [execOp, ho, e1, e2, Sem.run_bind, Sem.run_pure]
 rw [e0]
 go_simp
theorem ev_subC5 {F : Act} {w : World} {t : Tmp} {o : Oper} (a b : Int) (hab : -9223372036854775808 ≤ a - b ∧ a - b ≤ 9223372036854775807) (ho : o.op = .binOp .sub 3 (.tmp t) (.const (.int .i64 b)) 3) (ht : Reg.slot F t = .int .i64 a) :
 (execOp F.eval o).run Try.prog w = .ok (.value (.int .i64 (a - b))) w := by
 have e1 : F.eval (.tmp t) = .int .i64 a := ht
 have e2 : F.eval (.const (.int .i64 b)) = .int .i64 b := rfl
 have hw : IntKind.i64.wrap (a - b) = a - b := by rw [IntKind.wrap_i64]; omega
 have e0 : (execOp F.eval o).run Try.prog w = ((do eqGuard .sub 3 (.tmp t) (.const (.int .i64 b)) (.int .i64 a) (.int .i64 b); binOp .sub 3 (.int .i64 a) (.int .i64 b)).run Try.prog w).andThen fun v w' => .ok (.value v) w' := by
  simp only [execOp, ho, e1, e2, Sem.run_bind, Sem.run_pure]
 rw [e0]
 go_simp
theorem ev_dec5 {F : Act} {w : World} {t : Tmp} {o : Oper} (k j : Nat) (hkj : k = j + 1) (hk : k ≤ 9223372036854775807) (ho : o.op = .binOp .sub 3 (.tmp t) (.const (.int .i64 1)) 3) (ht : Reg.slot F t = .int .i64 k) :
 (execOp F.eval o).run Try.prog w = .ok (.value (.int .i64 j)) w := by
 have h := ev_subC5 (w := w) (k : Int) 1 (by omega) ho ht
 rw [show (k : Int) - 1 = j by omega] at h
 exact h
theorem enRFits : ∀ args w, (callFunc 22 args).run Try.prog w = .ok (.enter 22 args) w := fun _ _ => by kernel_rfl
theorem enR4May : ∀ args w, (callFunc 23 args).run Try.prog w = .ok (.enter 23 args) w := fun _ _ => by kernel_rfl
structure Ct where
 h : Hd
 N : Int
def rdC (c : Ct) : List Value := [.slice c.h.A c.h.n c.h.c, .int .i64 c.N]
theorem cOk : ElOk Try.prog 30 46 2 32 (.agg #[.slice none 0 0, .int .i64 0]) rdC where
 under := Try.underlying30
 info := by kernel_rfl
 zs := rfl
 pos := by decide
 len := fun _ => rfl
 one := fun x u hu => by
  simp [rdC] at hu
  rcases hu with rfl | rfl <;> rfl
def pl (cs : List Ct) : Bg := cs.map fun c => (c.h.xs, c.N)
structure Ct.In (w : World) (c : Ct) : Prop where
 hd : Hd.In w c.h
 sz : ∀ x ∈ c.h.xs, x.s.size ≤ maxLen
 n64 : ∀ x ∈ c.h.xs, -9223372036854775808 ≤ x.n ∧ x.n ≤ 9223372036854775807
 N64 : -9223372036854775808 ≤ c.N ∧ c.N ≤ 9223372036854775807
 room : c.h.n ≤ c.h.c
theorem Ct.In.after {w w' : World} {c : Ct} (h : Ct.In w c) (hb : Below w.heap.size w w') : Ct.In w' c := ⟨h.hd.after hb, h.sz, h.n64, h.N64, h.room⟩
structure BgIn (w : World) (A : Option Addr) (n : Nat) (cs : List Ct) : Prop where
 len : cs.length = n
 max : n ≤ maxLen
 sl : SlG w A 2 rdC cs
 each : ∀ c ∈ cs, Ct.In w c
theorem BgIn.after {w w' : World} {A : Option Addr} {n : Nat} {cs : List Ct} (h : BgIn w A n cs) (hb : Below w.heap.size w w') : BgIn w' A n cs := ⟨h.len, h.max, h.sl.after hb, fun c hc => (h.each c hc).after hb⟩
theorem SlG.at2 {w : World} {A : Option Addr} {xs : List Ct} (h : SlG w A 2 rdC xs) {k : Nat} (hk : k < xs.length) :
 ∃ b off x, A = some ⟨b, off, none⟩ ∧ b < w.heap.size ∧ xs[k]? = some x ∧ w.cell? ⟨b, off + k * 2, none⟩ = some (.slice x.h.A x.h.n x.h.c) ∧ w.cell? ⟨b, off + k * 2 + 1, none⟩ = some (.int .i64 x.N) := by
 rcases h with rfl | ⟨b, off, hA, hlt, h⟩
 · simp at hk
 · refine ⟨b, off, xs[k], hA, hlt, List.getElem?_eq_getElem hk, ?_, ?_⟩
   · exact h k xs[k] (List.getElem?_eq_getElem hk) 0 _ rfl
   · exact h k xs[k] (List.getElem?_eq_getElem hk) 1 _ rfl
theorem SlG.some2 {w : World} {A : Option Addr} {xs : List Ct} (h : SlG w A 2 rdC xs) {k : Nat} (hk : k < xs.length) : ∃ b off, A = some ⟨b, off, none⟩ := by
 obtain ⟨b, off, _, hA, _⟩ := h.at2 hk
 exact ⟨b, off, hA⟩
theorem SlG.cell2 {w : World} {b off : Nat} {xs : List Ct} (h : SlG w (some ⟨b, off, none⟩) 2 rdC xs) {k : Nat} {x : Ct} (hx : xs[k]? = some x) :
 b < w.heap.size ∧ w.cell? ⟨b, off + k * 2, none⟩ = some (.slice x.h.A x.h.n x.h.c) ∧ w.cell? ⟨b, off + k * 2 + 1, none⟩ = some (.int .i64 x.N) := by
 obtain ⟨b', off', y, hA, h1, h2, h3, h4⟩ := h.at2 (List.getElem?_eq_some_iff.1 hx).1
 rw [hx] at h2
 cases h2
 cases hA
 exact ⟨h1, h3, h4⟩
theorem pl_at {cs : List Ct} {k : Nat} {c : Ct} (h : cs[k]? = some c) : (pl cs)[k]? = some (c.h.xs, c.N) := by
 unfold pl
 rw [List.getElem?_map, h]
 rfl
theorem pl_len (cs : List Ct) : (pl cs).length = cs.length := by simp [pl]
def mayFrom : Option (List Val) → Bg → Bool
 | _, [] => true
 | none, x :: b => okC x && mayFrom (some x.1) b
 | some q, x :: b => okC x && (decide (cmpL q x.1 < 0) && mayFrom (some x.1) b)
theorem mayFrom_nil (q : Option (List Val)) : mayFrom q [] = true := by cases q <;> rfl
theorem mayFrom_some : ∀ (b : Bg) (q : List Val × Int), mayFrom (some q.1) b = (b.all okC && risesB (q :: b))
 | [], q => rfl
 | x :: b, q => by
   rw [mayFrom, mayFrom_some b x, List.all_cons, risesB]
   cases okC x <;> cases decide (cmpL q.1 x.1 < 0) <;> cases b.all okC <;> rfl
theorem mayFrom_none : ∀ b : Bg, mayFrom none b = mayBag b
 | [] => rfl
 | x :: b => by
   unfold mayBag
   rw [mayFrom, mayFrom_some b x, List.all_cons, Bool.and_assoc]
def prevOf (b : Bg) : Nat → Option (List Val)
 | 0 => none
 | k + 1 => (b[k]?).map (·.1)
theorem prev_succ {b : Bg} {k : Nat} {x : List Val × Int} (h : b[k]? = some x) : prevOf b (k + 1) = some x.1 := by rw [prevOf, h]; rfl
theorem mayFrom_drop (b : Bg) (k : Nat) (x : List Val × Int) (h : b[k]? = some x) :
 mayFrom (prevOf b k) (b.drop k) = (okC x && ((match prevOf b k with | none => true | some q => decide (cmpL q x.1 < 0)) && mayFrom (prevOf b (k + 1)) (b.drop (k + 1)))) := by
 have h1 := List.drop_eq_getElem_cons (List.getElem?_eq_some_iff.1 h).1
 rw [(List.getElem?_eq_some_iff.1 h).2] at h1
 rw [h1, prev_succ h]
 cases prevOf b k with
 | none => rw [mayFrom, Bool.true_and]
 | some q => rw [mayFrom]
theorem rmay_mayR (xs : List Val) : rmayR xs = mayR xs := by
 unfold rmayR mayR
 rw [show mayB = rmB from funext may_rm]
theorem fits5_c (n : Int) (w : World) : Calls Try.prog 22 #[.int .i64 n] w fun e w' => e = .returned (.bool (decide (-1000000000 ≤ n) && decide (n ≤ 1000000000))) ∧ Below w.heap.size w w' := by
 cases h1 : decide (-1000000000 ≤ n)
 · go_enter Try.func22, Try.ntmps22
   go_wp2
   go_ret
   exact ⟨rfl, Below.refl _ _⟩
 · go_enter Try.func22, Try.ntmps22
   go_wp2
   go_ret
   exact ⟨rfl, Below.refl _ _⟩
theorem okC_and (xs : List Val) (N : Int) : okC (xs, N) = (!(N == 0) && ((decide (-1000000000 ≤ N) && decide (N ≤ 1000000000)) && mayR xs)) := by
 unfold okC
 simp only [Bool.and_assoc]
set_option maxHeartbeats 4000000 in
theorem rmayBag_c (A : Option Addr) (n c : Nat) (cs : List Ct) (w : World) (hB : BgIn w A n cs) :
 Calls Try.prog 10 #[.slice A n c] w fun e w' => e = .returned (.bool (mayBag (pl cs))) ∧ Below w.heap.size w w' := by
 obtain ⟨R, hR⟩ : ∃ R, mayBag (pl cs) = R := ⟨_, rfl⟩
 rw [hR]
 rw [← mayFrom_none] at hR
 have HR := Lib.hid hR
 have HB := Lib.hid hB
 have hmx : n ≤ 9223372036854775807 := hB.max
 clear hB hR
 go_enter Try.func10, Try.ntmps10
 go_wp2_with fail
 go_loopw [3] (fun i wr => ∃ k : Nat, k ≤ n ∧ i = .int .i64 k ∧ Hid (Below w.heap.size w wr) ∧ Hid (mayFrom (prevOf (pl cs) k) ((pl cs).drop k) = R)) (fun i _ => n - (intOf i).toNat)
 case atStart => exact ⟨0, Nat.zero_le _, rfl, Lib.hid (Below.refl _ _), HR⟩
 case round =>
  obtain ⟨k, hk, rfl, hb, hinv⟩ := hrel
  clear HR
  by_cases hlt : k < n
  · obtain ⟨b, off, rfl⟩ := HB.out.sl.some2 (k := k) (by rw [HB.out.len]; exact hlt)
    obtain ⟨x, hx⟩ : ∃ x, cs[k]? = some x := ⟨_, List.getElem?_eq_getElem (by rw [HB.out.len]; exact hlt)⟩
    obtain ⟨hblt, c0, c1⟩ := HB.out.sl.cell2 hx
    have d0 := Lib.hid ((hb.out.cell (p := ⟨b, off + k * 2, none⟩) hblt).trans c0)
    have d1 := Lib.hid ((hb.out.cell (p := ⟨b, off + k * 2 + 1, none⟩) hblt).trans c1)
    have l0 : b < wr.heap.size := Nat.lt_of_lt_of_le hblt hb.out.size
    have Hx := Lib.hid ((HB.out.each x (List.mem_of_getElem? hx)).after hb.out)
    have Hst := Lib.hid ((mayFrom_drop (pl cs) k _ (pl_at hx)).symm.trans hinv.out)
    clear hinv c0 c1 hx
    obtain ⟨⟨xA, xn, xc, xs⟩, N⟩ := x
    have hprev : Hid (∀ j, k = j + 1 → ∃ y : Ct, prevOf (pl cs) k = some y.h.xs ∧ Ct.In wr y ∧ wr.cell? ⟨b, off + j * 2, none⟩ = some (.slice y.h.A y.h.n y.h.c)) := Lib.hid (by
     rintro j rfl
     obtain ⟨y, hy⟩ : ∃ y, cs[j]? = some y := ⟨_, List.getElem?_eq_getElem (by rw [HB.out.len]; omega)⟩
     obtain ⟨hblt, c0, c1⟩ := HB.out.sl.cell2 hy
     exact ⟨y, prev_succ (pl_at hy), (HB.out.each y (List.mem_of_getElem? hy)).after hb.out, (hb.out.cell (p := ⟨b, off + j * 2, none⟩) hblt).trans c0⟩)
    have hgo : (k : Int) < n := by omega
    go_wp2_with fail
    cases hN0 : N == 0
    · cases hF1 : (decide (-1000000000 ≤ N) && decide (N ≤ 1000000000))
      · have Hst2 : Hid (false = R) := by
         have := Hst.out
         rw [okC_and] at this
         simp only [hN0, hF1, Bool.not_false, Bool.true_and, Bool.false_and] at this
         exact Lib.hid this
        clear Hst
        refine Reg.wp_region_vals mixed (by kernel_rfl) [(10, .slice (some ⟨b, off, none⟩) n c), (11, .int .i64 (k : Nat)), (12, .pointer (some ⟨b, off + k * 2, none⟩)), (13, .pointer (some ⟨b, off + k * 2 + 1, none⟩)), (14, .int .i64 N), (15, .bool false), (16, .bool false), (17, .slice (some ⟨b, off, none⟩) n c), (18, .int .i64 (k : Nat)), (19, .pointer (some ⟨b, off + k * 2, none⟩)), (20, .pointer (some ⟨b, off + k * 2 + 1, none⟩)), (21, .int .i64 N), (22, .bool false), (23, .bool true), (24, .bool true), (25, .bool true), (26, undef), (27, undef), (28, undef), (29, undef), (30, undef), (31, undef), (32, undef), (33, .bool true), (34, .bool true), (35, undef), (36, undef), (37, undef), (38, undef), (39, undef), (40, undef), (41, undef), (42, undef), (43, undef), (44, undef), (45, undef), (46, undef), (47, undef), (48, undef), (49, undef), (50, undef), (51, undef), (52, .bool true)] 53 rfl (by kernel_rfl) ?_ ?_
        · intro F hF w' hB
          have j0 := (hB.cell (p := ⟨b, off + k * 2, none⟩) l0).trans d0.out
          have j1 := (hB.cell (p := ⟨b, off + k * 2 + 1, none⟩) l0).trans d1.out
          have ix := Hx.out.after hB
          refine ⟨?_, ?_, ?_, ?_, ?_, ?_, ?_, ?_, ?_, ?_, ?_, ?_, ?_, ?_, ?_, ?_, ?_, ?_, ?_, ?_, ?_, ?_, ?_, ?_, ?_, ?_, ?_, ?_, ?_, ?_, ?_, ?_, ?_, ?_, ?_, ?_, ?_, ?_, ?_, ?_, ?_, ?_, ?_, trivial⟩
          · exact Reg.doesV_val (ev_move rfl) (by rw [hF]; kernel_rfl) (by rw [hF]; kernel_rfl)
          · exact Reg.doesV_val (ev_move rfl) (by rw [hF]; kernel_rfl) (by rw [hF]; kernel_rfl)
          · exact Reg.doesV_val (ev_idxC (b := b) (off := off) (n := n) (c := c) (k := k) hlt rfl (by rw [hF]; kernel_rfl) (by rw [hF]; kernel_rfl)) (by rw [hF]; kernel_rfl) (by rw [hF]; kernel_rfl)
          · exact Reg.doesV_val (ev_c1 (b := b) (off := off + k * 2) rfl (by rw [hF]; kernel_rfl)) (by rw [hF]; kernel_rfl) (by rw [hF]; kernel_rfl)
          · exact Reg.doesV_val (ev_ldI (k := N) j1 rfl (by rw [hF]; kernel_rfl)) (by rw [hF]; kernel_rfl) (by rw [hF]; kernel_rfl)
          · exact Reg.doesV_val (by rw [ev_eqC5 N 0 rfl (by rw [hF]; kernel_rfl), hN0]) (by rw [hF]; kernel_rfl) (by rw [hF]; kernel_rfl)
          · exact Reg.doesV_val (ev_move rfl) (by rw [hF]; kernel_rfl) (by rw [hF]; kernel_rfl)
          · exact Reg.doesV_val (ev_move rfl) (by rw [hF]; kernel_rfl) (by rw [hF]; kernel_rfl)
          · exact Reg.doesV_val (ev_move rfl) (by rw [hF]; kernel_rfl) (by rw [hF]; kernel_rfl)
          · exact Reg.doesV_val (ev_idxC (b := b) (off := off) (n := n) (c := c) (k := k) hlt rfl (by rw [hF]; kernel_rfl) (by rw [hF]; kernel_rfl)) (by rw [hF]; kernel_rfl) (by rw [hF]; kernel_rfl)
          · exact Reg.doesV_val (ev_c1 (b := b) (off := off + k * 2) rfl (by rw [hF]; kernel_rfl)) (by rw [hF]; kernel_rfl) (by rw [hF]; kernel_rfl)
          · exact Reg.doesV_val (ev_ldI (k := N) j1 rfl (by rw [hF]; kernel_rfl)) (by rw [hF]; kernel_rfl) (by rw [hF]; kernel_rfl)
          · exact Reg.doesV_call (by have h := fits5_c N w'; rw [hF1] at h; exact h) (ev_call enRFits rfl (by rw [hF]; kernel_rfl)) (by rw [hF]; kernel_rfl) (by rw [hF]; kernel_rfl)
          · exact Reg.doesV_val (ev_not false rfl (by rw [hF]; kernel_rfl)) (by rw [hF]; kernel_rfl) (by rw [hF]; kernel_rfl)
          · exact Reg.doesV_val (ev_pick false rfl (by rw [hF]; kernel_rfl)) (by rw [hF]; kernel_rfl) (by rw [hF]; kernel_rfl)
          · exact Reg.doesV_val (ev_move rfl) (by rw [hF]; kernel_rfl) (by rw [hF]; kernel_rfl)
          · exact Reg.doesV_skip (by rw [hF]; kernel_rfl) (by rw [hF]; kernel_rfl)
          · exact Reg.doesV_skip (by rw [hF]; kernel_rfl) (by rw [hF]; kernel_rfl)
          · exact Reg.doesV_skip (by rw [hF]; kernel_rfl) (by rw [hF]; kernel_rfl)
          · exact Reg.doesV_skip (by rw [hF]; kernel_rfl) (by rw [hF]; kernel_rfl)
          · exact Reg.doesV_skip (by rw [hF]; kernel_rfl) (by rw [hF]; kernel_rfl)
          · exact Reg.doesV_skip (by rw [hF]; kernel_rfl) (by rw [hF]; kernel_rfl)
          · exact Reg.doesV_skip (by rw [hF]; kernel_rfl) (by rw [hF]; kernel_rfl)
          · exact Reg.doesV_val (ev_pick true rfl (by rw [hF]; kernel_rfl)) (by rw [hF]; kernel_rfl) (by rw [hF]; kernel_rfl)
          · exact Reg.doesV_val (ev_move rfl) (by rw [hF]; kernel_rfl) (by rw [hF]; kernel_rfl)
          · exact Reg.doesV_skip (by rw [hF]; kernel_rfl) (by rw [hF]; kernel_rfl)
          · exact Reg.doesV_skip (by rw [hF]; kernel_rfl) (by rw [hF]; kernel_rfl)
          · exact Reg.doesV_skip (by rw [hF]; kernel_rfl) (by rw [hF]; kernel_rfl)
          · exact Reg.doesV_skip (by rw [hF]; kernel_rfl) (by rw [hF]; kernel_rfl)
          · exact Reg.doesV_skip (by rw [hF]; kernel_rfl) (by rw [hF]; kernel_rfl)
          · exact Reg.doesV_skip (by rw [hF]; kernel_rfl) (by rw [hF]; kernel_rfl)
          · exact Reg.doesV_skip (by rw [hF]; kernel_rfl) (by rw [hF]; kernel_rfl)
          · exact Reg.doesV_skip (by rw [hF]; kernel_rfl) (by rw [hF]; kernel_rfl)
          · exact Reg.doesV_skip (by rw [hF]; kernel_rfl) (by rw [hF]; kernel_rfl)
          · exact Reg.doesV_skip (by rw [hF]; kernel_rfl) (by rw [hF]; kernel_rfl)
          · exact Reg.doesV_skip (by rw [hF]; kernel_rfl) (by rw [hF]; kernel_rfl)
          · exact Reg.doesV_skip (by rw [hF]; kernel_rfl) (by rw [hF]; kernel_rfl)
          · exact Reg.doesV_skip (by rw [hF]; kernel_rfl) (by rw [hF]; kernel_rfl)
          · exact Reg.doesV_skip (by rw [hF]; kernel_rfl) (by rw [hF]; kernel_rfl)
          · exact Reg.doesV_skip (by rw [hF]; kernel_rfl) (by rw [hF]; kernel_rfl)
          · exact Reg.doesV_skip (by rw [hF]; kernel_rfl) (by rw [hF]; kernel_rfl)
          · exact Reg.doesV_skip (by rw [hF]; kernel_rfl) (by rw [hF]; kernel_rfl)
          · exact Reg.doesV_val (ev_pick true rfl (by rw [hF]; kernel_rfl)) (by rw [hF]; kernel_rfl) (by rw [hF]; kernel_rfl)
        · intro w8 hB
          simp only [Reg.putAll, Act.put, List.setIfInBounds_toArray, List.set_cons_zero, List.set_cons_succ]
          have Hb2 := Lib.hid (hb.out.trans (hB.mono hb.out.size))
          clear hB
          go_wp2
          go_ret
          exact ⟨congrArg (fun z => Ending.returned (Value.bool z)) Hst2.out, Hb2.out⟩
      · cases hM : mayR xs
        · have Hst2 : Hid (false = R) := by
           have := Hst.out
           rw [okC_and] at this
           simp only [hN0, hF1, hM, Bool.not_false, Bool.true_and, Bool.false_and] at this
           exact Lib.hid this
          clear Hst
          refine Reg.wp_region_vals mixed (by kernel_rfl) [(10, .slice (some ⟨b, off, none⟩) n c), (11, .int .i64 (k : Nat)), (12, .pointer (some ⟨b, off + k * 2, none⟩)), (13, .pointer (some ⟨b, off + k * 2 + 1, none⟩)), (14, .int .i64 N), (15, .bool false), (16, .bool false), (17, .slice (some ⟨b, off, none⟩) n c), (18, .int .i64 (k : Nat)), (19, .pointer (some ⟨b, off + k * 2, none⟩)), (20, .pointer (some ⟨b, off + k * 2 + 1, none⟩)), (21, .int .i64 N), (22, .bool true), (23, .bool false), (24, .bool false), (25, .bool false), (26, .slice (some ⟨b, off, none⟩) n c), (27, .int .i64 (k : Nat)), (28, .pointer (some ⟨b, off + k * 2, none⟩)), (29, .pointer (some ⟨b, off + k * 2, none⟩)), (30, .slice xA xn xc), (31, .bool false), (32, .bool true), (33, .bool true), (34, .bool true), (35, undef), (36, undef), (37, undef), (38, undef), (39, undef), (40, undef), (41, undef), (42, undef), (43, undef), (44, undef), (45, undef), (46, undef), (47, undef), (48, undef), (49, undef), (50, undef), (51, undef), (52, .bool true)] 53 rfl (by kernel_rfl) ?_ ?_
          · intro F hF w' hB
            have j0 := (hB.cell (p := ⟨b, off + k * 2, none⟩) l0).trans d0.out
            have j1 := (hB.cell (p := ⟨b, off + k * 2 + 1, none⟩) l0).trans d1.out
            have ix := Hx.out.after hB
            refine ⟨?_, ?_, ?_, ?_, ?_, ?_, ?_, ?_, ?_, ?_, ?_, ?_, ?_, ?_, ?_, ?_, ?_, ?_, ?_, ?_, ?_, ?_, ?_, ?_, ?_, ?_, ?_, ?_, ?_, ?_, ?_, ?_, ?_, ?_, ?_, ?_, ?_, ?_, ?_, ?_, ?_, ?_, ?_, trivial⟩
            · exact Reg.doesV_val (ev_move rfl) (by rw [hF]; kernel_rfl) (by rw [hF]; kernel_rfl)
            · exact Reg.doesV_val (ev_move rfl) (by rw [hF]; kernel_rfl) (by rw [hF]; kernel_rfl)
            · exact Reg.doesV_val (ev_idxC (b := b) (off := off) (n := n) (c := c) (k := k) hlt rfl (by rw [hF]; kernel_rfl) (by rw [hF]; kernel_rfl)) (by rw [hF]; kernel_rfl) (by rw [hF]; kernel_rfl)
            · exact Reg.doesV_val (ev_c1 (b := b) (off := off + k * 2) rfl (by rw [hF]; kernel_rfl)) (by rw [hF]; kernel_rfl) (by rw [hF]; kernel_rfl)
            · exact Reg.doesV_val (ev_ldI (k := N) j1 rfl (by rw [hF]; kernel_rfl)) (by rw [hF]; kernel_rfl) (by rw [hF]; kernel_rfl)
            · exact Reg.doesV_val (by rw [ev_eqC5 N 0 rfl (by rw [hF]; kernel_rfl), hN0]) (by rw [hF]; kernel_rfl) (by rw [hF]; kernel_rfl)
            · exact Reg.doesV_val (ev_move rfl) (by rw [hF]; kernel_rfl) (by rw [hF]; kernel_rfl)
            · exact Reg.doesV_val (ev_move rfl) (by rw [hF]; kernel_rfl) (by rw [hF]; kernel_rfl)
            · exact Reg.doesV_val (ev_move rfl) (by rw [hF]; kernel_rfl) (by rw [hF]; kernel_rfl)
            · exact Reg.doesV_val (ev_idxC (b := b) (off := off) (n := n) (c := c) (k := k) hlt rfl (by rw [hF]; kernel_rfl) (by rw [hF]; kernel_rfl)) (by rw [hF]; kernel_rfl) (by rw [hF]; kernel_rfl)
            · exact Reg.doesV_val (ev_c1 (b := b) (off := off + k * 2) rfl (by rw [hF]; kernel_rfl)) (by rw [hF]; kernel_rfl) (by rw [hF]; kernel_rfl)
            · exact Reg.doesV_val (ev_ldI (k := N) j1 rfl (by rw [hF]; kernel_rfl)) (by rw [hF]; kernel_rfl) (by rw [hF]; kernel_rfl)
            · exact Reg.doesV_call (by have h := fits5_c N w'; rw [hF1] at h; exact h) (ev_call enRFits rfl (by rw [hF]; kernel_rfl)) (by rw [hF]; kernel_rfl) (by rw [hF]; kernel_rfl)
            · exact Reg.doesV_val (ev_not true rfl (by rw [hF]; kernel_rfl)) (by rw [hF]; kernel_rfl) (by rw [hF]; kernel_rfl)
            · exact Reg.doesV_val (ev_pick false rfl (by rw [hF]; kernel_rfl)) (by rw [hF]; kernel_rfl) (by rw [hF]; kernel_rfl)
            · exact Reg.doesV_val (ev_move rfl) (by rw [hF]; kernel_rfl) (by rw [hF]; kernel_rfl)
            · exact Reg.doesV_val (ev_move rfl) (by rw [hF]; kernel_rfl) (by rw [hF]; kernel_rfl)
            · exact Reg.doesV_val (ev_move rfl) (by rw [hF]; kernel_rfl) (by rw [hF]; kernel_rfl)
            · exact Reg.doesV_val (ev_idxC (b := b) (off := off) (n := n) (c := c) (k := k) hlt rfl (by rw [hF]; kernel_rfl) (by rw [hF]; kernel_rfl)) (by rw [hF]; kernel_rfl) (by rw [hF]; kernel_rfl)
            · exact Reg.doesV_val (ev_c0 (b := b) (off := off + k * 2) rfl (by rw [hF]; kernel_rfl)) (by rw [hF]; kernel_rfl) (by rw [hF]; kernel_rfl)
            · exact Reg.doesV_val (ev_ldR (A := xA) (n := xn) (c := xc) j0 rfl (by rw [hF]; kernel_rfl)) (by rw [hF]; kernel_rfl) (by rw [hF]; kernel_rfl)
            · exact Reg.doesV_call (by have h := rmayRow_c xA xn xc xs w' ix.hd.len ix.hd.max ix.hd.sl ix.sz; rw [rmay_mayR, hM] at h; exact h) (ev_call enR4May rfl (by rw [hF]; kernel_rfl)) (by rw [hF]; kernel_rfl) (by rw [hF]; kernel_rfl)
            · exact Reg.doesV_val (ev_not false rfl (by rw [hF]; kernel_rfl)) (by rw [hF]; kernel_rfl) (by rw [hF]; kernel_rfl)
            · exact Reg.doesV_val (ev_pick false rfl (by rw [hF]; kernel_rfl)) (by rw [hF]; kernel_rfl) (by rw [hF]; kernel_rfl)
            · exact Reg.doesV_val (ev_move rfl) (by rw [hF]; kernel_rfl) (by rw [hF]; kernel_rfl)
            · exact Reg.doesV_skip (by rw [hF]; kernel_rfl) (by rw [hF]; kernel_rfl)
            · exact Reg.doesV_skip (by rw [hF]; kernel_rfl) (by rw [hF]; kernel_rfl)
            · exact Reg.doesV_skip (by rw [hF]; kernel_rfl) (by rw [hF]; kernel_rfl)
            · exact Reg.doesV_skip (by rw [hF]; kernel_rfl) (by rw [hF]; kernel_rfl)
            · exact Reg.doesV_skip (by rw [hF]; kernel_rfl) (by rw [hF]; kernel_rfl)
            · exact Reg.doesV_skip (by rw [hF]; kernel_rfl) (by rw [hF]; kernel_rfl)
            · exact Reg.doesV_skip (by rw [hF]; kernel_rfl) (by rw [hF]; kernel_rfl)
            · exact Reg.doesV_skip (by rw [hF]; kernel_rfl) (by rw [hF]; kernel_rfl)
            · exact Reg.doesV_skip (by rw [hF]; kernel_rfl) (by rw [hF]; kernel_rfl)
            · exact Reg.doesV_skip (by rw [hF]; kernel_rfl) (by rw [hF]; kernel_rfl)
            · exact Reg.doesV_skip (by rw [hF]; kernel_rfl) (by rw [hF]; kernel_rfl)
            · exact Reg.doesV_skip (by rw [hF]; kernel_rfl) (by rw [hF]; kernel_rfl)
            · exact Reg.doesV_skip (by rw [hF]; kernel_rfl) (by rw [hF]; kernel_rfl)
            · exact Reg.doesV_skip (by rw [hF]; kernel_rfl) (by rw [hF]; kernel_rfl)
            · exact Reg.doesV_skip (by rw [hF]; kernel_rfl) (by rw [hF]; kernel_rfl)
            · exact Reg.doesV_skip (by rw [hF]; kernel_rfl) (by rw [hF]; kernel_rfl)
            · exact Reg.doesV_skip (by rw [hF]; kernel_rfl) (by rw [hF]; kernel_rfl)
            · exact Reg.doesV_val (ev_pick true rfl (by rw [hF]; kernel_rfl)) (by rw [hF]; kernel_rfl) (by rw [hF]; kernel_rfl)
          · intro w8 hB
            simp only [Reg.putAll, Act.put, List.setIfInBounds_toArray, List.set_cons_zero, List.set_cons_succ]
            have Hb2 := Lib.hid (hb.out.trans (hB.mono hb.out.size))
            clear hB
            go_wp2
            go_ret
            exact ⟨congrArg (fun z => Ending.returned (Value.bool z)) Hst2.out, Hb2.out⟩
        · cases hk0 : decide (0 < (k : Int))
          · have hk1 : k = 0 := by have := of_decide_eq_false hk0; omega
            have hp0 : prevOf (pl cs) k = none := by rw [hk1]; rfl
            have Hst2 : Hid (mayFrom (prevOf (pl cs) (k + 1)) ((pl cs).drop (k + 1)) = R) := by
             have := Hst.out
             rw [okC_and] at this
             simp only [hN0, hF1, hM, hp0, Bool.not_false, Bool.true_and] at this
             exact Lib.hid this
            clear Hst
            clear hp0 hk1
            refine Reg.wp_region_vals mixed (by kernel_rfl) [(10, .slice (some ⟨b, off, none⟩) n c), (11, .int .i64 (k : Nat)), (12, .pointer (some ⟨b, off + k * 2, none⟩)), (13, .pointer (some ⟨b, off + k * 2 + 1, none⟩)), (14, .int .i64 N), (15, .bool false), (16, .bool false), (17, .slice (some ⟨b, off, none⟩) n c), (18, .int .i64 (k : Nat)), (19, .pointer (some ⟨b, off + k * 2, none⟩)), (20, .pointer (some ⟨b, off + k * 2 + 1, none⟩)), (21, .int .i64 N), (22, .bool true), (23, .bool false), (24, .bool false), (25, .bool false), (26, .slice (some ⟨b, off, none⟩) n c), (27, .int .i64 (k : Nat)), (28, .pointer (some ⟨b, off + k * 2, none⟩)), (29, .pointer (some ⟨b, off + k * 2, none⟩)), (30, .slice xA xn xc), (31, .bool true), (32, .bool false), (33, .bool false), (34, .bool false), (35, .int .i64 (k : Nat)), (36, .bool false), (37, .bool false), (38, undef), (39, undef), (40, undef), (41, undef), (42, undef), (43, undef), (44, undef), (45, undef), (46, undef), (47, undef), (48, undef), (49, undef), (50, undef), (51, .bool false), (52, .bool false)] 53 rfl (by kernel_rfl) ?_ ?_
            · intro F hF w' hB
              have j0 := (hB.cell (p := ⟨b, off + k * 2, none⟩) l0).trans d0.out
              have j1 := (hB.cell (p := ⟨b, off + k * 2 + 1, none⟩) l0).trans d1.out
              have ix := Hx.out.after hB
              refine ⟨?_, ?_, ?_, ?_, ?_, ?_, ?_, ?_, ?_, ?_, ?_, ?_, ?_, ?_, ?_, ?_, ?_, ?_, ?_, ?_, ?_, ?_, ?_, ?_, ?_, ?_, ?_, ?_, ?_, ?_, ?_, ?_, ?_, ?_, ?_, ?_, ?_, ?_, ?_, ?_, ?_, ?_, ?_, trivial⟩
              · exact Reg.doesV_val (ev_move rfl) (by rw [hF]; kernel_rfl) (by rw [hF]; kernel_rfl)
              · exact Reg.doesV_val (ev_move rfl) (by rw [hF]; kernel_rfl) (by rw [hF]; kernel_rfl)
              · exact Reg.doesV_val (ev_idxC (b := b) (off := off) (n := n) (c := c) (k := k) hlt rfl (by rw [hF]; kernel_rfl) (by rw [hF]; kernel_rfl)) (by rw [hF]; kernel_rfl) (by rw [hF]; kernel_rfl)
              · exact Reg.doesV_val (ev_c1 (b := b) (off := off + k * 2) rfl (by rw [hF]; kernel_rfl)) (by rw [hF]; kernel_rfl) (by rw [hF]; kernel_rfl)
              · exact Reg.doesV_val (ev_ldI (k := N) j1 rfl (by rw [hF]; kernel_rfl)) (by rw [hF]; kernel_rfl) (by rw [hF]; kernel_rfl)
              · exact Reg.doesV_val (by rw [ev_eqC5 N 0 rfl (by rw [hF]; kernel_rfl), hN0]) (by rw [hF]; kernel_rfl) (by rw [hF]; kernel_rfl)
              · exact Reg.doesV_val (ev_move rfl) (by rw [hF]; kernel_rfl) (by rw [hF]; kernel_rfl)
              · exact Reg.doesV_val (ev_move rfl) (by rw [hF]; kernel_rfl) (by rw [hF]; kernel_rfl)
              · exact Reg.doesV_val (ev_move rfl) (by rw [hF]; kernel_rfl) (by rw [hF]; kernel_rfl)
              · exact Reg.doesV_val (ev_idxC (b := b) (off := off) (n := n) (c := c) (k := k) hlt rfl (by rw [hF]; kernel_rfl) (by rw [hF]; kernel_rfl)) (by rw [hF]; kernel_rfl) (by rw [hF]; kernel_rfl)
              · exact Reg.doesV_val (ev_c1 (b := b) (off := off + k * 2) rfl (by rw [hF]; kernel_rfl)) (by rw [hF]; kernel_rfl) (by rw [hF]; kernel_rfl)
              · exact Reg.doesV_val (ev_ldI (k := N) j1 rfl (by rw [hF]; kernel_rfl)) (by rw [hF]; kernel_rfl) (by rw [hF]; kernel_rfl)
              · exact Reg.doesV_call (by have h := fits5_c N w'; rw [hF1] at h; exact h) (ev_call enRFits rfl (by rw [hF]; kernel_rfl)) (by rw [hF]; kernel_rfl) (by rw [hF]; kernel_rfl)
              · exact Reg.doesV_val (ev_not true rfl (by rw [hF]; kernel_rfl)) (by rw [hF]; kernel_rfl) (by rw [hF]; kernel_rfl)
              · exact Reg.doesV_val (ev_pick false rfl (by rw [hF]; kernel_rfl)) (by rw [hF]; kernel_rfl) (by rw [hF]; kernel_rfl)
              · exact Reg.doesV_val (ev_move rfl) (by rw [hF]; kernel_rfl) (by rw [hF]; kernel_rfl)
              · exact Reg.doesV_val (ev_move rfl) (by rw [hF]; kernel_rfl) (by rw [hF]; kernel_rfl)
              · exact Reg.doesV_val (ev_move rfl) (by rw [hF]; kernel_rfl) (by rw [hF]; kernel_rfl)
              · exact Reg.doesV_val (ev_idxC (b := b) (off := off) (n := n) (c := c) (k := k) hlt rfl (by rw [hF]; kernel_rfl) (by rw [hF]; kernel_rfl)) (by rw [hF]; kernel_rfl) (by rw [hF]; kernel_rfl)
              · exact Reg.doesV_val (ev_c0 (b := b) (off := off + k * 2) rfl (by rw [hF]; kernel_rfl)) (by rw [hF]; kernel_rfl) (by rw [hF]; kernel_rfl)
              · exact Reg.doesV_val (ev_ldR (A := xA) (n := xn) (c := xc) j0 rfl (by rw [hF]; kernel_rfl)) (by rw [hF]; kernel_rfl) (by rw [hF]; kernel_rfl)
              · exact Reg.doesV_call (by have h := rmayRow_c xA xn xc xs w' ix.hd.len ix.hd.max ix.hd.sl ix.sz; rw [rmay_mayR, hM] at h; exact h) (ev_call enR4May rfl (by rw [hF]; kernel_rfl)) (by rw [hF]; kernel_rfl) (by rw [hF]; kernel_rfl)
              · exact Reg.doesV_val (ev_not true rfl (by rw [hF]; kernel_rfl)) (by rw [hF]; kernel_rfl) (by rw [hF]; kernel_rfl)
              · exact Reg.doesV_val (ev_pick false rfl (by rw [hF]; kernel_rfl)) (by rw [hF]; kernel_rfl) (by rw [hF]; kernel_rfl)
              · exact Reg.doesV_val (ev_move rfl) (by rw [hF]; kernel_rfl) (by rw [hF]; kernel_rfl)
              · exact Reg.doesV_val (ev_move rfl) (by rw [hF]; kernel_rfl) (by rw [hF]; kernel_rfl)
              · exact Reg.doesV_val (by rw [ev_gtC5 (k : Int) 0 rfl (by rw [hF]; kernel_rfl), hk0]) (by rw [hF]; kernel_rfl) (by rw [hF]; kernel_rfl)
              · exact Reg.doesV_val (ev_move rfl) (by rw [hF]; kernel_rfl) (by rw [hF]; kernel_rfl)
              · exact Reg.doesV_skip (by rw [hF]; kernel_rfl) (by rw [hF]; kernel_rfl)
              · exact Reg.doesV_skip (by rw [hF]; kernel_rfl) (by rw [hF]; kernel_rfl)
              · exact Reg.doesV_skip (by rw [hF]; kernel_rfl) (by rw [hF]; kernel_rfl)
              · exact Reg.doesV_skip (by rw [hF]; kernel_rfl) (by rw [hF]; kernel_rfl)
              · exact Reg.doesV_skip (by rw [hF]; kernel_rfl) (by rw [hF]; kernel_rfl)
              · exact Reg.doesV_skip (by rw [hF]; kernel_rfl) (by rw [hF]; kernel_rfl)
              · exact Reg.doesV_skip (by rw [hF]; kernel_rfl) (by rw [hF]; kernel_rfl)
              · exact Reg.doesV_skip (by rw [hF]; kernel_rfl) (by rw [hF]; kernel_rfl)
              · exact Reg.doesV_skip (by rw [hF]; kernel_rfl) (by rw [hF]; kernel_rfl)
              · exact Reg.doesV_skip (by rw [hF]; kernel_rfl) (by rw [hF]; kernel_rfl)
              · exact Reg.doesV_skip (by rw [hF]; kernel_rfl) (by rw [hF]; kernel_rfl)
              · exact Reg.doesV_skip (by rw [hF]; kernel_rfl) (by rw [hF]; kernel_rfl)
              · exact Reg.doesV_skip (by rw [hF]; kernel_rfl) (by rw [hF]; kernel_rfl)
              · exact Reg.doesV_val (ev_pick false rfl (by rw [hF]; kernel_rfl)) (by rw [hF]; kernel_rfl) (by rw [hF]; kernel_rfl)
              · exact Reg.doesV_val (ev_pick false rfl (by rw [hF]; kernel_rfl)) (by rw [hF]; kernel_rfl) (by rw [hF]; kernel_rfl)
            · intro w8 hB
              simp only [Reg.putAll, Act.put, List.setIfInBounds_toArray, List.set_cons_zero, List.set_cons_succ]
              have Hb2 := Lib.hid (hb.out.trans (hB.mono hb.out.size))
              clear hB
              go_wp2
              go_roundw
              case rel => exact ⟨k + 1, by omega, by go_num, Hb2, Hst2⟩
              case measure => simp [intOf]; omega
          · obtain ⟨j, hkj⟩ : ∃ j, k = j + 1 := ⟨k - 1, by have := of_decide_eq_true hk0; omega⟩
            have hjn : j < n := by omega
            have hjx : k ≤ 9223372036854775807 := by omega
            obtain ⟨⟨⟨yA, yn, yc, ys⟩, yN⟩, hp, hy, dq⟩ := hprev.out j hkj
            have Hy := Lib.hid hy
            have dq := Lib.hid dq
            clear hy
            cases hC : decide (0 ≤ cmpL ys xs)
            · have hC2 : decide (cmpL ys xs < 0) = true := by have := of_decide_eq_false hC; exact decide_eq_true (by omega)
              have Hst2 : Hid (mayFrom (prevOf (pl cs) (k + 1)) ((pl cs).drop (k + 1)) = R) := by
               have := Hst.out
               rw [okC_and] at this
               simp only [hN0, hF1, hM, hp, hC2, Bool.not_false, Bool.true_and] at this
               exact Lib.hid this
              clear Hst
              clear hp hC2
              refine Reg.wp_region_vals mixed (by kernel_rfl) [(10, .slice (some ⟨b, off, none⟩) n c), (11, .int .i64 (k : Nat)), (12, .pointer (some ⟨b, off + k * 2, none⟩)), (13, .pointer (some ⟨b, off + k * 2 + 1, none⟩)), (14, .int .i64 N), (15, .bool false), (16, .bool false), (17, .slice (some ⟨b, off, none⟩) n c), (18, .int .i64 (k : Nat)), (19, .pointer (some ⟨b, off + k * 2, none⟩)), (20, .pointer (some ⟨b, off + k * 2 + 1, none⟩)), (21, .int .i64 N), (22, .bool true), (23, .bool false), (24, .bool false), (25, .bool false), (26, .slice (some ⟨b, off, none⟩) n c), (27, .int .i64 (k : Nat)), (28, .pointer (some ⟨b, off + k * 2, none⟩)), (29, .pointer (some ⟨b, off + k * 2, none⟩)), (30, .slice xA xn xc), (31, .bool true), (32, .bool false), (33, .bool false), (34, .bool false), (35, .int .i64 (k : Nat)), (36, .bool true), (37, .bool true), (38, .slice (some ⟨b, off, none⟩) n c), (39, .int .i64 (k : Nat)), (40, .int .i64 (j : Nat)), (41, .pointer (some ⟨b, off + j * 2, none⟩)), (42, .pointer (some ⟨b, off + j * 2, none⟩)), (43, .slice yA yn yc), (44, .slice (some ⟨b, off, none⟩) n c), (45, .int .i64 (k : Nat)), (46, .pointer (some ⟨b, off + k * 2, none⟩)), (47, .pointer (some ⟨b, off + k * 2, none⟩)), (48, .slice xA xn xc), (49, .int .i64 (cmpL ys xs)), (50, .bool false), (51, .bool false), (52, .bool false)] 53 rfl (by kernel_rfl) ?_ ?_
              · intro F hF w' hB
                have j0 := (hB.cell (p := ⟨b, off + k * 2, none⟩) l0).trans d0.out
                have j1 := (hB.cell (p := ⟨b, off + k * 2 + 1, none⟩) l0).trans d1.out
                have ix := Hx.out.after hB
                have q0 := (hB.cell (p := ⟨b, off + j * 2, none⟩) l0).trans dq.out
                have iy := Hy.out.after hB
                refine ⟨?_, ?_, ?_, ?_, ?_, ?_, ?_, ?_, ?_, ?_, ?_, ?_, ?_, ?_, ?_, ?_, ?_, ?_, ?_, ?_, ?_, ?_, ?_, ?_, ?_, ?_, ?_, ?_, ?_, ?_, ?_, ?_, ?_, ?_, ?_, ?_, ?_, ?_, ?_, ?_, ?_, ?_, ?_, trivial⟩
                · exact Reg.doesV_val (ev_move rfl) (by rw [hF]; kernel_rfl) (by rw [hF]; kernel_rfl)
                · exact Reg.doesV_val (ev_move rfl) (by rw [hF]; kernel_rfl) (by rw [hF]; kernel_rfl)
                · exact Reg.doesV_val (ev_idxC (b := b) (off := off) (n := n) (c := c) (k := k) hlt rfl (by rw [hF]; kernel_rfl) (by rw [hF]; kernel_rfl)) (by rw [hF]; kernel_rfl) (by rw [hF]; kernel_rfl)
                · exact Reg.doesV_val (ev_c1 (b := b) (off := off + k * 2) rfl (by rw [hF]; kernel_rfl)) (by rw [hF]; kernel_rfl) (by rw [hF]; kernel_rfl)
                · exact Reg.doesV_val (ev_ldI (k := N) j1 rfl (by rw [hF]; kernel_rfl)) (by rw [hF]; kernel_rfl) (by rw [hF]; kernel_rfl)
                · exact Reg.doesV_val (by rw [ev_eqC5 N 0 rfl (by rw [hF]; kernel_rfl), hN0]) (by rw [hF]; kernel_rfl) (by rw [hF]; kernel_rfl)
                · exact Reg.doesV_val (ev_move rfl) (by rw [hF]; kernel_rfl) (by rw [hF]; kernel_rfl)
                · exact Reg.doesV_val (ev_move rfl) (by rw [hF]; kernel_rfl) (by rw [hF]; kernel_rfl)
                · exact Reg.doesV_val (ev_move rfl) (by rw [hF]; kernel_rfl) (by rw [hF]; kernel_rfl)
                · exact Reg.doesV_val (ev_idxC (b := b) (off := off) (n := n) (c := c) (k := k) hlt rfl (by rw [hF]; kernel_rfl) (by rw [hF]; kernel_rfl)) (by rw [hF]; kernel_rfl) (by rw [hF]; kernel_rfl)
                · exact Reg.doesV_val (ev_c1 (b := b) (off := off + k * 2) rfl (by rw [hF]; kernel_rfl)) (by rw [hF]; kernel_rfl) (by rw [hF]; kernel_rfl)
                · exact Reg.doesV_val (ev_ldI (k := N) j1 rfl (by rw [hF]; kernel_rfl)) (by rw [hF]; kernel_rfl) (by rw [hF]; kernel_rfl)
                · exact Reg.doesV_call (by have h := fits5_c N w'; rw [hF1] at h; exact h) (ev_call enRFits rfl (by rw [hF]; kernel_rfl)) (by rw [hF]; kernel_rfl) (by rw [hF]; kernel_rfl)
                · exact Reg.doesV_val (ev_not true rfl (by rw [hF]; kernel_rfl)) (by rw [hF]; kernel_rfl) (by rw [hF]; kernel_rfl)
                · exact Reg.doesV_val (ev_pick false rfl (by rw [hF]; kernel_rfl)) (by rw [hF]; kernel_rfl) (by rw [hF]; kernel_rfl)
                · exact Reg.doesV_val (ev_move rfl) (by rw [hF]; kernel_rfl) (by rw [hF]; kernel_rfl)
                · exact Reg.doesV_val (ev_move rfl) (by rw [hF]; kernel_rfl) (by rw [hF]; kernel_rfl)
                · exact Reg.doesV_val (ev_move rfl) (by rw [hF]; kernel_rfl) (by rw [hF]; kernel_rfl)
                · exact Reg.doesV_val (ev_idxC (b := b) (off := off) (n := n) (c := c) (k := k) hlt rfl (by rw [hF]; kernel_rfl) (by rw [hF]; kernel_rfl)) (by rw [hF]; kernel_rfl) (by rw [hF]; kernel_rfl)
                · exact Reg.doesV_val (ev_c0 (b := b) (off := off + k * 2) rfl (by rw [hF]; kernel_rfl)) (by rw [hF]; kernel_rfl) (by rw [hF]; kernel_rfl)
                · exact Reg.doesV_val (ev_ldR (A := xA) (n := xn) (c := xc) j0 rfl (by rw [hF]; kernel_rfl)) (by rw [hF]; kernel_rfl) (by rw [hF]; kernel_rfl)
                · exact Reg.doesV_call (by have h := rmayRow_c xA xn xc xs w' ix.hd.len ix.hd.max ix.hd.sl ix.sz; rw [rmay_mayR, hM] at h; exact h) (ev_call enR4May rfl (by rw [hF]; kernel_rfl)) (by rw [hF]; kernel_rfl) (by rw [hF]; kernel_rfl)
                · exact Reg.doesV_val (ev_not true rfl (by rw [hF]; kernel_rfl)) (by rw [hF]; kernel_rfl) (by rw [hF]; kernel_rfl)
                · exact Reg.doesV_val (ev_pick false rfl (by rw [hF]; kernel_rfl)) (by rw [hF]; kernel_rfl) (by rw [hF]; kernel_rfl)
                · exact Reg.doesV_val (ev_move rfl) (by rw [hF]; kernel_rfl) (by rw [hF]; kernel_rfl)
                · exact Reg.doesV_val (ev_move rfl) (by rw [hF]; kernel_rfl) (by rw [hF]; kernel_rfl)
                · exact Reg.doesV_val (by rw [ev_gtC5 (k : Int) 0 rfl (by rw [hF]; kernel_rfl), hk0]) (by rw [hF]; kernel_rfl) (by rw [hF]; kernel_rfl)
                · exact Reg.doesV_val (ev_move rfl) (by rw [hF]; kernel_rfl) (by rw [hF]; kernel_rfl)
                · exact Reg.doesV_val (ev_move rfl) (by rw [hF]; kernel_rfl) (by rw [hF]; kernel_rfl)
                · exact Reg.doesV_val (ev_move rfl) (by rw [hF]; kernel_rfl) (by rw [hF]; kernel_rfl)
                · exact Reg.doesV_val (ev_dec5 k j hkj hjx rfl (by rw [hF]; kernel_rfl)) (by rw [hF]; kernel_rfl) (by rw [hF]; kernel_rfl)
                · exact Reg.doesV_val (ev_idxC (b := b) (off := off) (n := n) (c := c) (k := j) hjn rfl (by rw [hF]; kernel_rfl) (by rw [hF]; kernel_rfl)) (by rw [hF]; kernel_rfl) (by rw [hF]; kernel_rfl)
                · exact Reg.doesV_val (ev_c0 (b := b) (off := off + j * 2) rfl (by rw [hF]; kernel_rfl)) (by rw [hF]; kernel_rfl) (by rw [hF]; kernel_rfl)
                · exact Reg.doesV_val (ev_ldR (A := yA) (n := yn) (c := yc) q0 rfl (by rw [hF]; kernel_rfl)) (by rw [hF]; kernel_rfl) (by rw [hF]; kernel_rfl)
                · exact Reg.doesV_val (ev_move rfl) (by rw [hF]; kernel_rfl) (by rw [hF]; kernel_rfl)
                · exact Reg.doesV_val (ev_move rfl) (by rw [hF]; kernel_rfl) (by rw [hF]; kernel_rfl)
                · exact Reg.doesV_val (ev_idxC (b := b) (off := off) (n := n) (c := c) (k := k) hlt rfl (by rw [hF]; kernel_rfl) (by rw [hF]; kernel_rfl)) (by rw [hF]; kernel_rfl) (by rw [hF]; kernel_rfl)
                · exact Reg.doesV_val (ev_c0 (b := b) (off := off + k * 2) rfl (by rw [hF]; kernel_rfl)) (by rw [hF]; kernel_rfl) (by rw [hF]; kernel_rfl)
                · exact Reg.doesV_val (ev_ldR (A := xA) (n := xn) (c := xc) j0 rfl (by rw [hF]; kernel_rfl)) (by rw [hF]; kernel_rfl) (by rw [hF]; kernel_rfl)
                · exact Reg.doesV_call (rcompareL_c yA xA yn xn yc xc ys xs w' iy.hd.len ix.hd.len iy.hd.max ix.hd.max iy.hd.sl ix.hd.sl) (ev_call enRCompareL rfl (by rw [hF]; kernel_rfl)) (by rw [hF]; kernel_rfl) (by rw [hF]; kernel_rfl)
                · exact Reg.doesV_val (by rw [ev_geC5 (cmpL ys xs) 0 rfl (by rw [hF]; kernel_rfl), hC]) (by rw [hF]; kernel_rfl) (by rw [hF]; kernel_rfl)
                · exact Reg.doesV_val (ev_pick true rfl (by rw [hF]; kernel_rfl)) (by rw [hF]; kernel_rfl) (by rw [hF]; kernel_rfl)
                · exact Reg.doesV_val (ev_pick false rfl (by rw [hF]; kernel_rfl)) (by rw [hF]; kernel_rfl) (by rw [hF]; kernel_rfl)
              · intro w8 hB
                simp only [Reg.putAll, Act.put, List.setIfInBounds_toArray, List.set_cons_zero, List.set_cons_succ]
                have Hb2 := Lib.hid (hb.out.trans (hB.mono hb.out.size))
                clear hB
                go_wp2
                go_roundw
                case rel => exact ⟨k + 1, by omega, by go_num, Hb2, Hst2⟩
                case measure => simp [intOf]; omega
            · have hC2 : decide (cmpL ys xs < 0) = false := by have := of_decide_eq_true hC; exact decide_eq_false (by omega)
              have Hst2 : Hid (false = R) := by
               have := Hst.out
               rw [okC_and] at this
               simp only [hN0, hF1, hM, hp, hC2, Bool.not_false, Bool.true_and, Bool.false_and] at this
               exact Lib.hid this
              clear Hst
              clear hp hC2
              refine Reg.wp_region_vals mixed (by kernel_rfl) [(10, .slice (some ⟨b, off, none⟩) n c), (11, .int .i64 (k : Nat)), (12, .pointer (some ⟨b, off + k * 2, none⟩)), (13, .pointer (some ⟨b, off + k * 2 + 1, none⟩)), (14, .int .i64 N), (15, .bool false), (16, .bool false), (17, .slice (some ⟨b, off, none⟩) n c), (18, .int .i64 (k : Nat)), (19, .pointer (some ⟨b, off + k * 2, none⟩)), (20, .pointer (some ⟨b, off + k * 2 + 1, none⟩)), (21, .int .i64 N), (22, .bool true), (23, .bool false), (24, .bool false), (25, .bool false), (26, .slice (some ⟨b, off, none⟩) n c), (27, .int .i64 (k : Nat)), (28, .pointer (some ⟨b, off + k * 2, none⟩)), (29, .pointer (some ⟨b, off + k * 2, none⟩)), (30, .slice xA xn xc), (31, .bool true), (32, .bool false), (33, .bool false), (34, .bool false), (35, .int .i64 (k : Nat)), (36, .bool true), (37, .bool true), (38, .slice (some ⟨b, off, none⟩) n c), (39, .int .i64 (k : Nat)), (40, .int .i64 (j : Nat)), (41, .pointer (some ⟨b, off + j * 2, none⟩)), (42, .pointer (some ⟨b, off + j * 2, none⟩)), (43, .slice yA yn yc), (44, .slice (some ⟨b, off, none⟩) n c), (45, .int .i64 (k : Nat)), (46, .pointer (some ⟨b, off + k * 2, none⟩)), (47, .pointer (some ⟨b, off + k * 2, none⟩)), (48, .slice xA xn xc), (49, .int .i64 (cmpL ys xs)), (50, .bool true), (51, .bool true), (52, .bool true)] 53 rfl (by kernel_rfl) ?_ ?_
              · intro F hF w' hB
                have j0 := (hB.cell (p := ⟨b, off + k * 2, none⟩) l0).trans d0.out
                have j1 := (hB.cell (p := ⟨b, off + k * 2 + 1, none⟩) l0).trans d1.out
                have ix := Hx.out.after hB
                have q0 := (hB.cell (p := ⟨b, off + j * 2, none⟩) l0).trans dq.out
                have iy := Hy.out.after hB
                refine ⟨?_, ?_, ?_, ?_, ?_, ?_, ?_, ?_, ?_, ?_, ?_, ?_, ?_, ?_, ?_, ?_, ?_, ?_, ?_, ?_, ?_, ?_, ?_, ?_, ?_, ?_, ?_, ?_, ?_, ?_, ?_, ?_, ?_, ?_, ?_, ?_, ?_, ?_, ?_, ?_, ?_, ?_, ?_, trivial⟩
                · exact Reg.doesV_val (ev_move rfl) (by rw [hF]; kernel_rfl) (by rw [hF]; kernel_rfl)
                · exact Reg.doesV_val (ev_move rfl) (by rw [hF]; kernel_rfl) (by rw [hF]; kernel_rfl)
                · exact Reg.doesV_val (ev_idxC (b := b) (off := off) (n := n) (c := c) (k := k) hlt rfl (by rw [hF]; kernel_rfl) (by rw [hF]; kernel_rfl)) (by rw [hF]; kernel_rfl) (by rw [hF]; kernel_rfl)
                · exact Reg.doesV_val (ev_c1 (b := b) (off := off + k * 2) rfl (by rw [hF]; kernel_rfl)) (by rw [hF]; kernel_rfl) (by rw [hF]; kernel_rfl)
                · exact Reg.doesV_val (ev_ldI (k := N) j1 rfl (by rw [hF]; kernel_rfl)) (by rw [hF]; kernel_rfl) (by rw [hF]; kernel_rfl)
                · exact Reg.doesV_val (by rw [ev_eqC5 N 0 rfl (by rw [hF]; kernel_rfl), hN0]) (by rw [hF]; kernel_rfl) (by rw [hF]; kernel_rfl)
                · exact Reg.doesV_val (ev_move rfl) (by rw [hF]; kernel_rfl) (by rw [hF]; kernel_rfl)
                · exact Reg.doesV_val (ev_move rfl) (by rw [hF]; kernel_rfl) (by rw [hF]; kernel_rfl)
                · exact Reg.doesV_val (ev_move rfl) (by rw [hF]; kernel_rfl) (by rw [hF]; kernel_rfl)
                · exact Reg.doesV_val (ev_idxC (b := b) (off := off) (n := n) (c := c) (k := k) hlt rfl (by rw [hF]; kernel_rfl) (by rw [hF]; kernel_rfl)) (by rw [hF]; kernel_rfl) (by rw [hF]; kernel_rfl)
                · exact Reg.doesV_val (ev_c1 (b := b) (off := off + k * 2) rfl (by rw [hF]; kernel_rfl)) (by rw [hF]; kernel_rfl) (by rw [hF]; kernel_rfl)
                · exact Reg.doesV_val (ev_ldI (k := N) j1 rfl (by rw [hF]; kernel_rfl)) (by rw [hF]; kernel_rfl) (by rw [hF]; kernel_rfl)
                · exact Reg.doesV_call (by have h := fits5_c N w'; rw [hF1] at h; exact h) (ev_call enRFits rfl (by rw [hF]; kernel_rfl)) (by rw [hF]; kernel_rfl) (by rw [hF]; kernel_rfl)
                · exact Reg.doesV_val (ev_not true rfl (by rw [hF]; kernel_rfl)) (by rw [hF]; kernel_rfl) (by rw [hF]; kernel_rfl)
                · exact Reg.doesV_val (ev_pick false rfl (by rw [hF]; kernel_rfl)) (by rw [hF]; kernel_rfl) (by rw [hF]; kernel_rfl)
                · exact Reg.doesV_val (ev_move rfl) (by rw [hF]; kernel_rfl) (by rw [hF]; kernel_rfl)
                · exact Reg.doesV_val (ev_move rfl) (by rw [hF]; kernel_rfl) (by rw [hF]; kernel_rfl)
                · exact Reg.doesV_val (ev_move rfl) (by rw [hF]; kernel_rfl) (by rw [hF]; kernel_rfl)
                · exact Reg.doesV_val (ev_idxC (b := b) (off := off) (n := n) (c := c) (k := k) hlt rfl (by rw [hF]; kernel_rfl) (by rw [hF]; kernel_rfl)) (by rw [hF]; kernel_rfl) (by rw [hF]; kernel_rfl)
                · exact Reg.doesV_val (ev_c0 (b := b) (off := off + k * 2) rfl (by rw [hF]; kernel_rfl)) (by rw [hF]; kernel_rfl) (by rw [hF]; kernel_rfl)
                · exact Reg.doesV_val (ev_ldR (A := xA) (n := xn) (c := xc) j0 rfl (by rw [hF]; kernel_rfl)) (by rw [hF]; kernel_rfl) (by rw [hF]; kernel_rfl)
                · exact Reg.doesV_call (by have h := rmayRow_c xA xn xc xs w' ix.hd.len ix.hd.max ix.hd.sl ix.sz; rw [rmay_mayR, hM] at h; exact h) (ev_call enR4May rfl (by rw [hF]; kernel_rfl)) (by rw [hF]; kernel_rfl) (by rw [hF]; kernel_rfl)
                · exact Reg.doesV_val (ev_not true rfl (by rw [hF]; kernel_rfl)) (by rw [hF]; kernel_rfl) (by rw [hF]; kernel_rfl)
                · exact Reg.doesV_val (ev_pick false rfl (by rw [hF]; kernel_rfl)) (by rw [hF]; kernel_rfl) (by rw [hF]; kernel_rfl)
                · exact Reg.doesV_val (ev_move rfl) (by rw [hF]; kernel_rfl) (by rw [hF]; kernel_rfl)
                · exact Reg.doesV_val (ev_move rfl) (by rw [hF]; kernel_rfl) (by rw [hF]; kernel_rfl)
                · exact Reg.doesV_val (by rw [ev_gtC5 (k : Int) 0 rfl (by rw [hF]; kernel_rfl), hk0]) (by rw [hF]; kernel_rfl) (by rw [hF]; kernel_rfl)
                · exact Reg.doesV_val (ev_move rfl) (by rw [hF]; kernel_rfl) (by rw [hF]; kernel_rfl)
                · exact Reg.doesV_val (ev_move rfl) (by rw [hF]; kernel_rfl) (by rw [hF]; kernel_rfl)
                · exact Reg.doesV_val (ev_move rfl) (by rw [hF]; kernel_rfl) (by rw [hF]; kernel_rfl)
                · exact Reg.doesV_val (ev_dec5 k j hkj hjx rfl (by rw [hF]; kernel_rfl)) (by rw [hF]; kernel_rfl) (by rw [hF]; kernel_rfl)
                · exact Reg.doesV_val (ev_idxC (b := b) (off := off) (n := n) (c := c) (k := j) hjn rfl (by rw [hF]; kernel_rfl) (by rw [hF]; kernel_rfl)) (by rw [hF]; kernel_rfl) (by rw [hF]; kernel_rfl)
                · exact Reg.doesV_val (ev_c0 (b := b) (off := off + j * 2) rfl (by rw [hF]; kernel_rfl)) (by rw [hF]; kernel_rfl) (by rw [hF]; kernel_rfl)
                · exact Reg.doesV_val (ev_ldR (A := yA) (n := yn) (c := yc) q0 rfl (by rw [hF]; kernel_rfl)) (by rw [hF]; kernel_rfl) (by rw [hF]; kernel_rfl)
                · exact Reg.doesV_val (ev_move rfl) (by rw [hF]; kernel_rfl) (by rw [hF]; kernel_rfl)
                · exact Reg.doesV_val (ev_move rfl) (by rw [hF]; kernel_rfl) (by rw [hF]; kernel_rfl)
                · exact Reg.doesV_val (ev_idxC (b := b) (off := off) (n := n) (c := c) (k := k) hlt rfl (by rw [hF]; kernel_rfl) (by rw [hF]; kernel_rfl)) (by rw [hF]; kernel_rfl) (by rw [hF]; kernel_rfl)
                · exact Reg.doesV_val (ev_c0 (b := b) (off := off + k * 2) rfl (by rw [hF]; kernel_rfl)) (by rw [hF]; kernel_rfl) (by rw [hF]; kernel_rfl)
                · exact Reg.doesV_val (ev_ldR (A := xA) (n := xn) (c := xc) j0 rfl (by rw [hF]; kernel_rfl)) (by rw [hF]; kernel_rfl) (by rw [hF]; kernel_rfl)
                · exact Reg.doesV_call (rcompareL_c yA xA yn xn yc xc ys xs w' iy.hd.len ix.hd.len iy.hd.max ix.hd.max iy.hd.sl ix.hd.sl) (ev_call enRCompareL rfl (by rw [hF]; kernel_rfl)) (by rw [hF]; kernel_rfl) (by rw [hF]; kernel_rfl)
                · exact Reg.doesV_val (by rw [ev_geC5 (cmpL ys xs) 0 rfl (by rw [hF]; kernel_rfl), hC]) (by rw [hF]; kernel_rfl) (by rw [hF]; kernel_rfl)
                · exact Reg.doesV_val (ev_pick true rfl (by rw [hF]; kernel_rfl)) (by rw [hF]; kernel_rfl) (by rw [hF]; kernel_rfl)
                · exact Reg.doesV_val (ev_pick false rfl (by rw [hF]; kernel_rfl)) (by rw [hF]; kernel_rfl) (by rw [hF]; kernel_rfl)
              · intro w8 hB
                simp only [Reg.putAll, Act.put, List.setIfInBounds_toArray, List.set_cons_zero, List.set_cons_succ]
                have Hb2 := Lib.hid (hb.out.trans (hB.mono hb.out.size))
                clear hB
                go_wp2
                go_ret
                exact ⟨congrArg (fun z => Ending.returned (Value.bool z)) Hst2.out, Hb2.out⟩
    · have Hst2 : Hid (false = R) := by
       have := Hst.out
       rw [okC_and] at this
       simp only [hN0, Bool.not_true, Bool.false_and] at this
       exact Lib.hid this
      clear Hst
      refine Reg.wp_region_vals mixed (by kernel_rfl) [(10, .slice (some ⟨b, off, none⟩) n c), (11, .int .i64 (k : Nat)), (12, .pointer (some ⟨b, off + k * 2, none⟩)), (13, .pointer (some ⟨b, off + k * 2 + 1, none⟩)), (14, .int .i64 N), (15, .bool true), (16, .bool true), (17, undef), (18, undef), (19, undef), (20, undef), (21, undef), (22, undef), (23, undef), (24, .bool true), (25, .bool true), (26, undef), (27, undef), (28, undef), (29, undef), (30, undef), (31, undef), (32, undef), (33, .bool true), (34, .bool true), (35, undef), (36, undef), (37, undef), (38, undef), (39, undef), (40, undef), (41, undef), (42, undef), (43, undef), (44, undef), (45, undef), (46, undef), (47, undef), (48, undef), (49, undef), (50, undef), (51, undef), (52, .bool true)] 53 rfl (by kernel_rfl) ?_ ?_
      · intro F hF w' hB
        have j0 := (hB.cell (p := ⟨b, off + k * 2, none⟩) l0).trans d0.out
        have j1 := (hB.cell (p := ⟨b, off + k * 2 + 1, none⟩) l0).trans d1.out
        have ix := Hx.out.after hB
        refine ⟨?_, ?_, ?_, ?_, ?_, ?_, ?_, ?_, ?_, ?_, ?_, ?_, ?_, ?_, ?_, ?_, ?_, ?_, ?_, ?_, ?_, ?_, ?_, ?_, ?_, ?_, ?_, ?_, ?_, ?_, ?_, ?_, ?_, ?_, ?_, ?_, ?_, ?_, ?_, ?_, ?_, ?_, ?_, trivial⟩
        · exact Reg.doesV_val (ev_move rfl) (by rw [hF]; kernel_rfl) (by rw [hF]; kernel_rfl)
        · exact Reg.doesV_val (ev_move rfl) (by rw [hF]; kernel_rfl) (by rw [hF]; kernel_rfl)
        · exact Reg.doesV_val (ev_idxC (b := b) (off := off) (n := n) (c := c) (k := k) hlt rfl (by rw [hF]; kernel_rfl) (by rw [hF]; kernel_rfl)) (by rw [hF]; kernel_rfl) (by rw [hF]; kernel_rfl)
        · exact Reg.doesV_val (ev_c1 (b := b) (off := off + k * 2) rfl (by rw [hF]; kernel_rfl)) (by rw [hF]; kernel_rfl) (by rw [hF]; kernel_rfl)
        · exact Reg.doesV_val (ev_ldI (k := N) j1 rfl (by rw [hF]; kernel_rfl)) (by rw [hF]; kernel_rfl) (by rw [hF]; kernel_rfl)
        · exact Reg.doesV_val (by rw [ev_eqC5 N 0 rfl (by rw [hF]; kernel_rfl), hN0]) (by rw [hF]; kernel_rfl) (by rw [hF]; kernel_rfl)
        · exact Reg.doesV_val (ev_move rfl) (by rw [hF]; kernel_rfl) (by rw [hF]; kernel_rfl)
        · exact Reg.doesV_skip (by rw [hF]; kernel_rfl) (by rw [hF]; kernel_rfl)
        · exact Reg.doesV_skip (by rw [hF]; kernel_rfl) (by rw [hF]; kernel_rfl)
        · exact Reg.doesV_skip (by rw [hF]; kernel_rfl) (by rw [hF]; kernel_rfl)
        · exact Reg.doesV_skip (by rw [hF]; kernel_rfl) (by rw [hF]; kernel_rfl)
        · exact Reg.doesV_skip (by rw [hF]; kernel_rfl) (by rw [hF]; kernel_rfl)
        · exact Reg.doesV_skip (by rw [hF]; kernel_rfl) (by rw [hF]; kernel_rfl)
        · exact Reg.doesV_skip (by rw [hF]; kernel_rfl) (by rw [hF]; kernel_rfl)
        · exact Reg.doesV_val (ev_pick true rfl (by rw [hF]; kernel_rfl)) (by rw [hF]; kernel_rfl) (by rw [hF]; kernel_rfl)
        · exact Reg.doesV_val (ev_move rfl) (by rw [hF]; kernel_rfl) (by rw [hF]; kernel_rfl)
        · exact Reg.doesV_skip (by rw [hF]; kernel_rfl) (by rw [hF]; kernel_rfl)
        · exact Reg.doesV_skip (by rw [hF]; kernel_rfl) (by rw [hF]; kernel_rfl)
        · exact Reg.doesV_skip (by rw [hF]; kernel_rfl) (by rw [hF]; kernel_rfl)
        · exact Reg.doesV_skip (by rw [hF]; kernel_rfl) (by rw [hF]; kernel_rfl)
        · exact Reg.doesV_skip (by rw [hF]; kernel_rfl) (by rw [hF]; kernel_rfl)
        · exact Reg.doesV_skip (by rw [hF]; kernel_rfl) (by rw [hF]; kernel_rfl)
        · exact Reg.doesV_skip (by rw [hF]; kernel_rfl) (by rw [hF]; kernel_rfl)
        · exact Reg.doesV_val (ev_pick true rfl (by rw [hF]; kernel_rfl)) (by rw [hF]; kernel_rfl) (by rw [hF]; kernel_rfl)
        · exact Reg.doesV_val (ev_move rfl) (by rw [hF]; kernel_rfl) (by rw [hF]; kernel_rfl)
        · exact Reg.doesV_skip (by rw [hF]; kernel_rfl) (by rw [hF]; kernel_rfl)
        · exact Reg.doesV_skip (by rw [hF]; kernel_rfl) (by rw [hF]; kernel_rfl)
        · exact Reg.doesV_skip (by rw [hF]; kernel_rfl) (by rw [hF]; kernel_rfl)
        · exact Reg.doesV_skip (by rw [hF]; kernel_rfl) (by rw [hF]; kernel_rfl)
        · exact Reg.doesV_skip (by rw [hF]; kernel_rfl) (by rw [hF]; kernel_rfl)
        · exact Reg.doesV_skip (by rw [hF]; kernel_rfl) (by rw [hF]; kernel_rfl)
        · exact Reg.doesV_skip (by rw [hF]; kernel_rfl) (by rw [hF]; kernel_rfl)
        · exact Reg.doesV_skip (by rw [hF]; kernel_rfl) (by rw [hF]; kernel_rfl)
        · exact Reg.doesV_skip (by rw [hF]; kernel_rfl) (by rw [hF]; kernel_rfl)
        · exact Reg.doesV_skip (by rw [hF]; kernel_rfl) (by rw [hF]; kernel_rfl)
        · exact Reg.doesV_skip (by rw [hF]; kernel_rfl) (by rw [hF]; kernel_rfl)
        · exact Reg.doesV_skip (by rw [hF]; kernel_rfl) (by rw [hF]; kernel_rfl)
        · exact Reg.doesV_skip (by rw [hF]; kernel_rfl) (by rw [hF]; kernel_rfl)
        · exact Reg.doesV_skip (by rw [hF]; kernel_rfl) (by rw [hF]; kernel_rfl)
        · exact Reg.doesV_skip (by rw [hF]; kernel_rfl) (by rw [hF]; kernel_rfl)
        · exact Reg.doesV_skip (by rw [hF]; kernel_rfl) (by rw [hF]; kernel_rfl)
        · exact Reg.doesV_skip (by rw [hF]; kernel_rfl) (by rw [hF]; kernel_rfl)
        · exact Reg.doesV_val (ev_pick true rfl (by rw [hF]; kernel_rfl)) (by rw [hF]; kernel_rfl) (by rw [hF]; kernel_rfl)
      · intro w8 hB
        simp only [Reg.putAll, Act.put, List.setIfInBounds_toArray, List.set_cons_zero, List.set_cons_succ]
        have Hb2 := Lib.hid (hb.out.trans (hB.mono hb.out.size))
        clear hB
        go_wp2
        go_ret
        exact ⟨congrArg (fun z => Ending.returned (Value.bool z)) Hst2.out, Hb2.out⟩
  · obtain rfl : k = n := by omega
    have Hst' : Hid (true = R) := by
     have := hinv.out
     rw [show (pl cs).drop k = [] from List.drop_eq_nil_of_le (by rw [pl_len, HB.out.len]; omega)] at this
     rw [← this]
     exact Lib.hid (mayFrom_nil _).symm
    clear hinv
    go_wp2
    go_ret
    exact ⟨congrArg (fun z => Ending.returned (Value.bool z)) Hst'.out, hb.out⟩
theorem all_dropG {α : Type} (p : α → Bool) (xs : List α) (k : Nat) (x : α) (hx : xs[k]? = some x) : (xs.drop k).all p = (p x && (xs.drop (k + 1)).all p) := by
 have h1 := List.drop_eq_getElem_cons (List.getElem?_eq_some_iff.1 hx).1
 rw [(List.getElem?_eq_some_iff.1 hx).2] at h1
 rw [h1, List.all_cons]
def smallB (b : Bg) : Bool := b.all (fun x => shortB x.1) && decide (b.length ≤ 60)
set_option maxHeartbeats 2000000 in
theorem smallB_c (A : Option Addr) (n c : Nat) (cs : List Ct) (w : World) (hB : BgIn w A n cs) :
 Calls Try.prog 18 #[.slice A n c] w fun e w' => e = .returned (.bool (smallB (pl cs))) ∧ Below w.heap.size w w' := by
 obtain ⟨R, hR⟩ : ∃ R, smallB (pl cs) = R := ⟨_, rfl⟩
 rw [hR]
 have HR := Lib.hid hR
 have HB := Lib.hid hB
 have hmx : n ≤ 9223372036854775807 := hB.max
 clear hB hR
 go_enter Try.func18, Try.ntmps18
 go_wp2_with fail
 go_loopw [3] (fun i wr => ∃ k : Nat, k ≤ n ∧ i = .int .i64 k ∧ Hid (Below w.heap.size w wr) ∧ Hid (((pl cs).drop k).all (fun x => shortB x.1) = (pl cs).all (fun x => shortB x.1))) (fun i _ => n - (intOf i).toNat)
 case atStart => exact ⟨0, Nat.zero_le _, rfl, Below.refl _ _, rfl⟩
 case round =>
  obtain ⟨k, hk, rfl, hb, hinv⟩ := hrel
  by_cases hlt : k < n
  · obtain ⟨b, off, x, rfl, hblt, hx, c0, c1⟩ := HB.out.sl.at2 (k := k) (by rw [HB.out.len]; exact hlt)
    have d0 := (hb.out.cell (p := ⟨b, off + k * 2, none⟩) hblt).trans c0
    have l1 : b < wr.heap.size := Nat.lt_of_lt_of_le hblt hb.out.size
    have Hx := Lib.hid ((HB.out.each x (List.mem_of_getElem? hx)).after hb.out)
    have Hst := Lib.hid ((all_dropG (fun x => shortB x.1) _ k _ (pl_at hx)).symm.trans hinv.out)
    clear hx c0 c1 hblt hinv
    go_wp2_with fail
    refine (short_c x.h.A x.h.n x.h.c x.h.xs wr Hx.out.hd.len Hx.out.hd.max Hx.out.hd.sl Hx.out.sz).mono ?_
    rintro e w1 ⟨rfl, hb1⟩
    have Hb1 := Lib.hid (hb.out.trans (hb1.mono hb.out.size))
    clear hb1 hb Hx d0
    cases hc : shortB x.h.xs
    · have Hst' : Hid (false = R) := by
       have := Hst.out
       simp only [hc, Bool.false_and] at this
       have h2 := HR.out
       unfold smallB at h2
       rw [← this, Bool.false_and] at h2
       exact h2
      clear Hst HR
      go_wp2
      go_ret
      exact ⟨congrArg (fun z => Ending.returned (Value.bool z)) Hst'.out, Hb1.out⟩
    · have Hst' : Hid (((pl cs).drop (k + 1)).all (fun x => shortB x.1) = (pl cs).all (fun x => shortB x.1)) := by
       have := Hst.out
       simp only [hc, Bool.true_and] at this
       exact this
      clear Hst HR
      go_wp2
      go_roundw
      case rel => exact ⟨k + 1, by omega, by go_num, Hb1, Hst'⟩
      case measure => simp [intOf]; omega
  · obtain rfl : k = n := by omega
    have Hst' : Hid (decide ((k : Int) ≤ 60) = R) := by
     have := hinv.out
     rw [List.drop_eq_nil_of_le (by rw [pl_len, HB.out.len]; omega)] at this
     have h2 := HR.out
     unfold smallB at h2
     rw [← this, pl_len, HB.out.len] at h2
     rw [← h2]
     simp only [List.all_nil, Bool.true_and]
     exact decide_eq_decide.2 (by omega)
    clear hinv HR
    go_wp2
    go_ret
    exact ⟨congrArg (fun z => Ending.returned (Value.bool z)) Hst'.out, hb.out⟩
def getB (b : Bg) (r : List Val) : Int := if mayBag b then lookB b r else 0
theorem lookB_drop (b : Bg) (r : List Val) (k : Nat) (x : List Val × Int) (h : b[k]? = some x) : lookB (b.drop k) r = (if cmpL x.1 r = 0 then x.2 else lookB (b.drop (k + 1)) r) := by
 have h1 := List.drop_eq_getElem_cons (List.getElem?_eq_some_iff.1 h).1
 rw [(List.getElem?_eq_some_iff.1 h).2] at h1
 rw [h1, lookB]
def sameB : Bg → Bg → Bool
 | [], [] => true
 | x :: a, y :: b => x.2 == y.2 && (cmpL x.1 y.1 == 0 && sameB a b)
 | _, _ => false
theorem sameB_len : ∀ (a b : Bg), a.length ≠ b.length → sameB a b = false
 | [], [], h => absurd rfl h
 | [], _ :: _, _ => rfl
 | _ :: _, [], _ => rfl
 | x :: a, y :: b, h => by rw [sameB, sameB_len a b (by simpa using h)]; simp
theorem sameB_drop (a b : Bg) (k : Nat) (x y : List Val × Int) (hx : a[k]? = some x) (hy : b[k]? = some y) : sameB (a.drop k) (b.drop k) = (x.2 == y.2 && (cmpL x.1 y.1 == 0 && sameB (a.drop (k + 1)) (b.drop (k + 1)))) := by
 have h1 := List.drop_eq_getElem_cons (List.getElem?_eq_some_iff.1 hx).1
 rw [(List.getElem?_eq_some_iff.1 hx).2] at h1
 have h2 := List.drop_eq_getElem_cons (List.getElem?_eq_some_iff.1 hy).1
 rw [(List.getElem?_eq_some_iff.1 hy).2] at h2
 rw [h1, h2, sameB]
set_option maxHeartbeats 4000000 in
theorem sameB_c (A B : Option Addr) (n m c d : Nat) (cs ds : List Ct) (w : World) (hA : BgIn w A n cs) (hB : BgIn w B m ds) :
 Calls Try.prog 13 #[.slice A n c, .slice B m d] w fun e w' => e = .returned (.bool (sameB (pl cs) (pl ds))) ∧ Below w.heap.size w w' := by
 obtain ⟨R, hR⟩ : ∃ R, sameB (pl cs) (pl ds) = R := ⟨_, rfl⟩
 rw [hR]
 have HR := Lib.hid hR
 have HA := Lib.hid hA
 have HB := Lib.hid hB
 have hmx : n ≤ 9223372036854775807 := hA.max
 have hmy : m ≤ 9223372036854775807 := hB.max
 clear hA hB hR
 by_cases hnm : n = m
 case neg =>
  have HRf : Hid (false = R) := by
   have := HR.out
   rw [sameB_len _ _ (by rw [pl_len, pl_len, HA.out.len, HB.out.len]; exact hnm)] at this
   exact Lib.hid this
  have hne : ((n : Int) != (m : Int)) = true := by simpa using (by omega : ¬ (n : Int) = m)
  clear HR
  go_enter Try.func13, Try.ntmps13
  go_wp2
  go_ret
  exact ⟨congrArg (fun z => Ending.returned (Value.bool z)) HRf.out, Below.refl _ _⟩
 subst hnm
 go_enter Try.func13, Try.ntmps13
 go_wp2_with fail
 go_loopw [5] (fun i wr => ∃ k : Nat, k ≤ n ∧ i = .int .i64 k ∧ Hid (Below w.heap.size w wr) ∧ Hid (sameB ((pl cs).drop k) ((pl ds).drop k) = R)) (fun i _ => n - (intOf i).toNat)
 case atStart => exact ⟨0, Nat.zero_le _, rfl, Lib.hid (Below.refl _ _), HR⟩
 case round =>
  obtain ⟨k, hk, rfl, hb, hinv⟩ := hrel
  clear HR
  by_cases hlt : k < n
  · obtain ⟨b, off, x, rfl, hblt, hx, c0, c1⟩ := HA.out.sl.at2 (k := k) (by rw [HA.out.len]; exact hlt)
    obtain ⟨b', off', y, rfl, hblt', hy, c0', c1'⟩ := HB.out.sl.at2 (k := k) (by rw [HB.out.len]; exact hlt)
    have d0 := Lib.hid ((hb.out.cell (p := ⟨b, off + k * 2, none⟩) hblt).trans c0)
    have d1 := Lib.hid ((hb.out.cell (p := ⟨b, off + k * 2 + 1, none⟩) hblt).trans c1)
    have e0 := Lib.hid ((hb.out.cell (p := ⟨b', off' + k * 2, none⟩) hblt').trans c0')
    have e1 := Lib.hid ((hb.out.cell (p := ⟨b', off' + k * 2 + 1, none⟩) hblt').trans c1')
    have l1 : b < wr.heap.size := Nat.lt_of_lt_of_le hblt hb.out.size
    have l2 : b' < wr.heap.size := Nat.lt_of_lt_of_le hblt' hb.out.size
    have Hx := Lib.hid ((HA.out.each x (List.mem_of_getElem? hx)).after hb.out)
    have Hy := Lib.hid ((HB.out.each y (List.mem_of_getElem? hy)).after hb.out)
    have Hst := Lib.hid ((sameB_drop _ _ k _ _ (pl_at hx) (pl_at hy)).symm.trans hinv.out)
    clear hinv hx hy c0 c1 c0' c1' hblt hblt'
    obtain ⟨⟨xA, xn, xc, xs⟩, N⟩ := x
    obtain ⟨⟨yA, yn, yc, ys⟩, M⟩ := y
    have hlt' : (k : Int) < n := by omega
    go_wp2_with fail
    cases hNM : N != M
    · have hE : (N == M) = true := by simpa using hNM
      cases hC : cmpL xs ys != 0
      · have hC2 : (cmpL xs ys == 0) = true := by simpa using hC
        have Hst2 : Hid (sameB ((pl cs).drop (k + 1)) ((pl ds).drop (k + 1)) = R) := by
         have := Hst.out
         simp only [hE, hC2, Bool.true_and] at this
         exact Lib.hid this
        clear Hst
        clear hE hC2
        refine Reg.wp_region_vals mixed (by kernel_rfl) [(17, .slice (some ⟨b, off, none⟩) n c), (18, .int .i64 (k : Nat)), (19, .pointer (some ⟨b, off + k * 2, none⟩)), (20, .pointer (some ⟨b, off + k * 2 + 1, none⟩)), (21, .int .i64 N), (22, .slice (some ⟨b', off', none⟩) n d), (23, .int .i64 (k : Nat)), (24, .pointer (some ⟨b', off' + k * 2, none⟩)), (25, .pointer (some ⟨b', off' + k * 2 + 1, none⟩)), (26, .int .i64 M), (27, .bool false), (28, .bool false), (29, .slice (some ⟨b, off, none⟩) n c), (30, .int .i64 (k : Nat)), (31, .pointer (some ⟨b, off + k * 2, none⟩)), (32, .pointer (some ⟨b, off + k * 2, none⟩)), (33, .slice xA xn xc), (34, .slice (some ⟨b', off', none⟩) n d), (35, .int .i64 (k : Nat)), (36, .pointer (some ⟨b', off' + k * 2, none⟩)), (37, .pointer (some ⟨b', off' + k * 2, none⟩)), (38, .slice yA yn yc), (39, .int .i64 (cmpL xs ys)), (40, .bool false), (41, .bool false)] 42 rfl (by kernel_rfl) ?_ ?_
        · intro F hF w' hB
          have j0 := (hB.cell (p := ⟨b, off + k * 2, none⟩) l1).trans d0.out
          have j1 := (hB.cell (p := ⟨b, off + k * 2 + 1, none⟩) l1).trans d1.out
          have q0 := (hB.cell (p := ⟨b', off' + k * 2, none⟩) l2).trans e0.out
          have q1 := (hB.cell (p := ⟨b', off' + k * 2 + 1, none⟩) l2).trans e1.out
          have ix := Hx.out.after hB
          have iy := Hy.out.after hB
          refine ⟨?_, ?_, ?_, ?_, ?_, ?_, ?_, ?_, ?_, ?_, ?_, ?_, ?_, ?_, ?_, ?_, ?_, ?_, ?_, ?_, ?_, ?_, ?_, ?_, ?_, trivial⟩
          · exact Reg.doesV_val (ev_move rfl) (by rw [hF]; kernel_rfl) (by rw [hF]; kernel_rfl)
          · exact Reg.doesV_val (ev_move rfl) (by rw [hF]; kernel_rfl) (by rw [hF]; kernel_rfl)
          · exact Reg.doesV_val (ev_idxC (b := b) (off := off) (n := n) (c := c) (k := k) hlt rfl (by rw [hF]; kernel_rfl) (by rw [hF]; kernel_rfl)) (by rw [hF]; kernel_rfl) (by rw [hF]; kernel_rfl)
          · exact Reg.doesV_val (ev_c1 (b := b) (off := off + k * 2) rfl (by rw [hF]; kernel_rfl)) (by rw [hF]; kernel_rfl) (by rw [hF]; kernel_rfl)
          · exact Reg.doesV_val (ev_ldI (k := N) j1 rfl (by rw [hF]; kernel_rfl)) (by rw [hF]; kernel_rfl) (by rw [hF]; kernel_rfl)
          · exact Reg.doesV_val (ev_move rfl) (by rw [hF]; kernel_rfl) (by rw [hF]; kernel_rfl)
          · exact Reg.doesV_val (ev_move rfl) (by rw [hF]; kernel_rfl) (by rw [hF]; kernel_rfl)
          · exact Reg.doesV_val (ev_idxC (b := b') (off := off') (n := n) (c := d) (k := k) hlt rfl (by rw [hF]; kernel_rfl) (by rw [hF]; kernel_rfl)) (by rw [hF]; kernel_rfl) (by rw [hF]; kernel_rfl)
          · exact Reg.doesV_val (ev_c1 (b := b') (off := off' + k * 2) rfl (by rw [hF]; kernel_rfl)) (by rw [hF]; kernel_rfl) (by rw [hF]; kernel_rfl)
          · exact Reg.doesV_val (ev_ldI (k := M) q1 rfl (by rw [hF]; kernel_rfl)) (by rw [hF]; kernel_rfl) (by rw [hF]; kernel_rfl)
          · exact Reg.doesV_val (by rw [ev_neT5 N M rfl (by rw [hF]; kernel_rfl) (by rw [hF]; kernel_rfl), hNM]) (by rw [hF]; kernel_rfl) (by rw [hF]; kernel_rfl)
          · exact Reg.doesV_val (ev_move rfl) (by rw [hF]; kernel_rfl) (by rw [hF]; kernel_rfl)
          · exact Reg.doesV_val (ev_move rfl) (by rw [hF]; kernel_rfl) (by rw [hF]; kernel_rfl)
          · exact Reg.doesV_val (ev_move rfl) (by rw [hF]; kernel_rfl) (by rw [hF]; kernel_rfl)
          · exact Reg.doesV_val (ev_idxC (b := b) (off := off) (n := n) (c := c) (k := k) hlt rfl (by rw [hF]; kernel_rfl) (by rw [hF]; kernel_rfl)) (by rw [hF]; kernel_rfl) (by rw [hF]; kernel_rfl)
          · exact Reg.doesV_val (ev_c0 (b := b) (off := off + k * 2) rfl (by rw [hF]; kernel_rfl)) (by rw [hF]; kernel_rfl) (by rw [hF]; kernel_rfl)
          · exact Reg.doesV_val (ev_ldR (A := xA) (n := xn) (c := xc) j0 rfl (by rw [hF]; kernel_rfl)) (by rw [hF]; kernel_rfl) (by rw [hF]; kernel_rfl)
          · exact Reg.doesV_val (ev_move rfl) (by rw [hF]; kernel_rfl) (by rw [hF]; kernel_rfl)
          · exact Reg.doesV_val (ev_move rfl) (by rw [hF]; kernel_rfl) (by rw [hF]; kernel_rfl)
          · exact Reg.doesV_val (ev_idxC (b := b') (off := off') (n := n) (c := d) (k := k) hlt rfl (by rw [hF]; kernel_rfl) (by rw [hF]; kernel_rfl)) (by rw [hF]; kernel_rfl) (by rw [hF]; kernel_rfl)
          · exact Reg.doesV_val (ev_c0 (b := b') (off := off' + k * 2) rfl (by rw [hF]; kernel_rfl)) (by rw [hF]; kernel_rfl) (by rw [hF]; kernel_rfl)
          · exact Reg.doesV_val (ev_ldR (A := yA) (n := yn) (c := yc) q0 rfl (by rw [hF]; kernel_rfl)) (by rw [hF]; kernel_rfl) (by rw [hF]; kernel_rfl)
          · exact Reg.doesV_call (rcompareL_c xA yA xn yn xc yc xs ys w' ix.hd.len iy.hd.len ix.hd.max iy.hd.max ix.hd.sl iy.hd.sl) (ev_call enRCompareL rfl (by rw [hF]; kernel_rfl)) (by rw [hF]; kernel_rfl) (by rw [hF]; kernel_rfl)
          · exact Reg.doesV_val (by rw [ev_neIC (cmpL xs ys) 0 rfl (by rw [hF]; kernel_rfl), hC]) (by rw [hF]; kernel_rfl) (by rw [hF]; kernel_rfl)
          · exact Reg.doesV_val (ev_pick false rfl (by rw [hF]; kernel_rfl)) (by rw [hF]; kernel_rfl) (by rw [hF]; kernel_rfl)
        · intro w8 hB
          simp only [Reg.putAll, Act.put, List.setIfInBounds_toArray, List.set_cons_zero, List.set_cons_succ]
          have Hb2 := Lib.hid (hb.out.trans (hB.mono hb.out.size))
          clear hB
          go_wp2
          go_roundw
          case rel => exact ⟨k + 1, by omega, by go_num, Hb2, Hst2⟩
          case measure => simp [intOf]; omega
      · have hC2 : (cmpL xs ys == 0) = false := by simpa using hC
        have Hst2 : Hid (false = R) := by
         have := Hst.out
         simp only [hE, hC2, Bool.true_and, Bool.false_and] at this
         exact Lib.hid this
        clear Hst
        clear hE hC2
        refine Reg.wp_region_vals mixed (by kernel_rfl) [(17, .slice (some ⟨b, off, none⟩) n c), (18, .int .i64 (k : Nat)), (19, .pointer (some ⟨b, off + k * 2, none⟩)), (20, .pointer (some ⟨b, off + k * 2 + 1, none⟩)), (21, .int .i64 N), (22, .slice (some ⟨b', off', none⟩) n d), (23, .int .i64 (k : Nat)), (24, .pointer (some ⟨b', off' + k * 2, none⟩)), (25, .pointer (some ⟨b', off' + k * 2 + 1, none⟩)), (26, .int .i64 M), (27, .bool false), (28, .bool false), (29, .slice (some ⟨b, off, none⟩) n c), (30, .int .i64 (k : Nat)), (31, .pointer (some ⟨b, off + k * 2, none⟩)), (32, .pointer (some ⟨b, off + k * 2, none⟩)), (33, .slice xA xn xc), (34, .slice (some ⟨b', off', none⟩) n d), (35, .int .i64 (k : Nat)), (36, .pointer (some ⟨b', off' + k * 2, none⟩)), (37, .pointer (some ⟨b', off' + k * 2, none⟩)), (38, .slice yA yn yc), (39, .int .i64 (cmpL xs ys)), (40, .bool true), (41, .bool true)] 42 rfl (by kernel_rfl) ?_ ?_
        · intro F hF w' hB
          have j0 := (hB.cell (p := ⟨b, off + k * 2, none⟩) l1).trans d0.out
          have j1 := (hB.cell (p := ⟨b, off + k * 2 + 1, none⟩) l1).trans d1.out
          have q0 := (hB.cell (p := ⟨b', off' + k * 2, none⟩) l2).trans e0.out
          have q1 := (hB.cell (p := ⟨b', off' + k * 2 + 1, none⟩) l2).trans e1.out
          have ix := Hx.out.after hB
          have iy := Hy.out.after hB
          refine ⟨?_, ?_, ?_, ?_, ?_, ?_, ?_, ?_, ?_, ?_, ?_, ?_, ?_, ?_, ?_, ?_, ?_, ?_, ?_, ?_, ?_, ?_, ?_, ?_, ?_, trivial⟩
          · exact Reg.doesV_val (ev_move rfl) (by rw [hF]; kernel_rfl) (by rw [hF]; kernel_rfl)
          · exact Reg.doesV_val (ev_move rfl) (by rw [hF]; kernel_rfl) (by rw [hF]; kernel_rfl)
          · exact Reg.doesV_val (ev_idxC (b := b) (off := off) (n := n) (c := c) (k := k) hlt rfl (by rw [hF]; kernel_rfl) (by rw [hF]; kernel_rfl)) (by rw [hF]; kernel_rfl) (by rw [hF]; kernel_rfl)
          · exact Reg.doesV_val (ev_c1 (b := b) (off := off + k * 2) rfl (by rw [hF]; kernel_rfl)) (by rw [hF]; kernel_rfl) (by rw [hF]; kernel_rfl)
          · exact Reg.doesV_val (ev_ldI (k := N) j1 rfl (by rw [hF]; kernel_rfl)) (by rw [hF]; kernel_rfl) (by rw [hF]; kernel_rfl)
          · exact Reg.doesV_val (ev_move rfl) (by rw [hF]; kernel_rfl) (by rw [hF]; kernel_rfl)
          · exact Reg.doesV_val (ev_move rfl) (by rw [hF]; kernel_rfl) (by rw [hF]; kernel_rfl)
          · exact Reg.doesV_val (ev_idxC (b := b') (off := off') (n := n) (c := d) (k := k) hlt rfl (by rw [hF]; kernel_rfl) (by rw [hF]; kernel_rfl)) (by rw [hF]; kernel_rfl) (by rw [hF]; kernel_rfl)
          · exact Reg.doesV_val (ev_c1 (b := b') (off := off' + k * 2) rfl (by rw [hF]; kernel_rfl)) (by rw [hF]; kernel_rfl) (by rw [hF]; kernel_rfl)
          · exact Reg.doesV_val (ev_ldI (k := M) q1 rfl (by rw [hF]; kernel_rfl)) (by rw [hF]; kernel_rfl) (by rw [hF]; kernel_rfl)
          · exact Reg.doesV_val (by rw [ev_neT5 N M rfl (by rw [hF]; kernel_rfl) (by rw [hF]; kernel_rfl), hNM]) (by rw [hF]; kernel_rfl) (by rw [hF]; kernel_rfl)
          · exact Reg.doesV_val (ev_move rfl) (by rw [hF]; kernel_rfl) (by rw [hF]; kernel_rfl)
          · exact Reg.doesV_val (ev_move rfl) (by rw [hF]; kernel_rfl) (by rw [hF]; kernel_rfl)
          · exact Reg.doesV_val (ev_move rfl) (by rw [hF]; kernel_rfl) (by rw [hF]; kernel_rfl)
          · exact Reg.doesV_val (ev_idxC (b := b) (off := off) (n := n) (c := c) (k := k) hlt rfl (by rw [hF]; kernel_rfl) (by rw [hF]; kernel_rfl)) (by rw [hF]; kernel_rfl) (by rw [hF]; kernel_rfl)
          · exact Reg.doesV_val (ev_c0 (b := b) (off := off + k * 2) rfl (by rw [hF]; kernel_rfl)) (by rw [hF]; kernel_rfl) (by rw [hF]; kernel_rfl)
          · exact Reg.doesV_val (ev_ldR (A := xA) (n := xn) (c := xc) j0 rfl (by rw [hF]; kernel_rfl)) (by rw [hF]; kernel_rfl) (by rw [hF]; kernel_rfl)
          · exact Reg.doesV_val (ev_move rfl) (by rw [hF]; kernel_rfl) (by rw [hF]; kernel_rfl)
          · exact Reg.doesV_val (ev_move rfl) (by rw [hF]; kernel_rfl) (by rw [hF]; kernel_rfl)
          · exact Reg.doesV_val (ev_idxC (b := b') (off := off') (n := n) (c := d) (k := k) hlt rfl (by rw [hF]; kernel_rfl) (by rw [hF]; kernel_rfl)) (by rw [hF]; kernel_rfl) (by rw [hF]; kernel_rfl)
          · exact Reg.doesV_val (ev_c0 (b := b') (off := off' + k * 2) rfl (by rw [hF]; kernel_rfl)) (by rw [hF]; kernel_rfl) (by rw [hF]; kernel_rfl)
          · exact Reg.doesV_val (ev_ldR (A := yA) (n := yn) (c := yc) q0 rfl (by rw [hF]; kernel_rfl)) (by rw [hF]; kernel_rfl) (by rw [hF]; kernel_rfl)
          · exact Reg.doesV_call (rcompareL_c xA yA xn yn xc yc xs ys w' ix.hd.len iy.hd.len ix.hd.max iy.hd.max ix.hd.sl iy.hd.sl) (ev_call enRCompareL rfl (by rw [hF]; kernel_rfl)) (by rw [hF]; kernel_rfl) (by rw [hF]; kernel_rfl)
          · exact Reg.doesV_val (by rw [ev_neIC (cmpL xs ys) 0 rfl (by rw [hF]; kernel_rfl), hC]) (by rw [hF]; kernel_rfl) (by rw [hF]; kernel_rfl)
          · exact Reg.doesV_val (ev_pick false rfl (by rw [hF]; kernel_rfl)) (by rw [hF]; kernel_rfl) (by rw [hF]; kernel_rfl)
        · intro w8 hB
          simp only [Reg.putAll, Act.put, List.setIfInBounds_toArray, List.set_cons_zero, List.set_cons_succ]
          have Hb2 := Lib.hid (hb.out.trans (hB.mono hb.out.size))
          clear hB
          go_wp2
          go_ret
          exact ⟨congrArg (fun z => Ending.returned (Value.bool z)) Hst2.out, Hb2.out⟩
    · have hE : (N == M) = false := by simpa using hNM
      have Hst2 : Hid (false = R) := by
       have := Hst.out
       simp only [hE, Bool.false_and] at this
       exact Lib.hid this
      clear Hst
      clear hE
      refine Reg.wp_region_vals mixed (by kernel_rfl) [(17, .slice (some ⟨b, off, none⟩) n c), (18, .int .i64 (k : Nat)), (19, .pointer (some ⟨b, off + k * 2, none⟩)), (20, .pointer (some ⟨b, off + k * 2 + 1, none⟩)), (21, .int .i64 N), (22, .slice (some ⟨b', off', none⟩) n d), (23, .int .i64 (k : Nat)), (24, .pointer (some ⟨b', off' + k * 2, none⟩)), (25, .pointer (some ⟨b', off' + k * 2 + 1, none⟩)), (26, .int .i64 M), (27, .bool true), (28, .bool true), (29, undef), (30, undef), (31, undef), (32, undef), (33, undef), (34, undef), (35, undef), (36, undef), (37, undef), (38, undef), (39, undef), (40, undef), (41, .bool true)] 42 rfl (by kernel_rfl) ?_ ?_
      · intro F hF w' hB
        have j0 := (hB.cell (p := ⟨b, off + k * 2, none⟩) l1).trans d0.out
        have j1 := (hB.cell (p := ⟨b, off + k * 2 + 1, none⟩) l1).trans d1.out
        have q0 := (hB.cell (p := ⟨b', off' + k * 2, none⟩) l2).trans e0.out
        have q1 := (hB.cell (p := ⟨b', off' + k * 2 + 1, none⟩) l2).trans e1.out
        have ix := Hx.out.after hB
        have iy := Hy.out.after hB
        refine ⟨?_, ?_, ?_, ?_, ?_, ?_, ?_, ?_, ?_, ?_, ?_, ?_, ?_, ?_, ?_, ?_, ?_, ?_, ?_, ?_, ?_, ?_, ?_, ?_, ?_, trivial⟩
        · exact Reg.doesV_val (ev_move rfl) (by rw [hF]; kernel_rfl) (by rw [hF]; kernel_rfl)
        · exact Reg.doesV_val (ev_move rfl) (by rw [hF]; kernel_rfl) (by rw [hF]; kernel_rfl)
        · exact Reg.doesV_val (ev_idxC (b := b) (off := off) (n := n) (c := c) (k := k) hlt rfl (by rw [hF]; kernel_rfl) (by rw [hF]; kernel_rfl)) (by rw [hF]; kernel_rfl) (by rw [hF]; kernel_rfl)
        · exact Reg.doesV_val (ev_c1 (b := b) (off := off + k * 2) rfl (by rw [hF]; kernel_rfl)) (by rw [hF]; kernel_rfl) (by rw [hF]; kernel_rfl)
        · exact Reg.doesV_val (ev_ldI (k := N) j1 rfl (by rw [hF]; kernel_rfl)) (by rw [hF]; kernel_rfl) (by rw [hF]; kernel_rfl)
        · exact Reg.doesV_val (ev_move rfl) (by rw [hF]; kernel_rfl) (by rw [hF]; kernel_rfl)
        · exact Reg.doesV_val (ev_move rfl) (by rw [hF]; kernel_rfl) (by rw [hF]; kernel_rfl)
        · exact Reg.doesV_val (ev_idxC (b := b') (off := off') (n := n) (c := d) (k := k) hlt rfl (by rw [hF]; kernel_rfl) (by rw [hF]; kernel_rfl)) (by rw [hF]; kernel_rfl) (by rw [hF]; kernel_rfl)
        · exact Reg.doesV_val (ev_c1 (b := b') (off := off' + k * 2) rfl (by rw [hF]; kernel_rfl)) (by rw [hF]; kernel_rfl) (by rw [hF]; kernel_rfl)
        · exact Reg.doesV_val (ev_ldI (k := M) q1 rfl (by rw [hF]; kernel_rfl)) (by rw [hF]; kernel_rfl) (by rw [hF]; kernel_rfl)
        · exact Reg.doesV_val (by rw [ev_neT5 N M rfl (by rw [hF]; kernel_rfl) (by rw [hF]; kernel_rfl), hNM]) (by rw [hF]; kernel_rfl) (by rw [hF]; kernel_rfl)
        · exact Reg.doesV_val (ev_move rfl) (by rw [hF]; kernel_rfl) (by rw [hF]; kernel_rfl)
        · exact Reg.doesV_skip (by rw [hF]; kernel_rfl) (by rw [hF]; kernel_rfl)
        · exact Reg.doesV_skip (by rw [hF]; kernel_rfl) (by rw [hF]; kernel_rfl)
        · exact Reg.doesV_skip (by rw [hF]; kernel_rfl) (by rw [hF]; kernel_rfl)
        · exact Reg.doesV_skip (by rw [hF]; kernel_rfl) (by rw [hF]; kernel_rfl)
        · exact Reg.doesV_skip (by rw [hF]; kernel_rfl) (by rw [hF]; kernel_rfl)
        · exact Reg.doesV_skip (by rw [hF]; kernel_rfl) (by rw [hF]; kernel_rfl)
        · exact Reg.doesV_skip (by rw [hF]; kernel_rfl) (by rw [hF]; kernel_rfl)
        · exact Reg.doesV_skip (by rw [hF]; kernel_rfl) (by rw [hF]; kernel_rfl)
        · exact Reg.doesV_skip (by rw [hF]; kernel_rfl) (by rw [hF]; kernel_rfl)
        · exact Reg.doesV_skip (by rw [hF]; kernel_rfl) (by rw [hF]; kernel_rfl)
        · exact Reg.doesV_skip (by rw [hF]; kernel_rfl) (by rw [hF]; kernel_rfl)
        · exact Reg.doesV_skip (by rw [hF]; kernel_rfl) (by rw [hF]; kernel_rfl)
        · exact Reg.doesV_val (ev_pick true rfl (by rw [hF]; kernel_rfl)) (by rw [hF]; kernel_rfl) (by rw [hF]; kernel_rfl)
      · intro w8 hB
        simp only [Reg.putAll, Act.put, List.setIfInBounds_toArray, List.set_cons_zero, List.set_cons_succ]
        have Hb2 := Lib.hid (hb.out.trans (hB.mono hb.out.size))
        clear hB
        go_wp2
        go_ret
        exact ⟨congrArg (fun z => Ending.returned (Value.bool z)) Hst2.out, Hb2.out⟩
  · obtain rfl : k = n := by omega
    have Hst' : Hid (true = R) := by
     have := hinv.out
     rw [show (pl cs).drop k = [] from List.drop_eq_nil_of_le (by rw [pl_len, HA.out.len]; omega), show (pl ds).drop k = [] from List.drop_eq_nil_of_le (by rw [pl_len, HB.out.len]; omega)] at this
     exact Lib.hid this
    clear hinv
    go_wp2
    go_ret
    exact ⟨congrArg (fun z => Ending.returned (Value.bool z)) Hst'.out, hb.out⟩
theorem qcolumn_c (A : Option Addr) (n c : Nat) (xs : List Val) (i : Int) (w : World) (hn : xs.length = n) (hs : Sl w A xs) :
 Calls Try.prog 47 #[.slice A n c, .int .i64 i] w fun e w' => e = .returned (atR xs i).v ∧ Below w.heap.size w w' := by
 by_cases h0 : i < 0
 · have e0 : atR xs i = nl := by unfold atR; rw [if_neg (by omega)]
   rw [e0]
   go_enter Try.func47, Try.ntmps47
   go_wp2
   exact ret_val (a := nl) Try.results47 rfl (Bx.new w nl) rfl ⟨rfl, below_one _ _⟩
 · obtain ⟨j, rfl⟩ : ∃ j : Nat, i = j := ⟨i.toNat, by omega⟩
   by_cases h1 : j < n
   · obtain ⟨b, off, x, rfl, hlt, hx, d0, d1, d2⟩ := hs.at3 (k := j) (by omega)
     have e0 : atR xs (j : Int) = x := by unfold atR; rw [if_pos (by omega), Int.toNat_natCast, hx]; rfl
     rw [e0]
     clear e0 hx hs hn
     have h2 : (j : Int) < n := by omega
     go_enter Try.func47, Try.ntmps47
     go_wp2
     exact ret_val (a := x) Try.results47 rfl (Bx.new w x) rfl ⟨rfl, below_one _ _⟩
   · have e0 : atR xs (j : Int) = nl := by unfold atR; rw [if_pos (by omega), Int.toNat_natCast, List.getElem?_eq_none (by omega)]; rfl
     rw [e0]
     clear e0 hs hn
     have h2 : (n : Int) ≤ j := by omega
     go_enter Try.func47, Try.ntmps47
     go_wp2
     exact ret_val (a := nl) Try.results47 rfl (Bx.new w nl) rfl ⟨rfl, below_one _ _⟩
theorem get_put (l : List (Val × Value)) (k : Val) (v : Value) (x : Val) : getV (putV l k v) x = if x.eq k then some v else getV l x := by
 induction l with
 | nil => rfl
 | cons p l ih =>
   rw [putV]
   cases hk : k.eq p.1
   · simp only [Bool.false_eq_true, if_false, getV]
     cases hx : x.eq p.1
     · simp only [Bool.false_eq_true, if_false]; exact ih
     · simp only [if_true]
       rw [if_neg]
       rw [Val.eq_iff.1 hx]
       intro h
       rw [Val.eq_iff.1 h, Val.eq_self] at hk
       cases hk
   · simp only [if_true, getV]
     rw [← Val.eq_iff.1 hk]
     cases hx : x.eq k <;> rfl
def nilS : Value := .slice none 0 0
def atV (l : List (Val × Value)) (x : Val) : Value := (getV l x).getD nilS
theorem putV_at (l : List (Val × Value)) (k : Val) (v : Value) (x : Val) : atV (putV l k v) x = if x.eq k then v else atV l x := by
 unfold atV
 rw [get_put]
 split <;> rfl
structure Grp (w : World) (B b : Nat) (l : List (Val × Value)) (F : Val → List Ct) : Prop where
 map : MapV w b l
 each : ∀ x, OwnG w B 46 2 rdC (atV l x) (F x)
 apart : ∀ x y, x ≠ y → ∀ g, (atV l x).ownBlock = some g → (atV l y).ownBlock ≠ some g
 bB : b < B
theorem Grp.after {w w' : World} {B b : Nat} {l : List (Val × Value)} {F : Val → List Ct} (h : Grp w B b l F) (hb : Below w.heap.size w w') : Grp w' B b l F := ⟨h.map.after hb, fun x => (h.each x).after hb, h.apart, h.bB⟩
theorem Grp.ne {w : World} {B b : Nat} {l : List (Val × Value)} {F : Val → List Ct} (h : Grp w B b l F) (x : Val) : ∀ g, (atV l x).ownBlock = some g → g ≠ b := fun g hg => by
 have := ((h.each x).lt g hg).1
 have := h.bB
 omega
theorem SlG.sameAt {α : Type} {rd : α → List Value} {S : Nat} {w w' : World} {g o : Nat} {xs : List α} (h : SlG w (some ⟨g, o, none⟩) S rd xs) (hb : w'.heap[g]? = w.heap[g]?) (hs : w.heap.size ≤ w'.heap.size) : SlG w' (some ⟨g, o, none⟩) S rd xs := by
 rcases h with h | ⟨b, off, hA, hlt, h⟩
 · exact .inl h
 · cases hA
   refine .inr ⟨g, o, rfl, Nat.lt_of_lt_of_le hlt hs, fun i x hx j u hu => ?_⟩
   rw [← h i x hx j u hu]
   simp only [World.cell?, hb]
theorem Grp.step {wr W4 w2 w3 w5 : World} {B b : Nat} {l : List (Val × Value)} {F : Val → List Ct} {y : Val} {c : Ct} {v' : Value} (hg : Grp wr B b l F) (h4 : Below wr.heap.size wr W4) (h2 : W4.grownBy w2 (some b)) (hs2 : w2.heap.size = W4.heap.size)
 (hv : OwnG w3 B 46 2 rdC v' (F y ++ [c])) (h3 : w2.grownBy w3 (atV l y).ownBlock) (hloc : v'.ownBlock = (atV l y).ownBlock ∨ v'.ownBlock = some w2.heap.size) (hM : MapV w5 b (putV l y v')) (h5 : w3.grownBy w5 (some b)) :
 Grp w5 B b (putV l y v') (fun x => if x.eq y then F y ++ [c] else F x) := by
 have hold : ∀ x g, (atV l x).ownBlock = some g → g < wr.heap.size := fun x g hx => ((hg.each x).lt g hx).2
 refine ⟨hM, fun x => ?_, fun x z hne g hx hz => ?_, hg.bB⟩
 · rw [putV_at]
   cases hx : x.eq y
   · rw [if_neg (by simp), if_neg (by simp)]
     refine (hg.each x).same fun k hk => ?_
     have hk1 := hold x k hk
     have hkb := hg.ne x k hk
     have hky : some k ≠ (atV l y).ownBlock := fun e => hg.apart x y (fun e2 => by rw [e2, Val.eq_self] at hx; cases hx) k hk e.symm
     have s4 := h4.size
     have s3 := h3.size
     rw [h5.block k (by omega) (by intro e; cases e; exact hkb rfl), h3.block k (by omega) hky, h2.block k (by omega) (by intro e; cases e; exact hkb rfl), h4.block k hk1]
   · rw [if_pos rfl, if_pos rfl]
     refine hv.same fun k hk => ?_
     have h7 := hv.lt k hk
     have := hg.bB
     exact h5.block k h7.2 (by intro e; cases e; omega)
 · rw [putV_at] at hx hz
   have s4 := h4.size
   cases e1 : x.eq y
   · rw [e1] at hx
     simp only [Bool.false_eq_true, if_false] at hx
     cases e2 : z.eq y
     · rw [e2] at hz
       simp only [Bool.false_eq_true, if_false] at hz
       exact hg.apart x z hne g hx hz
     · rw [e2] at hz
       simp only [if_true] at hz
       rcases hloc with h | h
       · rw [h] at hz
         have := Val.eq_iff.1 e2
         subst this
         exact hg.apart x z hne g hx hz
       · rw [h] at hz
         cases hz
         have := hold x _ hx
         omega
   · rw [e1] at hx
     simp only [if_true] at hx
     have e3 := Val.eq_iff.1 e1
     subst e3
     cases e2 : z.eq x
     · rw [e2] at hz
       simp only [Bool.false_eq_true, if_false] at hz
       rcases hloc with h | h
       · rw [h] at hx
         exact hg.apart x z hne g hx hz
       · rw [h] at hx
         cases hx
         have := hold z _ hz
         omega
     · exact hne (Val.eq_iff.1 e2).symm
def colF (i : Int) (cs : List Ct) (x : Val) : List Ct := cs.filter fun c => x.eq (atR c.h.xs i) && !(x.k == 0)
theorem colF_null {i : Int} {cs : List Ct} {k : Nat} {c : Ct} (hc : cs[k]? = some c) (h0 : (atR c.h.xs i).k = 0) : colF i (cs.take (k + 1)) = colF i (cs.take k) := by
 funext x
 unfold colF
 rw [List.take_add_one, hc, List.filter_append]
 have : ([c].filter fun c => x.eq (atR c.h.xs i) && !(x.k == 0)) = [] := by
  rw [List.filter_cons_of_neg, List.filter_nil]
  intro h
  rw [Bool.and_eq_true] at h
  rw [← Val.eq_iff.1 h.1] at h0
  rw [h0] at h
  exact absurd h.2 (by decide)
 show _ ++ (Option.toList (some c)).filter _ = _
 rw [show (Option.toList (some c)) = [c] from rfl, this, List.append_nil]
theorem colF_more {i : Int} {cs : List Ct} {k : Nat} {c : Ct} (hc : cs[k]? = some c) (h0 : (atR c.h.xs i).k ≠ 0) : colF i (cs.take (k + 1)) = fun x => if x.eq (atR c.h.xs i) then colF i (cs.take k) (atR c.h.xs i) ++ [c] else colF i (cs.take k) x := by
 funext x
 unfold colF
 rw [List.take_add_one, hc, List.filter_append]
 show _ ++ (Option.toList (some c)).filter _ = _
 rw [show (Option.toList (some c)) = [c] from rfl]
 cases hx : x.eq (atR c.h.xs i)
 · rw [List.filter_cons_of_neg (by simp [hx]), List.filter_nil, List.append_nil]
   rfl
 · have e := Val.eq_iff.1 hx
   rw [List.filter_cons_of_pos (by rw [hx, e]; simp [h0]), List.filter_nil, if_pos rfl, e]
structure ColSaid (w : World) (i : Int) (cs : List Ct) (b : Nat) (l : List (Val × Value)) (w' : World) : Prop where
 below : Below w.heap.size w w'
 grp : Grp w' (w.heap.size + 1) b l (colF i cs)
theorem cOkL : ElOk Try.prog 29 46 2 32 (.agg #[.slice none 0 0, .int .i64 0]) rdC where
 under := Try.underlying29
 info := by kernel_rfl
 zs := rfl
 pos := by decide
 len := fun _ => rfl
 one := fun x u hu => by
  simp [rdC] at hu
  rcases hu with rfl | rfl <;> rfl
set_option maxHeartbeats 2000000 in
theorem byColumn_c (A : Option Addr) (n c : Nat) (cs : List Ct) (i : Int) (w : World) (hB : BgIn w A n cs) (hn : n ≤ 100000) :
 Calls Try.prog 46 #[.slice A n c, .int .i64 i] w fun e w' => ∃ b l, e = .returned (.map (some b)) ∧ ColSaid w i cs b l w' := by
 have HB := Lib.hid hB
 clear hB
 have hmm := @run_makeMap Try.prog
 go_enter Try.func46, Try.ntmps46
 go_wp2_with fail
 have Hg0 : Hid (Grp (w.alloc (.map #[] 0)) (w.heap.size + 1) w.heap.size [] (colF i (cs.take 0))) := Lib.hid ⟨MapV.made w, fun x => OwnG.nil _ _ _, fun x y _ g hg => (by cases hg), Nat.lt_succ_self _⟩
 have Hb0 : Hid (Below w.heap.size w (w.alloc (.map #[] 0))) := Lib.hid (below_one _ _)
 have Hs0 : Hid (w.heap.size + 1 ≤ (w.alloc (.map #[] 0)).heap.size) := Lib.hid (by simp)
 clear hmm
 go_loopw [12] (fun q wr => ∃ (k : Nat) (l : List (Val × Value)), k ≤ n ∧ q = .int .i64 k ∧ Hid (Below w.heap.size w wr) ∧ Hid (w.heap.size + 1 ≤ wr.heap.size) ∧ Hid (Grp wr (w.heap.size + 1) w.heap.size l (colF i (cs.take k)))) (fun q _ => n - (intOf q).toNat)
 case atStart => exact ⟨0, [], Nat.zero_le _, rfl, Hb0, Hs0, Hg0⟩
 case round =>
  obtain ⟨k, l, hk, rfl, hb, hs, hg⟩ := hrel
  clear Hb0 Hs0 Hg0
  by_cases hlt : k < n
  · obtain ⟨b, off, rfl⟩ := HB.out.sl.some2 (k := k) (by rw [HB.out.len]; exact hlt)
    obtain ⟨x, hx⟩ : ∃ x, cs[k]? = some x := ⟨_, List.getElem?_eq_getElem (by rw [HB.out.len]; exact hlt)⟩
    obtain ⟨hblt, c0, c1⟩ := HB.out.sl.cell2 hx
    have d0 := (hb.out.cell (p := ⟨b, off + k * 2, none⟩) hblt).trans c0
    have d1 := (hb.out.cell (p := ⟨b, off + k * 2 + 1, none⟩) hblt).trans c1
    have l0 : b < wr.heap.size := Nat.lt_of_lt_of_le hblt hb.out.size
    have Hx := Lib.hid ((HB.out.each x (List.mem_of_getElem? hx)).after hb.out)
    have Hlen : Hid ((colF i (cs.take k) (atR x.h.xs i)).length ≤ k) := Lib.hid (by
     have h1 := List.length_filter_le (fun c : Ct => (atR x.h.xs i).eq (atR c.h.xs i) && !((atR x.h.xs i).k == 0)) (cs.take k)
     have h2 : (cs.take k).length ≤ k := by rw [List.length_take]; omega
     exact Nat.le_trans h1 h2)
    have Hnull := Lib.hid (colF_null (i := i) hx)
    have Hmore := Lib.hid (colF_more (i := i) hx)
    clear c0 c1 hx
    obtain ⟨⟨xA, xn, xc, xs⟩, N⟩ := x
    have hgo : (k : Int) < n := by omega
    have Hb1 : Hid (Below wr.heap.size wr (wr.alloc (.cells #[.slice xA xn xc, .int .i64 N] 46))) := Lib.hid (below_one _ _)
    have dg0 : Hid ((wr.alloc (.cells #[.slice xA xn xc, .int .i64 N] 46)).cell? ⟨wr.heap.size, 0, none⟩ = some (.slice xA xn xc)) := Lib.hid (by simp)
    have dg1 : Hid ((wr.alloc (.cells #[.slice xA xn xc, .int .i64 N] 46)).cell? ⟨wr.heap.size, 1, none⟩ = some (.int .i64 N)) := Lib.hid (by simp)
    have lg1 : wr.heap.size < (wr.alloc (.cells #[.slice xA xn xc, .int .i64 N] 46)).heap.size := by simp
    have Hx1 := Lib.hid (Hx.out.after Hb1.out)
    go_wp2_with fail
    refine (qcolumn_c xA xn xc xs i _ Hx1.out.hd.len Hx1.out.hd.sl).mono ?_
    rintro e w1 ⟨rfl, hb1⟩
    have g0 := (hb1.cell (p := ⟨wr.heap.size, 0, none⟩) lg1).trans dg0.out
    have g1 := (hb1.cell (p := ⟨wr.heap.size, 1, none⟩) lg1).trans dg1.out
    have lg2 : wr.heap.size < w1.heap.size := Nat.lt_of_lt_of_le lg1 hb1.size
    have Hb2 := Lib.hid (below_via Hb1.out hb1)
    have Hn2 := Hnull.out
    have Hm2 := Hmore.out
    have Hl2 := Hlen.out
    try simp only at Hn2
    try simp only at Hm2
    try simp only at Hl2
    obtain ⟨y, hy⟩ : ∃ y, atR xs i = y := ⟨_, rfl⟩
    rw [hy] at Hn2 Hm2 Hl2 ⊢
    have Hn3 := Lib.hid Hn2
    have Hm3 := Lib.hid Hm2
    have Hl3 := Lib.hid Hl2
    clear Hn2 Hm2 Hl2 Hnull Hmore Hlen hy hb1 dg0 dg1 Hb1 Hx1
    by_cases hk0 : y.k = 0
    · have HF : Hid (Below w.heap.size w (w1.alloc (.cells #[.int .i64 y.k, .int .i64 y.n, .string y.s] 48))) := Lib.hid (below_via hb.out (below_via Hb2.out (below_one _ _)))
      have HS : Hid (w.heap.size + 1 ≤ (w1.alloc (.cells #[.int .i64 y.k, .int .i64 y.n, .string y.s] 48)).heap.size) := Lib.hid (by have := hs.out; simp; omega)
      have HG : Hid (Grp (w1.alloc (.cells #[.int .i64 y.k, .int .i64 y.n, .string y.s] 48)) (w.heap.size + 1) w.heap.size l (colF i (cs.take (k + 1)))) := Lib.hid (by
       rw [Hn3.out hk0]
       exact hg.out.after (below_via Hb2.out (below_one _ _)))
      have hk1 : (y.k != 0) = false := by simp [hk0]
      clear hk0 Hn3 Hm3 Hl3
      go_wp2_with fail
      go_roundw
      case rel => exact ⟨k + 1, l, by omega, by go_num, HF, HS, HG⟩
      case measure => simp [intOf]; omega
    · have HM := Lib.hid (Hm3.out hk0)
      have hk1 : (y.k != 0) = true := by simp [hk0]
      have Hb4 : Hid (Below wr.heap.size wr ((w1.alloc (.cells #[.int .i64 y.k, .int .i64 y.n, .string y.s] 48)).alloc (.cells #[.slice xA xn xc, .int .i64 N] 46))) := Lib.hid (below_via Hb2.out ((below_one _ _).alloc (by simp) _))
      have Hsl : Hid (SlG ((w1.alloc (.cells #[.int .i64 y.k, .int .i64 y.n, .string y.s] 48)).alloc (.cells #[.slice xA xn xc, .int .i64 N] 46)) (some ⟨w1.heap.size + 1, 0, none⟩) 2 rdC [⟨⟨xA, xn, xc, xs⟩, N⟩]) := Lib.hid (SlG.newAt (by simp) cOk.len [⟨⟨xA, xn, xc, xs⟩, N⟩] rfl)
      clear hk0 Hn3 Hm3
      obtain ⟨R, hR⟩ : ∃ R : Val → List Ct, (fun x => if x.eq y = true then colF i (List.take k cs) y ++ [{ h := { A := xA, n := xn, c := xc, xs := xs }, N := N }] else colF i (List.take k cs) x) = R := ⟨_, rfl⟩
      rw [hR] at HM
      have HR := Lib.hid hR
      clear hR
      go_wp2_with (first
       | (refine wpList_entryV rfl (.tmp 23) (.tmp 24) rfl Try.underlying81 nilS (by kernel_rfl) w.heap.size l y rfl rfl (hg.out.map.after Hb4.out) ?_
          intro w2 st hE2 hg2 hs2
          have HE2 := Lib.hid hE2
          have Hg2 := Lib.hid hg2
          have Hs2 := Lib.hid hs2
          clear hE2 hg2 hs2)
       | (at_builtin; go_must (
          refine wpList_appL cOkL rfl (.tmp 25) (.tmp 27) rfl (w.heap.size + 1) (atV l y) (colF i (cs.take k) y) [⟨⟨xA, xn, xc, xs⟩, N⟩] (some ⟨w1.heap.size + 1, 0, none⟩) 1 1 rfl
           (((hg.out.each y).after Hb4.out).same fun g hg' => Hg2.out.block g (Nat.lt_of_lt_of_le ((hg.out.each y).lt g hg').2 Hb4.out.size) (by intro e; cases e; exact hg.out.ne y _ hg' rfl)) rfl rfl
           (Hsl.out.sameAt (Hg2.out.block _ (by simp) (by intro e; injection e with e; have := hb.out.size; have := Hb2.out.size; have := hs.out; omega)) Hg2.out.size) (by have := Hl3.out; simp [maxLen]; omega) (by have := Hl3.out; simp; omega) (by have := hs.out; have := Hb4.out.size; have := Hs2.out; omega) ?_
          intro v3 w3 hv3 hg3 hl3
          have Hv3 := Lib.hid hv3
          have Hg3 := Lib.hid hg3
          have Hloc3 := Lib.hid hl3
          have Hlt3 := Lib.hid ((hg.out.each y).lt)
          clear hv3 hg3 hl3))
       | (refine wpList_storeV rfl (.tmp 23) (.tmp 30) (.tmp 29) rfl w.heap.size l y st v3 rfl rfl rfl (HE2.out.same (Hg3.out.block _ HE2.out.lt (by intro e; exact hg.out.ne y _ e.symm rfl))) ?_
          intro w5 hM5 hg5 hs5
          have HG5 := Lib.hid (hg.out.step Hb4.out Hg2.out Hs2.out Hv3.out Hg3.out Hloc3.out hM5 hg5)
          have Hb5 := Lib.hid ((((hb.out.trans (Hb4.out.mono hb.out.size)).grown Hg2.out (by have := hb.out.size; have := Hb4.out.size; omega) (fun g hg' => by cases hg'; exact Nat.le_refl _)).grown Hg3.out (by have := hb.out.size; have := Hb4.out.size; have := Hg2.out.size; omega) (fun g hg' => by have := (Hlt3.out g hg').1; omega)).grown hg5 (by have := hb.out.size; have := Hb4.out.size; have := Hg2.out.size; have := Hg3.out.size; omega) (fun g hg' => by cases hg'; exact Nat.le_refl _))
          have HS5 : Hid (w.heap.size + 1 ≤ w5.heap.size) := Lib.hid (by have := hs.out; have := Hb4.out.size; have := Hg2.out.size; have := Hg3.out.size; omega)
          clear hM5 hg5 hs5))
      rw [HR.out, ← HM.out] at HG5
      go_roundw
      case rel => exact ⟨k + 1, _, by omega, by go_num, Hb5, HS5, HG5⟩
      case measure => simp [intOf]; omega
  · obtain rfl : k = n := by omega
    have HF : Hid (ColSaid w i cs w.heap.size l wr) := Lib.hid ⟨hb.out, by
     have := hg.out
     rw [show cs.take k = cs from List.take_of_length_le (by rw [HB.out.len]; exact Nat.le_refl _)] at this
     exact this⟩
    go_wp2
    go_ret
    exact ⟨_, _, rfl, HF.out⟩
theorem pl_app (a b : List Ct) : pl (a ++ b) = pl a ++ pl b := by unfold pl; rw [List.map_append]
theorem pl_one (c : Ct) : pl [c] = [(c.h.xs, c.N)] := rfl
structure AddSt (w : World) (cs : List Ct) (r : Hd) (n0 : Int) (k : Nat) (L : Bool) (ol : List Ct) : Prop where
 eq : addB (pl cs) r.xs n0 = pl ol ++ (if L then (pl cs).drop k else addB ((pl cs).drop k) r.xs n0)
 up : L = true → ∀ x ∈ (pl cs).drop k, cmpL r.xs x.1 = -1
 len : ol.length ≤ k + (if L then 1 else 0)
 each : ∀ c ∈ ol, Ct.In w c
theorem AddSt.start (w : World) (cs : List Ct) (r : Hd) (n0 : Int) : AddSt w cs r n0 0 false [] := ⟨rfl, nofun, Nat.zero_le _, nofun⟩
theorem each_snoc {w : World} {ol : List Ct} {x : Ct} (h : ∀ c ∈ ol, Ct.In w c) (hx : Ct.In w x) : ∀ c ∈ ol ++ [x], Ct.In w c := by
 intro c hc
 rcases List.mem_append.1 hc with h1 | h1
 · exact h c h1
 · cases List.mem_singleton.1 h1
   exact hx
theorem pl_drop {cs : List Ct} {k : Nat} {x : Ct} (h : cs[k]? = some x) : (pl cs).drop k = (x.h.xs, x.N) :: (pl cs).drop (k + 1) := by
 have h0 := pl_at h
 have h1 := List.drop_eq_getElem_cons (List.getElem?_eq_some_iff.1 h0).1
 rw [(List.getElem?_eq_some_iff.1 h0).2] at h1
 exact h1
theorem asc_drop {b : Bg} (h : Asc b) (k : Nat) : Asc (b.drop k) := List.Pairwise.sublist (List.drop_sublist k b) h
theorem cmpL_one' {a b : List Val} (h : cmpL a b = 1) : cmpL b a = -1 := by rw [cmpL_neg a b, h]
theorem AddSt.lt {w : World} {cs : List Ct} {r : Hd} {n0 : Int} {k : Nat} {ol : List Ct} {x : Ct} (h : AddSt w cs r n0 k false ol) (hx : cs[k]? = some x) (hc : cmpL x.h.xs r.xs = -1) (hi : Ct.In w x) : AddSt w cs r n0 (k + 1) false (ol ++ [x]) := by
 refine ⟨?_, nofun, by have := h.len; simp at this ⊢; omega, each_snoc h.each hi⟩
 rw [h.eq, if_neg (by decide), if_neg (by decide), pl_drop hx, addB, if_pos hc, pl_app, pl_one, List.append_assoc]
 rfl
theorem up_of {cs : List Ct} {r : Hd} {k : Nat} {x : Ct} (ha : Asc (pl cs)) (hx : cs[k]? = some x) (hc : cmpL x.h.xs r.xs ≠ -1) : ∀ y ∈ (pl cs).drop (k + 1), cmpL r.xs y.1 = -1 := by
 intro y hy
 have h1 := asc_drop ha k
 rw [pl_drop hx] at h1
 have h2 := asc_head h1 y hy
 rcases cmpL_range x.h.xs r.xs with e | e | e
 · exact absurd e hc
 · rw [← cmpL_iff.1 e]
   exact h2
 · exact cmpL_trans (cmpL_one' e) h2
theorem AddSt.eq0 {w : World} {cs : List Ct} {r : Hd} {n0 : Int} {k : Nat} {ol : List Ct} {x : Ct} (h : AddSt w cs r n0 k false ol) (ha : Asc (pl cs)) (hx : cs[k]? = some x) (hc : cmpL x.h.xs r.xs = 0) (hn : n0 + x.N = 0) : AddSt w cs r n0 (k + 1) true ol := by
 refine ⟨?_, fun _ => up_of ha hx (by rw [hc]; decide), by have := h.len; simp at this ⊢; omega, h.each⟩
 rw [h.eq, if_neg (by decide), if_pos rfl, pl_drop hx, addB, if_neg (by rw [hc]; decide), if_pos hc, if_pos hn]
theorem AddSt.eq1 {w : World} {cs : List Ct} {r : Hd} {n0 : Int} {k : Nat} {ol : List Ct} {x : Ct} (h : AddSt w cs r n0 k false ol) (ha : Asc (pl cs)) (hx : cs[k]? = some x) (hc : cmpL x.h.xs r.xs = 0) (hn : n0 + x.N ≠ 0) (hi : Ct.In w ⟨r, n0 + x.N⟩) : AddSt w cs r n0 (k + 1) true (ol ++ [⟨r, n0 + x.N⟩]) := by
 refine ⟨?_, fun _ => up_of ha hx (by rw [hc]; decide), by have := h.len; simp at this ⊢; omega, each_snoc h.each hi⟩
 rw [h.eq, if_neg (by decide), if_pos rfl, pl_drop hx, addB, if_neg (by rw [hc]; decide), if_pos hc, if_neg hn, pl_app, pl_one, List.append_assoc]
 rfl
theorem AddSt.gt0 {w : World} {cs : List Ct} {r : Hd} {n0 : Int} {k : Nat} {ol : List Ct} {x : Ct} (h : AddSt w cs r n0 k false ol) (ha : Asc (pl cs)) (hx : cs[k]? = some x) (hc : cmpL x.h.xs r.xs = 1) (hn : n0 = 0) (hi : Ct.In w x) : AddSt w cs r n0 (k + 1) true (ol ++ [x]) := by
 refine ⟨?_, fun _ => up_of ha hx (by rw [hc]; decide), by have := h.len; simp at this ⊢; omega, each_snoc h.each hi⟩
 rw [h.eq, if_neg (by decide), if_pos rfl, pl_drop hx, addB, if_neg (by rw [hc]; decide), if_neg (by rw [hc]; decide), if_pos hn, pl_app, pl_one, List.append_assoc]
 rfl
theorem AddSt.gt1 {w : World} {cs : List Ct} {r : Hd} {n0 : Int} {k : Nat} {ol : List Ct} {x : Ct} (h : AddSt w cs r n0 k false ol) (ha : Asc (pl cs)) (hx : cs[k]? = some x) (hc : cmpL x.h.xs r.xs = 1) (hn : n0 ≠ 0) (hr : Ct.In w ⟨r, n0⟩) (hi : Ct.In w x) : AddSt w cs r n0 (k + 1) true ((ol ++ [⟨r, n0⟩]) ++ [x]) := by
 refine ⟨?_, fun _ => up_of ha hx (by rw [hc]; decide), by have := h.len; simp at this ⊢; omega, each_snoc (each_snoc h.each hr) hi⟩
 rw [h.eq, if_neg (by decide), if_pos rfl, pl_drop hx, addB, if_neg (by rw [hc]; decide), if_neg (by rw [hc]; decide), if_neg hn, pl_app, pl_app, pl_one, pl_one, List.append_assoc, List.append_assoc]
 rfl
theorem AddSt.laid {w : World} {cs : List Ct} {r : Hd} {n0 : Int} {k : Nat} {ol : List Ct} {x : Ct} (h : AddSt w cs r n0 k true ol) (hx : cs[k]? = some x) (hi : Ct.In w x) : AddSt w cs r n0 (k + 1) true (ol ++ [x]) := by
 refine ⟨?_, fun _ y hy => h.up rfl y (by rw [pl_drop hx]; exact List.mem_cons_of_mem _ hy), by have := h.len; simp at this ⊢; omega, each_snoc h.each hi⟩
 rw [h.eq, if_pos rfl, if_pos rfl, pl_drop hx, pl_app, pl_one, List.append_assoc]
 rfl
theorem AddSt.cmp {w : World} {cs : List Ct} {r : Hd} {n0 : Int} {k : Nat} {ol : List Ct} {x : Ct} (h : AddSt w cs r n0 k true ol) (hx : cs[k]? = some x) : cmpL x.h.xs r.xs = 1 := by
 have := h.up rfl (x.h.xs, x.N) (by rw [pl_drop hx]; exact List.mem_cons_self)
 rw [cmpL_neg r.xs x.h.xs, this]
 rfl
theorem AddSt.done {w : World} {cs : List Ct} {r : Hd} {n0 : Int} {k : Nat} {ol : List Ct} (h : AddSt w cs r n0 k true ol) (hk : cs.length ≤ k) : pl ol = addB (pl cs) r.xs n0 := by
 rw [h.eq, if_pos rfl, List.drop_eq_nil_of_le (by rw [pl_len]; exact hk), List.append_nil]
theorem AddSt.done0 {w : World} {cs : List Ct} {r : Hd} {n0 : Int} {k : Nat} {ol : List Ct} (h : AddSt w cs r n0 k false ol) (hk : cs.length ≤ k) (hn : n0 = 0) : pl ol = addB (pl cs) r.xs n0 := by
 rw [h.eq, if_neg (by decide), List.drop_eq_nil_of_le (by rw [pl_len]; exact hk), addB, if_pos hn, List.append_nil]
theorem AddSt.done1 {w : World} {cs : List Ct} {r : Hd} {n0 : Int} {k : Nat} {ol : List Ct} (h : AddSt w cs r n0 k false ol) (hk : cs.length ≤ k) (hn : n0 ≠ 0) : pl (ol ++ [⟨r, n0⟩]) = addB (pl cs) r.xs n0 := by
 rw [h.eq, if_neg (by decide), List.drop_eq_nil_of_le (by rw [pl_len]; exact hk), addB, if_neg hn, pl_app, pl_one]
set_option maxHeartbeats 4000000 in
theorem radd_c (A : Option Addr) (n c : Nat) (cs : List Ct) (r : Hd) (n0 : Int) (w : World) (hB : BgIn w A n cs) (hr : Ct.In w ⟨r, n0⟩) (ha : Asc (pl cs)) (hn : n ≤ 100000) (h64 : ∀ x ∈ cs, -9223372036854775808 ≤ n0 + x.N ∧ n0 + x.N ≤ 9223372036854775807) :
 Calls Try.prog 25 #[.slice A n c, .slice r.A r.n r.c, .int .i64 n0] w fun e w' => ∃ A' n' c' cs', e = .returned (.slice A' n' c') ∧ Below w.heap.size w w' ∧ BgIn w' A' n' cs' ∧ pl cs' = addB (pl cs) r.xs n0 := by
 have HB := Lib.hid hB
 have Hr := Lib.hid hr
 have Ha := Lib.hid ha
 have H64 := Lib.hid h64
 have n64 := hr.N64
 simp only [] at n64
 clear hB hr ha h64
 go_enter Try.func25, Try.ntmps25
 go_wp2_with fail
 go_loopw [7, 8, 9] (fun v l i wr => ∃ (k : Nat) (L : Bool) (ol : List Ct), k ≤ n ∧ i = .int .i64 k ∧ l = .bool L ∧ Hid (Below w.heap.size w wr) ∧ Hid (OwnG wr w.heap.size 46 2 rdC v ol) ∧ Hid (AddSt w cs r n0 k L ol)) (fun _ _ i _ => n - (intOf i).toNat)
 case atStart => exact ⟨0, false, [], Nat.zero_le _, rfl, rfl, Lib.hid (below_one _ _), Lib.hid (OwnG.made w w.heap.size _ #[] 0 (Nat.le_refl _) (Nat.zero_le _) rfl), Lib.hid (AddSt.start w cs r n0)⟩
 case round =>
  obtain ⟨k, L, ol, hk, rfl, rfl, hb, ho, hst⟩ := hrel
  by_cases hlt : k < n
  · have HL : Hid (ol.length ≤ 100000) := Lib.hid (by have := hst.out.len; split at this <;> omega)
    obtain ⟨b, off, x, rfl, hblt, hx, c0, c1⟩ := HB.out.sl.at2 (k := k) (by rw [HB.out.len]; exact hlt)
    have d0 := (hb.out.cell (p := ⟨b, off + k * 2, none⟩) hblt).trans c0
    have d1 := (hb.out.cell (p := ⟨b, off + k * 2 + 1, none⟩) hblt).trans c1
    have l0 : b < wr.heap.size := Nat.lt_of_lt_of_le hblt hb.out.size
    have Hi := Lib.hid (HB.out.each x (List.mem_of_getElem? hx))
    have s64 := H64.out x (List.mem_of_getElem? hx)
    have Hx := Lib.hid hx
    have HS : Hid (∀ w' : World, Below w.heap.size w w' → w'.cell? ⟨b, off + k * 2, none⟩ = some (.slice x.h.A x.h.n x.h.c) ∧ w'.cell? ⟨b, off + k * 2 + 1, none⟩ = some (.int .i64 x.N) ∧ b < w'.heap.size) := Lib.hid fun w' hb' => ⟨(hb'.cell hblt).trans c0, (hb'.cell hblt).trans c1, Nat.lt_of_lt_of_le hblt hb'.size⟩
    clear hx c0 c1 hblt
    obtain ⟨⟨xA, xn, xc, xs⟩, N⟩ := x
    simp only [] at s64
    have hw : IntKind.i64.wrap (n0 + N) = n0 + N := by rw [IntKind.wrap_i64]; omega
    have hi2 := (Hi.out.after hb.out).hd
    have hr2 := (Hr.out.after hb.out).hd
    have HC := Lib.hid (rcompareL_c xA r.A xn r.n xc r.c xs r.xs wr hi2.len hr2.len hi2.max hr2.max hi2.sl hr2.sl)
    clear hi2 hr2
    go_wp2_with fail
    refine HC.out.mono ?_
    rintro e w1 ⟨rfl, hb1⟩
    have d0 := (hb1.cell (p := ⟨b, off + k * 2, none⟩) l0).trans d0
    have d1 := (hb1.cell (p := ⟨b, off + k * 2 + 1, none⟩) l0).trans d1
    have l0 : b < w1.heap.size := Nat.lt_of_lt_of_le l0 hb1.size
    have Ho1 := Lib.hid (ho.out.after hb1)
    have Hb1 := Lib.hid (hb.out.trans (hb1.mono hb.out.size))
    have HRx := Lib.hid (Ct.In.mk (w := w) (c := ⟨r, n0 + N⟩) Hr.out.hd Hr.out.sz Hr.out.n64 s64 Hr.out.room)
    clear hb1 hb ho HC s64
    rcases cmpL_range xs r.xs with hc | hc | hc
    · obtain rfl : L = false := by
       cases L with
       | false => rfl
       | true => have := hst.out.cmp Hx.out; simp only [hc] at this; cases this
      rw [hc]
      go_wp2_with (at_builtin; go_must (first
       | (refine wpList_appG cOk rfl (.tmp 52) (.tmp 57) rfl w.heap.size _ ol [⟨⟨xA, xn, xc, xs⟩, N⟩] (some ⟨w1.heap.size, 0, none⟩) 1 1 rfl (Ho1.out.alloc _) rfl rfl (SlG.new cOk.len [⟨⟨xA, xn, xc, xs⟩, N⟩] rfl) (by have := HL.out; simp [maxLen]; omega) (by have := HL.out; simp; omega) (by have := Hb1.out.size; simp; omega) ?_
          intro v2 w2 hv hg
          have Hv2 := Lib.hid hv
          have Hb2 := Lib.hid ((Hb1.out.alloc Hb1.out.size _).grown hg (by have := Hb1.out.size; simp; omega) (fun k hk => (Ho1.out.lt k hk).1))
          clear hv hg)))
      go_roundw
      case rel => exact ⟨k + 1, false, _, by omega, by go_num, rfl, Hb2, Hv2, Lib.hid (hst.out.lt Hx.out hc Hi.out)⟩
      case measure => simp [intOf]; omega
    · obtain rfl : L = false := by
       cases L with
       | false => rfl
       | true => have := hst.out.cmp Hx.out; simp only [hc] at this; cases this
      rw [hc]
      cases hs : n0 + N != 0
      · have hs0 : n0 + N = 0 := by simpa using hs
        have Hs0 := Lib.hid hs0
        clear hs0
        go_wp2
        go_roundw
        case rel => exact ⟨k + 1, true, ol, by omega, by go_num, rfl, Hb1, Ho1, Lib.hid (hst.out.eq0 Ha.out Hx.out hc Hs0.out)⟩
        case measure => simp [intOf]; omega
      · have Hs1 : Hid (n0 + N ≠ 0) := Lib.hid (by simpa using hs)
        go_wp2_with (at_builtin; go_must (first
         | (refine wpList_appG cOk rfl (.tmp 44) (.tmp 48) rfl w.heap.size _ ol [⟨r, n0 + N⟩] (some ⟨w1.heap.size, 0, none⟩) 1 1 rfl (Ho1.out.alloc _) rfl rfl (SlG.new cOk.len [⟨r, n0 + N⟩] rfl) (by have := HL.out; simp [maxLen]; omega) (by have := HL.out; simp; omega) (by have := Hb1.out.size; simp; omega) ?_
            intro v2 w2 hv hg
            have Hv2 := Lib.hid hv
            have Hb2 := Lib.hid ((Hb1.out.alloc Hb1.out.size _).grown hg (by have := Hb1.out.size; simp; omega) (fun k hk => (Ho1.out.lt k hk).1))
            clear hv hg)))
        go_roundw
        case rel => exact ⟨k + 1, true, _, by omega, by go_num, rfl, Hb2, Hv2, Lib.hid (hst.out.eq1 Ha.out Hx.out hc Hs1.out HRx.out)⟩
        case measure => simp [intOf]; omega
    · rw [hc]
      cases L with
      | true =>
        go_wp2_with (at_builtin; go_must (first
         | (refine wpList_appG cOk rfl (.tmp 52) (.tmp 57) rfl w.heap.size _ ol [⟨⟨xA, xn, xc, xs⟩, N⟩] (some ⟨w1.heap.size, 0, none⟩) 1 1 rfl (Ho1.out.alloc _) rfl rfl (SlG.new cOk.len [⟨⟨xA, xn, xc, xs⟩, N⟩] rfl) (by have := HL.out; simp [maxLen]; omega) (by have := HL.out; simp; omega) (by have := Hb1.out.size; simp; omega) ?_
            intro v2 w2 hv hg
            have Hv2 := Lib.hid hv
            have Hb2 := Lib.hid ((Hb1.out.alloc Hb1.out.size _).grown hg (by have := Hb1.out.size; simp; omega) (fun k hk => (Ho1.out.lt k hk).1))
            clear hv hg)))
        go_roundw
        case rel => exact ⟨k + 1, true, _, by omega, by go_num, rfl, Hb2, Hv2, Lib.hid (hst.out.laid Hx.out Hi.out)⟩
        case measure => simp [intOf]; omega
      | false =>
        cases hs : n0 != 0
        · have Hs0 : Hid (n0 = 0) := Lib.hid (by simpa using hs)
          go_wp2_with (at_builtin; go_must (first
           | (refine wpList_appG cOk rfl (.tmp 52) (.tmp 57) rfl w.heap.size _ ol [⟨⟨xA, xn, xc, xs⟩, N⟩] (some ⟨w1.heap.size, 0, none⟩) 1 1 rfl (Ho1.out.alloc _) rfl rfl (SlG.new cOk.len [⟨⟨xA, xn, xc, xs⟩, N⟩] rfl) (by have := HL.out; simp [maxLen]; omega) (by have := HL.out; simp; omega) (by have := Hb1.out.size; simp; omega) ?_
              intro v2 w2 hv hg
              have Hv2 := Lib.hid hv
              have Hb2 := Lib.hid ((Hb1.out.alloc Hb1.out.size _).grown hg (by have := Hb1.out.size; simp; omega) (fun k hk => (Ho1.out.lt k hk).1))
              clear hv hg)))
          go_roundw
          case rel => exact ⟨k + 1, true, _, by omega, by go_num, rfl, Hb2, Hv2, Lib.hid (hst.out.gt0 Ha.out Hx.out hc Hs0.out Hi.out)⟩
          case measure => simp [intOf]; omega
        · have Hs1 : Hid (n0 ≠ 0) := Lib.hid (by simpa using hs)
          go_wp2_with (at_builtin; go_must (first
           | (refine wpList_appG cOk rfl (.tmp 44) (.tmp 48) rfl w.heap.size _ ol [⟨r, n0⟩] (some ⟨w1.heap.size, 0, none⟩) 1 1 rfl (Ho1.out.alloc _) rfl rfl (SlG.new cOk.len [⟨r, n0⟩] rfl) (by have := HL.out; simp [maxLen]; omega) (by have := HL.out; simp; omega) (by have := Hb1.out.size; simp; omega) ?_
              intro v2 w2 hv hg
              have Hv2 := Lib.hid hv
              have Hb2 := Lib.hid ((Hb1.out.alloc Hb1.out.size _).grown hg (by have := Hb1.out.size; simp; omega) (fun k hk => (Ho1.out.lt k hk).1))
              have e0 := (HS.out w2 Hb2.out).1
              have e1 := (HS.out w2 Hb2.out).2.1
              have l2 := (HS.out w2 Hb2.out).2.2
              clear hv hg)
           | (refine wpList_appG cOk rfl (.tmp 52) (.tmp 57) rfl w.heap.size _ (ol ++ [⟨r, n0⟩]) [⟨⟨xA, xn, xc, xs⟩, N⟩] (some ⟨w2.heap.size, 0, none⟩) 1 1 rfl (Hv2.out.alloc _) rfl rfl (SlG.new cOk.len [⟨⟨xA, xn, xc, xs⟩, N⟩] rfl) (by have := HL.out; simp [maxLen]; omega) (by have := HL.out; simp; omega) (by have := Hb2.out.size; simp; omega) ?_
              intro v3 w3 hv hg
              have Hv3 := Lib.hid hv
              have Hb3 := Lib.hid ((Hb2.out.alloc Hb2.out.size _).grown hg (by have := Hb2.out.size; simp; omega) (fun k hk => (Hv2.out.lt k hk).1))
              clear hv hg)))
          go_roundw
          case rel => exact ⟨k + 1, true, _, by omega, by go_num, rfl, Hb3, Hv3, Lib.hid (hst.out.gt1 Ha.out Hx.out hc Hs1.out Hr.out Hi.out)⟩
          case measure => simp [intOf]; omega
  · obtain rfl : k = n := by omega
    have HL : Hid (ol.length ≤ 100001) := Lib.hid (by have := hst.out.len; split at this <;> omega)
    have Hnk := Lib.hid (Nat.le_of_eq HB.out.len)
    cases L with
    | true =>
      obtain ⟨A3, c3, rfl, _, _, hs3⟩ := ho.out.sl cOk.len
      have Hs3 := Lib.hid hs3
      have Hm3 : Hid (ol.length ≤ maxLen) := Lib.hid (by have := HL.out; unfold maxLen; omega)
      clear hs3
      obtain ⟨m3, hm3⟩ : ∃ m, ol.length = m := ⟨_, rfl⟩
      rw [hm3]
      have HM := Lib.hid hm3
      clear hm3
      go_wp2
      go_ret
      exact ⟨A3, m3, c3, ol, rfl, hb.out, ⟨HM.out, by rw [← HM.out]; exact Hm3.out, Hs3.out, fun c hc => (hst.out.each c hc).after hb.out⟩, hst.out.done Hnk.out⟩
    | false =>
      cases hs : n0 != 0
      · have Hs0 : Hid (n0 = 0) := Lib.hid (by simpa using hs)
        obtain ⟨A3, c3, rfl, _, _, hs3⟩ := ho.out.sl cOk.len
        have Hs3 := Lib.hid hs3
        have Hm3 : Hid (ol.length ≤ maxLen) := Lib.hid (by have := HL.out; unfold maxLen; omega)
        clear hs3
        obtain ⟨m3, hm3⟩ : ∃ m, ol.length = m := ⟨_, rfl⟩
        rw [hm3]
        have HM := Lib.hid hm3
        clear hm3
        go_wp2
        go_ret
        exact ⟨A3, m3, c3, ol, rfl, hb.out, ⟨HM.out, by rw [← HM.out]; exact Hm3.out, Hs3.out, fun c hc => (hst.out.each c hc).after hb.out⟩, hst.out.done0 Hnk.out Hs0.out⟩
      · have Hs1 : Hid (n0 ≠ 0) := Lib.hid (by simpa using hs)
        go_wp2_with (at_builtin; go_must (first
         | (refine wpList_appG cOk rfl (.tmp 65) (.tmp 69) rfl w.heap.size _ ol [⟨r, n0⟩] (some ⟨wr.heap.size, 0, none⟩) 1 1 rfl (ho.out.alloc _) rfl rfl (SlG.new cOk.len [⟨r, n0⟩] rfl) (by have := HL.out; simp [maxLen]; omega) (by have := HL.out; simp; omega) (by have := hb.out.size; simp; omega) ?_
            intro v2 w2 hv hg
            have Hv2 := Lib.hid hv
            have Hb2 := Lib.hid ((hb.out.alloc hb.out.size _).grown hg (by have := hb.out.size; simp; omega) (fun k hk => (ho.out.lt k hk).1))
            obtain ⟨A3, c3, hv3, _, hm3, hs3⟩ := hv.sl cOk.len
            obtain ⟨m3, hl3⟩ : ∃ m, (ol ++ [(⟨r, n0⟩ : Ct)]).length = m := ⟨_, rfl⟩
            rw [hl3] at hv3
            subst hv3
            have Hs3 := Lib.hid hs3
            have HM := Lib.hid hl3
            clear hv hg hs3 hl3 Hv2)))
        go_ret
        exact ⟨A3, m3, c3, _, rfl, Hb2.out, ⟨HM.out, by rw [← HM.out]; have := HL.out; simp [maxLen]; omega, Hs3.out, fun c hc => (each_snoc hst.out.each Hr.out c hc).after Hb2.out⟩, hst.out.done1 Hnk.out Hs1.out⟩
def Bd (P : Int) (b : Bg) : Prop := ∀ x ∈ b, -P ≤ x.2 ∧ x.2 ≤ P
theorem bd_add : ∀ (b : Bg) (r : List Val) (n P Q : Int), Bd P b → 0 ≤ P → -Q ≤ n → n ≤ Q → Bd (P + Q) (addB b r n)
 | [], r, n, P, Q, _, h0, h1, h2 => by
   rw [addB]
   split
   · nofun
   · intro x hx
     cases List.mem_singleton.1 hx
     exact ⟨by show -(P + Q) ≤ n; omega, by show n ≤ P + Q; omega⟩
 | y :: b, r, n, P, Q, hb, h0, h1, h2 => by
   have hy := hb y List.mem_cons_self
   have ht : Bd P b := fun x hx => hb x (List.mem_cons_of_mem _ hx)
   have hw : ∀ x ∈ b, -(P + Q) ≤ x.2 ∧ x.2 ≤ P + Q := fun x hx => by have := ht x hx; omega
   have hy' : -(P + Q) ≤ y.2 ∧ y.2 ≤ P + Q := by omega
   rw [addB]
   split
   · intro x hx
     rcases List.mem_cons.1 hx with rfl | hx
     · exact hy'
     · exact bd_add b r n P Q ht h0 h1 h2 x hx
   · split
     · split
       · exact hw
       · intro x hx
         rcases List.mem_cons.1 hx with rfl | hx
         · exact ⟨by show -(P + Q) ≤ n + y.2; omega, by show n + y.2 ≤ P + Q; omega⟩
         · exact hw x hx
     · split
       · intro x hx
         rcases List.mem_cons.1 hx with rfl | hx
         · exact hy'
         · exact hw x hx
       · intro x hx
         rcases List.mem_cons.1 hx with rfl | hx
         · exact ⟨by show -(P + Q) ≤ n; omega, by show n ≤ P + Q; omega⟩
         · rcases List.mem_cons.1 hx with rfl | hx
           · exact hy'
           · exact hw x hx
theorem len_add : ∀ (b : Bg) (r : List Val) (n : Int), (addB b r n).length ≤ b.length + 1
 | [], r, n => by rw [addB]; split <;> simp
 | y :: b, r, n => by
   have := len_add b r n
   rw [addB]
   split
   · simp; omega
   · split <;> split <;> simp <;> omega
theorem both_take (a l : Bg) (k : Nat) (x : List Val × Int) (h : l[k]? = some x) : bothB a (l.take (k + 1)) = addB (bothB a (l.take k)) x.1 x.2 := by
 unfold bothB
 rw [List.take_add_one, h, List.foldl_append]
 rfl
theorem pl_mem {cs : List Ct} {x : Ct} (h : x ∈ cs) : (x.h.xs, x.N) ∈ pl cs := List.mem_map.2 ⟨x, h, rfl⟩
theorem BgIn.nil (w : World) (c : Nat) : BgIn w none 0 [] ∧ c = c := ⟨⟨rfl, Nat.zero_le _, .inl rfl, nofun⟩, rfl⟩
theorem BgIn.none (w : World) : BgIn w none 0 [] := (BgIn.nil w 0).1
structure Bh where
 A : Option Addr
 n : Nat
 c : Nat
 cs : List Ct
def rdBh (b : Bh) : List Value := [.slice b.A b.n b.c]
def Bh.In (w : World) (b : Bh) : Prop := BgIn w b.A b.n b.cs
def totB : List Bh → Nat
 | [] => 0
 | b :: l => b.n + totB l
theorem totB_take : ∀ (l : List Bh) (k : Nat) (b : Bh), l[k]? = some b → totB (l.take (k + 1)) = totB (l.take k) + b.n
 | [], k, b, h => by simp at h
 | x :: l, 0, b, h => by
   simp at h
   subst h
   simp [totB]
 | x :: l, k + 1, b, h => by
   have := totB_take l k b (by simpa using h)
   rw [List.take_succ_cons, List.take_succ_cons, totB, totB, this]
   omega
theorem totB_le : ∀ (l : List Bh) (k : Nat), totB (l.take k) ≤ totB l
 | [], k => by simp
 | x :: l, 0 => Nat.zero_le _
 | x :: l, k + 1 => by
   have := totB_le l k
   rw [List.take_succ_cons, totB, totB]
   omega
theorem bd_may {b : Bg} (h : mayBag b = true) : Bd 1000000000 b := by
 unfold mayBag at h
 rw [Bool.and_eq_true, List.all_eq_true] at h
 intro x hx
 have := okC_parts (h.1 x hx)
 exact ⟨this.2.1, this.2.2.1⟩
def joinR (hs : List Hd) : List Val := hs.flatMap (·.xs)
theorem joinR_take (hs : List Hd) (k : Nat) (h : Hd) (hk : hs[k]? = some h) : joinR (hs.take (k + 1)) = joinR (hs.take k) ++ h.xs := by
 unfold joinR
 rw [List.take_add_one, hk]
 simp
theorem joinR_le (hs : List Hd) (k : Nat) : (joinR (hs.take k)).length ≤ (joinR hs).length := by
 have : joinR hs = joinR (hs.take k) ++ joinR (hs.drop k) := by
  unfold joinR
  rw [← List.flatMap_append, List.take_append_drop]
 rw [this, List.length_append]
 omega
set_option maxHeartbeats 1000000 in
theorem join_c (A : Option Addr) (n c : Nat) (hs : List Hd) (w : World) (hn : hs.length = n) (hn1 : n ≤ maxLen) (hsl : SlG w A 1 rdH hs) (hin : ∀ h ∈ hs, Hd.In w h) (htot : (joinR hs).length ≤ 100000) :
 Calls Try.prog 31 #[.slice A n c] w fun en w' => ∃ v, en = .returned v ∧ Below w.heap.size w w' ∧ OwnV w' w.heap.size v (joinR hs) := by
 unfold maxLen at hn1
 have Hs := Lib.hid hsl
 have Hn := Lib.hid hn
 have Hi := Lib.hid hin
 have Ht := Lib.hid htot
 clear hsl hn hin htot
 go_enter Try.func31, Try.ntmps31
 go_wp2_with fail
 go_loopw [3, 8] (fun v i wr => ∃ k : Nat, k ≤ n ∧ i = .int .i64 k ∧ Hid (Below w.heap.size w wr) ∧ Hid (OwnV wr w.heap.size v (joinR (hs.take k)))) (fun _ i _ => n - (intOf i).toNat)
 case atStart => exact ⟨0, Nat.zero_le _, rfl, Below.refl _ _, OwnG.nil _ _ _⟩
 case round =>
  obtain ⟨k, hk, rfl, hb, ho⟩ := hrel
  obtain ⟨A2, c2, hv⟩ := ho.out.isSlice
  obtain ⟨L, hL⟩ : ∃ L, (joinR (hs.take k)).length = L := ⟨_, rfl⟩
  rw [hL] at hv
  subst hv
  have HL := Lib.hid hL
  clear hL
  by_cases hlt : k < n
  · obtain ⟨b, off, h, rfl, hblt, hh, c0⟩ := Hs.out.at1 (by rw [Hn.out]; exact hlt)
    have d0 := (hb.out.cell (p := ⟨b, off + k, none⟩) hblt).trans (c0 _ rfl)
    have l0 : b < wr.heap.size := Nat.lt_of_lt_of_le hblt hb.out.size
    have hin2 := (Hi.out h (List.mem_of_getElem? hh)).after hb.out
    have hj := joinR_take hs k h hh
    have hle := joinR_le hs (k + 1)
    have hle2 := Ht.out
    rw [hj, List.length_append, HL.out] at hle
    obtain ⟨hA, hn', hc', hxs⟩ := h
    simp only [] at hle hj
    have e1 := hin2.len
    have e2 := hin2.sl
    simp only [] at e1 e2
    have HLL := Lib.hid (show L + hxs.length ≤ 100000 by omega)
    have Hj := Lib.hid hj
    have E1 := Lib.hid e1
    have E2 := Lib.hid e2
    clear hin2 hj hle hle2 c0 hh e1 e2 hblt
    go_wp2_with (at_builtin; go_must (
     refine wpList_appG vOk rfl (.tmp 12) (.tmp 13) rfl w.heap.size _ (joinR (hs.take k)) hxs hA hn' hc' rfl ho.out rfl E1.out (Sl.slG E2.out) (by have := HLL.out; rw [HL.out]; unfold maxLen; omega) (by have := HLL.out; rw [HL.out]; omega) hb.out.size ?_
     intro v3 w3 hv3 hg3
     rw [← Hj.out] at hv3
     have Hv3 := Lib.hid hv3
     have Hb3 := Lib.hid (hb.out.grown hg3 hb.out.size (fun k hk => (ho.out.lt k hk).1))
     clear hv3 hg3))
    go_roundw
    case rel => exact ⟨k + 1, by omega, by go_num, Hb3, Hv3⟩
    case measure => simp [intOf]; omega
  · obtain rfl : k = n := by omega
    have ho2 := ho.out
    rw [show hs.take k = hs from List.take_of_length_le (by rw [Hn.out]; omega)] at ho2
    have Ho2 := Lib.hid ho2
    clear ho2
    go_wp2_with fail
    go_ret
    exact ⟨_, rfl, hb.out, Ho2.out⟩
attribute [local go_sem ↓] Go.wp_at_zero Go.wp_at_succ
theorem qone_c (A : Option Addr) (n c : Nat) (N : Int) (w : World) :
 Calls Try.prog 33 #[.slice A n c, .int .i64 N] w fun e w' => e = .returned (.slice (some ⟨w.heap.size, 0, none⟩) 1 1) ∧ w' = w.alloc (.cells #[.slice A n c, .int .i64 N] 46) := by
 go_enter Try.func33, Try.ntmps33
 go_wp2
 go_ret
 exact ⟨rfl, rfl⟩
theorem wpList_lookV {MT E : TypeId} {ops : Array Oper} {rest : List Oper} {o : Oper} {a : Act} {Q : Exit → Act → World → Prop} {w : World} (hgd : o.guard = none) (m x : Operand) (ho : o.op = .lookup MT m x false)
 (hm : Try.prog.underlying MT = some (.map 48 E)) (hz : (zeroValue E).run Try.prog w = .ok nilS w) (b : Nat) (l : List (Val × Value)) (k : Val) (v : Value) (hv : atV l k = v) (he : a.eval m = .map (some b)) (hx : a.eval x = k.v) (hM : MapV w b l)
 (h : wpList Try.prog ops Q rest (a.put o.dst v) w) : wpList Try.prog ops Q (o :: rest) a w := by
 refine wpList_plain hgd fun K hK => ?_
 have hr := run_lookV hm nilS hz hM k.k k.n k.s
 have hr2 : (getV l ⟨k.k, k.n, k.s⟩).getD nilS = v := hv
 rw [hr2] at hr
 unfold Oper.wp
 simp [execOp, ho, he, hx, hr, Result.andThen]
 exact hK _ _ h
theorem bOkQ : ElOk Try.prog 63 30 1 24 (.slice none 0 0) rdBh where
 under := Try.underlying63
 info := by kernel_rfl
 zs := rfl
 pos := by decide
 len := fun _ => rfl
 one := fun x u hu => by
  simp [rdBh] at hu
  rcases hu with rfl; rfl
def Safe (w : World) (u : Option Nat) (p : Bh) : Prop := ∀ w' : World, w.grownBy w' u → Bh.In w' p
theorem Safe.in {w : World} {u : Option Nat} {p : Bh} (h : Safe w u p) : Bh.In w p := h w (World.grownBy.refl w u)
theorem grown_below {w w' w2 : World} {u : Option Nat} (hb : Below w.heap.size w w') (hg : w'.grownBy w2 u) : w.grownBy w2 u :=
 ⟨hg.os.trans hb.os, hg.tape.trans hb.tape, hg.output.trans hb.output, Nat.le_trans hb.size hg.size, fun k hk hne => (hg.block k (Nat.lt_of_lt_of_le hk hb.size) hne).trans (hb.block k hk)⟩
theorem Safe.after {w w' : World} {u : Option Nat} {p : Bh} (h : Safe w u p) (hb : Below w.heap.size w w') : Safe w' u p := fun w2 hg => h w2 (grown_below hb hg)
theorem Safe.app {X w2 : World} {u u2 : Option Nat} {p : Bh} (h : Safe X u p) (hg : X.grownBy w2 u) (hl : u2 = u ∨ u2 = some X.heap.size) : Safe w2 u2 p := fun w' h2 => h w' (by
 rcases hl with rfl | rfl
 · exact hg.trans h2
 · refine ⟨h2.os.trans hg.os, h2.tape.trans hg.tape, h2.output.trans hg.output, Nat.le_trans hg.size h2.size, fun k hk hne => ?_⟩
   rw [h2.block k (Nat.lt_of_lt_of_le hk hg.size) (by intro e; injection e with e; omega), hg.block k hk hne])
theorem Sl.sameAt {w w' : World} {A : Option Addr} {xs : List Val} (h : Sl w A xs) (hb : ∀ g o, A = some ⟨g, o, none⟩ → w'.heap[g]? = w.heap[g]?) (hs : w.heap.size ≤ w'.heap.size) : Sl w' A xs := by
 rcases h with h | ⟨b, off, hA, hlt, h⟩
 · exact .inl h
 · have e := hb b off hA
   refine .inr ⟨b, off, hA, Nat.lt_of_lt_of_le hlt hs, fun i x hx => ?_⟩
   have := h i x hx
   simp only [World.cell?, e] at this ⊢
   exact this
theorem Safe.new {X : World} {u : Option Nat} {g : Nat} {h : Hd} {N : Int} (hin : BgIn X (some ⟨g, 0, none⟩) 1 [⟨h, N⟩]) (hlt : g < X.heap.size) (hg : u ≠ some g) (hh : ∀ b off, h.A = some ⟨b, off, none⟩ → u ≠ some b ∧ b < X.heap.size) : Safe X u ⟨some ⟨g, 0, none⟩, 1, 1, [⟨h, N⟩]⟩ := fun w' hg2 =>
 ⟨hin.len, hin.max, hin.sl.sameAt (hg2.block g hlt (fun e => hg e.symm)) hg2.size, fun c hc => by
   have h1 := hin.each c hc
   rw [List.mem_singleton] at hc
   subst hc
   exact ⟨⟨h1.hd.len, h1.hd.max, h1.hd.sl.sameAt (fun b off hA => hg2.block b (hh b off hA).2 (fun e => (hh b off hA).1 e.symm)) hg2.size⟩, h1.sz, h1.n64, h1.N64, h1.room⟩⟩
structure PrsIn (w : World) (B : Nat) (v : Value) (ps : List Bh) (L : Bg) : Prop where
 own : OwnG w B 30 1 rdBh v ps
 safe : ∀ p ∈ ps, Safe w v.ownBlock p
 map : ps.map (fun b => pl b.cs) = ones L
 one : ∀ p ∈ ps, p.n = 1
theorem PrsIn.after {w w' : World} {B : Nat} {v : Value} {ps : List Bh} {L : Bg} (h : PrsIn w B v ps L) (hb : Below w.heap.size w w') : PrsIn w' B v ps L := ⟨h.own.after hb, fun p hp => (h.safe p hp).after hb, h.map, h.one⟩
theorem PrsIn.len {w : World} {B : Nat} {v : Value} {ps : List Bh} {L : Bg} (h : PrsIn w B v ps L) : ps.length = L.length := by
 have := congrArg List.length h.map
 unfold ones at this
 rwa [List.length_map, List.length_map] at this
theorem tot_one : ∀ ps : List Bh, (∀ p ∈ ps, p.n = 1) → totB ps = ps.length
 | [], _ => rfl
 | p :: ps, h => by
   rw [totB, tot_one ps (fun q hq => h q (List.mem_cons_of_mem _ hq)), h p (by simp), List.length_cons]
   omega
theorem PrsIn.nil (w : World) (B : Nat) : PrsIn w B (.slice none 0 0) [] [] := ⟨OwnG.nil _ _ _, nofun, rfl, nofun⟩
theorem PrsIn.more {X w2 : World} {B : Nat} {v v2 : Value} {ps : List Bh} {L : Bg} {p : Bh} {r : List Val × Int} (h : PrsIn X B v ps L) (hp : Safe X v.ownBlock p) (hpl : pl p.cs = [r]) (hn : p.n = 1) (hv : OwnG w2 B 30 1 rdBh v2 (ps ++ [p])) (hg : X.grownBy w2 v.ownBlock) (hl : v2.ownBlock = v.ownBlock ∨ v2.ownBlock = some X.heap.size) : PrsIn w2 B v2 (ps ++ [p]) (L ++ [r]) :=
 ⟨hv, fun q hq => by
   rcases List.mem_append.1 hq with hq | hq
   · exact (h.safe q hq).app hg hl
   · rw [List.mem_singleton] at hq
     subst hq
     exact hp.app hg hl, by
   unfold ones
   rw [List.map_append, List.map_append, h.map, List.map_singleton, List.map_singleton, hpl]
   rfl, fun q hq => by
   rcases List.mem_append.1 hq with hq | hq
   · exact h.one q hq
   · rw [List.mem_singleton] at hq
     subst hq
     exact hn⟩
theorem pl_colF (i j : Int) (ds : List Ct) (x : List Val) : pl (colF j ds (atR x i)) = (pl ds).filter fun y => meetB i j x y.1 := by
 unfold pl colF
 rw [List.filter_map]
 rfl
theorem pairL_take {i j : Int} {cs : List Ct} (b : Bg) {k : Nat} {x : Ct} (hx : cs[k]? = some x) : pairL i j (pl (cs.take (k + 1))) b = pairL i j (pl (cs.take k)) b ++ (b.filter fun y => meetB i j x.h.xs y.1).map (fun y => (x.h.xs ++ y.1, x.N * y.2)) := by
 have e : pl (cs.take (k + 1)) = pl (cs.take k) ++ [(x.h.xs, x.N)] := by
  unfold pl
  rw [List.take_add_one, hx, List.map_append]
  rfl
 unfold pairL
 rw [e, List.flatMap_append]
 simp
theorem pairL_le (i j : Int) (cs : List Ct) (b : Bg) (k : Nat) : (pairL i j (pl (cs.take k)) b).length ≤ (pairL i j (pl cs) b).length := by
 have e : pl cs = pl (cs.take k) ++ pl (cs.drop k) := by
  unfold pl
  rw [← List.map_append, List.take_append_drop]
 unfold pairL
 rw [e, List.flatMap_append, List.length_append]
 omega
structure PairSaid (w : World) (L : Bg) (v : Value) (ok : Bool) (w' : World) : Prop where
 below : Below w.heap.size w w'
 how : ok = decide (L.length ≤ 10000)
 said : ok = true → ∃ A n c ps, v = .slice A n c ∧ ps.length = n ∧ SlG w' A 1 rdBh ps ∧ (∀ p ∈ ps, Bh.In w' p) ∧ totB ps = n ∧ ps.map (fun b => pl b.cs) = ones L
end Go.Proofs.Ytbpopkgpepmlcaa
namespace Go.Proofs.Ytbpopkgpepmlcaa
open Go Go.RowKit
set_option maxRecDepth 100000
attribute [local go_sem ↓] Go.wp_at_zero Go.wp_at_succ
theorem may_row {b : Bg} (h : mayBag b = true) {x : List Val × Int} (hx : x ∈ b) : x.1.length ≤ 40 ∧ (∀ v ∈ x.1, mayB v = true) ∧ -1000000000 ≤ x.2 ∧ x.2 ≤ 1000000000 := by
 obtain ⟨_, h1, h2, h3⟩ := okC_parts (may_okC h x hx)
 unfold mayR at h3
 rw [Bool.and_eq_true, decide_eq_true_eq, List.all_eq_true] at h3
 exact ⟨h3.1, h3.2, h1, h2⟩
theorem mul_bd {a b : Int} (ha : -1000000000 ≤ a ∧ a ≤ 1000000000) (hb : -1000000000 ≤ b ∧ b ≤ 1000000000) : -1000000000000000000 ≤ a * b ∧ a * b ≤ 1000000000000000000 := by
 have h : (a * b).natAbs ≤ 1000000000 * 1000000000 := by
  rw [Int.natAbs_mul]
  exact Nat.mul_le_mul (by omega) (by omega)
 omega
theorem pl_take1 {l : List Ct} {k : Nat} {x : Ct} (hx : l[k]? = some x) : pl (l.take (k + 1)) = pl (l.take k) ++ [(x.h.xs, x.N)] := by
 unfold pl
 rw [List.take_add_one, hx, List.map_append]
 rfl
theorem colF_mem {i : Int} {cs : List Ct} {x : Val} {z : Ct} (h : z ∈ colF i cs x) : z ∈ cs := (List.mem_filter.1 h).1
set_option maxHeartbeats 4000000 in
theorem paired_c (A B : Option Addr) (n m c d : Nat) (cs ds : List Ct) (i j : Int) (w : World) (hA : BgIn w A n cs) (hB : BgIn w B m ds) (hn : n ≤ 100000) (hm : m ≤ 100000) (ha : mayBag (pl cs) = true) (hb : mayBag (pl ds) = true) :
 Calls Try.prog 28 #[.agg #[.int .i64 i, .int .i64 j], .slice A n c, .slice B m d] w fun e w' => ∃ v ok, e = .returned (.tuple #[v, .bool ok]) ∧ PairSaid w (pairL i j (pl cs) (pl ds)) v ok w' := by
 have HA := Lib.hid hA
 have HB := Lib.hid hB
 have Hma := Lib.hid ha
 have Hmb := Lib.hid hb
 clear hA hB ha hb
 go_enter Try.func28, Try.ntmps28
 go_wp2_with fail
 refine (byColumn_c B m d ds j _ (HB.out.after (below_one _ _)) hm).mono ?_
 rintro e W ⟨mb, l, rfl, hS⟩
 have HS := Lib.hid hS
 have HbW : Hid (Below w.heap.size w W) := Lib.hid (below_via (below_one _ _) hS.below)
 have o0 : Hid ((w.alloc (.cells #[.int .i64 i, .int .i64 j] 22)).cell? ⟨w.heap.size, 0, none⟩ = some (.int .i64 i)) := Lib.hid (by simp)
 have o1 : W.cell? ⟨w.heap.size, 0, none⟩ = some (.int .i64 i) := (hS.below.cell (p := ⟨w.heap.size, 0, none⟩) (by simp)).trans o0.out
 have ow : w.heap.size < W.heap.size := Nat.lt_of_lt_of_le (by simp) hS.below.size
 have HAW := Lib.hid (HA.out.after HbW.out)
 clear hS o0
 have HG := Lib.hid HS.out.grp
 obtain ⟨B0, hB0⟩ : ∃ B0, (w.alloc (Obj.cells #[Value.int IntKind.i64 i, Value.int IntKind.i64 j] 22)).heap.size + 1 = B0 := ⟨_, rfl⟩
 rw [hB0] at HG
 clear HS hB0
 go_wp2_with fail
 go_loopw [9, 21] (fun v q wr => ∃ (k n' : Nat) (A' : Option Addr) (c' : Nat) (ps : List Bh), k ≤ n ∧ q = .int .i64 k ∧ v = .slice A' n' c' ∧ n' ≤ 10000 ∧ Hid (Below W.heap.size W wr) ∧ Hid (PrsIn wr W.heap.size (.slice A' n' c') ps (pairL i j (pl (cs.take k)) (pl ds))) ∧ Hid (ps.length = n')) (fun _ q _ => n - (intOf q).toNat)
 case atStart => exact ⟨0, 0, none, 0, [], Nat.zero_le _, rfl, rfl, Nat.zero_le _, Lib.hid (Below.refl _ _), Lib.hid (PrsIn.nil _ _), Lib.hid rfl⟩
 case round =>
  obtain ⟨k, n', A', c', ps, hk, rfl, rfl, hn', hb, hp, hpn⟩ := hrel
  by_cases hlt : k < n
  · obtain ⟨b, off, rfl⟩ := HAW.out.sl.some2 (k := k) (by rw [HAW.out.len]; exact hlt)
    obtain ⟨x, hx⟩ : ∃ x, cs[k]? = some x := ⟨_, List.getElem?_eq_getElem (by rw [HAW.out.len]; exact hlt)⟩
    obtain ⟨hblt, c0, c1⟩ := HAW.out.sl.cell2 hx
    have d0 := (hb.out.cell (p := ⟨b, off + k * 2, none⟩) hblt).trans c0
    have d1 := (hb.out.cell (p := ⟨b, off + k * 2 + 1, none⟩) hblt).trans c1
    have l0 : b < wr.heap.size := Nat.lt_of_lt_of_le hblt hb.out.size
    have or1 := (hb.out.cell (p := ⟨w.heap.size, 0, none⟩) ow).trans o1
    have orl : w.heap.size < wr.heap.size := Nat.lt_of_lt_of_le ow hb.out.size
    have HxW := Lib.hid (HAW.out.each x (List.mem_of_getElem? hx))
    have Hmx := Lib.hid (may_row Hma.out (pl_mem (List.mem_of_getElem? hx)))
    have Htk := Lib.hid (pairL_take (i := i) (j := j) (pl ds) hx)
    have Hle := Lib.hid (pairL_le i j cs (pl ds) (k + 1))
    clear c0 c1 hx
    obtain ⟨⟨xA, xn, xc, xs⟩, N⟩ := x
    have hgo : (k : Int) < n := by omega
    have Hb1 : Hid (Below wr.heap.size wr (wr.alloc (.cells #[.slice xA xn xc, .int .i64 N] 46))) := Lib.hid (below_one _ _)
    have dg0 : Hid ((wr.alloc (.cells #[.slice xA xn xc, .int .i64 N] 46)).cell? ⟨wr.heap.size, 0, none⟩ = some (.slice xA xn xc)) := Lib.hid (by simp)
    have dg1 : Hid ((wr.alloc (.cells #[.slice xA xn xc, .int .i64 N] 46)).cell? ⟨wr.heap.size, 1, none⟩ = some (.int .i64 N)) := Lib.hid (by simp)
    have lg1 : wr.heap.size < (wr.alloc (.cells #[.slice xA xn xc, .int .i64 N] 46)).heap.size := by simp
    have Hx1 := Lib.hid ((HxW.out.after hb.out).after Hb1.out)
    go_wp2_with fail
    refine (qcolumn_c xA xn xc xs i _ Hx1.out.hd.len Hx1.out.hd.sl).mono ?_
    rintro e w1 ⟨rfl, hb1⟩
    have g0 := (hb1.cell (p := ⟨wr.heap.size, 0, none⟩) lg1).trans dg0.out
    have g1 := (hb1.cell (p := ⟨wr.heap.size, 1, none⟩) lg1).trans dg1.out
    have lg2 : wr.heap.size < w1.heap.size := Nat.lt_of_lt_of_le lg1 hb1.size
    have Hb2 := Lib.hid (below_via Hb1.out hb1)
    have HbW1 := Lib.hid (hb.out.trans (Hb2.out.mono hb.out.size))
    have HP1 := Lib.hid (hp.out.after Hb2.out)
    have HU1 : Hid ((Value.slice A' n' c').ownBlock ≠ some wr.heap.size) := Lib.hid (fun e => by have := (hp.out.own.lt _ e).2; omega)
    have Hcf := Lib.hid (pl_colF i j ds xs)
    have Ht2 := Htk.out
    try simp only at Ht2
    rw [← pl_colF i j ds xs] at Ht2
    obtain ⟨y, hy⟩ : ∃ y, atR xs i = y := ⟨_, rfl⟩
    rw [hy] at Ht2 ⊢
    have Ht3 := Lib.hid Ht2
    obtain ⟨rA, rc, hr, hrc, hrm, hrs⟩ := (HG.out.each y).sl cOk.len
    obtain ⟨Rl, hRl⟩ : ∃ Rl, colF j ds y = Rl := ⟨_, rfl⟩
    have HRm : Hid (∀ z ∈ Rl, z ∈ ds) := Lib.hid fun z hz => by rw [← hRl] at hz; exact colF_mem hz
    have Hrn : Hid (Rl.length ≤ m) := Lib.hid (by rw [← hRl, ← HB.out.len]; exact List.length_filter_le _ _)
    rw [hRl] at hr hrc hrs Ht3
    obtain ⟨rn, hrn⟩ : ∃ rn, Rl.length = rn := ⟨_, rfl⟩
    rw [hrn] at hr hrc Hrn
    have Hr := Lib.hid hr
    have Hrs := Lib.hid hrs
    have HRn := Lib.hid hrn
    have hrnm := Hrn.out
    clear hy Ht2 Htk hr hrs hrn hRl hb1 dg0 dg1 Hb1 Hx1 Hcf
    have hw0 : IntKind.i64.wrap ((n' : Int) + rn) = n' + rn := by rw [IntKind.wrap_i64]; omega
    by_cases hmany : 10000 < n' + rn
    · have hdec : (10000 : Int) < (n' : Int) + rn := by omega
      have HF : Hid (PairSaid w (pairL i j (pl cs) (pl ds)) (.slice none 0 0) false w1) := Lib.hid ⟨below_via HbW.out HbW1.out, by
       have h1 := Hle.out
       rw [Ht3.out, List.length_append, List.length_map, pl_len, HRn.out, ← hp.out.len, hpn.out] at h1
       rw [decide_eq_false (by omega)], nofun⟩
      go_wp2_with (first
       | (at_lookup; go_must (
          refine wpList_lookV rfl (.tmp 25) (.tmp 30) rfl Try.underlying81 (by kernel_rfl) mb l y (.slice rA rn rc) Hr.out rfl rfl (HG.out.map.after HbW1.out) ?_)))
      go_ret2
      exact ⟨_, _, rfl, HF.out⟩
    · have hdec : (n' : Int) + rn ≤ 10000 := by omega
      go_wp2_with (first
       | (at_lookup; go_must (
          refine wpList_lookV rfl (.tmp 25) (.tmp 30) rfl Try.underlying81 (by kernel_rfl) mb l y (.slice rA rn rc) Hr.out rfl rfl (HG.out.map.after HbW1.out) ?_)))
      obtain ⟨P, hP⟩ : ∃ P, pairL i j (pl (List.take k cs)) (pl ds) = P := ⟨_, rfl⟩
      rw [hP] at HP1 Ht3
      have HPl : Hid (P.length = n') := Lib.hid (by rw [← HP1.out.len, hpn.out])
      clear hP hp hw0 hmany Hle
      obtain ⟨L, hL⟩ : ∃ L, wr.heap.size = L := ⟨_, rfl⟩
      rw [hL] at g0 g1 lg2 HU1 lg1 ⊢
      have HL0 := Lib.hid g0
      have HL1 := Lib.hid g1
      have HLW : Hid (W.heap.size ≤ L) := Lib.hid (by rw [← hL]; exact hb.out.size)
      have Hlg := Lib.hid lg2
      clear g0 g1 hL lg1 lg2 d0 d1 or1 orl l0
      obtain ⟨wo, hwo⟩ : ∃ wo, wo = wr := ⟨_, rfl⟩
      clear hwo Hb2 hb
      go_loopw [9, 40] (fun v q wr => ∃ (q' n2 : Nat) (A2 : Option Addr) (c2 : Nat) (ps2 : List Bh), q' ≤ rn ∧ q = .int .i64 q' ∧ v = .slice A2 n2 c2 ∧ Hid (n2 = n' + q') ∧ Hid (Below W.heap.size W wr) ∧ Hid (PrsIn wr W.heap.size (.slice A2 n2 c2) ps2 (P ++ (pl (Rl.take q')).map (fun y => (xs ++ y.1, N * y.2)))) ∧ Hid (ps2.length = n2) ∧ Hid (wr.cell? ⟨L, 0, none⟩ = some (.slice xA xn xc) ∧ wr.cell? ⟨L, 1, none⟩ = some (.int .i64 N)) ∧ Hid (L < wr.heap.size) ∧ Hid ((Value.slice A2 n2 c2).ownBlock ≠ some L)) (fun _ q _ => rn - (intOf q).toNat)
      case atStart => exact ⟨0, n', A', c', ps, Nat.zero_le _, rfl, rfl, Lib.hid rfl, HbW1, (by have h1 := HP1.out; rw [← List.append_nil P] at h1; exact Lib.hid h1), hpn, Lib.hid ⟨HL0.out, HL1.out⟩, Hlg, HU1⟩
      case round =>
       obtain ⟨q', n2, A2, c2, ps2, hq, rfl, rfl, hn2, hb2, hp2, hpn2, hc2, hl2, hu2⟩ := hrel
       clear HbW1 HP1 hpn HU1 HL0 HL1 Hlg
       by_cases hlt2 : q' < rn
       · obtain ⟨rb, ro, rfl⟩ := Hrs.out.some2 (k := q') (by rw [HRn.out]; exact hlt2)
         obtain ⟨z, hz⟩ : ∃ z, Rl[q']? = some z := ⟨_, List.getElem?_eq_getElem (by rw [HRn.out]; exact hlt2)⟩
         obtain ⟨rblt, e0, e1⟩ := Hrs.out.cell2 hz
         have f0 := (hb2.out.cell (p := ⟨rb, ro + q' * 2, none⟩) rblt).trans e0
         have f1 := (hb2.out.cell (p := ⟨rb, ro + q' * 2 + 1, none⟩) rblt).trans e1
         have r0 : rb < wr.heap.size := Nat.lt_of_lt_of_le rblt hb2.out.size
         have HzW := Lib.hid (((HB.out.each z (HRm.out z (List.mem_of_getElem? hz))).after HbW.out).after hb2.out)
         have HxR := Lib.hid (HxW.out.after hb2.out)
         have Hmz := Lib.hid (may_row Hmb.out (pl_mem (HRm.out z (List.mem_of_getElem? hz))))
         have Hpt := Lib.hid (pl_take1 hz)
         clear e0 e1 hz
         obtain ⟨⟨zA, zn, zc, zs⟩, M⟩ := z
         have hgo2 : (q' : Int) < rn := by omega
         have Hb8 : Hid (Below wr.heap.size wr (wr.alloc (.cells #[.slice zA zn zc, .int .i64 M] 46))) := Lib.hid (below_one _ _)
         have eg0 : Hid ((wr.alloc (.cells #[.slice zA zn zc, .int .i64 M] 46)).cell? ⟨wr.heap.size, 0, none⟩ = some (.slice zA zn zc)) := Lib.hid (by simp)
         have eg1 : Hid ((wr.alloc (.cells #[.slice zA zn zc, .int .i64 M] 46)).cell? ⟨wr.heap.size, 1, none⟩ = some (.int .i64 M)) := Lib.hid (by simp)
         have elg : Hid (wr.heap.size < (wr.alloc (.cells #[.slice zA zn zc, .int .i64 M] 46)).heap.size) := Lib.hid (by simp)
         have hw1 : IntKind.i64.wrap (N * M) = N * M := by
          have := mul_bd (a := N) (b := M) ⟨Hmx.out.2.2.1, Hmx.out.2.2.2⟩ ⟨Hmz.out.2.2.1, Hmz.out.2.2.2⟩
          rw [IntKind.wrap_i64]
          omega
         have HNM : Hid (-9223372036854775808 ≤ N * M ∧ N * M ≤ 9223372036854775807) := Lib.hid (by
          have := mul_bd (a := N) (b := M) ⟨Hmx.out.2.2.1, Hmx.out.2.2.2⟩ ⟨Hmz.out.2.2.1, Hmz.out.2.2.2⟩
          omega)
         have hur : Hid (∀ g, (Value.slice A2 n2 c2).ownBlock = some g → g < wr.heap.size) := Lib.hid fun g hg => (hp2.out.own.lt g hg).2
         go_wp2_with fail
         clear f0 f1
         obtain ⟨Rr, hRr⟩ : ∃ Rr, wr.heap.size = Rr := ⟨_, rfl⟩
         obtain ⟨w8, hw8⟩ : ∃ w8, wr.alloc (.cells #[.slice zA zn zc, .int .i64 M] 46) = w8 := ⟨_, rfl⟩
         have Hb2r := Lib.hid (hb2.out.trans (Hb8.out.mono hb2.out.size))
         have HP8 := Lib.hid (hp2.out.after Hb8.out)
         have Hz8 := Lib.hid (HzW.out.after Hb8.out)
         have Hx8 := Lib.hid (HxR.out.after Hb8.out)
         have HL8 : Hid (L < w8.heap.size) := Lib.hid (by rw [← hw8]; exact Nat.lt_of_lt_of_le hl2.out Hb8.out.size)
         have HC8 : Hid (w8.cell? ⟨L, 0, none⟩ = some (.slice xA xn xc) ∧ w8.cell? ⟨L, 1, none⟩ = some (.int .i64 N)) := Lib.hid (by
          rw [← hw8]
          exact ⟨(Hb8.out.cell hl2.out).trans hc2.out.1, (Hb8.out.cell hl2.out).trans hc2.out.2⟩)
         rw [hRr] at eg0 eg1 elg hur ⊢
         rw [hw8] at eg0 eg1 elg Hb2r HP8 Hz8 Hx8 ⊢
         have Hur8 : Hid (∀ g, (Value.slice A2 n2 c2).ownBlock = some g → g < w8.heap.size) := Lib.hid fun g hg => Nat.lt_trans (hur.out g hg) elg.out
         have HuR : Hid ((Value.slice A2 n2 c2).ownBlock ≠ some Rr) := Lib.hid fun e => by have := hur.out Rr e; omega
         have h80 := HC8.out.1
         have h81 := HC8.out.2
         have h82 := eg0.out
         have h83 := eg1.out
         have h84 := HL8.out
         have h85 := elg.out
         have Hjn : Hid (joinR [(⟨xA, xn, xc, xs⟩ : Hd), ⟨zA, zn, zc, zs⟩] = xs ++ zs) := Lib.hid (by simp [joinR])
         clear hw8 hRr hp2 HzW HxR hb2 Hb8 hc2 hl2 hur r0
         go_region_held3 (fun w' => w'.cell? ⟨L, 0, none⟩ = some (.slice xA xn xc) ∧ w'.cell? ⟨L, 1, none⟩ = some (.int .i64 N) ∧ w'.cell? ⟨Rr, 0, none⟩ = some (.slice zA zn zc) ∧ w'.cell? ⟨Rr, 1, none⟩ = some (.int .i64 M)) (first | exact HGC9.out | exact HGC10.out | exact HGCa.out | go_keep)
          (first
            | (go_at_call 31
               have hbj := Lib.hid (((Below.refl w8.heap.size w8).alloc (Nat.le_refl _) (.cells #[.slice xA xn xc, .slice zA zn zc] 44)).drew)
               have hsj : Hid (SlG (w8.alloc (.cells #[.slice xA xn xc, .slice zA zn zc] 44)).drew (some ⟨w8.heap.size, 0, none⟩) 1 rdH [⟨xA, xn, xc, xs⟩, ⟨zA, zn, zc, zs⟩]) := Lib.hid ((SlG.new hOk.len [⟨xA, xn, xc, xs⟩, ⟨zA, zn, zc, zs⟩] rfl).after (Below.refl _ _).drew)
               refine (join_c (some ⟨w8.heap.size, 0, none⟩) 2 2 [⟨xA, xn, xc, xs⟩, ⟨zA, zn, zc, zs⟩] (w8.alloc (.cells #[.slice xA xn xc, .slice zA zn zc] 44)).drew rfl (by unfold maxLen; omega) hsj.out (fun h' hh' => by
                simp only [List.mem_cons, List.not_mem_nil, or_false] at hh'
                rcases hh' with rfl | rfl
                · exact Hx8.out.hd.after hbj.out
                · exact Hz8.out.hd.after hbj.out) (by rw [Hjn.out, List.length_append]; have := Hmx.out.1; have := Hmz.out.1; omega)).mono ?_
               rintro en w9 ⟨v9, rfl, hb9, hv9⟩
               rw [Hjn.out] at hv9
               obtain ⟨h9, rfl, hIn9, hxs9, hbl9, hnc9⟩ := hv9.hd
               have Hb89 := Lib.hid (below_via hbj.out hb9)
               have HGC9 : Hid (w9.cell? ⟨L, 0, none⟩ = some (.slice xA xn xc) ∧ w9.cell? ⟨L, 1, none⟩ = some (.int .i64 N) ∧ w9.cell? ⟨Rr, 0, none⟩ = some (.slice zA zn zc) ∧ w9.cell? ⟨Rr, 1, none⟩ = some (.int .i64 M)) := Lib.hid ⟨(Hb89.out.cell HL8.out).trans HC8.out.1, (Hb89.out.cell HL8.out).trans HC8.out.2, (Hb89.out.cell elg.out).trans eg0.out, (Hb89.out.cell elg.out).trans eg1.out⟩
               have HP9 := Lib.hid (HP8.out.after Hb89.out)
               have HbW9 := Lib.hid (Hb2r.out.trans (Hb89.out.mono Hb2r.out.size))
               have Hs89 : Hid (w8.heap.size ≤ w9.heap.size) := Lib.hid Hb89.out.size
               have Hn9 : Hid (Ct.In w9 ⟨h9, N * M⟩ ∧ h9.xs = xs ++ zs ∧ ∀ b off, h9.A = some ⟨b, off, none⟩ → w8.heap.size ≤ b ∧ b < w9.heap.size) := Lib.hid ⟨⟨hIn9, fun v hv => by
                rw [hxs9] at hv
                rcases List.mem_append.1 hv with hv | hv
                · exact Hx8.out.sz v hv
                · exact Hz8.out.sz v hv, fun v hv => by
                rw [hxs9] at hv
                rcases List.mem_append.1 hv with hv | hv
                · exact Hx8.out.n64 v hv
                · exact Hz8.out.n64 v hv, HNM.out, hnc9⟩, hxs9, fun b off hA => ⟨Nat.le_trans hbj.out.size (hbl9 b off hA).1, (hbl9 b off hA).2⟩⟩
               obtain ⟨h9A, h9n, h9c, h9xs⟩ := h9
               dsimp only [Hd.v]
               clear hv9 hIn9 hxs9 hbl9 hnc9 hb9 hbj hsj HP8 Hb2r)
            | (go_at_call 33
               refine (qone_c h9A h9n h9c (N * M) _).mono ?_
               rintro en w10 ⟨rfl, rfl⟩
               have HGC10 : Hid ((w9.alloc (.cells #[.slice h9A h9n h9c, .int .i64 (N * M)] 46)).cell? ⟨L, 0, none⟩ = some (.slice xA xn xc) ∧ (w9.alloc (.cells #[.slice h9A h9n h9c, .int .i64 (N * M)] 46)).cell? ⟨L, 1, none⟩ = some (.int .i64 N) ∧ (w9.alloc (.cells #[.slice h9A h9n h9c, .int .i64 (N * M)] 46)).cell? ⟨Rr, 0, none⟩ = some (.slice zA zn zc) ∧ (w9.alloc (.cells #[.slice h9A h9n h9c, .int .i64 (N * M)] 46)).cell? ⟨Rr, 1, none⟩ = some (.int .i64 M)) := Lib.hid (by
                have t1 : L < w9.heap.size := Nat.lt_of_lt_of_le HL8.out Hs89.out
                have t2 : Rr < w9.heap.size := Nat.lt_of_lt_of_le elg.out Hs89.out
                exact ⟨((below_one w9 _).cell t1).trans HGC9.out.1, ((below_one w9 _).cell t1).trans HGC9.out.2.1, ((below_one w9 _).cell t2).trans HGC9.out.2.2.1, ((below_one w9 _).cell t2).trans HGC9.out.2.2.2⟩))
            | (refine step_appL bOkQ (by rfl) (.tmp 44) (.tmp 57) (by rfl) W.heap.size (.slice A2 n2 c2) ps2 [⟨some ⟨w9.heap.size, 0, none⟩, 1, 1, [⟨⟨h9A, h9n, h9c, h9xs⟩, N * M⟩]⟩] (by rfl) (HP9.out.own.after (below_two _ _ _)) (some ⟨w9.heap.size + 1, 0, none⟩) 1 1 (by rfl) rfl (SlG.newAt (by simp) bOkQ.len [⟨some ⟨w9.heap.size, 0, none⟩, 1, 1, [⟨⟨h9A, h9n, h9c, h9xs⟩, N * M⟩]⟩] rfl) (by rw [hpn2.out]; have := hn2.out; simp [maxLen]; omega) (by rw [hpn2.out]; have := hn2.out; simp; omega) (by have := HbW9.out.size; simp; omega) ?_
               intro A3 c3 w2 hv hg hloc
               rw [hpn2.out] at hv hloc ⊢
               have HX := Lib.hid (below_two w9 (.cells #[.slice h9A h9n h9c, .int .i64 (N * M)] 46) (.cells #[.slice (some ⟨w9.heap.size, 0, none⟩) 1 1] 30))
               have Hv2 := Lib.hid hv
               have Hb2 := Lib.hid ((HbW9.out.trans (HX.out.mono HbW9.out.size)).grown hg (by have := HbW9.out.size; simp; omega) (fun g hg' => (HP9.out.own.lt g hg').1))
               have Hpl9 : Hid (h9xs = xs ++ zs) := Lib.hid Hn9.out.2.1
               have HSf : Hid (Safe ((w9.alloc (.cells #[.slice h9A h9n h9c, .int .i64 (N * M)] 46)).alloc (.cells #[.slice (some ⟨w9.heap.size, 0, none⟩) 1 1] 30)) (Value.slice A2 n2 c2).ownBlock ⟨some ⟨w9.heap.size, 0, none⟩, 1, 1, [⟨⟨h9A, h9n, h9c, h9xs⟩, N * M⟩]⟩) := Lib.hid (Safe.new ⟨rfl, by unfold maxLen; omega, (SlG.new cOk.len [⟨⟨h9A, h9n, h9c, h9xs⟩, N * M⟩] rfl).after (below_one _ _), fun c hc => by rw [List.mem_singleton] at hc; subst hc; exact Hn9.out.1.after HX.out⟩ (by simp; omega) (fun e => by have := Hur8.out _ e; have := Hs89.out; omega) (fun b off hA => ⟨fun e => by have h1 := Hur8.out _ e; have h2 := (Hn9.out.2.2 b off hA).1; omega, by have h2 := (Hn9.out.2.2 b off hA).2; simp; omega⟩))
               have HP2 := Lib.hid ((HP9.out.after HX.out).more HSf.out (r := (xs ++ zs, N * M)) (by show [(h9xs, N * M)] = [(xs ++ zs, N * M)]; rw [Hpl9.out]) rfl hv hg hloc)
               have HGCa : Hid (w2.cell? ⟨L, 0, none⟩ = some (.slice xA xn xc) ∧ w2.cell? ⟨L, 1, none⟩ = some (.int .i64 N) ∧ w2.cell? ⟨Rr, 0, none⟩ = some (.slice zA zn zc) ∧ w2.cell? ⟨Rr, 1, none⟩ = some (.int .i64 M)) := Lib.hid (by
                have t1 : L < w9.heap.size := Nat.lt_of_lt_of_le HL8.out Hs89.out
                have t2 : Rr < w9.heap.size := Nat.lt_of_lt_of_le elg.out Hs89.out
                have b1 : w2.heap[L]? = w9.heap[L]? := (hg.block _ (Nat.lt_of_lt_of_le t1 HX.out.size) (fun e => hu2.out e.symm)).trans (HX.out.block _ t1)
                have b2 : w2.heap[Rr]? = w9.heap[Rr]? := (hg.block _ (Nat.lt_of_lt_of_le t2 HX.out.size) (fun e => HuR.out e.symm)).trans (HX.out.block _ t2)
                refine ⟨?_, ?_, ?_, ?_⟩
                · rw [← HGC9.out.1]; simp only [World.cell?, b1]
                · rw [← HGC9.out.2.1]; simp only [World.cell?, b1]
                · rw [← HGC9.out.2.2.1]; simp only [World.cell?, b2]
                · rw [← HGC9.out.2.2.2]; simp only [World.cell?, b2])
               have HL2 : Hid (L < w2.heap.size) := Lib.hid (by have := HL8.out; have := Hs89.out; have := HX.out.size; have := hg.size; omega)
               have HU2 : Hid ((Value.slice A3 (n2 + 1) c3).ownBlock ≠ some L) := Lib.hid (by
                rcases hloc with e | e
                · rw [show (Value.slice A3 (n2 + 1) c3).ownBlock = _ from e]; exact hu2.out
                · rw [show (Value.slice A3 (n2 + 1) c3).ownBlock = _ from e]
                  intro e2
                  injection e2 with e2
                  have := HL8.out; have := Hs89.out
                  simp at e2
                  omega)
               clear hv hg hloc HX))
         have HPf : Hid (PrsIn w2 W.heap.size (.slice A3 (n2 + 1) c3) (ps2 ++ [⟨some ⟨w9.heap.size, 0, none⟩, 1, 1, [⟨⟨h9A, h9n, h9c, h9xs⟩, N * M⟩]⟩]) (P ++ (pl (Rl.take (q' + 1))).map (fun y => (xs ++ y.1, N * y.2)))) := Lib.hid (by
          have h1 := Hpt.out
          try simp only at h1
          rw [h1, List.map_append, ← List.append_assoc]
          exact HP2.out)
         have HNf : Hid (n2 + 1 = n' + (q' + 1)) := Lib.hid (by have := hn2.out; omega)
         have HLf : Hid ((ps2 ++ [(⟨some ⟨w9.heap.size, 0, none⟩, 1, 1, [⟨⟨h9A, h9n, h9c, h9xs⟩, N * M⟩]⟩ : Bh)]).length = n2 + 1) := Lib.hid (by rw [List.length_append, hpn2.out]; rfl)
         have HCf : Hid (w2.cell? ⟨L, 0, none⟩ = some (.slice xA xn xc) ∧ w2.cell? ⟨L, 1, none⟩ = some (.int .i64 N)) := Lib.hid ⟨HGCa.out.1, HGCa.out.2.1⟩
         clear HGC9 HGC10 HGCa HP9 HP2 Hn9 HSf Hb89
         go_wp2
         go_roundw
         case rel => exact ⟨q' + 1, n2 + 1, A3, c3, _, by omega, by go_num, rfl, HNf, Hb2, HPf, HLf, HCf, HL2, HU2⟩
         case measure => simp [intOf]; omega
       · obtain rfl : q' = rn := by omega
         have HP9 : Hid (PrsIn wr W.heap.size (.slice A2 n2 c2) ps2 (pairL i j (pl (cs.take (k + 1))) (pl ds))) := Lib.hid (by
          have h1 := hp2.out
          rw [show Rl.take q' = Rl from List.take_of_length_le (by rw [HRn.out]; exact Nat.le_refl _), ← Ht3.out] at h1
          exact h1)
         have hn9 : n2 ≤ 10000 := by have := hn2.out; omega
         go_wp2_with fail
         go_roundw
         case rel => exact ⟨k + 1, n2, A2, c2, ps2, by omega, by go_num, rfl, hn9, hb2, HP9, hpn2⟩
         case measure => simp [intOf]; omega
  · obtain rfl : k = n := by omega
    have HF : Hid (PairSaid w (pairL i j (pl cs) (pl ds)) (.slice A' n' c') true wr) := Lib.hid (by
     have hp1 := hp.out
     rw [show cs.take k = cs from List.take_of_length_le (by rw [HAW.out.len]; exact Nat.le_refl _)] at hp1
     refine ⟨below_via HbW.out hb.out, ?_, fun _ => ⟨A', n', c', ps, rfl, hpn.out, ?_, fun p hpp => (hp1.safe p hpp).in, by rw [tot_one ps hp1.one, hpn.out], hp1.map⟩⟩
     · rw [← hp1.len, hpn.out, decide_eq_true hn']
     · obtain ⟨A2, c2, e2, _, _, hs2⟩ := hp1.own.sl bOkQ.len
       injection e2 with e2
       rw [e2]
       exact hs2)
    go_wp2
    go_ret2
    exact ⟨_, _, rfl, HF.out⟩
end Go.Proofs.Ytbpopkgpepmlcaa
namespace Go.Proofs.Ytbpopkgpepmlcaa
open Go Go.RowKit
set_option maxRecDepth 100000
theorem dig_one : ∀ d : Nat, d < 10 → (⟨#[48, 49, 50, 51, 52, 53, 54, 55, 56, 57]⟩ : ByteArray).extract d (d + 1) = ⟨#[48 + UInt8.ofNat d]⟩
 | 0, _ => rfl
 | 1, _ => rfl
 | 2, _ => rfl
 | 3, _ => rfl
 | 4, _ => rfl
 | 5, _ => rfl
 | 6, _ => rfl
 | 7, _ => rfl
 | 8, _ => rfl
 | 9, _ => rfl
 | n + 10, h => absurd h (by omega)
theorem dec_small {u : Nat} (h : u < 10) : Lib.decDigits u = [48 + UInt8.ofNat u] := by rw [Lib.decDigits, dif_pos h, UInt8.ofNat_add]; rfl
theorem dec_big {u : Nat} (h : ¬ u < 10) : Lib.decDigits u = Lib.decDigits (u / 10) ++ [48 + UInt8.ofNat (u % 10)] := by rw [Lib.decDigits, dif_neg h, UInt8.ofNat_add]; rfl
theorem cat_one (a : UInt8) (l : List UInt8) : (⟨#[a]⟩ : ByteArray) ++ ⟨l.toArray⟩ = ⟨(a :: l).toArray⟩ := by
 apply ByteArray.ext
 simp
theorem dec_64 (u : Nat) (h : u < 18446744073709551616) : (Lib.decDigits u).length ≤ 20 := dec_len u 19 (by omega)
set_option maxHeartbeats 1000000 in
theorem rdigits_c (u : Nat) (w : World) (hu : u < 18446744073709551616) :
 Calls Try.prog 51 #[.int .u64 u] w fun e w' => e = .returned (.string ⟨(Lib.decDigits u).toArray⟩) ∧ Below w.heap.size w w' := by
 obtain ⟨R, hR⟩ : ∃ R, Lib.decDigits u = R := ⟨_, rfl⟩
 rw [hR]
 have HR := Lib.hid hR
 have HRl : Hid (R.length ≤ 20) := Lib.hid (by rw [← hR]; exact dec_64 u hu)
 clear hR
 go_enter Try.func51, Try.ntmps51
 go_wp2_with fail
 go_loopw [0, 3] (fun v s wr => ∃ (m : Nat) (l : List UInt8), m ≤ u ∧ v = .int .u64 m ∧ s = .string ⟨l.toArray⟩ ∧ Hid (Below w.heap.size w wr) ∧ Hid (Lib.decDigits m ++ l = R)) (fun v _ _ => (intOf v).toNat)
 case atStart => exact ⟨u, [], Nat.le_refl _, rfl, rfl, Lib.hid (Below.refl _ _), Lib.hid (by rw [List.append_nil]; exact HR.out)⟩
 case round =>
  obtain ⟨m, l, hm, rfl, rfl, hb, hinv⟩ := hrel
  have hl : l.length ≤ 20 := by
   have h1 := HRl.out
   rw [← hinv.out, List.length_append] at h1
   omega
  have hsz : (⟨l.toArray⟩ : ByteArray).size = l.length := by show l.toArray.size = _; simp
  clear HR HRl
  by_cases hlt : m < 10
  · have hlt' : ¬ (9 : Int) < m := by omega
    have hd := dig_one m hlt
    have Hr : Hid ((⟨#[48 + UInt8.ofNat m]⟩ : ByteArray) ++ ⟨l.toArray⟩ = ⟨R.toArray⟩) := Lib.hid (by
     rw [cat_one, ← hinv.out, dec_small hlt]
     rfl)
    have hs1 : (⟨#[48 + UInt8.ofNat m]⟩ : ByteArray).size = 1 := rfl
    clear hinv
    go_wp2
    go_ret
    exact ⟨congrArg (fun z => Ending.returned (Value.string z)) Hr.out, hb.out⟩
  · have hlt' : (9 : Int) < m := by omega
    have Hbig := Lib.hid (dec_big hlt)
    have Hlt := Lib.hid hlt
    obtain ⟨d, hdd⟩ : ∃ d, m % 10 = d := ⟨_, rfl⟩
    obtain ⟨q, hqq⟩ : ∃ q, m / 10 = q := ⟨_, rfl⟩
    have hd10 : d < 10 := by omega
    have hmd : (m : Int) % 10 = (d : Nat) := by omega
    have hmq : (m : Int) / 10 = (q : Nat) := by omega
    have hd := dig_one d hd10
    have hs1 : (⟨#[48 + UInt8.ofNat d]⟩ : ByteArray).size = 1 := rfl
    have hbig := Hbig.out
    rw [hdd, hqq] at hbig
    have Hi2 : Hid (Lib.decDigits q ++ ((48 + UInt8.ofNat d) :: l) = R) := Lib.hid (by
     rw [← hinv.out, hbig, List.append_assoc]
     rfl)
    have Hqm : Hid (q < m) := Lib.hid (by omega)
    clear hbig Hbig hinv hlt hdd hqq
    go_wp2
    go_roundw
    case rel => exact ⟨q, _, by have := Hqm.out; omega, rfl, by rw [cat_one], hb, Hi2⟩
    case measure => have := Hqm.out; simp [intOf]; omega
set_option maxHeartbeats 1000000 in
theorem rsigned_c (n : Int) (w : World) (hn : -9223372036854775808 ≤ n ∧ n ≤ 9223372036854775807) :
 Calls Try.prog 36 #[.int .i64 n] w fun e w' => e = .returned (.string ⟨(Lib.itoa n).toArray⟩) ∧ Below w.heap.size w w' := by
 by_cases h0 : n < 0
 · obtain ⟨k, rfl⟩ : ∃ k : Nat, n = -(k : Int) - 1 := ⟨(-n - 1).toNat, by omega⟩
   obtain ⟨R, hR⟩ : ∃ R, Lib.itoa (-(k : Int) - 1) = R := ⟨_, rfl⟩
   rw [hR]
   have hk : k < 9223372036854775808 := by omega
   have hD := rdigits_c (k + 1) w (by omega)
   obtain ⟨D, hd⟩ : ∃ D, Lib.decDigits (k + 1) = D := ⟨_, rfl⟩
   have HRd : Hid ((⟨#[45]⟩ : ByteArray) ++ ⟨D.toArray⟩ = ⟨R.toArray⟩) := Lib.hid (by
    rw [cat_one, ← hR]
    unfold Lib.itoa
    rw [if_pos (by omega), show (-(k : Int) - 1).natAbs = k + 1 by omega, hd])
   have hDl : D.length ≤ 20 := by rw [← hd]; exact dec_64 _ (by omega)
   have hsz : (⟨D.toArray⟩ : ByteArray).size = D.length := by show D.toArray.size = _; simp
   rw [hd, show ((k + 1 : Nat) : Int) = (k : Int) + 1 by omega] at hD
   have HD := Lib.hid hD
   have hs1 : (⟨#[45]⟩ : ByteArray).size = 1 := rfl
   have hw0 : IntKind.i64.wrap (-(k : Int) - 1 + 1) = -(k : Int) := by rw [IntKind.wrap_i64]; omega
   have hw1 : IntKind.i64.wrap (-(k : Int)) = -(k : Int) := by rw [IntKind.wrap_i64]; omega
   have hw2 : IntKind.i64.wrap (k : Int) = k := by rw [IntKind.wrap_i64]; omega
   have hw3 : IntKind.u64.wrap (k : Int) = k := by rw [IntKind.wrap_u64]; omega
   have hw4 : IntKind.u64.wrap ((k : Int) + 1) = (k : Int) + 1 := by rw [IntKind.wrap_u64]; omega
   clear hR hD hd
   go_enter Try.func36, Try.ntmps36
   go_wp2_with fail
   refine HD.out.mono ?_
   rintro e w1 ⟨rfl, hb1⟩
   have Hb1 := Lib.hid hb1
   clear hb1 HD
   go_wp2
   go_ret
   exact ⟨congrArg (fun z => Ending.returned (Value.string z)) HRd.out, Hb1.out⟩
 · obtain ⟨k, rfl⟩ : ∃ k : Nat, n = k := ⟨n.toNat, by omega⟩
   have he : Lib.itoa (k : Int) = Lib.decDigits k := by
    unfold Lib.itoa
    rw [if_neg h0, Int.toNat_natCast]
   rw [he]
   have HD := Lib.hid (rdigits_c k w (by omega))
   obtain ⟨D, hd⟩ : ∃ D, Lib.decDigits k = D := ⟨_, rfl⟩
   rw [hd] at HD ⊢
   have hw3 : IntKind.u64.wrap (k : Int) = k := by rw [IntKind.wrap_u64]; omega
   clear he hd
   go_enter Try.func36, Try.ntmps36
   go_wp2_with fail
   refine HD.out.mono ?_
   rintro e w1 ⟨rfl, hb1⟩
   have Hb1 := Lib.hid hb1
   clear hb1 HD
   go_wp2
   go_ret
   exact ⟨rfl, Hb1.out⟩
end Go.Proofs.Ytbpopkgpepmlcaa
