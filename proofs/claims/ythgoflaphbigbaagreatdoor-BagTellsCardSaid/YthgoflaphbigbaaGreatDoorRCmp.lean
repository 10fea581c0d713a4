/-
  How lists of values compare as the document has it; whether two are the same; whether all of a list may be, and whether it is short. Of any lists.
-/
import Derived.Test.YthgoflaphbigbaaGreatDoorCmpL
namespace Go.Proofs.YthgoflaphbigbaaGreatDoor
open Go Go.RowKit
set_option maxRecDepth 100000

theorem ev_index {F : Act} {w : World} {t u : Tmp} {b off n c k : Nat} {o : Oper} (hk : k < n) (ho : o.op = .indexAddr 24 (.tmp t) (.tmp u)) (ht : Reg.slot F t = .slice (some ⟨b, off, none⟩) n c) (hu : Reg.slot F u = .int .i64 k) :
    (execOp F.eval o).run Tryz.prog w = .ok (.value (.pointer (some ⟨b, off + k * 3, none⟩))) w := by
  have e1 : F.eval (.tmp t) = .slice (some ⟨b, off, none⟩) n c := ht
  have e2 : F.eval (.tmp u) = .int .i64 k := hu
  have e0 : (execOp F.eval o).run Tryz.prog w = ((Instr.indexAt 24 (.slice (some ⟨b, off, none⟩) n c) (.int .i64 k)).run Tryz.prog w).andThen fun v w' => .ok (.value v) w' := by
    simp only [execOp, ho, e1, e2, Sem.run_bind, Sem.run_pure]
  rw [e0]
  go_simp
theorem ev_load3 {F : Act} {w : World} {b off : Nat} {a : Val} {t : Tmp} {o : Oper} (h0 : w.cell? ⟨b, off, none⟩ = some (.int .i64 a.k)) (h1 : w.cell? ⟨b, off + 1, none⟩ = some (.int .i64 a.n)) (h2 : w.cell? ⟨b, off + 2, none⟩ = some (.string a.s))
    (ho : o.op = .load 63 (.tmp t)) (ht : Reg.slot F t = .pointer (some ⟨b, off, none⟩)) :
    (execOp F.eval o).run Tryz.prog w = .ok (.value a.v) w := by
  have e : F.eval (.tmp t) = .pointer (some ⟨b, off, none⟩) := ht
  have e0 : (execOp F.eval o).run Tryz.prog w = ((Instr.loadAt 63 (.pointer (some ⟨b, off, none⟩))).run Tryz.prog w).andThen fun v w' => .ok (.value v) w' := by
    simp only [execOp, ho, e, Sem.run_bind, Sem.run_pure]
  rw [e0]
  go_simp

theorem enrCompare : ∀ args w, (callFunc 50 args).run Tryz.prog w = .ok (.enter 50 args) w := fun _ _ => by kernel_rfl

set_option maxHeartbeats 2000000 in
theorem rcompareL_c (A B : Option Addr) (n m c d : Nat) (xs ys : List Val) (w : World) (hn : xs.length = n) (hm : ys.length = m) (hn1 : n ≤ maxLen) (hm1 : m ≤ maxLen) (hs : Sl w A xs) (ht : Sl w B ys) :
    Calls Tryz.prog 30 #[.slice A n c, .slice B m d] w fun e w' => e = .returned (.int .i64 (cmpL xs ys)) ∧ Below w.heap.size w w' := by
  unfold maxLen at hn1 hm1
  have Hn := Lib.hid hn
  have Hm := Lib.hid hm
  have Hs := Lib.hid hs
  have Ht := Lib.hid ht
  clear hn hm hs ht
  go_enter Tryz.func30, Tryz.ntmps30
  go_wp2_with fail
  go_loopw [5] (fun i wr => ∃ k : Nat, k ≤ n ∧ k ≤ m ∧ i = .int .i64 k ∧ Below w.heap.size w wr ∧ Hid (cmpL (xs.drop k) (ys.drop k) = cmpL xs ys)) (fun i _ => n - (intOf i).toNat)
  case atStart => exact ⟨0, Nat.zero_le _, Nat.zero_le _, rfl, Below.refl _ _, rfl⟩
  case round =>
    obtain ⟨k, hk, hkm, rfl, hb, hinv⟩ := hrel
    by_cases hlt : k < n
    · by_cases hlt2 : k < m
      · obtain ⟨b, off, x, rfl, hblt, hx, c0, c1, c2⟩ := Hs.out.at (by rw [Hn.out]; exact hlt)
        have d0 : Hid _ := (hb.cell (p := ⟨b, off + k * 3, none⟩) hblt).trans c0
        have d1 : Hid _ := (hb.cell (p := ⟨b, off + k * 3 + 1, none⟩) hblt).trans c1
        have d2 : Hid _ := (hb.cell (p := ⟨b, off + k * 3 + 2, none⟩) hblt).trans c2
        have Hx := Lib.hid hx
        clear c0 c1 c2 hx
        have l1 := hb.size
        obtain ⟨b', off', y, rfl, hblt', hy, c0, c1, c2⟩ := Ht.out.at (by rw [Hm.out]; exact hlt2)
        have d3 : Hid _ := (hb.cell (p := ⟨b', off' + k * 3, none⟩) hblt').trans c0
        have d4 : Hid _ := (hb.cell (p := ⟨b', off' + k * 3 + 1, none⟩) hblt').trans c1
        have d5 : Hid _ := (hb.cell (p := ⟨b', off' + k * 3 + 2, none⟩) hblt').trans c2
        have Hy := Lib.hid hy
        clear c0 c1 c2 hy
        have l2 : b' < wr.heap.size := by omega
        have l3 : b < wr.heap.size := by omega
        have hstep := cmpL_drop xs ys k x y Hx.out Hy.out
        have Hst := Lib.hid (hstep.symm.trans hinv.out)
        clear hstep hinv
        go_wp2_with fail
        refine Reg.wp_region_vals mixed (by kernel_rfl) [(19, .slice (some ⟨b, off, none⟩) n c), (20, .int .i64 k), (21, .pointer (some ⟨b, off + k * 3, none⟩)), (22, x.v), (23, .slice (some ⟨b', off', none⟩) m d), (24, .int .i64 k), (25, .pointer (some ⟨b', off' + k * 3, none⟩)), (26, y.v), (27, .int .i64 (cmpV x y)), (6, .int .i64 (cmpV x y))] 41 rfl (by kernel_rfl) ?_ ?_
        · intro F hF w' hB
          have e0 := (hB.cell (p := ⟨b, off + k * 3, none⟩) l3).trans d0.out
          have e1 := (hB.cell (p := ⟨b, off + k * 3 + 1, none⟩) l3).trans d1.out
          have e2 := (hB.cell (p := ⟨b, off + k * 3 + 2, none⟩) l3).trans d2.out
          have e3 := (hB.cell (p := ⟨b', off' + k * 3, none⟩) l2).trans d3.out
          have e4 := (hB.cell (p := ⟨b', off' + k * 3 + 1, none⟩) l2).trans d4.out
          have e5 := (hB.cell (p := ⟨b', off' + k * 3 + 2, none⟩) l2).trans d5.out
          refine ⟨?_, ?_, ?_, ?_, ?_, ?_, ?_, ?_, ?_, ?_, trivial⟩
          · exact Reg.doesV_val (ev_move rfl) (by rw [hF]; kernel_rfl) (by rw [hF]; kernel_rfl)
          · exact Reg.doesV_val (ev_move rfl) (by rw [hF]; kernel_rfl) (by rw [hF]; kernel_rfl)
          · exact Reg.doesV_val (ev_index (b := b) (off := off) (c := c) hlt rfl (by rw [hF]; kernel_rfl) (by rw [hF]; kernel_rfl)) (by rw [hF]; kernel_rfl) (by rw [hF]; kernel_rfl)
          · exact Reg.doesV_val (ev_load3 e0 e1 e2 rfl (by rw [hF]; kernel_rfl)) (by rw [hF]; kernel_rfl) (by rw [hF]; kernel_rfl)
          · exact Reg.doesV_val (ev_move rfl) (by rw [hF]; kernel_rfl) (by rw [hF]; kernel_rfl)
          · exact Reg.doesV_val (ev_move rfl) (by rw [hF]; kernel_rfl) (by rw [hF]; kernel_rfl)
          · exact Reg.doesV_val (ev_index (b := b') (off := off') (c := d) hlt2 rfl (by rw [hF]; kernel_rfl) (by rw [hF]; kernel_rfl)) (by rw [hF]; kernel_rfl) (by rw [hF]; kernel_rfl)
          · exact Reg.doesV_val (ev_load3 e3 e4 e5 rfl (by rw [hF]; kernel_rfl)) (by rw [hF]; kernel_rfl) (by rw [hF]; kernel_rfl)
          · exact Reg.doesV_call (rcompare_c x y w') (ev_call enrCompare rfl (by rw [hF]; kernel_rfl)) (by rw [hF]; kernel_rfl) (by rw [hF]; kernel_rfl)
          · exact Reg.doesV_val (ev_assign rfl) (by rw [hF]; kernel_rfl) (by rw [hF]; kernel_rfl)
        · intro w2 hB
          simp only [Reg.putAll, Act.put, List.setIfInBounds_toArray, List.set_cons_zero, List.set_cons_succ]
          have hb2 := hb.trans (hB.mono hb.size)
          clear hB hb l1 l2 l3 d0 d1 d2 d3 d4 d5
          cases hc : cmpV x y != 0
          · have Hst' : Hid (cmpL (xs.drop (k + 1)) (ys.drop (k + 1)) = cmpL xs ys) := by have := Hst.out; rw [hc] at this; exact this
            clear Hst
            go_wp2
            go_roundw
            case rel => exact ⟨k + 1, by omega, by omega, by go_num, hb2, Hst'.out⟩
            case measure => simp [intOf]; omega
          · have Hst' : Hid (cmpV x y = cmpL xs ys) := by have := Hst.out; rw [hc] at this; exact this
            clear Hst
            go_wp2
            go_ret
            exact ⟨congrArg (fun z => Ending.returned (Value.int .i64 z)) Hst'.out, hb2⟩
      · obtain rfl : k = m := by omega
        have Hst : Hid (1 = cmpL xs ys) := by
          have := hinv.out
          rw [show ys.drop k = [] from List.drop_eq_nil_of_le (by rw [Hm.out]; omega), cmpL_nil_right, if_neg (by rw [List.length_drop, Hn.out]; omega)] at this
          exact this
        clear hinv
        go_wp2
        go_ret
        exact ⟨congrArg (fun z => Ending.returned (Value.int .i64 z)) Hst.out, hb⟩
    · obtain rfl : k = n := by omega
      by_cases hlt2 : k < m
      · have Hst : Hid (-1 = cmpL xs ys) := by
          have := hinv.out
          rw [show xs.drop k = [] from List.drop_eq_nil_of_le (by rw [Hn.out]; omega), cmpL_nil_left, if_neg (by rw [List.length_drop, Hm.out]; omega)] at this
          exact this
        clear hinv
        go_wp2
        go_ret
        exact ⟨congrArg (fun z => Ending.returned (Value.int .i64 z)) Hst.out, hb⟩
      · have Hst : Hid (0 = cmpL xs ys) := by
          have := hinv.out
          rw [show xs.drop k = [] from List.drop_eq_nil_of_le (by rw [Hn.out]; omega), cmpL_nil_left, if_pos (by rw [List.length_drop, Hm.out]; omega)] at this
          exact this
        obtain rfl : k = m := by omega
        clear hinv
        go_wp2
        go_ret
        exact ⟨congrArg (fun z => Ending.returned (Value.int .i64 z)) Hst.out, hb⟩


/-- Is a list short? -/
def shortB (xs : List Val) : Bool := xs.all (fun x => decide (x.s.size ≤ 1000)) && decide (xs.length ≤ 40)
theorem all_drop (p : Val → Bool) (xs : List Val) (k : Nat) (x : Val) (hx : xs[k]? = some x) : (xs.drop k).all p = (p x && (xs.drop (k + 1)).all p) := by
  have h1 := List.drop_eq_getElem_cons (List.getElem?_eq_some_iff.1 hx).1
  rw [(List.getElem?_eq_some_iff.1 hx).2] at h1
  rw [h1, List.all_cons]

set_option maxHeartbeats 2000000 in
theorem short_c (A : Option Addr) (n c : Nat) (xs : List Val) (w : World) (hn : xs.length = n) (hn1 : n ≤ maxLen) (hs : Sl w A xs) (hz : ∀ x ∈ xs, x.s.size ≤ maxLen) :
    Calls Tryz.prog 22 #[.slice A n c] w fun e w' => e = .returned (.bool (shortB xs)) ∧ Below w.heap.size w w' := by
  unfold maxLen at hn1 hz
  have Hn := Lib.hid hn
  have Hs := Lib.hid hs
  have Hz := Lib.hid hz
  clear hn hs hz
  go_enter Tryz.func22, Tryz.ntmps22
  go_wp2_with fail
  go_loop [3] (fun i => ∃ k : Nat, k ≤ n ∧ i = .int .i64 k ∧ Hid ((xs.drop k).all (fun x => decide (x.s.size ≤ 1000)) = xs.all (fun x => decide (x.s.size ≤ 1000)))) (fun i => n - (intOf i).toNat)
  case atStart => exact ⟨0, Nat.zero_le _, rfl, rfl⟩
  case round =>
    obtain ⟨k, hk, rfl, hinv⟩ := hrel
    by_cases hlt : k < n
    · obtain ⟨b, off, x, rfl, hblt, hx, c0, c1, c2⟩ := Hs.out.at (by rw [Hn.out]; exact hlt)
      have hxz := Hz.out x (List.mem_of_getElem? hx)
      have Hst := Lib.hid ((all_drop (fun x => decide (x.s.size ≤ 1000)) xs k x hx).symm.trans hinv.out)
      clear hinv hx
      by_cases hz : x.s.size ≤ 1000
      · have hz2 : decide (1000 < (x.s.size : Int)) = false := decide_eq_false (by omega)
        have Hst' : Hid ((xs.drop (k + 1)).all (fun x => decide (x.s.size ≤ 1000)) = xs.all (fun x => decide (x.s.size ≤ 1000))) := by
          have := Hst.out
          rw [show decide (x.s.size ≤ 1000) = true from decide_eq_true hz, Bool.true_and] at this
          exact this
        clear Hst
        go_wp2
        go_round
        case rel => exact ⟨k + 1, by omega, by go_num, Hst'.out⟩
        case measure => simp [intOf]; omega
      · have hz2 : decide (1000 < (x.s.size : Int)) = true := decide_eq_true (by omega)
        have Hst' : Hid (false = shortB xs) := by
          have := Hst.out
          rw [show decide (x.s.size ≤ 1000) = false from decide_eq_false hz, Bool.false_and] at this
          unfold shortB
          rw [← this]
          rfl
        clear Hst
        go_wp2
        go_ret
        exact ⟨congrArg (fun z => Ending.returned (Value.bool z)) Hst'.out, Below.refl _ _⟩
    · obtain rfl : k = n := by omega
      have Hst' : Hid (decide ((k : Int) ≤ 40) = shortB xs) := by
        have := hinv.out
        rw [show xs.drop k = [] from List.drop_eq_nil_of_le (by rw [Hn.out]; omega)] at this
        unfold shortB
        rw [← this, Hn.out]
        simp only [List.all_nil, Bool.true_and]
        exact decide_eq_decide.2 (by omega)
      clear hinv
      go_wp2
      go_ret
      exact ⟨congrArg (fun z => Ending.returned (Value.bool z)) Hst'.out, Below.refl _ _⟩

set_option maxHeartbeats 2000000 in
theorem rmayL_c (A : Option Addr) (n c : Nat) (xs : List Val) (w : World) (hn : xs.length = n) (hn1 : n ≤ maxLen) (hs : Sl w A xs) (hz : ∀ x ∈ xs, x.s.size ≤ maxLen) :
    Calls Tryz.prog 49 #[.slice A n c] w fun e w' => e = .returned (.bool (xs.all rmB)) ∧ Below w.heap.size w w' := by
  unfold maxLen at hn1
  have Hn := Lib.hid hn
  have Hs := Lib.hid hs
  have Hz := Lib.hid hz
  clear hn hs hz
  go_enter Tryz.func49, Tryz.ntmps49
  go_wp2_with fail
  go_loopw [3] (fun i wr => ∃ k : Nat, k ≤ n ∧ i = .int .i64 k ∧ Below w.heap.size w wr ∧ Hid ((xs.drop k).all rmB = xs.all rmB)) (fun i _ => n - (intOf i).toNat)
  case atStart => exact ⟨0, Nat.zero_le _, rfl, Below.refl _ _, rfl⟩
  case round =>
    obtain ⟨k, hk, rfl, hb, hinv⟩ := hrel
    by_cases hlt : k < n
    · obtain ⟨b, off, x, rfl, hblt, hx, c0, c1, c2⟩ := Hs.out.at (by rw [Hn.out]; exact hlt)
      have d0 := (hb.cell (p := ⟨b, off + k * 3, none⟩) hblt).trans c0
      have d1 := (hb.cell (p := ⟨b, off + k * 3 + 1, none⟩) hblt).trans c1
      have d2 := (hb.cell (p := ⟨b, off + k * 3 + 2, none⟩) hblt).trans c2
      have Hxz := Lib.hid (Hz.out x (List.mem_of_getElem? hx))
      have Hst := Lib.hid ((all_drop rmB xs k x hx).symm.trans hinv.out)
      clear hinv hx c0 c1 c2
      cases hm : rmB x
      · have Hst' : Hid (false = xs.all rmB) := by
          have := Hst.out
          rw [hm, Bool.false_and] at this
          exact this
        clear Hst
        go_wp2_with fail
        refine (rmay_c x wr Hxz.out).mono ?_
        rintro e w1 ⟨rfl, hb1⟩
        have hb2 := hb.trans (hb1.mono hb.size)
        clear hb1 hb
        go_wp2
        go_ret
        exact ⟨congrArg (fun z => Ending.returned (Value.bool z)) Hst'.out, hb2⟩
      · have Hst' : Hid ((xs.drop (k + 1)).all rmB = xs.all rmB) := by
          have := Hst.out
          rw [hm, Bool.true_and] at this
          exact this
        clear Hst
        go_wp2_with fail
        refine (rmay_c x wr Hxz.out).mono ?_
        rintro e w1 ⟨rfl, hb1⟩
        have hb2 := hb.trans (hb1.mono hb.size)
        clear hb1 hb
        go_wp2
        go_roundw
        case rel => exact ⟨k + 1, by omega, by go_num, hb2, Hst'.out⟩
        case measure => simp [intOf]; omega
    · obtain rfl : k = n := by omega
      have Hst' : Hid (true = xs.all rmB) := by
        have := hinv.out
        rw [show xs.drop k = [] from List.drop_eq_nil_of_le (by rw [Hn.out]; omega)] at this
        exact this
      clear hinv
      go_wp2
      go_ret
      exact ⟨congrArg (fun z => Ending.returned (Value.bool z)) Hst'.out, hb⟩
end Go.Proofs.YthgoflaphbigbaaGreatDoor
