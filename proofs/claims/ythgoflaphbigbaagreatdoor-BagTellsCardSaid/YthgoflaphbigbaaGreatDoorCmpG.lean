/-
  Worlds that only grow: draws, and new blocks behind; key.Compare, and what it calls, leaves such a one. Of any two lists; no condition.
-/
import Derived.Test.YthgoflaphbigbaaGreatDoorCmpL
import Derived.Sort.Grow
namespace Go.Proofs.YthgoflaphbigbaaGreatDoor
open Go Go.RowKit

/-- The world w' is w, some draws on, with some blocks behind. -/
def Gr (w w' : World) : Prop := ∃ q os, w' = Sort.grow (w.drewN q) os
theorem Gr.refl (w : World) : Gr w w := ⟨0, #[], by simp [Sort.grow, World.drewN]⟩
theorem Gr.trans {a b c : World} (h : Gr a b) (k : Gr b c) : Gr a c := by
  obtain ⟨q, os, rfl⟩ := h
  obtain ⟨q', os', rfl⟩ := k
  exact ⟨q + q', os ++ os', by simp [Sort.grow, World.drewN, Array.append_assoc, Nat.add_assoc]⟩
theorem gr_one (w : World) (o : Obj) : Gr w (w.alloc o) := ⟨0, #[o], by
  unfold World.alloc Sort.grow World.drewN
  simp⟩
theorem Gr.alloc {a b : World} (h : Gr a b) (o : Obj) : Gr a (b.alloc o) := h.trans (gr_one b o)
theorem gr_two (w : World) (o o' : Obj) : Gr w ((w.alloc o).alloc o') := (gr_one w o).alloc o'
theorem gr_drew (w : World) : Gr w w.drew := ⟨1, #[], by rw [Sort.grow_empty]; rfl⟩
theorem Gr.drew {a b : World} (h : Gr a b) : Gr a b.drew := h.trans (gr_drew b)
theorem Gr.below {w w' : World} (h : Gr w w') : Below w.heap.size w w' := by
  obtain ⟨q, os, rfl⟩ := h
  exact ⟨rfl, rfl, rfl, by show w.heap.size ≤ (w.heap ++ os).size; simp, fun i hi => by
    show (w.heap ++ os)[i]? = w.heap[i]?
    rw [Array.getElem?_append_left hi]⟩

set_option maxHeartbeats 400000 in
theorem compare_g (x y : Val) (w : World) : Calls Tryz.prog 48 #[x.v, y.v] w fun e w' => e = .returned (.int .i64 (cmpV x y)) ∧ Gr w w' := by
  cases h1 : x.k != y.k
  · cases h2 : x.n != y.n
    · have e : cmpV x y = Lib.compareBytes x.s.data.toList y.s.data.toList := by simp [cmpV, h1, h2]
      rw [e]
      clear e
      go_enter Tryz.func48, Tryz.ntmps48
      go_wp2_with fail
      refine (Tryz.strings_Compare _ _ _).mono ?_
      rintro e w1 ⟨rfl, rfl⟩
      go_wp2
      go_ret
      exact ⟨rfl, gr_two _ _ _⟩
    · have e : cmpV x y = Lib.compareInt x.n y.n := by simp [cmpV, h1, h2]
      rw [e]
      clear e
      go_enter Tryz.func48, Tryz.ntmps48
      go_wp2_with fail
      refine (Tryz.cmp_Compare_int _ _ _).mono ?_
      rintro e w1 ⟨rfl, rfl⟩
      go_wp2
      go_ret
      exact ⟨rfl, gr_two _ _ _⟩
  · have e : cmpV x y = Lib.compareInt x.k y.k := by simp [cmpV, h1]
    rw [e]
    clear e
    go_enter Tryz.func48, Tryz.ntmps48
    go_wp2_with fail
    refine (Tryz.cmp_Compare_int _ _ _).mono ?_
    rintro e w1 ⟨rfl, rfl⟩
    go_wp2
    go_ret
    exact ⟨rfl, gr_two _ _ _⟩


set_option maxHeartbeats 2000000 in
theorem cmpFunc_g (A B : Option Addr) (n m c d : Nat) (xs ys : List Val) (w : World) (hn : xs.length = n) (hm : ys.length = m) (hn1 : n ≤ maxLen) (hm1 : m ≤ maxLen) (hs : Sl w A xs) (ht : Sl w B ys) :
    Calls Tryz.prog 47 #[.slice A n c, .slice B m d, .func (.func 48) #[] #[]] w fun e w' => e = .returned (.int .i64 (cmpL xs ys)) ∧ Gr w w' := by
  unfold maxLen at hn1 hm1
  have Hn := Lib.hid hn
  have Hm := Lib.hid hm
  have Hs := Lib.hid hs
  have Ht := Lib.hid ht
  clear hn hm hs ht
  go_enter Tryz.func47, Tryz.ntmps47
  go_wp2_with fail
  go_loopw [13] (fun i wr => ∃ k : Nat, k ≤ n ∧ k ≤ m ∧ i = .int .i64 k ∧ Gr w wr ∧ Hid (cmpL (xs.drop k) (ys.drop k) = cmpL xs ys)) (fun i _ => n - (intOf i).toNat)
  case atStart => exact ⟨0, Nat.zero_le _, Nat.zero_le _, rfl, Gr.refl _, rfl⟩
  case round =>
    obtain ⟨k, hk, hkm, rfl, hb, hinv⟩ := hrel
    by_cases hlt : k < n
    · obtain ⟨b, off, x, rfl, hblt, hx, c0, c1, c2⟩ := Hs.out.at (by rw [Hn.out]; exact hlt)
      have d0 := (hb.below.cell (p := ⟨b, off + k * 3, none⟩) hblt).trans c0
      have d1 := (hb.below.cell (p := ⟨b, off + k * 3 + 1, none⟩) hblt).trans c1
      have d2 := (hb.below.cell (p := ⟨b, off + k * 3 + 2, none⟩) hblt).trans c2
      have Hx := Lib.hid hx
      clear c0 c1 c2 hx
      have l1 := hb.below.size
      by_cases hlt2 : k < m
      · obtain ⟨b', off', y, rfl, hblt', hy, c0, c1, c2⟩ := Ht.out.at (by rw [Hm.out]; exact hlt2)
        have d3 := (hb.below.cell (p := ⟨b', off' + k * 3, none⟩) hblt').trans c0
        have d4 := (hb.below.cell (p := ⟨b', off' + k * 3 + 1, none⟩) hblt').trans c1
        have d5 := (hb.below.cell (p := ⟨b', off' + k * 3 + 2, none⟩) hblt').trans c2
        have Hy := Lib.hid hy
        clear c0 c1 c2 hy
        have l2 : b' < wr.heap.size := by omega
        have hstep := cmpL_drop xs ys k x y Hx.out Hy.out
        have Hst := Lib.hid (hstep.symm.trans hinv.out)
        clear hstep hinv
        cases hc : cmpV x y != 0
        · have Hst' : Hid (cmpL (xs.drop (k + 1)) (ys.drop (k + 1)) = cmpL xs ys) := by have := Hst.out; rw [hc] at this; exact this
          clear Hst
          go_wp2_with fail
          refine (compare_g x y _).mono ?_
          rintro e w1 ⟨rfl, hb1⟩
          go_wp2
          go_roundw
          case rel => exact ⟨k + 1, by omega, by omega, by go_num, (hb.alloc _).trans ((gr_one _ _).trans hb1), Hst'.out⟩
          case measure => simp [intOf]; omega
        · have Hst' : Hid (cmpV x y = cmpL xs ys) := by have := Hst.out; rw [hc] at this; exact this
          clear Hst
          go_wp2_with fail
          refine (compare_g x y _).mono ?_
          rintro e w1 ⟨rfl, hb1⟩
          go_wp2
          go_ret
          exact ⟨congrArg (fun z => Ending.returned (Value.int .i64 z)) Hst'.out, (hb.alloc _).trans ((gr_one _ _).trans hb1)⟩
      · obtain rfl : k = m := by omega
        have Hst : Hid (1 = cmpL xs ys) := by
          have := hinv.out
          rw [show ys.drop k = [] from List.drop_eq_nil_of_le (by rw [Hm.out]; omega), cmpL_nil_right, if_neg (by rw [List.length_drop, Hn.out]; omega)] at this
          exact this
        clear hinv
        go_wp2
        go_ret
        exact ⟨congrArg (fun z => Ending.returned (Value.int .i64 z)) Hst.out, hb.alloc _⟩
    · obtain rfl : k = n := by omega
      by_cases hlt2 : k < m
      · have Hst : Hid (-1 = cmpL xs ys) := by
          have := hinv.out
          rw [show xs.drop k = [] from List.drop_eq_nil_of_le (by rw [Hn.out]; omega), cmpL_nil_left, if_neg (by rw [List.length_drop, Hm.out]; omega)] at this
          exact this
        clear hinv
        go_wp2
        go_ret
        exact ⟨congrArg (fun z => Ending.returned (Value.int .i64 z)) Hst.out, hb⟩
      · have Hst : Hid (0 = cmpL xs ys) := by
          have := hinv.out
          rw [show xs.drop k = [] from List.drop_eq_nil_of_le (by rw [Hn.out]; omega), cmpL_nil_left, if_pos (by rw [List.length_drop, Hm.out]; omega)] at this
          exact this
        clear hinv
        go_wp2
        go_ret
        exact ⟨congrArg (fun z => Ending.returned (Value.int .i64 z)) Hst.out, hb⟩
set_option maxHeartbeats 400000 in
theorem compareL_g (A B : Option Addr) (n m c d : Nat) (xs ys : List Val) (w : World) (hn : xs.length = n) (hm : ys.length = m) (hn1 : n ≤ maxLen) (hm1 : m ≤ maxLen) (hs : Sl w A xs) (ht : Sl w B ys) :
    Calls Tryz.prog 27 #[.slice A n c, .slice B m d] w fun e w' => e = .returned (.int .i64 (cmpL xs ys)) ∧ Gr w w' := by
  have Hn := Lib.hid hn
  have Hm := Lib.hid hm
  have Hs := Lib.hid hs
  have Ht := Lib.hid ht
  clear hn hm hs ht
  go_enter Tryz.func27, Tryz.ntmps27
  go_wp2_with fail
  refine (cmpFunc_g A B n m c d xs ys w Hn.out Hm.out hn1 hm1 Hs.out Ht.out).mono ?_
  rintro e w1 ⟨rfl, hb1⟩
  go_wp2
  go_ret
  exact ⟨rfl, hb1⟩
end Go.Proofs.YthgoflaphbigbaaGreatDoor
