/-
  How lists of values compare, as the program and as the document have it, of any two lists.
-/
import Derived.Test.YthgoflaphbigbaaGreatDoorCmpV
namespace Go.Proofs.YthgoflaphbigbaaGreatDoor
open Go Go.RowKit

/-- The order of lists of values. -/
def cmpL : List Val → List Val → Int
  | [], [] => 0
  | [], _ :: _ => -1
  | _ :: _, [] => 1
  | x :: a, y :: b => if cmpV x y != 0 then cmpV x y else cmpL a b

theorem cmpL_nil_right (a : List Val) : cmpL a [] = if a.length = 0 then 0 else 1 := by cases a <;> simp [cmpL]
theorem cmpL_nil_left (a : List Val) : cmpL [] a = if a.length = 0 then 0 else -1 := by cases a <;> simp [cmpL]
theorem cmpL_drop (a b : List Val) (k : Nat) (x y : Val) (hx : a[k]? = some x) (hy : b[k]? = some y) :
    cmpL (a.drop k) (b.drop k) = if cmpV x y != 0 then cmpV x y else cmpL (a.drop (k + 1)) (b.drop (k + 1)) := by
  have h1 := List.drop_eq_getElem_cons (List.getElem?_eq_some_iff.1 hx).1
  have h2 := List.drop_eq_getElem_cons (List.getElem?_eq_some_iff.1 hy).1
  rw [(List.getElem?_eq_some_iff.1 hx).2] at h1
  rw [(List.getElem?_eq_some_iff.1 hy).2] at h2
  rw [h1, h2, cmpL]

/-- What a slice that reads as xs reads at k. -/
theorem Sl.at {w : World} {A : Option Addr} {xs : List Val} (h : Sl w A xs) {k : Nat} (hk : k < xs.length) :
    ∃ b off x, A = some ⟨b, off, none⟩ ∧ b < w.heap.size ∧ xs[k]? = some x ∧ w.cell? ⟨b, off + k * 3, none⟩ = some (.int .i64 x.k) ∧ w.cell? ⟨b, off + k * 3 + 1, none⟩ = some (.int .i64 x.n) ∧ w.cell? ⟨b, off + k * 3 + 2, none⟩ = some (.string x.s) := by
  rcases h with rfl | ⟨b, off, hA, hlt, h⟩
  · simp at hk
  · have := h k xs[k] (List.getElem?_eq_getElem hk)
    exact ⟨b, off, xs[k], hA, hlt, List.getElem?_eq_getElem hk, this⟩

set_option maxHeartbeats 2000000 in
theorem cmpFunc_c (A B : Option Addr) (n m c d : Nat) (xs ys : List Val) (w : World) (hn : xs.length = n) (hm : ys.length = m) (hn1 : n ≤ maxLen) (hm1 : m ≤ maxLen) (hs : Sl w A xs) (ht : Sl w B ys) :
    Calls Tryz.prog 47 #[.slice A n c, .slice B m d, .func (.func 48) #[] #[]] w fun e w' => e = .returned (.int .i64 (cmpL xs ys)) ∧ Below w.heap.size w w' := by
  unfold maxLen at hn1 hm1
  have Hn := Lib.hid hn
  have Hm := Lib.hid hm
  have Hs := Lib.hid hs
  have Ht := Lib.hid ht
  clear hn hm hs ht
  go_enter Tryz.func47, Tryz.ntmps47
  go_wp2_with fail
  go_loopw [13] (fun i wr => ∃ k : Nat, k ≤ n ∧ k ≤ m ∧ i = .int .i64 k ∧ Below w.heap.size w wr ∧ Hid (cmpL (xs.drop k) (ys.drop k) = cmpL xs ys)) (fun i _ => n - (intOf i).toNat)
  case atStart => exact ⟨0, Nat.zero_le _, Nat.zero_le _, rfl, Below.refl _ _, rfl⟩
  case round =>
    obtain ⟨k, hk, hkm, rfl, hb, hinv⟩ := hrel
    by_cases hlt : k < n
    · obtain ⟨b, off, x, rfl, hblt, hx, c0, c1, c2⟩ := Hs.out.at (by rw [Hn.out]; exact hlt)
      have d0 := (hb.cell (p := ⟨b, off + k * 3, none⟩) hblt).trans c0
      have d1 := (hb.cell (p := ⟨b, off + k * 3 + 1, none⟩) hblt).trans c1
      have d2 := (hb.cell (p := ⟨b, off + k * 3 + 2, none⟩) hblt).trans c2
      have Hx := Lib.hid hx
      clear c0 c1 c2 hx
      have l1 := hb.size
      by_cases hlt2 : k < m
      · obtain ⟨b', off', y, rfl, hblt', hy, c0, c1, c2⟩ := Ht.out.at (by rw [Hm.out]; exact hlt2)
        have d3 := (hb.cell (p := ⟨b', off' + k * 3, none⟩) hblt').trans c0
        have d4 := (hb.cell (p := ⟨b', off' + k * 3 + 1, none⟩) hblt').trans c1
        have d5 := (hb.cell (p := ⟨b', off' + k * 3 + 2, none⟩) hblt').trans c2
        have Hy := Lib.hid hy
        clear c0 c1 c2 hy
        have l2 : b' < wr.heap.size := by omega
        have hstep := cmpL_drop xs ys k x y Hx.out Hy.out
        have Hst := Lib.hid (hstep.symm.trans hinv.out)
        clear hstep hinv
        cases hc : cmpV x y != 0
        · have Hst' : Hid (cmpL (xs.drop (k + 1)) (ys.drop (k + 1)) = cmpL xs ys) := by have := Hst.out; rw [hc] at this; exact this
          clear Hst
          go_wp2_with fail
          refine (compare_c x y _).mono ?_
          rintro e w1 ⟨rfl, hb1⟩
          go_wp2
          go_roundw
          case rel => exact ⟨k + 1, by omega, by omega, by go_num, (hb.alloc hb.size _).trans ((((below_one _ _).trans (hb1.mono (by simp)))).mono (by simp; omega)), Hst'.out⟩
          case measure => simp [intOf]; omega
        · have Hst' : Hid (cmpV x y = cmpL xs ys) := by have := Hst.out; rw [hc] at this; exact this
          clear Hst
          go_wp2_with fail
          refine (compare_c x y _).mono ?_
          rintro e w1 ⟨rfl, hb1⟩
          go_wp2
          go_ret
          exact ⟨congrArg (fun z => Ending.returned (Value.int .i64 z)) Hst'.out, (hb.alloc hb.size _).trans ((((below_one _ _).trans (hb1.mono (by simp)))).mono (by simp; omega))⟩
      · obtain rfl : k = m := by omega
        have Hst : Hid (1 = cmpL xs ys) := by
          have := hinv.out
          rw [show ys.drop k = [] from List.drop_eq_nil_of_le (by rw [Hm.out]; omega), cmpL_nil_right, if_neg (by rw [List.length_drop, Hn.out]; omega)] at this
          exact this
        clear hinv
        go_wp2
        go_ret
        exact ⟨congrArg (fun z => Ending.returned (Value.int .i64 z)) Hst.out, hb.alloc hb.size _⟩
    · obtain rfl : k = n := by omega
      by_cases hlt2 : k < m
      · have Hst : Hid (-1 = cmpL xs ys) := by
          have := hinv.out
          rw [show xs.drop k = [] from List.drop_eq_nil_of_le (by rw [Hn.out]; omega), cmpL_nil_left, if_neg (by rw [List.length_drop, Hm.out]; omega)] at this
          exact this
        clear hinv
        go_wp2
        go_ret
        exact ⟨congrArg (fun z => Ending.returned (Value.int .i64 z)) Hst.out, hb⟩
      · have Hst : Hid (0 = cmpL xs ys) := by
          have := hinv.out
          rw [show xs.drop k = [] from List.drop_eq_nil_of_le (by rw [Hn.out]; omega), cmpL_nil_left, if_pos (by rw [List.length_drop, Hm.out]; omega)] at this
          exact this
        clear hinv
        go_wp2
        go_ret
        exact ⟨congrArg (fun z => Ending.returned (Value.int .i64 z)) Hst.out, hb⟩
set_option maxHeartbeats 400000 in
theorem compareL_c (A B : Option Addr) (n m c d : Nat) (xs ys : List Val) (w : World) (hn : xs.length = n) (hm : ys.length = m) (hn1 : n ≤ maxLen) (hm1 : m ≤ maxLen) (hs : Sl w A xs) (ht : Sl w B ys) :
    Calls Tryz.prog 27 #[.slice A n c, .slice B m d] w fun e w' => e = .returned (.int .i64 (cmpL xs ys)) ∧ Below w.heap.size w w' := by
  have Hn := Lib.hid hn
  have Hm := Lib.hid hm
  have Hs := Lib.hid hs
  have Ht := Lib.hid ht
  clear hn hm hs ht
  go_enter Tryz.func27, Tryz.ntmps27
  go_wp2_with fail
  refine (cmpFunc_c A B n m c d xs ys w Hn.out Hm.out hn1 hm1 Hs.out Ht.out).mono ?_
  rintro e w1 ⟨rfl, hb1⟩
  go_wp2
  go_ret
  exact ⟨rfl, hb1⟩
end Go.Proofs.YthgoflaphbigbaaGreatDoor
