/-
  Part 3 of 6 of what the proof leans on: each part below says what it proves, and of what; no condition besides.
-/
import Derived.Test.YtldaoepemofhlaaGreatDoorR01
import Derived.Test.YtldaoepemofhlaaGreatDoorR02
import Derived.Sort.Grow
import Derived.KernelRfl
import Derived.Deep.RegionHeld3
import Derived.MapKept
import Derived.Maps.OwnOps
set_option linter.unusedVariables false
set_option linter.unusedSimpArgs false
namespace Go.Proofs.YtldaoepemofhlaaGreatDoor
open Go Go.RowKit
set_option maxRecDepth 100000
theorem all_dropG {α : Type} (p : α → Bool) (xs : List α) (k : Nat) (x : α) (hx : xs[k]? = some x) : (xs.drop k).all p = (p x && (xs.drop (k + 1)).all p) := by
 have h1 := List.drop_eq_getElem_cons (List.getElem?_eq_some_iff.1 hx).1
 rw [(List.getElem?_eq_some_iff.1 hx).2] at h1
 rw [h1, List.all_cons]
def smallB (b : Bg) : Bool := b.all (fun x => shortB x.1) && decide (b.length ≤ 60)
set_option maxHeartbeats 2000000 in
theorem smallB_c (A : Option Addr) (n c : Nat) (cs : List Ct) (w : World) (hB : BgIn w A n cs) :
 Calls Tryz.prog 8 #[.slice A n c] w fun e w' => e = .returned (.bool (smallB (pl cs))) ∧ Below w.heap.size w w' := by
 obtain ⟨R, hR⟩ : ∃ R, smallB (pl cs) = R := ⟨_, rfl⟩
 rw [hR]
 have HR := Lib.hid hR
 have HB := Lib.hid hB
 have hmx : n ≤ 9223372036854775807 := hB.max
 clear hB hR
 go_enter Tryz.func8, Tryz.ntmps8
 go_wp2_with fail
 go_loopw [3] (fun i wr => ∃ k : Nat, k ≤ n ∧ i = .int .i64 k ∧ Hid (Below w.heap.size w wr) ∧ Hid (((pl cs).drop k).all (fun x => shortB x.1) = (pl cs).all (fun x => shortB x.1))) (fun i _ => n - (intOf i).toNat)
 case atStart => exact ⟨0, Nat.zero_le _, rfl, Below.refl _ _, rfl⟩
 case round =>
  obtain ⟨k, hk, rfl, hb, hinv⟩ := hrel
  by_cases hlt : k < n
  · obtain ⟨b, off, x, rfl, hblt, hx, c0, c1⟩ := HB.out.sl.at2 (k := k) (by rw [HB.out.len]; exact hlt)
    have d0 := (hb.out.cell (p := ⟨b, off + k * 2, none⟩) hblt).trans c0
    have l1 : b < wr.heap.size := Nat.lt_of_lt_of_le hblt hb.out.size
    have Hx := Lib.hid ((HB.out.each x (List.mem_of_getElem? hx)).after hb.out)
    have Hst := Lib.hid ((all_dropG (fun x => shortB x.1) _ k _ (pl_at hx)).symm.trans hinv.out)
    clear hx c0 c1 hblt hinv
    go_wp2_with fail
    refine (short_c x.h.A x.h.n x.h.c x.h.xs wr Hx.out.hd.len Hx.out.hd.max Hx.out.hd.sl Hx.out.sz).mono ?_
    rintro e w1 ⟨rfl, hb1⟩
    have Hb1 := Lib.hid (hb.out.trans (hb1.mono hb.out.size))
    clear hb1 hb Hx d0
    cases hc : shortB x.h.xs
    · have Hst' : Hid (false = R) := by
       have := Hst.out
       simp only [hc, Bool.false_and] at this
       have h2 := HR.out
       unfold smallB at h2
       rw [← this, Bool.false_and] at h2
       exact h2
      clear Hst HR
      go_wp2
      go_ret
      exact ⟨congrArg (fun z => Ending.returned (Value.bool z)) Hst'.out, Hb1.out⟩
    · have Hst' : Hid (((pl cs).drop (k + 1)).all (fun x => shortB x.1) = (pl cs).all (fun x => shortB x.1)) := by
       have := Hst.out
       simp only [hc, Bool.true_and] at this
       exact this
      clear Hst HR
      go_wp2
      go_roundw
      case rel => exact ⟨k + 1, by omega, by go_num, Hb1, Hst'⟩
      case measure => simp [intOf]; omega
  · obtain rfl : k = n := by omega
    have Hst' : Hid (decide ((k : Int) ≤ 60) = R) := by
     have := hinv.out
     rw [List.drop_eq_nil_of_le (by rw [pl_len, HB.out.len]; omega)] at this
     have h2 := HR.out
     unfold smallB at h2
     rw [← this, pl_len, HB.out.len] at h2
     rw [← h2]
     simp only [List.all_nil, Bool.true_and]
     exact decide_eq_decide.2 (by omega)
    clear hinv HR
    go_wp2
    go_ret
    exact ⟨congrArg (fun z => Ending.returned (Value.bool z)) Hst'.out, hb.out⟩
def sameB : Bg → Bg → Bool
 | [], [] => true
 | x :: a, y :: b => x.2 == y.2 && (cmpL x.1 y.1 == 0 && sameB a b)
 | _, _ => false
theorem sameB_len : ∀ (a b : Bg), a.length ≠ b.length → sameB a b = false
 | [], [], h => absurd rfl h
 | [], _ :: _, _ => rfl
 | _ :: _, [], _ => rfl
 | x :: a, y :: b, h => by rw [sameB, sameB_len a b (by simpa using h)]; simp
theorem sameB_drop (a b : Bg) (k : Nat) (x y : List Val × Int) (hx : a[k]? = some x) (hy : b[k]? = some y) : sameB (a.drop k) (b.drop k) = (x.2 == y.2 && (cmpL x.1 y.1 == 0 && sameB (a.drop (k + 1)) (b.drop (k + 1)))) := by
 have h1 := List.drop_eq_getElem_cons (List.getElem?_eq_some_iff.1 hx).1
 rw [(List.getElem?_eq_some_iff.1 hx).2] at h1
 have h2 := List.drop_eq_getElem_cons (List.getElem?_eq_some_iff.1 hy).1
 rw [(List.getElem?_eq_some_iff.1 hy).2] at h2
 rw [h1, h2, sameB]
set_option maxHeartbeats 4000000 in
theorem sameB_c (A B : Option Addr) (n m c d : Nat) (cs ds : List Ct) (w : World) (hA : BgIn w A n cs) (hB : BgIn w B m ds) :
 Calls Tryz.prog 14 #[.slice A n c, .slice B m d] w fun e w' => e = .returned (.bool (sameB (pl cs) (pl ds))) ∧ Below w.heap.size w w' := by
 obtain ⟨R, hR⟩ : ∃ R, sameB (pl cs) (pl ds) = R := ⟨_, rfl⟩
 rw [hR]
 have HR := Lib.hid hR
 have HA := Lib.hid hA
 have HB := Lib.hid hB
 have hmx : n ≤ 9223372036854775807 := hA.max
 have hmy : m ≤ 9223372036854775807 := hB.max
 clear hA hB hR
 by_cases hnm : n = m
 case neg =>
  have HRf : Hid (false = R) := by
   have := HR.out
   rw [sameB_len _ _ (by rw [pl_len, pl_len, HA.out.len, HB.out.len]; exact hnm)] at this
   exact Lib.hid this
  have hne : ((n : Int) != (m : Int)) = true := by simpa using (by omega : ¬ (n : Int) = m)
  clear HR
  go_enter Tryz.func14, Tryz.ntmps14
  go_wp2
  go_ret
  exact ⟨congrArg (fun z => Ending.returned (Value.bool z)) HRf.out, Below.refl _ _⟩
 subst hnm
 go_enter Tryz.func14, Tryz.ntmps14
 go_wp2_with fail
 go_loopw [5] (fun i wr => ∃ k : Nat, k ≤ n ∧ i = .int .i64 k ∧ Hid (Below w.heap.size w wr) ∧ Hid (sameB ((pl cs).drop k) ((pl ds).drop k) = R)) (fun i _ => n - (intOf i).toNat)
 case atStart => exact ⟨0, Nat.zero_le _, rfl, Lib.hid (Below.refl _ _), HR⟩
 case round =>
  obtain ⟨k, hk, rfl, hb, hinv⟩ := hrel
  clear HR
  by_cases hlt : k < n
  · obtain ⟨b, off, x, rfl, hblt, hx, c0, c1⟩ := HA.out.sl.at2 (k := k) (by rw [HA.out.len]; exact hlt)
    obtain ⟨b', off', y, rfl, hblt', hy, c0', c1'⟩ := HB.out.sl.at2 (k := k) (by rw [HB.out.len]; exact hlt)
    have d0 := Lib.hid ((hb.out.cell (p := ⟨b, off + k * 2, none⟩) hblt).trans c0)
    have d1 := Lib.hid ((hb.out.cell (p := ⟨b, off + k * 2 + 1, none⟩) hblt).trans c1)
    have e0 := Lib.hid ((hb.out.cell (p := ⟨b', off' + k * 2, none⟩) hblt').trans c0')
    have e1 := Lib.hid ((hb.out.cell (p := ⟨b', off' + k * 2 + 1, none⟩) hblt').trans c1')
    have l1 : b < wr.heap.size := Nat.lt_of_lt_of_le hblt hb.out.size
    have l2 : b' < wr.heap.size := Nat.lt_of_lt_of_le hblt' hb.out.size
    have Hx := Lib.hid ((HA.out.each x (List.mem_of_getElem? hx)).after hb.out)
    have Hy := Lib.hid ((HB.out.each y (List.mem_of_getElem? hy)).after hb.out)
    have Hst := Lib.hid ((sameB_drop _ _ k _ _ (pl_at hx) (pl_at hy)).symm.trans hinv.out)
    clear hinv hx hy c0 c1 c0' c1' hblt hblt'
    obtain ⟨⟨xA, xn, xc, xs⟩, N⟩ := x
    obtain ⟨⟨yA, yn, yc, ys⟩, M⟩ := y
    have hlt' : (k : Int) < n := by omega
    go_wp2_with fail
    cases hNM : N != M
    · have hE : (N == M) = true := by simpa using hNM
      cases hC : cmpL xs ys != 0
      · have hC2 : (cmpL xs ys == 0) = true := by simpa using hC
        have Hst2 : Hid (sameB ((pl cs).drop (k + 1)) ((pl ds).drop (k + 1)) = R) := by
         have := Hst.out
         simp only [hE, hC2, Bool.true_and] at this
         exact Lib.hid this
        clear Hst
        clear hE hC2
        refine Reg.wp_region_vals mixed (by kernel_rfl) [(17, .slice (some ⟨b, off, none⟩) n c), (18, .int .i64 (k : Nat)), (19, .pointer (some ⟨b, off + k * 2, none⟩)), (20, .pointer (some ⟨b, off + k * 2 + 1, none⟩)), (21, .int .i64 N), (22, .slice (some ⟨b', off', none⟩) n d), (23, .int .i64 (k : Nat)), (24, .pointer (some ⟨b', off' + k * 2, none⟩)), (25, .pointer (some ⟨b', off' + k * 2 + 1, none⟩)), (26, .int .i64 M), (27, .bool false), (28, .bool false), (29, .slice (some ⟨b, off, none⟩) n c), (30, .int .i64 (k : Nat)), (31, .pointer (some ⟨b, off + k * 2, none⟩)), (32, .pointer (some ⟨b, off + k * 2, none⟩)), (33, .slice xA xn xc), (34, .slice (some ⟨b', off', none⟩) n d), (35, .int .i64 (k : Nat)), (36, .pointer (some ⟨b', off' + k * 2, none⟩)), (37, .pointer (some ⟨b', off' + k * 2, none⟩)), (38, .slice yA yn yc), (39, .int .i64 (cmpL xs ys)), (40, .bool false), (41, .bool false)] 42 rfl (by kernel_rfl) ?_ ?_
        · intro F hF w' hB
          have j0 := (hB.cell (p := ⟨b, off + k * 2, none⟩) l1).trans d0.out
          have j1 := (hB.cell (p := ⟨b, off + k * 2 + 1, none⟩) l1).trans d1.out
          have q0 := (hB.cell (p := ⟨b', off' + k * 2, none⟩) l2).trans e0.out
          have q1 := (hB.cell (p := ⟨b', off' + k * 2 + 1, none⟩) l2).trans e1.out
          have ix := Hx.out.after hB
          have iy := Hy.out.after hB
          refine ⟨?_, ?_, ?_, ?_, ?_, ?_, ?_, ?_, ?_, ?_, ?_, ?_, ?_, ?_, ?_, ?_, ?_, ?_, ?_, ?_, ?_, ?_, ?_, ?_, ?_, trivial⟩
          · exact Reg.doesV_val (ev_move rfl) (by rw [hF]; kernel_rfl) (by rw [hF]; kernel_rfl)
          · exact Reg.doesV_val (ev_move rfl) (by rw [hF]; kernel_rfl) (by rw [hF]; kernel_rfl)
          · exact Reg.doesV_val (ev_idxC (b := b) (off := off) (n := n) (c := c) (k := k) hlt rfl (by rw [hF]; kernel_rfl) (by rw [hF]; kernel_rfl)) (by rw [hF]; kernel_rfl) (by rw [hF]; kernel_rfl)
          · exact Reg.doesV_val (ev_c1 (b := b) (off := off + k * 2) rfl (by rw [hF]; kernel_rfl)) (by rw [hF]; kernel_rfl) (by rw [hF]; kernel_rfl)
          · exact Reg.doesV_val (ev_ldI (k := N) j1 rfl (by rw [hF]; kernel_rfl)) (by rw [hF]; kernel_rfl) (by rw [hF]; kernel_rfl)
          · exact Reg.doesV_val (ev_move rfl) (by rw [hF]; kernel_rfl) (by rw [hF]; kernel_rfl)
          · exact Reg.doesV_val (ev_move rfl) (by rw [hF]; kernel_rfl) (by rw [hF]; kernel_rfl)
          · exact Reg.doesV_val (ev_idxC (b := b') (off := off') (n := n) (c := d) (k := k) hlt rfl (by rw [hF]; kernel_rfl) (by rw [hF]; kernel_rfl)) (by rw [hF]; kernel_rfl) (by rw [hF]; kernel_rfl)
          · exact Reg.doesV_val (ev_c1 (b := b') (off := off' + k * 2) rfl (by rw [hF]; kernel_rfl)) (by rw [hF]; kernel_rfl) (by rw [hF]; kernel_rfl)
          · exact Reg.doesV_val (ev_ldI (k := M) q1 rfl (by rw [hF]; kernel_rfl)) (by rw [hF]; kernel_rfl) (by rw [hF]; kernel_rfl)
          · exact Reg.doesV_val (by rw [ev_neT5 N M rfl (by rw [hF]; kernel_rfl) (by rw [hF]; kernel_rfl), hNM]) (by rw [hF]; kernel_rfl) (by rw [hF]; kernel_rfl)
          · exact Reg.doesV_val (ev_move rfl) (by rw [hF]; kernel_rfl) (by rw [hF]; kernel_rfl)
          · exact Reg.doesV_val (ev_move rfl) (by rw [hF]; kernel_rfl) (by rw [hF]; kernel_rfl)
          · exact Reg.doesV_val (ev_move rfl) (by rw [hF]; kernel_rfl) (by rw [hF]; kernel_rfl)
          · exact Reg.doesV_val (ev_idxC (b := b) (off := off) (n := n) (c := c) (k := k) hlt rfl (by rw [hF]; kernel_rfl) (by rw [hF]; kernel_rfl)) (by rw [hF]; kernel_rfl) (by rw [hF]; kernel_rfl)
          · exact Reg.doesV_val (ev_c0 (b := b) (off := off + k * 2) rfl (by rw [hF]; kernel_rfl)) (by rw [hF]; kernel_rfl) (by rw [hF]; kernel_rfl)
          · exact Reg.doesV_val (ev_ldR (A := xA) (n := xn) (c := xc) j0 rfl (by rw [hF]; kernel_rfl)) (by rw [hF]; kernel_rfl) (by rw [hF]; kernel_rfl)
          · exact Reg.doesV_val (ev_move rfl) (by rw [hF]; kernel_rfl) (by rw [hF]; kernel_rfl)
          · exact Reg.doesV_val (ev_move rfl) (by rw [hF]; kernel_rfl) (by rw [hF]; kernel_rfl)
          · exact Reg.doesV_val (ev_idxC (b := b') (off := off') (n := n) (c := d) (k := k) hlt rfl (by rw [hF]; kernel_rfl) (by rw [hF]; kernel_rfl)) (by rw [hF]; kernel_rfl) (by rw [hF]; kernel_rfl)
          · exact Reg.doesV_val (ev_c0 (b := b') (off := off' + k * 2) rfl (by rw [hF]; kernel_rfl)) (by rw [hF]; kernel_rfl) (by rw [hF]; kernel_rfl)
          · exact Reg.doesV_val (ev_ldR (A := yA) (n := yn) (c := yc) q0 rfl (by rw [hF]; kernel_rfl)) (by rw [hF]; kernel_rfl) (by rw [hF]; kernel_rfl)
          · exact Reg.doesV_call (rcompareL_c xA yA xn yn xc yc xs ys w' ix.hd.len iy.hd.len ix.hd.max iy.hd.max ix.hd.sl iy.hd.sl) (ev_call enRCompareL rfl (by rw [hF]; kernel_rfl)) (by rw [hF]; kernel_rfl) (by rw [hF]; kernel_rfl)
          · exact Reg.doesV_val (by rw [ev_neIC (cmpL xs ys) 0 rfl (by rw [hF]; kernel_rfl), hC]) (by rw [hF]; kernel_rfl) (by rw [hF]; kernel_rfl)
          · exact Reg.doesV_val (ev_pick false rfl (by rw [hF]; kernel_rfl)) (by rw [hF]; kernel_rfl) (by rw [hF]; kernel_rfl)
        · intro w8 hB
          simp only [Reg.putAll, Act.put, List.setIfInBounds_toArray, List.set_cons_zero, List.set_cons_succ]
          have Hb2 := Lib.hid (hb.out.trans (hB.mono hb.out.size))
          clear hB
          go_wp2
          go_roundw
          case rel => exact ⟨k + 1, by omega, by go_num, Hb2, Hst2⟩
          case measure => simp [intOf]; omega
      · have hC2 : (cmpL xs ys == 0) = false := by simpa using hC
        have Hst2 : Hid (false = R) := by
         have := Hst.out
         simp only [hE, hC2, Bool.true_and, Bool.false_and] at this
         exact Lib.hid this
        clear Hst
        clear hE hC2
        refine Reg.wp_region_vals mixed (by kernel_rfl) [(17, .slice (some ⟨b, off, none⟩) n c), (18, .int .i64 (k : Nat)), (19, .pointer (some ⟨b, off + k * 2, none⟩)), (20, .pointer (some ⟨b, off + k * 2 + 1, none⟩)), (21, .int .i64 N), (22, .slice (some ⟨b', off', none⟩) n d), (23, .int .i64 (k : Nat)), (24, .pointer (some ⟨b', off' + k * 2, none⟩)), (25, .pointer (some ⟨b', off' + k * 2 + 1, none⟩)), (26, .int .i64 M), (27, .bool false), (28, .bool false), (29, .slice (some ⟨b, off, none⟩) n c), (30, .int .i64 (k : Nat)), (31, .pointer (some ⟨b, off + k * 2, none⟩)), (32, .pointer (some ⟨b, off + k * 2, none⟩)), (33, .slice xA xn xc), (34, .slice (some ⟨b', off', none⟩) n d), (35, .int .i64 (k : Nat)), (36, .pointer (some ⟨b', off' + k * 2, none⟩)), (37, .pointer (some ⟨b', off' + k * 2, none⟩)), (38, .slice yA yn yc), (39, .int .i64 (cmpL xs ys)), (40, .bool true), (41, .bool true)] 42 rfl (by kernel_rfl) ?_ ?_
        · intro F hF w' hB
          have j0 := (hB.cell (p := ⟨b, off + k * 2, none⟩) l1).trans d0.out
          have j1 := (hB.cell (p := ⟨b, off + k * 2 + 1, none⟩) l1).trans d1.out
          have q0 := (hB.cell (p := ⟨b', off' + k * 2, none⟩) l2).trans e0.out
          have q1 := (hB.cell (p := ⟨b', off' + k * 2 + 1, none⟩) l2).trans e1.out
          have ix := Hx.out.after hB
          have iy := Hy.out.after hB
          refine ⟨?_, ?_, ?_, ?_, ?_, ?_, ?_, ?_, ?_, ?_, ?_, ?_, ?_, ?_, ?_, ?_, ?_, ?_, ?_, ?_, ?_, ?_, ?_, ?_, ?_, trivial⟩
          · exact Reg.doesV_val (ev_move rfl) (by rw [hF]; kernel_rfl) (by rw [hF]; kernel_rfl)
          · exact Reg.doesV_val (ev_move rfl) (by rw [hF]; kernel_rfl) (by rw [hF]; kernel_rfl)
          · exact Reg.doesV_val (ev_idxC (b := b) (off := off) (n := n) (c := c) (k := k) hlt rfl (by rw [hF]; kernel_rfl) (by rw [hF]; kernel_rfl)) (by rw [hF]; kernel_rfl) (by rw [hF]; kernel_rfl)
          · exact Reg.doesV_val (ev_c1 (b := b) (off := off + k * 2) rfl (by rw [hF]; kernel_rfl)) (by rw [hF]; kernel_rfl) (by rw [hF]; kernel_rfl)
          · exact Reg.doesV_val (ev_ldI (k := N) j1 rfl (by rw [hF]; kernel_rfl)) (by rw [hF]; kernel_rfl) (by rw [hF]; kernel_rfl)
          · exact Reg.doesV_val (ev_move rfl) (by rw [hF]; kernel_rfl) (by rw [hF]; kernel_rfl)
          · exact Reg.doesV_val (ev_move rfl) (by rw [hF]; kernel_rfl) (by rw [hF]; kernel_rfl)
          · exact Reg.doesV_val (ev_idxC (b := b') (off := off') (n := n) (c := d) (k := k) hlt rfl (by rw [hF]; kernel_rfl) (by rw [hF]; kernel_rfl)) (by rw [hF]; kernel_rfl) (by rw [hF]; kernel_rfl)
          · exact Reg.doesV_val (ev_c1 (b := b') (off := off' + k * 2) rfl (by rw [hF]; kernel_rfl)) (by rw [hF]; kernel_rfl) (by rw [hF]; kernel_rfl)
          · exact Reg.doesV_val (ev_ldI (k := M) q1 rfl (by rw [hF]; kernel_rfl)) (by rw [hF]; kernel_rfl) (by rw [hF]; kernel_rfl)
          · exact Reg.doesV_val (by rw [ev_neT5 N M rfl (by rw [hF]; kernel_rfl) (by rw [hF]; kernel_rfl), hNM]) (by rw [hF]; kernel_rfl) (by rw [hF]; kernel_rfl)
          · exact Reg.doesV_val (ev_move rfl) (by rw [hF]; kernel_rfl) (by rw [hF]; kernel_rfl)
          · exact Reg.doesV_val (ev_move rfl) (by rw [hF]; kernel_rfl) (by rw [hF]; kernel_rfl)
          · exact Reg.doesV_val (ev_move rfl) (by rw [hF]; kernel_rfl) (by rw [hF]; kernel_rfl)
          · exact Reg.doesV_val (ev_idxC (b := b) (off := off) (n := n) (c := c) (k := k) hlt rfl (by rw [hF]; kernel_rfl) (by rw [hF]; kernel_rfl)) (by rw [hF]; kernel_rfl) (by rw [hF]; kernel_rfl)
          · exact Reg.doesV_val (ev_c0 (b := b) (off := off + k * 2) rfl (by rw [hF]; kernel_rfl)) (by rw [hF]; kernel_rfl) (by rw [hF]; kernel_rfl)
          · exact Reg.doesV_val (ev_ldR (A := xA) (n := xn) (c := xc) j0 rfl (by rw [hF]; kernel_rfl)) (by rw [hF]; kernel_rfl) (by rw [hF]; kernel_rfl)
          · exact Reg.doesV_val (ev_move rfl) (by rw [hF]; kernel_rfl) (by rw [hF]; kernel_rfl)
          · exact Reg.doesV_val (ev_move rfl) (by rw [hF]; kernel_rfl) (by rw [hF]; kernel_rfl)
          · exact Reg.doesV_val (ev_idxC (b := b') (off := off') (n := n) (c := d) (k := k) hlt rfl (by rw [hF]; kernel_rfl) (by rw [hF]; kernel_rfl)) (by rw [hF]; kernel_rfl) (by rw [hF]; kernel_rfl)
          · exact Reg.doesV_val (ev_c0 (b := b') (off := off' + k * 2) rfl (by rw [hF]; kernel_rfl)) (by rw [hF]; kernel_rfl) (by rw [hF]; kernel_rfl)
          · exact Reg.doesV_val (ev_ldR (A := yA) (n := yn) (c := yc) q0 rfl (by rw [hF]; kernel_rfl)) (by rw [hF]; kernel_rfl) (by rw [hF]; kernel_rfl)
          · exact Reg.doesV_call (rcompareL_c xA yA xn yn xc yc xs ys w' ix.hd.len iy.hd.len ix.hd.max iy.hd.max ix.hd.sl iy.hd.sl) (ev_call enRCompareL rfl (by rw [hF]; kernel_rfl)) (by rw [hF]; kernel_rfl) (by rw [hF]; kernel_rfl)
          · exact Reg.doesV_val (by rw [ev_neIC (cmpL xs ys) 0 rfl (by rw [hF]; kernel_rfl), hC]) (by rw [hF]; kernel_rfl) (by rw [hF]; kernel_rfl)
          · exact Reg.doesV_val (ev_pick false rfl (by rw [hF]; kernel_rfl)) (by rw [hF]; kernel_rfl) (by rw [hF]; kernel_rfl)
        · intro w8 hB
          simp only [Reg.putAll, Act.put, List.setIfInBounds_toArray, List.set_cons_zero, List.set_cons_succ]
          have Hb2 := Lib.hid (hb.out.trans (hB.mono hb.out.size))
          clear hB
          go_wp2
          go_ret
          exact ⟨congrArg (fun z => Ending.returned (Value.bool z)) Hst2.out, Hb2.out⟩
    · have hE : (N == M) = false := by simpa using hNM
      have Hst2 : Hid (false = R) := by
       have := Hst.out
       simp only [hE, Bool.false_and] at this
       exact Lib.hid this
      clear Hst
      clear hE
      refine Reg.wp_region_vals mixed (by kernel_rfl) [(17, .slice (some ⟨b, off, none⟩) n c), (18, .int .i64 (k : Nat)), (19, .pointer (some ⟨b, off + k * 2, none⟩)), (20, .pointer (some ⟨b, off + k * 2 + 1, none⟩)), (21, .int .i64 N), (22, .slice (some ⟨b', off', none⟩) n d), (23, .int .i64 (k : Nat)), (24, .pointer (some ⟨b', off' + k * 2, none⟩)), (25, .pointer (some ⟨b', off' + k * 2 + 1, none⟩)), (26, .int .i64 M), (27, .bool true), (28, .bool true), (29, undef), (30, undef), (31, undef), (32, undef), (33, undef), (34, undef), (35, undef), (36, undef), (37, undef), (38, undef), (39, undef), (40, undef), (41, .bool true)] 42 rfl (by kernel_rfl) ?_ ?_
      · intro F hF w' hB
        have j0 := (hB.cell (p := ⟨b, off + k * 2, none⟩) l1).trans d0.out
        have j1 := (hB.cell (p := ⟨b, off + k * 2 + 1, none⟩) l1).trans d1.out
        have q0 := (hB.cell (p := ⟨b', off' + k * 2, none⟩) l2).trans e0.out
        have q1 := (hB.cell (p := ⟨b', off' + k * 2 + 1, none⟩) l2).trans e1.out
        have ix := Hx.out.after hB
        have iy := Hy.out.after hB
        refine ⟨?_, ?_, ?_, ?_, ?_, ?_, ?_, ?_, ?_, ?_, ?_, ?_, ?_, ?_, ?_, ?_, ?_, ?_, ?_, ?_, ?_, ?_, ?_, ?_, ?_, trivial⟩
        · exact Reg.doesV_val (ev_move rfl) (by rw [hF]; kernel_rfl) (by rw [hF]; kernel_rfl)
        · exact Reg.doesV_val (ev_move rfl) (by rw [hF]; kernel_rfl) (by rw [hF]; kernel_rfl)
        · exact Reg.doesV_val (ev_idxC (b := b) (off := off) (n := n) (c := c) (k := k) hlt rfl (by rw [hF]; kernel_rfl) (by rw [hF]; kernel_rfl)) (by rw [hF]; kernel_rfl) (by rw [hF]; kernel_rfl)
        · exact Reg.doesV_val (ev_c1 (b := b) (off := off + k * 2) rfl (by rw [hF]; kernel_rfl)) (by rw [hF]; kernel_rfl) (by rw [hF]; kernel_rfl)
        · exact Reg.doesV_val (ev_ldI (k := N) j1 rfl (by rw [hF]; kernel_rfl)) (by rw [hF]; kernel_rfl) (by rw [hF]; kernel_rfl)
        · exact Reg.doesV_val (ev_move rfl) (by rw [hF]; kernel_rfl) (by rw [hF]; kernel_rfl)
        · exact Reg.doesV_val (ev_move rfl) (by rw [hF]; kernel_rfl) (by rw [hF]; kernel_rfl)
        · exact Reg.doesV_val (ev_idxC (b := b') (off := off') (n := n) (c := d) (k := k) hlt rfl (by rw [hF]; kernel_rfl) (by rw [hF]; kernel_rfl)) (by rw [hF]; kernel_rfl) (by rw [hF]; kernel_rfl)
        · exact Reg.doesV_val (ev_c1 (b := b') (off := off' + k * 2) rfl (by rw [hF]; kernel_rfl)) (by rw [hF]; kernel_rfl) (by rw [hF]; kernel_rfl)
        · exact Reg.doesV_val (ev_ldI (k := M) q1 rfl (by rw [hF]; kernel_rfl)) (by rw [hF]; kernel_rfl) (by rw [hF]; kernel_rfl)
        · exact Reg.doesV_val (by rw [ev_neT5 N M rfl (by rw [hF]; kernel_rfl) (by rw [hF]; kernel_rfl), hNM]) (by rw [hF]; kernel_rfl) (by rw [hF]; kernel_rfl)
        · exact Reg.doesV_val (ev_move rfl) (by rw [hF]; kernel_rfl) (by rw [hF]; kernel_rfl)
        · exact Reg.doesV_skip (by rw [hF]; kernel_rfl) (by rw [hF]; kernel_rfl)
        · exact Reg.doesV_skip (by rw [hF]; kernel_rfl) (by rw [hF]; kernel_rfl)
        · exact Reg.doesV_skip (by rw [hF]; kernel_rfl) (by rw [hF]; kernel_rfl)
        · exact Reg.doesV_skip (by rw [hF]; kernel_rfl) (by rw [hF]; kernel_rfl)
        · exact Reg.doesV_skip (by rw [hF]; kernel_rfl) (by rw [hF]; kernel_rfl)
        · exact Reg.doesV_skip (by rw [hF]; kernel_rfl) (by rw [hF]; kernel_rfl)
        · exact Reg.doesV_skip (by rw [hF]; kernel_rfl) (by rw [hF]; kernel_rfl)
        · exact Reg.doesV_skip (by rw [hF]; kernel_rfl) (by rw [hF]; kernel_rfl)
        · exact Reg.doesV_skip (by rw [hF]; kernel_rfl) (by rw [hF]; kernel_rfl)
        · exact Reg.doesV_skip (by rw [hF]; kernel_rfl) (by rw [hF]; kernel_rfl)
        · exact Reg.doesV_skip (by rw [hF]; kernel_rfl) (by rw [hF]; kernel_rfl)
        · exact Reg.doesV_skip (by rw [hF]; kernel_rfl) (by rw [hF]; kernel_rfl)
        · exact Reg.doesV_val (ev_pick true rfl (by rw [hF]; kernel_rfl)) (by rw [hF]; kernel_rfl) (by rw [hF]; kernel_rfl)
      · intro w8 hB
        simp only [Reg.putAll, Act.put, List.setIfInBounds_toArray, List.set_cons_zero, List.set_cons_succ]
        have Hb2 := Lib.hid (hb.out.trans (hB.mono hb.out.size))
        clear hB
        go_wp2
        go_ret
        exact ⟨congrArg (fun z => Ending.returned (Value.bool z)) Hst2.out, Hb2.out⟩
  · obtain rfl : k = n := by omega
    have Hst' : Hid (true = R) := by
     have := hinv.out
     rw [show (pl cs).drop k = [] from List.drop_eq_nil_of_le (by rw [pl_len, HA.out.len]; omega), show (pl ds).drop k = [] from List.drop_eq_nil_of_le (by rw [pl_len, HB.out.len]; omega)] at this
     exact Lib.hid this
    clear hinv
    go_wp2
    go_ret
    exact ⟨congrArg (fun z => Ending.returned (Value.bool z)) Hst'.out, hb.out⟩
def Gr (w w' : World) : Prop := ∃ q os, w' = Sort.grow (w.drewN q) os
theorem Gr.refl (w : World) : Gr w w := ⟨0, #[], by simp [Sort.grow, World.drewN]⟩
theorem Gr.trans {a b c : World} (h : Gr a b) (k : Gr b c) : Gr a c := by
 obtain ⟨q, os, rfl⟩ := h
 obtain ⟨q', os', rfl⟩ := k
 exact ⟨q + q', os ++ os', by simp [Sort.grow, World.drewN, Array.append_assoc, Nat.add_assoc]⟩
theorem gr_one (w : World) (o : Obj) : Gr w (w.alloc o) := ⟨0, #[o], by
 unfold World.alloc Sort.grow World.drewN
 simp⟩
theorem Gr.alloc {a b : World} (h : Gr a b) (o : Obj) : Gr a (b.alloc o) := h.trans (gr_one b o)
theorem gr_two (w : World) (o o' : Obj) : Gr w ((w.alloc o).alloc o') := (gr_one w o).alloc o'
theorem Gr.below {w w' : World} (h : Gr w w') : Below w.heap.size w w' := by
 obtain ⟨q, os, rfl⟩ := h
 exact ⟨rfl, rfl, rfl, by show w.heap.size ≤ (w.heap ++ os).size; simp, fun i hi => by
  show (w.heap ++ os)[i]? = w.heap[i]?
  rw [Array.getElem?_append_left hi]⟩
set_option maxHeartbeats 400000 in
theorem compare_g (x y : Val) (w : World) : Calls Tryz.prog 75 #[x.v, y.v] w fun e w' => e = .returned (.int .i64 (cmpV x y)) ∧ Gr w w' := by
 cases h1 : x.k != y.k
 · cases h2 : x.n != y.n
   · have e : cmpV x y = Lib.compareBytes x.s.data.toList y.s.data.toList := by simp [cmpV, h1, h2]
     rw [e]
     clear e
     go_enter Tryz.func75, Tryz.ntmps75
     go_wp2_with fail
     refine (Tryz.strings_Compare _ _ _).mono ?_
     rintro e w1 ⟨rfl, rfl⟩
     go_wp2
     go_ret
     exact ⟨rfl, gr_two _ _ _⟩
   · have e : cmpV x y = Lib.compareInt x.n y.n := by simp [cmpV, h1, h2]
     rw [e]
     clear e
     go_enter Tryz.func75, Tryz.ntmps75
     go_wp2_with fail
     refine (Tryz.cmp_Compare_int _ _ _).mono ?_
     rintro e w1 ⟨rfl, rfl⟩
     go_wp2
     go_ret
     exact ⟨rfl, gr_two _ _ _⟩
 · have e : cmpV x y = Lib.compareInt x.k y.k := by simp [cmpV, h1]
   rw [e]
   clear e
   go_enter Tryz.func75, Tryz.ntmps75
   go_wp2_with fail
   refine (Tryz.cmp_Compare_int _ _ _).mono ?_
   rintro e w1 ⟨rfl, rfl⟩
   go_wp2
   go_ret
   exact ⟨rfl, gr_two _ _ _⟩
set_option maxHeartbeats 2000000 in
theorem cmpFunc_g (A B : Option Addr) (n m c d : Nat) (xs ys : List Val) (w : World) (hn : xs.length = n) (hm : ys.length = m) (hn1 : n ≤ maxLen) (hm1 : m ≤ maxLen) (hs : Sl w A xs) (ht : Sl w B ys) :
 Calls Tryz.prog 74 #[.slice A n c, .slice B m d, .func (.func 75) #[] #[]] w fun e w' => e = .returned (.int .i64 (cmpL xs ys)) ∧ Gr w w' := by
 unfold maxLen at hn1 hm1
 have Hn := Lib.hid hn
 have Hm := Lib.hid hm
 have Hs := Lib.hid hs
 have Ht := Lib.hid ht
 clear hn hm hs ht
 go_enter Tryz.func74, Tryz.ntmps74
 go_wp2_with fail
 go_loopw [13] (fun i wr => ∃ k : Nat, k ≤ n ∧ k ≤ m ∧ i = .int .i64 k ∧ Gr w wr ∧ Hid (cmpL (xs.drop k) (ys.drop k) = cmpL xs ys)) (fun i _ => n - (intOf i).toNat)
 case atStart => exact ⟨0, Nat.zero_le _, Nat.zero_le _, rfl, Gr.refl _, rfl⟩
 case round =>
  obtain ⟨k, hk, hkm, rfl, hb, hinv⟩ := hrel
  by_cases hlt : k < n
  · obtain ⟨b, off, x, rfl, hblt, hx, c0, c1, c2⟩ := Hs.out.at (by rw [Hn.out]; exact hlt)
    have d0 := (hb.below.cell (p := ⟨b, off + k * 3, none⟩) hblt).trans c0
    have d1 := (hb.below.cell (p := ⟨b, off + k * 3 + 1, none⟩) hblt).trans c1
    have d2 := (hb.below.cell (p := ⟨b, off + k * 3 + 2, none⟩) hblt).trans c2
    have Hx := Lib.hid hx
    clear c0 c1 c2 hx
    have l1 := hb.below.size
    by_cases hlt2 : k < m
    · obtain ⟨b', off', y, rfl, hblt', hy, c0, c1, c2⟩ := Ht.out.at (by rw [Hm.out]; exact hlt2)
      have d3 := (hb.below.cell (p := ⟨b', off' + k * 3, none⟩) hblt').trans c0
      have d4 := (hb.below.cell (p := ⟨b', off' + k * 3 + 1, none⟩) hblt').trans c1
      have d5 := (hb.below.cell (p := ⟨b', off' + k * 3 + 2, none⟩) hblt').trans c2
      have Hy := Lib.hid hy
      clear c0 c1 c2 hy
      have l2 : b' < wr.heap.size := by omega
      have hstep := cmpL_drop xs ys k x y Hx.out Hy.out
      have Hst := Lib.hid (hstep.symm.trans hinv.out)
      clear hstep hinv
      cases hc : cmpV x y != 0
      · have Hst' : Hid (cmpL (xs.drop (k + 1)) (ys.drop (k + 1)) = cmpL xs ys) := by have := Hst.out; rw [hc] at this; exact this
        clear Hst
        go_wp2_with fail
        refine (compare_g x y _).mono ?_
        rintro e w1 ⟨rfl, hb1⟩
        go_wp2
        go_roundw
        case rel => exact ⟨k + 1, by omega, by omega, by go_num, (hb.alloc _).trans ((gr_one _ _).trans hb1), Hst'.out⟩
        case measure => simp [intOf]; omega
      · have Hst' : Hid (cmpV x y = cmpL xs ys) := by have := Hst.out; rw [hc] at this; exact this
        clear Hst
        go_wp2_with fail
        refine (compare_g x y _).mono ?_
        rintro e w1 ⟨rfl, hb1⟩
        go_wp2
        go_ret
        exact ⟨congrArg (fun z => Ending.returned (Value.int .i64 z)) Hst'.out, (hb.alloc _).trans ((gr_one _ _).trans hb1)⟩
    · obtain rfl : k = m := by omega
      have Hst : Hid (1 = cmpL xs ys) := by
       have := hinv.out
       rw [show ys.drop k = [] from List.drop_eq_nil_of_le (by rw [Hm.out]; omega), cmpL_nil_right, if_neg (by rw [List.length_drop, Hn.out]; omega)] at this
       exact this
      clear hinv
      go_wp2
      go_ret
      exact ⟨congrArg (fun z => Ending.returned (Value.int .i64 z)) Hst.out, hb.alloc _⟩
  · obtain rfl : k = n := by omega
    by_cases hlt2 : k < m
    · have Hst : Hid (-1 = cmpL xs ys) := by
       have := hinv.out
       rw [show xs.drop k = [] from List.drop_eq_nil_of_le (by rw [Hn.out]; omega), cmpL_nil_left, if_neg (by rw [List.length_drop, Hm.out]; omega)] at this
       exact this
      clear hinv
      go_wp2
      go_ret
      exact ⟨congrArg (fun z => Ending.returned (Value.int .i64 z)) Hst.out, hb⟩
    · have Hst : Hid (0 = cmpL xs ys) := by
       have := hinv.out
       rw [show xs.drop k = [] from List.drop_eq_nil_of_le (by rw [Hn.out]; omega), cmpL_nil_left, if_pos (by rw [List.length_drop, Hm.out]; omega)] at this
       exact this
      clear hinv
      go_wp2
      go_ret
      exact ⟨congrArg (fun z => Ending.returned (Value.int .i64 z)) Hst.out, hb⟩
set_option maxHeartbeats 400000 in
theorem compareL_g (A B : Option Addr) (n m c d : Nat) (xs ys : List Val) (w : World) (hn : xs.length = n) (hm : ys.length = m) (hn1 : n ≤ maxLen) (hm1 : m ≤ maxLen) (hs : Sl w A xs) (ht : Sl w B ys) :
 Calls Tryz.prog 62 #[.slice A n c, .slice B m d] w fun e w' => e = .returned (.int .i64 (cmpL xs ys)) ∧ Gr w w' := by
 have Hn := Lib.hid hn
 have Hm := Lib.hid hm
 have Hs := Lib.hid hs
 have Ht := Lib.hid ht
 clear hn hm hs ht
 go_enter Tryz.func62, Tryz.ntmps62
 go_wp2_with fail
 refine (cmpFunc_g A B n m c d xs ys w Hn.out Hm.out hn1 hm1 Hs.out Ht.out).mono ?_
 rintro e w1 ⟨rfl, hb1⟩
 go_wp2
 go_ret
 exact ⟨rfl, hb1⟩
set_option maxRecDepth 100000
def beyB (N : Int) : Bool := decide (N < -1000000000) || decide (1000000000 < N)
theorem bey_fits (N : Int) : beyB N = !(decide (-1000000000 ≤ N) && decide (N ≤ 1000000000)) := by
 unfold beyB
 by_cases h1 : N < -1000000000
 · have h2 : ¬ -1000000000 ≤ N := by omega
   simp [h1, h2]
 · by_cases h3 : 1000000000 < N
   · have h4 : ¬ N ≤ 1000000000 := by omega
     simp [h3, h4]
   · have h2 : -1000000000 ≤ N := by omega
     have h4 : N ≤ 1000000000 := by omega
     simp [h1, h2, h3, h4]
theorem beyond_g (A : Option Addr) (n c : Nat) (N : Int) (w : World) : Calls Tryz.prog 60 #[.agg #[.slice A n c, .int .i64 N]] w fun e w' => e = .returned (.bool (beyB N)) ∧ Gr w w' := by
 unfold beyB
 cases h1 : decide (N < -1000000000)
 · go_enter Tryz.func60, Tryz.ntmps60
   go_wp2
   go_ret
   exact ⟨rfl, gr_one _ _⟩
 · go_enter Tryz.func60, Tryz.ntmps60
   go_wp2
   go_ret
   exact ⟨rfl, gr_one _ _⟩
theorem zero_g (A : Option Addr) (n c : Nat) (N : Int) (w : World) : Calls Tryz.prog 66 #[.agg #[.slice A n c, .int .i64 N]] w fun e w' => e = .returned (.bool (N == 0)) ∧ Gr w w' := by
 go_enter Tryz.func66, Tryz.ntmps66
 go_wp2
 go_ret
 exact ⟨rfl, gr_one _ _⟩
theorem enKeyCompare : ∀ args w, (callFunc 62 args).run Tryz.prog w = .ok (.enter 62 args) w := fun _ _ => by kernel_rfl
set_option maxHeartbeats 4000000 in
theorem mayBag_c (A : Option Addr) (n c : Nat) (cs : List Ct) (w : World) (hB : BgIn w A n cs) :
 Calls Tryz.prog 47 #[.slice A n c] w fun e w' => e = .returned (.bool (mayBag (pl cs))) ∧ Below w.heap.size w w' := by
 obtain ⟨R, hR⟩ : ∃ R, mayBag (pl cs) = R := ⟨_, rfl⟩
 rw [hR]
 rw [← mayFrom_none] at hR
 have HR := Lib.hid hR
 have HB := Lib.hid hB
 have hmx : n ≤ 9223372036854775807 := hB.max
 clear hB hR
 go_enter Tryz.func47, Tryz.ntmps47
 go_wp2_with fail
 go_loopw [7] (fun i wr => ∃ k : Nat, k ≤ n ∧ i = .int .i64 k ∧ Hid (Below w.heap.size w wr) ∧ Hid (mayFrom (prevOf (pl cs) k) ((pl cs).drop k) = R)) (fun i _ => n - (intOf i).toNat)
 case atStart => exact ⟨0, Nat.zero_le _, rfl, Lib.hid (Below.refl _ _), HR⟩
 case round =>
  obtain ⟨k, hk, rfl, hb, hinv⟩ := hrel
  clear HR
  by_cases hlt : k < n
  · obtain ⟨b, off, rfl⟩ := HB.out.sl.some2 (k := k) (by rw [HB.out.len]; exact hlt)
    obtain ⟨x, hx⟩ : ∃ x, cs[k]? = some x := ⟨_, List.getElem?_eq_getElem (by rw [HB.out.len]; exact hlt)⟩
    obtain ⟨hblt, c0, c1⟩ := HB.out.sl.cell2 hx
    have d0 := (hb.out.cell (p := ⟨b, off + k * 2, none⟩) hblt).trans c0
    have d1 := (hb.out.cell (p := ⟨b, off + k * 2 + 1, none⟩) hblt).trans c1
    have l0 : b < wr.heap.size := Nat.lt_of_lt_of_le hblt hb.out.size
    have Hx := Lib.hid ((HB.out.each x (List.mem_of_getElem? hx)).after hb.out)
    have Hst := Lib.hid ((mayFrom_drop (pl cs) k _ (pl_at hx)).symm.trans hinv.out)
    clear hinv c0 c1 hx
    obtain ⟨⟨xA, xn, xc, xs⟩, N⟩ := x
    have hprev : Hid (∀ j, k = j + 1 → ∃ y : Ct, prevOf (pl cs) k = some y.h.xs ∧ Ct.In wr y ∧ wr.cell? ⟨b, off + j * 2, none⟩ = some (.slice y.h.A y.h.n y.h.c)) := Lib.hid (by
     rintro j rfl
     obtain ⟨y, hy⟩ : ∃ y, cs[j]? = some y := ⟨_, List.getElem?_eq_getElem (by rw [HB.out.len]; omega)⟩
     obtain ⟨hblt, c0, c1⟩ := HB.out.sl.cell2 hy
     exact ⟨y, prev_succ (pl_at hy), (HB.out.each y (List.mem_of_getElem? hy)).after hb.out, (hb.out.cell (p := ⟨b, off + j * 2, none⟩) hblt).trans c0⟩)
    have hgo : (k : Int) < n := by omega
    have lw := hb.out.size
    have Hbw := Lib.hid (below_one wr (.cells #[.slice xA xn xc, .int .i64 N] 49))
    have Hgc : Hid ((wr.alloc (.cells #[.slice xA xn xc, .int .i64 N] 49)).cell? ⟨wr.heap.size, 0, none⟩ = some (.slice xA xn xc)) := Lib.hid (by simp)
    cases hN0 : N == 0
    · go_wp2_with fail
      refine (beyond_g xA xn xc N _).mono ?_
      rintro e w1 ⟨rfl, hg1⟩
      have Hg1 := Lib.hid hg1.below
      rw [bey_fits]
      clear hg1 d0 d1
      have Hl1 : Hid (wr.heap.size + 1 ≤ w1.heap.size) := Lib.hid (by have := Hg1.out.size; simpa using this)
      have Hgc1 : Hid (w1.cell? ⟨wr.heap.size, 0, none⟩ = some (.slice xA xn xc)) := Lib.hid ((Hg1.out.cell (p := ⟨wr.heap.size, 0, none⟩) (by simp)).trans Hgc.out)
      have Hb1 := Lib.hid (below_via (below_via hb.out Hbw.out) Hg1.out)
      have HbW1 := Lib.hid (below_via Hbw.out Hg1.out)
      clear Hgc Hg1 Hbw
      cases hF1 : (decide (-1000000000 ≤ N) && decide (N ≤ 1000000000))
      · have Hst2 : Hid (false = R) := by
         have := Hst.out
         rw [okC_and] at this
         simp only [hN0, hF1, Bool.not_false, Bool.true_and, Bool.false_and] at this
         exact Lib.hid this
        clear Hst
        simp only [Bool.not_false]
        go_wp2
        go_ret
        exact ⟨congrArg (fun z => Ending.returned (Value.bool z)) Hst2.out, Hb1.out⟩
      · simp only [Bool.not_true]
        have gc := Hgc1.out
        go_wp2_with fail
        refine (mayRow_c xA xn xc xs _ (Hx.out.after HbW1.out).hd.len (Hx.out.after HbW1.out).hd.max (Hx.out.after HbW1.out).hd.sl Hx.out.sz).mono ?_
        rintro e w2 ⟨rfl, hb2⟩
        have Hb2 := Lib.hid (below_via Hb1.out hb2)
        have HbW2 := Lib.hid (below_via HbW1.out hb2)
        have dg := Lib.hid ((hb2.cell (p := ⟨wr.heap.size, 0, none⟩) (Nat.lt_of_lt_of_le (Nat.lt_succ_self _) Hl1.out)).trans Hgc1.out)
        have lg : wr.heap.size < w2.heap.size := Nat.lt_of_lt_of_le (Nat.lt_of_lt_of_le (Nat.lt_succ_self _) Hl1.out) hb2.size
        have l2 : b < w2.heap.size := Nat.lt_trans l0 lg
        have Hx2 := Lib.hid (Hx.out.after HbW2.out)
        clear hb2 gc Hgc1 Hl1
        cases hM : mayR xs
        · have Hst2 : Hid (false = R) := by
           have := Hst.out
           rw [okC_and] at this
           simp only [hN0, hF1, hM, Bool.not_false, Bool.true_and, Bool.false_and] at this
           exact Lib.hid this
          clear Hst
          go_wp2
          go_ret
          exact ⟨congrArg (fun z => Ending.returned (Value.bool z)) Hst2.out, Hb2.out⟩
        · go_wp2_with fail
          cases hk0 : decide (0 < (k : Int))
          · have hk1 : k = 0 := by have := of_decide_eq_false hk0; omega
            have hp0 : prevOf (pl cs) k = none := by rw [hk1]; rfl
            have Hst2 : Hid (mayFrom (prevOf (pl cs) (k + 1)) ((pl cs).drop (k + 1)) = R) := by
             have := Hst.out
             rw [okC_and] at this
             simp only [hN0, hF1, hM, hp0, Bool.not_false, Bool.true_and] at this
             exact Lib.hid this
            clear Hst
            clear hp0 hk1
            refine Reg.wp_region_vals mixed (by kernel_rfl) [(25, .int .i64 (k : Nat)), (26, .bool false), (27, .bool false), (28, undef), (29, undef), (30, undef), (31, undef), (32, undef), (33, undef), (34, undef), (35, undef), (36, undef), (37, undef), (38, .bool false)] 40 rfl (by kernel_rfl) ?_ ?_
            · intro F hF w' hB
              refine ⟨?_, ?_, ?_, ?_, ?_, ?_, ?_, ?_, ?_, ?_, ?_, ?_, ?_, ?_, trivial⟩
              · exact Reg.doesV_val (ev_move rfl) (by rw [hF]; kernel_rfl) (by rw [hF]; kernel_rfl)
              · exact Reg.doesV_val (by rw [ev_gtC5 (k : Int) 0 rfl (by rw [hF]; kernel_rfl), hk0]) (by rw [hF]; kernel_rfl) (by rw [hF]; kernel_rfl)
              · exact Reg.doesV_val (ev_move rfl) (by rw [hF]; kernel_rfl) (by rw [hF]; kernel_rfl)
              · exact Reg.doesV_skip (by rw [hF]; kernel_rfl) (by rw [hF]; kernel_rfl)
              · exact Reg.doesV_skip (by rw [hF]; kernel_rfl) (by rw [hF]; kernel_rfl)
              · exact Reg.doesV_skip (by rw [hF]; kernel_rfl) (by rw [hF]; kernel_rfl)
              · exact Reg.doesV_skip (by rw [hF]; kernel_rfl) (by rw [hF]; kernel_rfl)
              · exact Reg.doesV_skip (by rw [hF]; kernel_rfl) (by rw [hF]; kernel_rfl)
              · exact Reg.doesV_skip (by rw [hF]; kernel_rfl) (by rw [hF]; kernel_rfl)
              · exact Reg.doesV_skip (by rw [hF]; kernel_rfl) (by rw [hF]; kernel_rfl)
              · exact Reg.doesV_skip (by rw [hF]; kernel_rfl) (by rw [hF]; kernel_rfl)
              · exact Reg.doesV_skip (by rw [hF]; kernel_rfl) (by rw [hF]; kernel_rfl)
              · exact Reg.doesV_skip (by rw [hF]; kernel_rfl) (by rw [hF]; kernel_rfl)
              · exact Reg.doesV_val (ev_pick false rfl (by rw [hF]; kernel_rfl)) (by rw [hF]; kernel_rfl) (by rw [hF]; kernel_rfl)
            · intro w8 hB
              simp only [Reg.putAll, Act.put, List.setIfInBounds_toArray, List.set_cons_zero, List.set_cons_succ]
              have Hb3 := Lib.hid (Hb2.out.trans (hB.mono Hb2.out.size))
              clear hB
              go_wp2
              go_roundw
              case rel => exact ⟨k + 1, by omega, by go_num, Hb3, Hst2⟩
              case measure => simp [intOf]; omega
          · obtain ⟨j, hkj⟩ : ∃ j, k = j + 1 := ⟨k - 1, by have := of_decide_eq_true hk0; omega⟩
            have hjn : j < n := by omega
            have hjx : k ≤ 9223372036854775807 := by omega
            obtain ⟨⟨⟨yA, yn, yc, ys⟩, yN⟩, hp, hy, dq⟩ := hprev.out j hkj
            have Hy := Lib.hid (hy.after HbW2.out)
            have dq := Lib.hid ((HbW2.out.cell (p := ⟨b, off + j * 2, none⟩) l0).trans dq)
            clear hy
            cases hC : decide (0 ≤ cmpL ys xs)
            · have hC2 : decide (cmpL ys xs < 0) = true := by have := of_decide_eq_false hC; exact decide_eq_true (by omega)
              have Hst2 : Hid (mayFrom (prevOf (pl cs) (k + 1)) ((pl cs).drop (k + 1)) = R) := by
               have := Hst.out
               rw [okC_and] at this
               simp only [hN0, hF1, hM, hp, hC2, Bool.not_false, Bool.true_and] at this
               exact Lib.hid this
              clear Hst
              clear hp hC2
              refine Reg.wp_region_vals mixed (by kernel_rfl) [(25, .int .i64 (k : Nat)), (26, .bool true), (27, .bool true), (28, .slice (some ⟨b, off, none⟩) n c), (29, .int .i64 (k : Nat)), (30, .int .i64 (j : Nat)), (31, .pointer (some ⟨b, off + j * 2, none⟩)), (32, .pointer (some ⟨b, off + j * 2, none⟩)), (33, .slice yA yn yc), (34, .pointer (some ⟨wr.heap.size, 0, none⟩)), (35, .slice xA xn xc), (36, .int .i64 (cmpL ys xs)), (37, .bool false), (38, .bool false)] 40 rfl (by kernel_rfl) ?_ ?_
              · intro F hF w' hB
                have q0 := (hB.cell (p := ⟨b, off + j * 2, none⟩) l2).trans dq.out
                have jx := (hB.cell (p := ⟨wr.heap.size, 0, none⟩) lg).trans dg.out
                have ix := Hx2.out.after hB
                have iy := Hy.out.after hB
                refine ⟨?_, ?_, ?_, ?_, ?_, ?_, ?_, ?_, ?_, ?_, ?_, ?_, ?_, ?_, trivial⟩
                · exact Reg.doesV_val (ev_move rfl) (by rw [hF]; kernel_rfl) (by rw [hF]; kernel_rfl)
                · exact Reg.doesV_val (by rw [ev_gtC5 (k : Int) 0 rfl (by rw [hF]; kernel_rfl), hk0]) (by rw [hF]; kernel_rfl) (by rw [hF]; kernel_rfl)
                · exact Reg.doesV_val (ev_move rfl) (by rw [hF]; kernel_rfl) (by rw [hF]; kernel_rfl)
                · exact Reg.doesV_val (ev_move rfl) (by rw [hF]; kernel_rfl) (by rw [hF]; kernel_rfl)
                · exact Reg.doesV_val (ev_move rfl) (by rw [hF]; kernel_rfl) (by rw [hF]; kernel_rfl)
                · exact Reg.doesV_val (ev_dec5 k j hkj hjx rfl (by rw [hF]; kernel_rfl)) (by rw [hF]; kernel_rfl) (by rw [hF]; kernel_rfl)
                · exact Reg.doesV_val (ev_idxC (b := b) (off := off) (n := n) (c := c) (k := j) hjn rfl (by rw [hF]; kernel_rfl) (by rw [hF]; kernel_rfl)) (by rw [hF]; kernel_rfl) (by rw [hF]; kernel_rfl)
                · exact Reg.doesV_val (ev_c0 (b := b) (off := off + j * 2) rfl (by rw [hF]; kernel_rfl)) (by rw [hF]; kernel_rfl) (by rw [hF]; kernel_rfl)
                · exact Reg.doesV_val (ev_ldR (A := yA) (n := yn) (c := yc) q0 rfl (by rw [hF]; kernel_rfl)) (by rw [hF]; kernel_rfl) (by rw [hF]; kernel_rfl)
                · exact Reg.doesV_val (ev_c0 (b := wr.heap.size) (off := 0) rfl (by rw [hF]; kernel_rfl)) (by rw [hF]; kernel_rfl) (by rw [hF]; kernel_rfl)
                · exact Reg.doesV_val (ev_ldR (A := xA) (n := xn) (c := xc) jx rfl (by rw [hF]; kernel_rfl)) (by rw [hF]; kernel_rfl) (by rw [hF]; kernel_rfl)
                · exact Reg.doesV_call (compareL_c yA xA yn xn yc xc ys xs w' iy.hd.len ix.hd.len iy.hd.max ix.hd.max iy.hd.sl ix.hd.sl) (ev_call enKeyCompare rfl (by rw [hF]; kernel_rfl)) (by rw [hF]; kernel_rfl) (by rw [hF]; kernel_rfl)
                · exact Reg.doesV_val (by rw [ev_geC5 (cmpL ys xs) 0 rfl (by rw [hF]; kernel_rfl), hC]) (by rw [hF]; kernel_rfl) (by rw [hF]; kernel_rfl)
                · exact Reg.doesV_val (ev_pick true rfl (by rw [hF]; kernel_rfl)) (by rw [hF]; kernel_rfl) (by rw [hF]; kernel_rfl)
              · intro w8 hB
                simp only [Reg.putAll, Act.put, List.setIfInBounds_toArray, List.set_cons_zero, List.set_cons_succ]
                have Hb3 := Lib.hid (Hb2.out.trans (hB.mono Hb2.out.size))
                clear hB
                go_wp2
                go_roundw
                case rel => exact ⟨k + 1, by omega, by go_num, Hb3, Hst2⟩
                case measure => simp [intOf]; omega
            · have hC2 : decide (cmpL ys xs < 0) = false := by have := of_decide_eq_true hC; exact decide_eq_false (by omega)
              have Hst2 : Hid (false = R) := by
               have := Hst.out
               rw [okC_and] at this
               simp only [hN0, hF1, hM, hp, hC2, Bool.not_false, Bool.true_and, Bool.false_and] at this
               exact Lib.hid this
              clear Hst
              clear hp hC2
              refine Reg.wp_region_vals mixed (by kernel_rfl) [(25, .int .i64 (k : Nat)), (26, .bool true), (27, .bool true), (28, .slice (some ⟨b, off, none⟩) n c), (29, .int .i64 (k : Nat)), (30, .int .i64 (j : Nat)), (31, .pointer (some ⟨b, off + j * 2, none⟩)), (32, .pointer (some ⟨b, off + j * 2, none⟩)), (33, .slice yA yn yc), (34, .pointer (some ⟨wr.heap.size, 0, none⟩)), (35, .slice xA xn xc), (36, .int .i64 (cmpL ys xs)), (37, .bool true), (38, .bool true)] 40 rfl (by kernel_rfl) ?_ ?_
              · intro F hF w' hB
                have q0 := (hB.cell (p := ⟨b, off + j * 2, none⟩) l2).trans dq.out
                have jx := (hB.cell (p := ⟨wr.heap.size, 0, none⟩) lg).trans dg.out
                have ix := Hx2.out.after hB
                have iy := Hy.out.after hB
                refine ⟨?_, ?_, ?_, ?_, ?_, ?_, ?_, ?_, ?_, ?_, ?_, ?_, ?_, ?_, trivial⟩
                · exact Reg.doesV_val (ev_move rfl) (by rw [hF]; kernel_rfl) (by rw [hF]; kernel_rfl)
                · exact Reg.doesV_val (by rw [ev_gtC5 (k : Int) 0 rfl (by rw [hF]; kernel_rfl), hk0]) (by rw [hF]; kernel_rfl) (by rw [hF]; kernel_rfl)
                · exact Reg.doesV_val (ev_move rfl) (by rw [hF]; kernel_rfl) (by rw [hF]; kernel_rfl)
                · exact Reg.doesV_val (ev_move rfl) (by rw [hF]; kernel_rfl) (by rw [hF]; kernel_rfl)
                · exact Reg.doesV_val (ev_move rfl) (by rw [hF]; kernel_rfl) (by rw [hF]; kernel_rfl)
                · exact Reg.doesV_val (ev_dec5 k j hkj hjx rfl (by rw [hF]; kernel_rfl)) (by rw [hF]; kernel_rfl) (by rw [hF]; kernel_rfl)
                · exact Reg.doesV_val (ev_idxC (b := b) (off := off) (n := n) (c := c) (k := j) hjn rfl (by rw [hF]; kernel_rfl) (by rw [hF]; kernel_rfl)) (by rw [hF]; kernel_rfl) (by rw [hF]; kernel_rfl)
                · exact Reg.doesV_val (ev_c0 (b := b) (off := off + j * 2) rfl (by rw [hF]; kernel_rfl)) (by rw [hF]; kernel_rfl) (by rw [hF]; kernel_rfl)
                · exact Reg.doesV_val (ev_ldR (A := yA) (n := yn) (c := yc) q0 rfl (by rw [hF]; kernel_rfl)) (by rw [hF]; kernel_rfl) (by rw [hF]; kernel_rfl)
                · exact Reg.doesV_val (ev_c0 (b := wr.heap.size) (off := 0) rfl (by rw [hF]; kernel_rfl)) (by rw [hF]; kernel_rfl) (by rw [hF]; kernel_rfl)
                · exact Reg.doesV_val (ev_ldR (A := xA) (n := xn) (c := xc) jx rfl (by rw [hF]; kernel_rfl)) (by rw [hF]; kernel_rfl) (by rw [hF]; kernel_rfl)
                · exact Reg.doesV_call (compareL_c yA xA yn xn yc xc ys xs w' iy.hd.len ix.hd.len iy.hd.max ix.hd.max iy.hd.sl ix.hd.sl) (ev_call enKeyCompare rfl (by rw [hF]; kernel_rfl)) (by rw [hF]; kernel_rfl) (by rw [hF]; kernel_rfl)
                · exact Reg.doesV_val (by rw [ev_geC5 (cmpL ys xs) 0 rfl (by rw [hF]; kernel_rfl), hC]) (by rw [hF]; kernel_rfl) (by rw [hF]; kernel_rfl)
                · exact Reg.doesV_val (ev_pick true rfl (by rw [hF]; kernel_rfl)) (by rw [hF]; kernel_rfl) (by rw [hF]; kernel_rfl)
              · intro w8 hB
                simp only [Reg.putAll, Act.put, List.setIfInBounds_toArray, List.set_cons_zero, List.set_cons_succ]
                have Hb3 := Lib.hid (Hb2.out.trans (hB.mono Hb2.out.size))
                clear hB
                go_wp2
                go_ret
                exact ⟨congrArg (fun z => Ending.returned (Value.bool z)) Hst2.out, Hb3.out⟩
    · have Hst2 : Hid (false = R) := by
       have := Hst.out
       rw [okC_and] at this
       simp only [hN0, Bool.not_true, Bool.false_and] at this
       exact Lib.hid this
      clear Hst
      have Hb1 := Lib.hid (below_via hb.out Hbw.out)
      clear Hbw Hgc
      go_wp2
      go_ret
      exact ⟨congrArg (fun z => Ending.returned (Value.bool z)) Hst2.out, Hb1.out⟩
  · obtain rfl : k = n := by omega
    have Hst' : Hid (true = R) := by
     have := hinv.out
     rw [show (pl cs).drop k = [] from List.drop_eq_nil_of_le (by rw [pl_len, HB.out.len]; omega)] at this
     rw [← this]
     exact Lib.hid (mayFrom_nil _).symm
    clear hinv
    go_wp2
    go_ret
    exact ⟨congrArg (fun z => Ending.returned (Value.bool z)) Hst'.out, hb.out⟩
attribute [local go_sem ↓] Go.wp_at_zero Go.wp_at_succ
theorem gcolumn_c (A : Option Addr) (n c : Nat) (xs : List Val) (i : Int) (w : World) (hn : xs.length = n) (hs : Sl w A xs) :
 Calls Tryz.prog 55 #[.slice A n c, .int .i64 i] w fun e w' => e = .returned (atR xs i).v ∧ Below w.heap.size w w' := by
 by_cases h0 : i < 0
 · have e0 : atR xs i = nl := by unfold atR; rw [if_neg (by omega)]
   rw [e0]
   go_enter Tryz.func55, Tryz.ntmps55
   go_wp2
   exact ret_val (a := nl) Tryz.results55 rfl (Bx.new w nl) rfl ⟨rfl, below_one _ _⟩
 · obtain ⟨j, rfl⟩ : ∃ j : Nat, i = j := ⟨i.toNat, by omega⟩
   by_cases h1 : j < n
   · obtain ⟨b, off, x, rfl, hlt, hx, d0, d1, d2⟩ := hs.at3 (k := j) (by omega)
     have e0 : atR xs (j : Int) = x := by unfold atR; rw [if_pos (by omega), Int.toNat_natCast, hx]; rfl
     rw [e0]
     clear e0 hx hs hn
     have h2 : (j : Int) < n := by omega
     go_enter Tryz.func55, Tryz.ntmps55
     go_wp2
     exact ret_val (a := x) Tryz.results55 rfl (Bx.new w x) rfl ⟨rfl, below_one _ _⟩
   · have e0 : atR xs (j : Int) = nl := by unfold atR; rw [if_pos (by omega), Int.toNat_natCast, List.getElem?_eq_none (by omega)]; rfl
     rw [e0]
     clear e0 hs hn
     have h2 : (n : Int) ≤ j := by omega
     go_enter Tryz.func55, Tryz.ntmps55
     go_wp2
     exact ret_val (a := nl) Tryz.results55 rfl (Bx.new w nl) rfl ⟨rfl, below_one _ _⟩
theorem ret_valE {fn : Func} {R : Ending → World → Prop} {F : Act} {w : World} {t u : Tmp} {b : Nat} {a : Val} {z : Value} (hres : fn.results = #[.cell t 39, .tmp u]) (ht : Reg.slot F t = .pointer (some ⟨b, 0, none⟩)) (hu : Reg.slot F u = z) (hb : Bx w b a) (hd : F.defers = [])
 (hR : R (.returned (.tuple #[a.v, z])) w) : bodyPost Tryz.prog fn R .ret F w := by
 have h0 := hb.cell0
 have h1 := hb.cell1
 have h2 := hb.cell2
 refine bodyPost_ret (v := .tuple #[a.v, z]) ?_ hd hR
 have ht' : F.tmps[t]?.getD undef = .pointer (some ⟨b, 0, none⟩) := by simpa [Reg.slot] using ht
 have hu' : F.tmps[u]?.getD undef = z := by simpa [Reg.slot] using hu
 simp [results, hres, ht', hu', go_sem, h0, h1, h2]
theorem byte0 {b : Nat} {w : World} {c : Array Value} {T n : Nat} {z : Nat × Nat} (h : w.heap[b]? = some (.cells c T z)) (hs : (Tryz.prog.cellsOf T == 0) = false) (hn : byteOfCell Tryz.prog Tryz.prog.depth T 0 = some n) : (byteOf ⟨b, 0, none⟩).run Tryz.prog w = .ok n w := by
 have hv : (noView ⟨b, 0, none⟩).run Tryz.prog w = .ok () w := by simp [noView, viewAt, World.shape?, h]
 have hq : w.shape? b = some (T, c.size) := by simp [World.shape?, h]
 have hs2 : (Tryz.prog.cellsOf T = 0) = False := eq_false (by simpa using hs)
 unfold byteOf
 simp [hv, hq, hs2, hn]
theorem part0 {b : Nat} {w : World} {n : Nat} (h : (byteOf ⟨b, 0, none⟩).run Tryz.prog w = .ok n w) : ∃ a, (partAt ⟨b, 0, none⟩ 0 0).run Tryz.prog w = .ok a w := by
 unfold partAt
 simp [h]
theorem load0 (a : Addr) (w : World) : (loadVar 114 a).run Tryz.prog w = .ok (.agg #[]) w := by kernel_rfl
theorem method_emb {T S F k n : Nat} {nm : String} {b : Nat} {w : World} {c : Array Value} {z : Nat × Nat} {fs : Array Field} (h : w.heap[b]? = some (.cells c S z)) (hs : (Tryz.prog.cellsOf S == 0) = false) (hn : byteOfCell Tryz.prog Tryz.prog.depth S 0 = some n)
 (hI : (Tryz.prog.info? T).bind (fun I => (I.methods.find? (fun m => m.name == nm)).map fun m => (m.path.toList, m.func)) = some ([⟨S, 0, true⟩], some (F, false)))
 (hf : Tryz.prog.underlying S = some (.struct fs)) (h0 : fs[0]?.map (fun f => (f.type, f.offset, f.byteOffset)) = some (114, 0, 0)) (hz : ∀ w : World, (Go.sizeOf 114).run Tryz.prog w = .ok 0 w) (hu : ∀ w : World, (underlying 114).run Tryz.prog w = .ok (.struct #[]) w) :
 (method (k + 1) T (.pointer (some ⟨b, 0, none⟩)) nm).run Tryz.prog w = .ok (F, .agg #[]) w := by
 obtain ⟨a, ha⟩ := part0 (byte0 h hs hn)
 cases hT : Tryz.prog.info? T with
 | none => rw [hT] at hI; cases hI
 | some I =>
   rw [hT] at hI
   simp only [Option.bind_some] at hI
   cases hm : I.methods.find? (fun m => m.name == nm) with
   | none => rw [hm] at hI; cases hI
   | some m =>
     rw [hm] at hI
     simp only [Option.map_some, Option.some.injEq, Prod.mk.injEq] at hI
     obtain ⟨h1, h2⟩ := hI
     cases hf0 : fs[0]? with
     | none => rw [hf0] at h0; cases h0
     | some f =>
       rw [hf0] at h0
       simp only [Option.map_some, Option.some.injEq, Prod.mk.injEq] at h0
       obtain ⟨g1, g2, g3⟩ := h0
       unfold method
       simp [typeInfo, hT, hm, h1, h2, follow, run_underlying hf, hf0, Place.get, asAddr, fieldPlace, g1, g2, g3, hz, ha, receiverAt, hu, load0]
theorem m_count_value {b : Nat} {w : World} {c : Array Value} {z : Nat × Nat} (k : Nat) (h : w.heap[b]? = some (.cells c 116 z)) : (method (k + 1) 112 (.pointer (some ⟨b, 0, none⟩)) "levee/group.value").run Tryz.prog w = .ok (151, .agg #[]) w :=
 method_emb (n := 0) h (by kernel_rfl) (by kernel_rfl) (by kernel_rfl) Tryz.underlying116 (by rfl) (fun _ => by kernel_rfl) (fun _ => by kernel_rfl)
theorem m_sum_row {b : Nat} {w : World} {c : Array Value} {z : Nat × Nat} (k : Nat) (h : w.heap[b]? = some (.cells c 119 z)) : (method (k + 1) 117 (.pointer (some ⟨b, 0, none⟩)) "levee/group.row").run Tryz.prog w = .ok (154, .agg #[]) w :=
 method_emb (n := 0) h (by kernel_rfl) (by kernel_rfl) (by kernel_rfl) Tryz.underlying119 (by rfl) (fun _ => by kernel_rfl) (fun _ => by kernel_rfl)
theorem m_ext_row {b : Nat} {w : World} {c : Array Value} {z : Nat × Nat} (k : Nat) (h : w.heap[b]? = some (.cells c 122 z)) : (method (k + 1) 120 (.pointer (some ⟨b, 0, none⟩)) "levee/group.row").run Tryz.prog w = .ok (154, .agg #[]) w :=
 method_emb (n := 0) h (by kernel_rfl) (by kernel_rfl) (by kernel_rfl) Tryz.underlying122 (by rfl) (fun _ => by kernel_rfl) (fun _ => by kernel_rfl)
end Go.Proofs.YtldaoepemofhlaaGreatDoor
namespace Go.Proofs.YtldaoepemofhlaaGreatDoor
open Go
def cntB : Bg → Int
 | [] => 0
 | x :: b => x.2 + cntB b
theorem cntB_app (a b : Bg) : cntB (a ++ b) = cntB a + cntB b := by
 induction a with
 | nil => simp [cntB]
 | cons x a ih => simp only [List.cons_append, cntB, ih]; omega
def sumF (f : Int → Int) (i : Int) : Bg → Int
 | [] => 0
 | x :: b => (if (atR x.1 i).k = 2 then f (atR x.1 i).n * x.2 else 0) + sumF f i b
theorem sumF_app (f : Int → Int) (i : Int) (a b : Bg) : sumF f i (a ++ b) = sumF f i a + sumF f i b := by
 induction a with
 | nil => simp [sumF]
 | cons x a ih => simp only [List.cons_append, sumF, ih]; omega
def anyI (i : Int) (b : Bg) : Bool := b.any fun x => decide ((atR x.1 i).k = 2)
def extV (t : Int) (z v : Val) : Val := if v.k = 0 then z else if z.k = 0 ∨ cmpV v z = t then v else z
def extB (t i : Int) (b : Bg) : Val := b.foldl (fun z x => extV t z (atR x.1 i)) nl
def aggR (fn i : Int) (b : Bg) : Val × Int :=
 if fn = 0 then (⟨2, cntB b, ⟨#[]⟩⟩, 0)
 else if fn = 1 then
  if anyI i b then
   if -9223372036854775808 ≤ sumF id i b ∧ sumF id i b ≤ 9223372036854775807 then (⟨2, sumF id i b, ⟨#[]⟩⟩, 0) else (nl, 110)
  else (nl, 0)
 else if fn = 2 then (extB (-1) i b, 0)
 else if fn = 3 then (extB 1 i b, 0)
 else (nl, 0)
def refR (b : Bg) : Int := if mayBag b then (if b.any (fun x => decide (x.2 < 0)) then 1 else if 100000 < cntB b then 100 else 0) else 1
def GOk (b : Bg) : Prop := (∀ x ∈ b, 0 ≤ x.2) ∧ cntB b ≤ 100000
theorem refR_ok {b : Bg} (h : refR b = 0) : mayBag b = true ∧ GOk b := by
 unfold refR at h
 split at h
 · next hm =>
   split at h
   · cases h
   · next hn =>
     split at h
     · cases h
     · next ht =>
       refine ⟨hm, fun x hx => ?_, by omega⟩
       rcases Int.lt_or_le x.2 0 with h1 | h1
       · exact absurd (List.any_eq_true.2 ⟨x, hx, decide_eq_true h1⟩) hn
       · exact h1
 · cases h
theorem cntB_nonneg : ∀ {b : Bg}, (∀ x ∈ b, 0 ≤ x.2) → 0 ≤ cntB b
 | [], _ => Int.le_refl _
 | x :: b, h => by
   have h1 := h x (by simp)
   have h2 := cntB_nonneg (b := b) fun y hy => h y (List.mem_cons_of_mem _ hy)
   rw [cntB]; omega
theorem cntB_take {b : Bg} (h : GOk b) (k : Nat) : 0 ≤ cntB (b.take k) ∧ cntB (b.take k) ≤ 100000 := by
 have h1 := cntB_nonneg (b := b.take k) fun x hx => h.1 x (List.mem_of_mem_take hx)
 have h2 := cntB_nonneg (b := b.drop k) fun x hx => h.1 x (List.mem_of_mem_drop hx)
 have h3 := cntB_app (b.take k) (b.drop k)
 rw [List.take_append_drop] at h3
 have := h.2
 omega
theorem cntB_more {b : Bg} {k : Nat} {x : List Val × Int} (h : b[k]? = some x) : cntB (b.take (k + 1)) = cntB (b.take k) + x.2 := by
 rw [List.take_add_one, h, cntB_app]
 show _ + (x.2 + 0) = _
 omega
theorem GOk.n {b : Bg} (h : GOk b) {k : Nat} {x : List Val × Int} (hx : b[k]? = some x) : 0 ≤ x.2 ∧ x.2 ≤ 100000 := by
 have h1 := cntB_take h k
 have h2 := cntB_take h (k + 1)
 rw [cntB_more hx] at h2
 exact ⟨h.1 x (List.mem_of_getElem? hx), by omega⟩
theorem mulg_le {f P n : Int} (hf : -P ≤ f ∧ f ≤ P) (hn : 0 ≤ n) : -(P * n) ≤ f * n ∧ f * n ≤ P * n := by
 have h1 := Int.mul_le_mul_of_nonneg_right hf.1 hn
 have h2 := Int.mul_le_mul_of_nonneg_right hf.2 hn
 rw [Int.neg_mul] at h1
 exact ⟨h1, h2⟩
theorem sumF_bd {f : Int → Int} {P i : Int} (hP : 0 ≤ P) : ∀ {b : Bg}, (∀ x ∈ b, 0 ≤ x.2) → (∀ x ∈ b, -P ≤ f (atR x.1 i).n ∧ f (atR x.1 i).n ≤ P) → -(P * cntB b) ≤ sumF f i b ∧ sumF f i b ≤ P * cntB b
 | [], _, _ => by simp [sumF, cntB]
 | x :: b, h, hf => by
   have h1 := sumF_bd hP (b := b) (fun y hy => h y (List.mem_cons_of_mem _ hy)) fun y hy => hf y (List.mem_cons_of_mem _ hy)
   have h2 := mulg_le (hf x (by simp)) (h x (by simp))
   have h3 : 0 ≤ P * x.2 := Int.mul_nonneg hP (h x (by simp))
   rw [sumF, cntB, Int.mul_add]
   split <;> omega
theorem sumF_more {f : Int → Int} {i : Int} {b : Bg} {k : Nat} {x : List Val × Int} (h : b[k]? = some x) : sumF f i (b.take (k + 1)) = sumF f i (b.take k) + (if (atR x.1 i).k = 2 then f (atR x.1 i).n * x.2 else 0) := by
 rw [List.take_add_one, h, sumF_app]
 show _ + ((if (atR x.1 i).k = 2 then f (atR x.1 i).n * x.2 else 0) + 0) = _
 omega
theorem anyI_more {i : Int} {b : Bg} {k : Nat} {x : List Val × Int} (h : b[k]? = some x) : anyI i (b.take (k + 1)) = (anyI i (b.take k) || decide ((atR x.1 i).k = 2)) := by
 unfold anyI
 rw [List.take_add_one, h, List.any_append]
 congr 1
 exact Bool.or_false _
theorem extB_more {t i : Int} {b : Bg} {k : Nat} {x : List Val × Int} (h : b[k]? = some x) : extB t i (b.take (k + 1)) = extV t (extB t i (b.take k)) (atR x.1 i) := by
 unfold extB
 rw [List.take_add_one, h, List.foldl_append]
 rfl
theorem sumF_split (i : Int) : ∀ b : Bg, sumF id i b = sumF (fun n => n / 4294967296) i b * 4294967296 + sumF (fun n => n % 4294967296) i b
 | [] => rfl
 | x :: b => by
   rw [sumF, sumF, sumF, sumF_split i b]
   split
   · have h1 := Int.mul_ediv_add_emod (atR x.1 i).n 4294967296
     have h2 : id (atR x.1 i).n * x.2 = (atR x.1 i).n / 4294967296 * x.2 * 4294967296 + (atR x.1 i).n % 4294967296 * x.2 := by
      show (atR x.1 i).n * x.2 = _
      rw [Int.mul_right_comm, ← Int.add_mul]
      congr 1
      omega
     rw [h2, Int.add_mul]
     omega
   · omega
end Go.Proofs.YtldaoepemofhlaaGreatDoor
namespace Go.Proofs.YtldaoepemofhlaaGreatDoor
open Go Go.RowKit
set_option maxRecDepth 100000
attribute [local go_sem ↓] Go.wp_at_zero Go.wp_at_succ
def Bf (w : World) (b : Nat) (cs : Array Value) (T : TypeId) : Prop := w.heap[b]? = some (.cells cs T (0, 0))
theorem Bf.lt {w : World} {b : Nat} {cs : Array Value} {T : TypeId} (h : Bf w b cs T) : b < w.heap.size := by
 rcases Nat.lt_or_ge b w.heap.size with h1 | hge
 · exact h1
 · unfold Bf at h; rw [Array.getElem?_eq_none hge] at h; cases h
theorem Bf.cell {w : World} {b : Nat} {cs : Array Value} {T : TypeId} (h : Bf w b cs T) (j : Nat) : w.cell? ⟨b, j, none⟩ = cs[j]? := by unfold Bf at h; simp [World.cell?, h]
theorem Bf.thaw {w : World} {b : Nat} {cs : Array Value} {T : TypeId} (h : Bf w b cs T) (j : Nat) : w.frozen? ⟨b, j, none⟩ = false := by unfold Bf at h; simp [World.frozen?, h]
theorem Bf.after {w w' : World} {b B : Nat} {cs : Array Value} {T : TypeId} (h : Bf w b cs T) (hb : Below B w w') (hB : b < B) : Bf w' b cs T := (hb.block b hB).trans h
theorem Bf.drew {w : World} {b : Nat} {cs : Array Value} {T : TypeId} (h : Bf w b cs T) : Bf w.drew b cs T := h
theorem Bf.new (w : World) (cs : Array Value) (T : TypeId) : Bf (w.alloc (.cells cs T)) w.heap.size cs T := by
 unfold Bf
 show (w.heap.push _)[w.heap.size]? = _
 simp
theorem Bf.set {w : World} {b : Nat} {cs : Array Value} {T : TypeId} (h : Bf w b cs T) (j : Nat) (v : Value) : Bf (w.setCell ⟨b, j, none⟩ v) b (cs.setIfInBounds j v) T := by
 unfold Bf at *
 simp [World.setCell, Array.getElem?_modify, h]
theorem Bf.over {w : World} {b : Nat} {cs : Array Value} {T : TypeId} (h : Bf w b cs T) (o : Obj) : Bf (w.alloc o) b cs T := h.after (below_one w o) h.lt
theorem count_row_c (b : Nat) (k n : Int) (w : World) (h : Bf w b #[.int .i64 k] 116) (hk : -9223372036854775808 ≤ k + n ∧ k + n ≤ 9223372036854775807) :
 Calls Tryz.prog 150 #[.pointer (some ⟨b, 0, none⟩), .int .i64 n] w fun e w' => e = .returned (.tuple #[]) ∧ w' = w.setCell ⟨b, 0, none⟩ (.int .i64 (k + n)) := by
 have c0 : w.cell? ⟨b, 0, none⟩ = some (.int .i64 k) := h.cell 0
 have t0 := h.thaw 0
 have l0 := h.lt
 have hw : IntKind.i64.wrap (k + n) = k + n := by rw [IntKind.wrap_i64]; omega
 clear h
 go_enter Tryz.func150, Tryz.ntmps150
 go_wp2_with fail
 go_end0
 exact ⟨rfl, rfl⟩
theorem nothing_row_c (n : Int) (w : World) : Calls Tryz.prog 154 #[.agg #[], .int .i64 n] w fun e w' => e = .returned (.tuple #[]) ∧ Below w.heap.size w w' := by
 go_enter Tryz.func154, Tryz.ntmps154
 go_wp2_with fail
 go_end0
 exact ⟨rfl, below_one _ _⟩
theorem nothing_value_c (x : Val) (n : Int) (w : World) : Calls Tryz.prog 151 #[.agg #[], x.v, .int .i64 n] w fun e w' => e = .returned (.tuple #[]) ∧ Below w.heap.size w w' := by
 go_enter Tryz.func151, Tryz.ntmps151
 go_wp2_with fail
 go_end0
 exact ⟨rfl, below_two _ _ _⟩
theorem nothing_result_c (w : World) : Calls Tryz.prog 153 #[.agg #[]] w fun e w' => e = .returned (.tuple #[nl.v, .int .i64 0]) ∧ Below w.heap.size w w' := by
 go_enter Tryz.func153, Tryz.ntmps153
 go_wp2_with fail
 exact ret_valE (a := nl) Tryz.results153 rfl rfl (Bx.new1 w nl _) rfl ⟨rfl, below_two _ _ _⟩
theorem number_c (n : Int) (w : World) : Calls Tryz.prog 152 #[.int .i64 n] w fun e w' => e = .returned (iv n).v ∧ Below w.heap.size w w' := by
 go_enter Tryz.func152, Tryz.ntmps152
 go_wp2_with fail
 exact ret_val (a := iv n) Tryz.results152 rfl (Bx.new w (iv n)) rfl ⟨rfl, below_one _ _⟩
theorem put3s_below {B b : Nat} {w0 w1 : World} (h : Below B w0 w1) (hB : B ≤ b) (u v s : Value) : Below B w0 (((w1.setCell ⟨b, 0, none⟩ u).setCell ⟨b, 1, none⟩ v).setCell ⟨b, 2, none⟩ s) :=
 ((h.setCell hB (p := ⟨b, 0, none⟩) u).setCell hB (p := ⟨b, 1, none⟩) v).setCell hB (p := ⟨b, 2, none⟩) s
theorem put3_box {b : Nat} {w : World} {c0 c1 c2 : Value} (h : Bf w b #[c0, c1, c2] 39) (x : Val) : Bx (((w.setCell ⟨b, 0, none⟩ (.int .i64 x.k)).setCell ⟨b, 1, none⟩ (.int .i64 x.n)).setCell ⟨b, 2, none⟩ (.string x.s)) b x :=
 ((h.set 0 _).set 1 _).set 2 _
theorem box_after {w w1 : World} {cs : Array Value} {T : TypeId} (h : Below (w.alloc (.cells cs T)).heap.size (w.alloc (.cells cs T)) w1) : Bf w1 w.heap.size cs T ∧ Below w.heap.size w w1 ∧ w.heap.size < w1.heap.size :=
 ⟨(Bf.new w cs T).after h (by simp), below_via (below_one _ _) h, Nat.lt_of_lt_of_le (by simp) h.size⟩
theorem box_afterD {w w1 : World} {cs : Array Value} {T : TypeId} (h : Below (w.alloc (.cells cs T)).drew.heap.size (w.alloc (.cells cs T)).drew w1) : Bf w1 w.heap.size cs T ∧ Below w.heap.size w w1 ∧ w.heap.size < w1.heap.size :=
 ⟨(Bf.new w cs T).drew.after h (show w.heap.size < (w.alloc (.cells cs T)).heap.size by simp), below_via (below_one _ _).drew h, Nat.lt_of_lt_of_le (show w.heap.size < (w.alloc (.cells cs T)).heap.size by simp) h.size⟩
theorem count_result_c (b : Nat) (k : Int) (w : World) (h : Bf w b #[.int .i64 k] 116) :
 Calls Tryz.prog 149 #[.pointer (some ⟨b, 0, none⟩)] w fun e w' => e = .returned (.tuple #[(iv k).v, .int .i64 0]) ∧ Below w.heap.size w w' := by
 have c0 : w.cell? ⟨b, 0, none⟩ = some (.int .i64 k) := h.cell 0
 have l0 := h.lt
 clear h
 go_enter Tryz.func149, Tryz.ntmps149
 go_wp2_with fail
 refine (number_c k _).mono ?_
 rintro e w1 ⟨rfl, hb1⟩
 obtain ⟨hB, hb, lb⟩ := box_after hb1
 have HB := Lib.hid hB
 have Hb := Lib.hid hb
 have e0 := hB.cell 0
 have e1 := hB.cell 1
 have e2 := hB.cell 2
 have t0 := hB.thaw 0
 have t1 := hB.thaw 1
 have t2 := hB.thaw 2
 clear hb1 hB hb c0
 go_wp2_with fail
 exact ret_valE (a := iv k) Tryz.results149 rfl rfl (put3_box HB.out (iv k)) rfl ⟨rfl, put3s_below Hb.out (Nat.le_refl _) _ _ _⟩
theorem ofInt_nat (x : Int) : (BitVec.ofInt 64 x).toNat = (x % 18446744073709551616).toNat := by
 rw [BitVec.toNat_ofInt]
 rfl
theorem and64 (x : Int) : bits .and .i64 x 4294967295 = x % 4294967296 := by
 have h1 : bits .and .i64 x 4294967295 = IntKind.i64.wrap (((BitVec.ofInt 64 x &&& BitVec.ofInt 64 4294967295).toNat : Nat) : Int) := rfl
 have h2 : (BitVec.ofInt 64 4294967295).toNat = 2 ^ 32 - 1 := by decide
 rw [h1, BitVec.toNat_and, h2, Nat.and_two_pow_sub_one_eq_mod, ofInt_nat, IntKind.wrap_i64]
 omega
theorem or64 {x y : Int} (hx : x % 4294967296 = 0) (h1 : -9223372036854775808 ≤ x ∧ x ≤ 9223372036854775807) (hy : 0 ≤ y ∧ y < 4294967296) : bits .or .i64 x y = x + y := by
 have h2 : bits .or .i64 x y = IntKind.i64.wrap (((BitVec.ofInt 64 x ||| BitVec.ofInt 64 y).toNat : Nat) : Int) := rfl
 have h3 : (x % 18446744073709551616).toNat = 2 ^ 32 * ((x % 18446744073709551616).toNat / 2 ^ 32) := by omega
 rw [h2, BitVec.toNat_or, ofInt_nat, ofInt_nat, h3, ← Nat.two_pow_add_eq_or_of_lt (by omega), ← h3, IntKind.wrap_i64]
 omega
theorem mulN {x P n : Int} (hx : -P ≤ x ∧ x ≤ P) (hn : 0 ≤ n ∧ n ≤ 100000) (hP : 0 ≤ P) : -(P * 100000) ≤ x * n ∧ x * n ≤ P * 100000 := by
 have h1 := mulg_le hx hn.1
 have h2 := Int.mul_le_mul_of_nonneg_left hn.2 hP
 omega
theorem sum_value_c (b : Nat) (x : Val) (sm : Bool) (h l n : Int) (w : World) (hB : Bf w b #[.bool sm, .int .i64 h, .int .i64 l] 119) (hx : x.k = 2) (hn : 0 ≤ n ∧ n ≤ 100000) (hh : -1000000000000000 ≤ h ∧ h ≤ 1000000000000000) (hl : 0 ≤ l ∧ l ≤ 1000000000000000) (hx64 : -9223372036854775808 ≤ x.n ∧ x.n ≤ 9223372036854775807) :
 Calls Tryz.prog 156 #[.pointer (some ⟨b, 0, none⟩), x.v, .int .i64 n] w fun e w' => e = .returned (.tuple #[]) ∧ (∀ B, B ≤ b → B ≤ w.heap.size → Below B w w') ∧ Bf w' b #[.bool true, .int .i64 (h + x.n / 4294967296 * n), .int .i64 (l + x.n % 4294967296 * n)] 119 := by
 have c0 : w.cell? ⟨b, 0, none⟩ = some (.bool sm) := hB.cell 0
 have c1 : w.cell? ⟨b, 1, none⟩ = some (.int .i64 h) := hB.cell 1
 have c2 : w.cell? ⟨b, 2, none⟩ = some (.int .i64 l) := hB.cell 2
 have t0 := hB.thaw 0
 have t1 := hB.thaw 1
 have t2 := hB.thaw 2
 have l0 := hB.lt
 have HB := Lib.hid hB
 clear hB
 have hx2 : (x.k != 2) = false := by simp [hx]
 have m1 := mulN (P := 2147483648) (x := x.n / 4294967296) (by omega) hn (by decide)
 have m2 := mulN (P := 4294967296) (x := x.n % 4294967296) (by omega) hn (by decide)
 have m3 : 0 ≤ x.n % 4294967296 * n := Int.mul_nonneg (by omega) hn.1
 have w1 : wrap64 (x.n / 4294967296 * n) = x.n / 4294967296 * n := by unfold wrap64; omega
 have w2 : wrap64 (h + x.n / 4294967296 * n) = h + x.n / 4294967296 * n := by unfold wrap64; omega
 have w3 : wrap64 (x.n % 4294967296 * n) = x.n % 4294967296 * n := by unfold wrap64; omega
 have w4 : wrap64 (l + x.n % 4294967296 * n) = l + x.n % 4294967296 * n := by unfold wrap64; omega
 have w5 := and64 x.n
 clear m1 m2 m3
 go_enter Tryz.func156, Tryz.ntmps156
 go_wp2_with fail
 go_region
 go_wp2_with fail
 go_region
 go_end0
 exact ⟨rfl, fun B hB1 hB2 => (((((Below.refl B w).setCell hB1 (p := ⟨b, 0, none⟩) _).setCell hB1 (p := ⟨b, 1, none⟩) _).setCell hB1 (p := ⟨b, 2, none⟩) _).alloc (by simp [World.setCell]; exact hB2) _).drew.drew,
  (((HB.out.set 0 _).set 1 _).set 2 _).over _⟩
def sumV (sm : Bool) (h l : Int) : Val × Int := if sm then (if -9223372036854775808 ≤ h * 4294967296 + l ∧ h * 4294967296 + l ≤ 9223372036854775807 then (iv (h * 4294967296 + l), 0) else (nl, 110)) else (nl, 0)
theorem sum_result_c (b : Nat) (sm : Bool) (h l : Int) (w : World) (hB : Bf w b #[.bool sm, .int .i64 h, .int .i64 l] 119) (hh : -1000000000000000 ≤ h ∧ h ≤ 1000000000000000) (hl : 0 ≤ l ∧ l ≤ 1000000000000000) :
 Calls Tryz.prog 155 #[.pointer (some ⟨b, 0, none⟩)] w fun e w' => e = .returned (.tuple #[(sumV sm h l).1.v, .int .i64 (sumV sm h l).2]) ∧ Below w.heap.size w w' := by
 have c0 : w.cell? ⟨b, 0, none⟩ = some (.bool sm) := hB.cell 0
 have c1 : w.cell? ⟨b, 1, none⟩ = some (.int .i64 h) := hB.cell 1
 have c2 : w.cell? ⟨b, 2, none⟩ = some (.int .i64 l) := hB.cell 2
 have l0 := hB.lt
 have HB := Lib.hid hB
 clear hB
 cases sm
 · obtain ⟨a, ha⟩ := part0 (byte0 (n := 0) (show (w.alloc (.cells #[.int .i64 0, .int .i64 0, .string ⟨#[]⟩] 39)).heap[b]? = some (.cells #[.bool false, .int .i64 h, .int .i64 l] 119 (0, 0)) from HB.out.over _) (by kernel_rfl) (by kernel_rfl))
   have hS : sumV false h l = (nl, 0) := rfl
   rw [hS]
   have hf0 : (Instr.fieldAt 119 (.pointer (some ⟨b, 0, none⟩)) 0).run Tryz.prog (w.alloc (.cells #[.int .i64 0, .int .i64 0, .string ⟨#[]⟩] 39)) = .ok (.pointer (some a)) (w.alloc (.cells #[.int .i64 0, .int .i64 0, .string ⟨#[]⟩] 39)) := by
    have hz : ∀ w : World, (Go.sizeOf 114).run Tryz.prog w = .ok 0 w := fun _ => by kernel_rfl
    simp [Instr.fieldAt, run_underlying Tryz.underlying119, Instr.sureAddr, fieldPlace, hz, ha]
   have hl0 := load0 a
   clear hS
   go_enter Tryz.func155, Tryz.ntmps155
   go_wp2_with fail
   refine (nothing_result_c _).mono ?_
   rintro e w1 ⟨rfl, hb1⟩
   obtain ⟨hB, hb, lb⟩ := box_after hb1
   have HB1 := Lib.hid hB
   have Hb := Lib.hid hb
   have e0 := hB.cell 0
   have e1 := hB.cell 1
   have e2 := hB.cell 2
   have t0 := hB.thaw 0
   have t1 := hB.thaw 1
   have t2 := hB.thaw 2
   clear hb1 hB hb c0
   go_wp2_with fail
   exact ret_valE (a := nl) Tryz.results155 rfl rfl (put3_box HB1.out nl) rfl ⟨rfl, put3s_below Hb.out (Nat.le_refl _) _ _ _⟩
 · by_cases hfit : -9223372036854775808 ≤ h * 4294967296 + l ∧ h * 4294967296 + l ≤ 9223372036854775807
   · have hS : sumV true h l = (iv (h * 4294967296 + l), 0) := by unfold sumV; rw [if_pos rfl, if_pos hfit]
     rw [hS]
     have w1 : wrap64 (h + l / 4294967296) = h + l / 4294967296 := by unfold wrap64; omega
     have w2 : wrap32 (h + l / 4294967296) = h + l / 4294967296 := by unfold wrap32; omega
     have w4 : wrap64 ((h + l / 4294967296) * 4294967296) = (h + l / 4294967296) * 4294967296 := by unfold wrap64; omega
     have w5 := and64 l
     have w6 : bits .or .i64 ((h + l / 4294967296) * 4294967296) (l % 4294967296) = h * 4294967296 + l := by rw [or64 (by omega) (by omega) (by omega)]; omega
     have w3 : (h + l / 4294967296 != h + l / 4294967296) = false := by simp
     clear hS hfit hh hl
     go_enter Tryz.func155, Tryz.ntmps155
     go_wp2_with fail
     go_region
     go_wp2_with fail
     refine (number_c (h * 4294967296 + l) _).mono ?_
     rintro e w1 ⟨rfl, hb1⟩
     obtain ⟨hB, hb, lb⟩ := box_afterD hb1
     have HB1 := Lib.hid hB
     have Hb := Lib.hid hb
     have e0 := hB.cell 0
     have e1 := hB.cell 1
     have e2 := hB.cell 2
     have t0 := hB.thaw 0
     have t1 := hB.thaw 1
     have t2 := hB.thaw 2
     clear hb1 hB hb c0
     go_wp2_with fail
     exact ret_valE (a := iv (h * 4294967296 + l)) Tryz.results155 rfl rfl (put3_box HB1.out (iv (h * 4294967296 + l))) rfl ⟨rfl, put3s_below Hb.out (Nat.le_refl _) _ _ _⟩
   · have hS : sumV true h l = (nl, 110) := by unfold sumV; rw [if_pos rfl, if_neg hfit]
     rw [hS]
     have w1 : wrap64 (h + l / 4294967296) = h + l / 4294967296 := by unfold wrap64; omega
     have w3 : (h + l / 4294967296 != wrap64 (wrap32 (h + l / 4294967296))) = true := by
      rw [bne_iff_ne]
      intro h1
      unfold wrap64 wrap32 at h1
      omega
     clear hS hfit hh hl
     go_enter Tryz.func155, Tryz.ntmps155
     go_wp2_with fail
     go_region
     go_wp2_with fail
     exact ret_valE (a := nl) Tryz.results155 rfl rfl (Bx.new w nl) rfl ⟨rfl, (below_one _ _).drew⟩
theorem ext_value0_c (b : Nat) (x : Val) (t n : Int) (z : Val) (w : World) (hB : Bf w b #[.int .i64 t, .int .i64 z.k, .int .i64 z.n, .string z.s] 122) (hz : z.k = 0) :
 Calls Tryz.prog 158 #[.pointer (some ⟨b, 0, none⟩), x.v, .int .i64 n] w fun e w' => e = .returned (.tuple #[]) ∧ (∀ B, B ≤ b → B ≤ w.heap.size → Below B w w') ∧ Bf w' b #[.int .i64 t, .int .i64 x.k, .int .i64 x.n, .string x.s] 122 := by
 have c0 : w.cell? ⟨b, 0, none⟩ = some (.int .i64 t) := hB.cell 0
 have c1 : w.cell? ⟨b, 1, none⟩ = some (.int .i64 z.k) := hB.cell 1
 have c2 : w.cell? ⟨b, 2, none⟩ = some (.int .i64 z.n) := hB.cell 2
 have c3 : w.cell? ⟨b, 3, none⟩ = some (.string z.s) := hB.cell 3
 have t1 := hB.thaw 1
 have t2 := hB.thaw 2
 have t3 := hB.thaw 3
 have l0 := hB.lt
 have HB := Lib.hid hB
 clear hB
 have hz2 : (z.k == 0) = true := by simp [hz]
 clear hz
 go_enter Tryz.func158, Tryz.ntmps158
 go_wp2_with fail
 go_region
 go_wp2_with fail
 go_end0
 exact ⟨rfl, fun B hB1 hB2 => (((((Below.refl B w).setCell hB1 (p := ⟨b, 1, none⟩) _).setCell hB1 (p := ⟨b, 2, none⟩) _).setCell hB1 (p := ⟨b, 3, none⟩) _).alloc (by simp [World.setCell]; exact hB2) _).drew,
  (((HB.out.set 1 _).set 2 _).set 3 _).over _⟩
theorem ext_value1_c (b : Nat) (x : Val) (t n : Int) (z : Val) (w : World) (hB : Bf w b #[.int .i64 t, .int .i64 z.k, .int .i64 z.n, .string z.s] 122) (hz : z.k ≠ 0) :
 Calls Tryz.prog 158 #[.pointer (some ⟨b, 0, none⟩), x.v, .int .i64 n] w fun e w' => e = .returned (.tuple #[]) ∧ (∀ B, B ≤ b → B ≤ w.heap.size → Below B w w') ∧
  Bf w' b #[.int .i64 t, .int .i64 (if cmpV x z = t then x else z).k, .int .i64 (if cmpV x z = t then x else z).n, .string (if cmpV x z = t then x else z).s] 122 := by
 have c0 : w.cell? ⟨b, 0, none⟩ = some (.int .i64 t) := hB.cell 0
 have c1 : w.cell? ⟨b, 1, none⟩ = some (.int .i64 z.k) := hB.cell 1
 have c2 : w.cell? ⟨b, 2, none⟩ = some (.int .i64 z.n) := hB.cell 2
 have c3 : w.cell? ⟨b, 3, none⟩ = some (.string z.s) := hB.cell 3
 have l0 := hB.lt
 have HB := Lib.hid hB
 clear hB
 have hz2 : (z.k == 0) = false := by simp [hz]
 clear hz
 obtain ⟨W, hW⟩ : ∃ W, w.alloc (.cells #[.int .i64 x.k, .int .i64 x.n, .string x.s] 39) = W := ⟨_, rfl⟩
 have HX : Hid (Bf W w.heap.size #[.int .i64 x.k, .int .i64 x.n, .string x.s] 39) := Lib.hid (by rw [← hW]; exact Bf.new w _ _)
 have HBW : Hid (Bf W b #[.int .i64 t, .int .i64 z.k, .int .i64 z.n, .string z.s] 122) := Lib.hid (by rw [← hW]; exact HB.out.over _)
 have Hb0 : Hid (Below w.heap.size w W) := Lib.hid (by rw [← hW]; exact below_one _ _)
 have HS : Hid (∀ w9, Below W.heap.size W w9 → w9.cell? ⟨b, 0, none⟩ = some (.int .i64 t) ∧ w9.cell? ⟨b, 1, none⟩ = some (.int .i64 z.k) ∧ w9.cell? ⟨b, 2, none⟩ = some (.int .i64 z.n) ∧ w9.cell? ⟨b, 3, none⟩ = some (.string z.s) ∧ w9.cell? ⟨w.heap.size, 0, none⟩ = some (.int .i64 x.k) ∧ w9.cell? ⟨w.heap.size, 1, none⟩ = some (.int .i64 x.n) ∧ w9.cell? ⟨w.heap.size, 2, none⟩ = some (.string x.s)) := Lib.hid fun w9 h9 => by
  have h1 := HBW.out.after h9 HBW.out.lt
  have h2 := HX.out.after h9 HX.out.lt
  exact ⟨h1.cell 0, h1.cell 1, h1.cell 2, h1.cell 3, h2.cell 0, h2.cell 1, h2.cell 2⟩
 obtain ⟨R, hR⟩ : ∃ R, (if cmpV x z = t then x else z) = R := ⟨_, rfl⟩
 have HR := Lib.hid hR
 rw [hR]
 clear hR
 go_enter Tryz.func158, Tryz.ntmps158
 go_upto_region 1 with fail
 clear hW
 have HC : Hid (Below W.heap.size W W) := Lib.hid (Below.refl _ _)
 obtain ⟨s0, s1, s2, s3, s4, s5, s6⟩ := HS.out _ HC.out
 have lW : b < W.heap.size := HBW.out.lt
 have lX : w.heap.size < W.heap.size := HX.out.lt
 clear c0 c1 c2 c3
 go_region_held3 (fun w9 => w9.cell? ⟨b, 0, none⟩ = some (.int .i64 t) ∧ w9.cell? ⟨b, 1, none⟩ = some (.int .i64 z.k) ∧ w9.cell? ⟨b, 2, none⟩ = some (.int .i64 z.n) ∧ w9.cell? ⟨b, 3, none⟩ = some (.string z.s) ∧ w9.cell? ⟨w.heap.size, 0, none⟩ = some (.int .i64 x.k) ∧ w9.cell? ⟨w.heap.size, 1, none⟩ = some (.int .i64 x.n) ∧ w9.cell? ⟨w.heap.size, 2, none⟩ = some (.string x.s)) (first | exact HS.out _ HC.out | exact HS.out _ HC.out.drew | go_keep)
  (first
    | (go_at_call 75
       refine (compare_c x z _).mono ?_
       rintro en w9 ⟨rfl, hb9⟩
       replace HC : Hid (Below W.heap.size W w9) := Lib.hid (by first | exact below_via HC.out hb9 | exact below_via HC.out.drew hb9)
       clear hb9))
 have hHeld := HS.out _ HC.out
 have B9 := HBW.out.after HC.out HBW.out.lt
 have HB9 := Lib.hid B9
 have t1 := B9.thaw 1
 have t2 := B9.thaw 2
 have t3 := B9.thaw 3
 have l9 := B9.lt
 obtain ⟨_, _, _, _, u4, u5, u6⟩ := hHeld
 have lX9 : w.heap.size < w9.heap.size := Nat.lt_of_lt_of_le lX HC.out.size
 have Hb9 := Lib.hid (below_via Hb0.out HC.out)
 clear B9 s0 s1 s2 s3 s4 s5 s6 HS HBW HX HB
 obtain ⟨D, hD⟩ : ∃ D : Bool, (cmpV x z == t) = D := ⟨_, rfl⟩
 rw [hD]
 have HD := Lib.hid hD
 clear hD
 cases D
 · go_wp2_with fail
   go_end0
   have h1 : R = z := by rw [← HR.out, if_neg]; intro h; have := HD.out; rw [h, beq_self_eq_true] at this; cases this
   rw [h1]
   exact ⟨rfl, fun B hB1 hB2 => Hb9.out.mono hB2, HB9.out⟩
 · go_wp2_with fail
   go_end0
   have h1 : R = x := by rw [← HR.out, if_pos]; exact eq_of_beq HD.out
   rw [h1]
   exact ⟨rfl, fun B hB1 hB2 => (((Hb9.out.mono hB2).setCell hB1 (p := ⟨b, 1, none⟩) _).setCell hB1 (p := ⟨b, 2, none⟩) _).setCell hB1 (p := ⟨b, 3, none⟩) _, ((HB9.out.set 1 _).set 2 _).set 3 _⟩
theorem ext_result_c (b : Nat) (t : Int) (z : Val) (w : World) (hB : Bf w b #[.int .i64 t, .int .i64 z.k, .int .i64 z.n, .string z.s] 122) :
 Calls Tryz.prog 157 #[.pointer (some ⟨b, 0, none⟩)] w fun e w' => e = .returned (.tuple #[z.v, .int .i64 0]) ∧ Below w.heap.size w w' := by
 have c1 : w.cell? ⟨b, 1, none⟩ = some (.int .i64 z.k) := hB.cell 1
 have c2 : w.cell? ⟨b, 2, none⟩ = some (.int .i64 z.n) := hB.cell 2
 have c3 : w.cell? ⟨b, 3, none⟩ = some (.string z.s) := hB.cell 3
 have l0 := hB.lt
 clear hB
 go_enter Tryz.func157, Tryz.ntmps157
 go_wp2_with fail
 exact ret_valE (a := z) Tryz.results157 rfl rfl (Bx.new w z) rfl ⟨rfl, below_one _ _⟩
structure Fold (w : World) (fn : Int) (f : Value) (w' : World) : Prop where
 below : Below w.heap.size w w'
 cnt : fn = 0 → ∃ b, f = .iface 112 (.pointer (some ⟨b, 0, none⟩)) ∧ w.heap.size ≤ b ∧ Bf w' b #[.int .i64 0] 116
 sum : fn = 1 → ∃ b, f = .iface 117 (.pointer (some ⟨b, 0, none⟩)) ∧ w.heap.size ≤ b ∧ Bf w' b #[.bool false, .int .i64 0, .int .i64 0] 119
 lo : fn = 2 → ∃ b, f = .iface 120 (.pointer (some ⟨b, 0, none⟩)) ∧ w.heap.size ≤ b ∧ Bf w' b #[.int .i64 (-1), .int .i64 0, .int .i64 0, .string ⟨#[]⟩] 122
 hi : fn = 3 → ∃ b, f = .iface 120 (.pointer (some ⟨b, 0, none⟩)) ∧ w.heap.size ≤ b ∧ Bf w' b #[.int .i64 1, .int .i64 0, .int .i64 0, .string ⟨#[]⟩] 122
 non : fn ≠ 0 → fn ≠ 1 → fn ≠ 2 → fn ≠ 3 → f = .iface 114 (.agg #[])
theorem folding_c (fn : Int) (w : World) : Calls Tryz.prog 54 #[.int .i64 fn] w fun e w' => ∃ f, e = .returned f ∧ Fold w fn f w' := by
 by_cases h0 : fn = 0
 · subst h0
   go_enter Tryz.func54, Tryz.ntmps54
   go_wp2_with fail
   go_ret
   exact ⟨_, rfl, below_one _ _, fun _ => ⟨_, rfl, Nat.le_refl _, Bf.new _ _ _⟩, by simp, by simp, by simp, by simp⟩
 have e0 : (fn == 0) = false := by simp [h0]
 by_cases h1 : fn = 1
 · subst h1
   go_enter Tryz.func54, Tryz.ntmps54
   go_wp2_with fail
   go_ret
   exact ⟨_, rfl, below_one _ _, by simp, fun _ => ⟨_, rfl, Nat.le_refl _, Bf.new _ _ _⟩, by simp, by simp, by simp⟩
 have e1 : (fn == 1) = false := by simp [h1]
 by_cases h2 : fn = 2
 · subst h2
   go_enter Tryz.func54, Tryz.ntmps54
   go_wp2_with fail
   go_ret
   exact ⟨_, rfl, below_one _ _, by simp, by simp, fun _ => ⟨_, rfl, Nat.le_refl _, Bf.new _ _ _⟩, by simp, by simp⟩
 have e2 : (fn == 2) = false := by simp [h2]
 by_cases h3 : fn = 3
 · subst h3
   go_enter Tryz.func54, Tryz.ntmps54
   go_wp2_with fail
   go_ret
   exact ⟨_, rfl, below_one _ _, by simp, by simp, by simp, fun _ => ⟨_, rfl, Nat.le_refl _, Bf.new _ _ _⟩, by simp⟩
 have e3 : (fn == 3) = false := by simp [h3]
 have HF : Hid (Fold w fn (.iface 114 (.agg #[])) w) := Lib.hid ⟨Below.refl _ _, fun h => absurd h h0, fun h => absurd h h1, fun h => absurd h h2, fun h => absurd h h3, fun _ _ _ _ => rfl⟩
 clear h0 h1 h2 h3
 go_enter Tryz.func54, Tryz.ntmps54
 go_wp2_with fail
 go_ret
 exact ⟨_, rfl, HF.out⟩
theorem cnt_bd {b : Bg} (h : mayBag b = true) : ∀ k : Nat, -(1000000000 * (k : Int)) ≤ cntB (b.take k) ∧ cntB (b.take k) ≤ 1000000000 * (k : Int)
 | 0 => by simp [cntB]
 | k + 1 => by
   have ih := cnt_bd h k
   cases hx : b[k]? with
   | none =>
     rw [List.take_add_one, hx]
     show _ ≤ cntB (b.take k ++ []) ∧ cntB (b.take k ++ []) ≤ _
     rw [List.append_nil]
     omega
   | some x =>
     obtain ⟨_, h1, h2, _⟩ := okC_parts (may_okC h x (List.mem_of_getElem? hx))
     rw [cntB_more hx]
     omega
theorem any_more {b : Bg} {k : Nat} {x : List Val × Int} (h : b[k]? = some x) : (b.take (k + 1)).any (fun x => decide (x.2 < 0)) = ((b.take k).any (fun x => decide (x.2 < 0)) || decide (x.2 < 0)) := by
 rw [List.take_add_one, h, List.any_append]
 congr 1
 exact Bool.or_false _
set_option maxHeartbeats 1000000 in
theorem refusal_c (A : Option Addr) (n c : Nat) (cs : List Ct) (w : World) (hB : BgIn w A n cs) (hn : n ≤ 100000) :
 Calls Tryz.prog 28 #[.slice A n c] w fun e w' => e = .returned (.int .i64 (refR (pl cs))) ∧ Below w.heap.size w w' := by
 have HB := Lib.hid hB
 clear hB
 obtain ⟨R, hR⟩ : ∃ R, refR (pl cs) = R := ⟨_, rfl⟩
 have HR := Lib.hid hR
 rw [hR]
 clear hR
 go_enter Tryz.func28, Tryz.ntmps28
 go_wp2_with fail
 refine (mayBag_c A n c cs _ HB.out).mono ?_
 rintro e W ⟨rfl, hb⟩
 cases hm : mayBag (pl cs)
 · have hr : R = 1 := by rw [← HR.out]; unfold refR; rw [hm]; rfl
   subst hr
   go_wp2_with fail
   go_ret
   exact ⟨rfl, hb⟩
 · have Hm := Lib.hid hm
   have Hb := Lib.hid hb
   clear hm hb
   go_wp2_with fail
   go_loopw [3, 11] (fun v q wr => ∃ k : Nat, k ≤ n ∧ q = .int .i64 k ∧ v = .int .i64 (cntB ((pl cs).take k)) ∧ Hid (Below W.heap.size W wr) ∧ Hid (((pl cs).take k).any (fun x => decide (x.2 < 0)) = false)) (fun _ q _ => n - (intOf q).toNat)
   case atStart => exact ⟨0, Nat.zero_le _, rfl, rfl, Lib.hid (Below.refl _ _), Lib.hid rfl⟩
   case round =>
    obtain ⟨k, hk, rfl, rfl, hb, hany⟩ := hrel
    by_cases hlt : k < n
    · have HBr := (HB.out.after Hb.out).after hb.out
      obtain ⟨b, off, rfl⟩ := HBr.sl.some2 (k := k) (by rw [HBr.len]; exact hlt)
      obtain ⟨x, hx⟩ : ∃ x, cs[k]? = some x := ⟨_, List.getElem?_eq_getElem (by rw [HBr.len]; exact hlt)⟩
      obtain ⟨l0, d0, d1⟩ := HBr.sl.cell2 hx
      have Hmore := Lib.hid (cntB_more (pl_at hx))
      have Hbd := Lib.hid (cnt_bd Hm.out k)
      have Hbd1 := Lib.hid (cnt_bd Hm.out (k + 1))
      have Hany1 := Lib.hid (any_more (pl_at hx))
      have Hany2 : Hid (x.N < 0 → (pl cs).any (fun x => decide (x.2 < 0)) = true) := Lib.hid fun h => List.any_eq_true.2 ⟨(x.h.xs, x.N), List.mem_of_getElem? (pl_at hx), decide_eq_true h⟩
      clear hx HBr
      obtain ⟨⟨xA, xn, xc, xs⟩, N⟩ := x
      have hgo : (k : Int) < n := by omega
      obtain ⟨T, hT⟩ : ∃ T, cntB ((pl cs).take k) = T := ⟨_, rfl⟩
      have h1 : cntB ((pl cs).take (k + 1)) = cntB ((pl cs).take k) + N := Hmore.out
      have h2 := Hbd.out
      have h3 := Hbd1.out
      rw [h1] at h3
      rw [hT] at h1 h2 h3 ⊢
      have hw : wrap64 (T + N) = T + N := by unfold wrap64; omega
      have Hm1 := Lib.hid h1
      clear h1 h2 h3 Hmore Hbd Hbd1 hT
      try simp only at d0 d1
      by_cases hneg : N < 0
      · have hr : R = 1 := by
         rw [← HR.out]
         unfold refR
         rw [Hm.out, if_pos rfl, if_pos (Hany2.out hneg)]
        subst hr
        have HbF := Lib.hid (below_via Hb.out (below_via hb.out (below_one wr (.cells #[.slice xA xn xc, .int .i64 N] 49))))
        go_wp2_with fail
        go_ret
        exact ⟨rfl, HbF.out⟩
      · have hneg2 : ¬ N < 0 := hneg
        have hneg3 : 0 ≤ N := by omega
        have HbF := Lib.hid (below_via hb.out (below_one wr (.cells #[.slice xA xn xc, .int .i64 N] 49)))
        have HA1 : Hid (((pl cs).take (k + 1)).any (fun x => decide (x.2 < 0)) = false) := Lib.hid (by rw [Hany1.out, hany.out, decide_eq_false hneg]; rfl)
        clear Hany1 Hany2
        go_wp2_with fail
        go_roundw
        case rel => exact ⟨k + 1, by omega, by go_num, by rw [Hm1.out, hw], HbF, HA1⟩
        case measure => simp [intOf]; omega
    · obtain rfl : k = n := by omega
      have htk : (pl cs).take k = pl cs := List.take_of_length_le (by rw [pl_len, HB.out.len]; exact Nat.le_refl _)
      have ha := hany.out
      rw [htk] at ha ⊢
      have Ha := Lib.hid ha
      have HbF := Lib.hid (below_via Hb.out hb.out)
      have Hbd := cnt_bd Hm.out k
      rw [htk] at Hbd
      obtain ⟨T, hT⟩ : ∃ T, cntB (pl cs) = T := ⟨_, rfl⟩
      rw [hT] at Hbd ⊢
      have HT := Lib.hid hT
      clear ha htk hT
      by_cases hgt : 100000 < T
      · have hr : R = 100 := by
         rw [← HR.out]
         unfold refR
         rw [Hm.out, if_pos rfl, if_neg (by rw [Ha.out]; exact Bool.false_ne_true), HT.out, if_pos hgt]
        subst hr
        go_wp2_with fail
        go_ret
        exact ⟨rfl, HbF.out⟩
      · have hr : R = 0 := by
         rw [← HR.out]
         unfold refR
         rw [Hm.out, if_pos rfl, if_neg (by rw [Ha.out]; exact Bool.false_ne_true), HT.out, if_neg hgt]
        subst hr
        go_wp2_with fail
        go_ret
        exact ⟨rfl, HbF.out⟩
end Go.Proofs.YtldaoepemofhlaaGreatDoor
namespace Go.Proofs.YtldaoepemofhlaaGreatDoor
open Go Go.RowKit
set_option maxRecDepth 100000
attribute [local go_sem ↓] Go.wp_at_zero Go.wp_at_succ
theorem atR_n64 {xs : List Val} (h : ∀ x ∈ xs, -9223372036854775808 ≤ x.n ∧ x.n ≤ 9223372036854775807) (i : Int) : -9223372036854775808 ≤ (atR xs i).n ∧ (atR xs i).n ≤ 9223372036854775807 := by
 unfold atR
 split
 · cases h1 : xs[i.toNat]? with
   | none => exact ⟨by decide, by decide⟩
   | some x => exact h x (List.mem_of_getElem? h1)
 · exact ⟨by decide, by decide⟩
theorem sumF_nonneg {f : Int → Int} {i : Int} (hf : ∀ n, 0 ≤ f n) : ∀ {b : Bg}, (∀ x ∈ b, 0 ≤ x.2) → 0 ≤ sumF f i b
 | [], _ => Int.le_refl _
 | x :: b, h => by
   have h1 := sumF_nonneg (i := i) hf (b := b) fun y hy => h y (List.mem_cons_of_mem _ hy)
   have h2 := Int.mul_nonneg (hf (atR x.1 i).n) (h x (by simp))
   rw [sumF]
   split <;> omega
def R64 (b : Bg) : Prop := ∀ x ∈ b, ∀ v ∈ x.1, -9223372036854775808 ≤ v.n ∧ v.n ≤ 9223372036854775807
theorem R64_pl {w : World} {A : Option Addr} {n : Nat} {cs : List Ct} (h : BgIn w A n cs) : R64 (pl cs) := fun x hx => by
 obtain ⟨c, hc, rfl⟩ := List.mem_map.1 hx
 exact (h.each c hc).n64
theorem half_bd {b : Bg} (h : GOk b) (h6 : R64 b) (i : Int) (k : Nat) : (-1000000000000000 ≤ sumF (fun n => n / 4294967296) i (b.take k) ∧ sumF (fun n => n / 4294967296) i (b.take k) ≤ 1000000000000000) ∧ (0 ≤ sumF (fun n => n % 4294967296) i (b.take k) ∧ sumF (fun n => n % 4294967296) i (b.take k) ≤ 1000000000000000) := by
 have h1 := cntB_take h k
 have h2 : ∀ x ∈ b.take k, 0 ≤ x.2 := fun x hx => h.1 x (List.mem_of_mem_take hx)
 have h3 := sumF_bd (f := fun n => n / 4294967296) (P := 2147483648) (i := i) (by decide) h2 (fun x hx => by have := atR_n64 (h6 x (List.mem_of_mem_take hx)) i; show _ ≤ (atR x.1 i).n / 4294967296 ∧ (atR x.1 i).n / 4294967296 ≤ _; omega)
 have h4 := sumF_bd (f := fun n => n % 4294967296) (P := 4294967296) (i := i) (by decide) h2 (fun x hx => by show _ ≤ (atR x.1 i).n % 4294967296 ∧ (atR x.1 i).n % 4294967296 ≤ _; omega)
 have h5 := sumF_nonneg (f := fun n => n % 4294967296) (i := i) (fun n => by show 0 ≤ n % 4294967296; omega) h2
 omega
theorem sum_skip_c (b : Nat) (x : Val) (n : Int) (w : World) (hx : x.k ≠ 2) :
 Calls Tryz.prog 156 #[.pointer (some ⟨b, 0, none⟩), x.v, .int .i64 n] w fun e w' => e = .returned (.tuple #[]) ∧ Below w.heap.size w w' := by
 have hx2 : (x.k != 2) = true := by simp [hx]
 clear hx
 go_enter Tryz.func156, Tryz.ntmps156
 go_wp2_with fail
 (try simp only [Exit.inBlock, Exit.then])
 refine bodyPost_ret (results_none rfl _ _ _) rfl ?_
 exact ⟨rfl, below_one _ _⟩
theorem ext_value_c (b : Nat) (x : Val) (t n : Int) (z : Val) (w : World) (hB : Bf w b #[.int .i64 t, .int .i64 z.k, .int .i64 z.n, .string z.s] 122) (hx : x.k ≠ 0) :
 Calls Tryz.prog 158 #[.pointer (some ⟨b, 0, none⟩), x.v, .int .i64 n] w fun e w' => e = .returned (.tuple #[]) ∧ (∀ B, B ≤ b → B ≤ w.heap.size → Below B w w') ∧ Bf w' b #[.int .i64 t, .int .i64 (extV t z x).k, .int .i64 (extV t z x).n, .string (extV t z x).s] 122 := by
 by_cases hz : z.k = 0
 · have e : extV t z x = x := by unfold extV; rw [if_neg hx, if_pos (.inl hz)]
   rw [e]
   exact ext_value0_c b x t n z w hB hz
 · have e : extV t z x = if cmpV x z = t then x else z := by
    unfold extV
    rw [if_neg hx]
    by_cases h : cmpV x z = t
    · rw [if_pos (.inr h), if_pos h]
    · rw [if_neg h, if_neg (by rintro (h1 | h1); exact hz h1; exact h h1)]
   rw [e]
   exact ext_value1_c b x t n z w hB hz
theorem m_count_row (a : Addr) (k : Nat) (w : World) : (method (k + 1) 112 (.pointer (some a)) "levee/group.row").run Tryz.prog w = .ok (150, .pointer (some a)) w := by kernel_rfl
theorem m_count_result (a : Addr) (k : Nat) (w : World) : (method (k + 1) 112 (.pointer (some a)) "levee/group.result").run Tryz.prog w = .ok (149, .pointer (some a)) w := by kernel_rfl
theorem m_sum_result (a : Addr) (k : Nat) (w : World) : (method (k + 1) 117 (.pointer (some a)) "levee/group.result").run Tryz.prog w = .ok (155, .pointer (some a)) w := by kernel_rfl
theorem m_extreme_result (a : Addr) (k : Nat) (w : World) : (method (k + 1) 120 (.pointer (some a)) "levee/group.result").run Tryz.prog w = .ok (157, .pointer (some a)) w := by kernel_rfl
theorem m_sum_value (a : Addr) (k : Nat) (w : World) : (method (k + 1) 117 (.pointer (some a)) "levee/group.value").run Tryz.prog w = .ok (156, .pointer (some a)) w := by kernel_rfl
theorem m_extreme_value (a : Addr) (k : Nat) (w : World) : (method (k + 1) 120 (.pointer (some a)) "levee/group.value").run Tryz.prog w = .ok (158, .pointer (some a)) w := by kernel_rfl
theorem m_nothing_row (k : Nat) (w : World) : (method (k + 1) 114 (.agg #[]) "levee/group.row").run Tryz.prog w = .ok (154, .agg #[]) w := by kernel_rfl
theorem m_nothing_value (k : Nat) (w : World) : (method (k + 1) 114 (.agg #[]) "levee/group.value").run Tryz.prog w = .ok (151, .agg #[]) w := by kernel_rfl
theorem m_nothing_result (k : Nat) (w : World) : (method (k + 1) 114 (.agg #[]) "levee/group.result").run Tryz.prog w = .ok (153, .agg #[]) w := by kernel_rfl
theorem sum_agg (i : Int) (b : Bg) : aggR 1 i b = sumV (anyI i b) (sumF (fun n => n / 4294967296) i b) (sumF (fun n => n % 4294967296) i b) := by
 unfold aggR sumV
 rw [if_neg (by decide), if_pos rfl, ← sumF_split]
 rfl
set_option maxHeartbeats 1000000 in
theorem agg_cnt_c (A : Option Addr) (n c : Nat) (cs : List Ct) (col : Int) (w : World) (hB : BgIn w A n cs) (hG : GOk (pl cs)) (hn : n ≤ 100000) :
 Calls Tryz.prog 36 #[.agg #[.int .i64 0, .int .i64 col], .slice A n c] w fun e w' => e = .returned (.tuple #[(aggR 0 col (pl cs)).1.v, .int .i64 (aggR 0 col (pl cs)).2]) ∧ Below w.heap.size w w' := by
 have HB := Lib.hid hB
 have HG := Lib.hid hG
 have H6 := Lib.hid (R64_pl hB)
 clear hB hG
 obtain ⟨V, hV⟩ : ∃ V, (w.alloc (.cells #[.int .i64 0, .int .i64 col] 32)).alloc (.cells #[.int .i64 0, .int .i64 0, .string ⟨#[]⟩] 39) = V := ⟨_, rfl⟩
 have HV0 : Hid (Bf V w.heap.size #[.int .i64 0, .int .i64 col] 32) := Lib.hid (by rw [← hV]; exact (Bf.new w _ _).over _)
 have HV1 : Hid (Bf V (w.heap.size + 1) #[.int .i64 0, .int .i64 0, .string ⟨#[]⟩] 39) := Lib.hid (by rw [← hV]; have := Bf.new (w.alloc (.cells #[.int .i64 0, .int .i64 col] 32)) #[.int .i64 0, .int .i64 0, .string ⟨#[]⟩] 39; simpa using this)
 have HVb : Hid (Below w.heap.size w V) := Lib.hid (by rw [← hV]; exact below_two _ _ _)
 have hv0 : V.cell? ⟨w.heap.size, 0, none⟩ = some (.int .i64 0) := HV0.out.cell 0
 have lv0 : w.heap.size < V.heap.size := HV0.out.lt
 obtain ⟨R, hR⟩ : ∃ R, aggR 0 col (pl cs) = R := ⟨_, rfl⟩
 have HR := Lib.hid hR
 rw [hR]
 clear hR
 go_enter Tryz.func36, Tryz.ntmps36
 go_wp2_with fail
 clear hV
 refine (folding_c 0 V).mono ?_
 rintro e W ⟨f, rfl, hF⟩
 obtain ⟨b, rfl, hb1, hb2⟩ := hF.cnt rfl
 have HFb := Lib.hid hF.below
 have Hbb := Lib.hid hb1
 have HFv := Lib.hid hb2
 clear hF hb1 hb2 hv0
 have mr := m_count_row ⟨b, 0, none⟩
 go_wp2_with fail
 go_loopw [15] (fun q wr => ∃ k : Nat, k ≤ n ∧ q = .int .i64 k ∧ Hid (Below V.heap.size V wr) ∧ Hid (Bf wr b #[.int .i64 (cntB ((pl cs).take k))] 116)) (fun q _ => n - (intOf q).toNat)
 case atStart => exact ⟨0, Nat.zero_le _, rfl, HFb, HFv⟩
 case round =>
  obtain ⟨k, hk, rfl, hb, hf⟩ := hrel
  by_cases hlt : k < n
  · have HBr := (HB.out.after HVb.out).after hb.out
    obtain ⟨bb, off, rfl⟩ := HBr.sl.some2 (k := k) (by rw [HBr.len]; exact hlt)
    obtain ⟨x, hx⟩ : ∃ x, cs[k]? = some x := ⟨_, List.getElem?_eq_getElem (by rw [HBr.len]; exact hlt)⟩
    obtain ⟨l0, d0, d1⟩ := HBr.sl.cell2 hx
    have Hmem := Lib.hid (List.mem_of_getElem? hx)
    have Hmore := Lib.hid (cntB_more (pl_at hx))
    have Hb1 := Lib.hid (cntB_take HG.out (k + 1))
    clear hx HBr
    obtain ⟨⟨xA, xn, xc, xs⟩, N⟩ := x
    have hgo : (k : Int) < n := by omega
    try simp only at d0 d1
    have Hb2 : Hid (Below wr.heap.size wr (wr.alloc (.cells #[.slice xA xn xc, .int .i64 N] 49))) := Lib.hid (below_one _ _)
    have dg0 : Hid (Bf (wr.alloc (.cells #[.slice xA xn xc, .int .i64 N] 49)) wr.heap.size #[.slice xA xn xc, .int .i64 N] 49) := Lib.hid (Bf.new _ _ _)
    have lg1 : wr.heap.size < (wr.alloc (.cells #[.slice xA xn xc, .int .i64 N] 49)).heap.size := by simp
    have Hf2 := Lib.hid (hf.out.over (.cells #[.slice xA xn xc, .int .i64 N] 49))
    obtain ⟨T, hT⟩ : ∃ T, cntB ((pl cs).take k) = T := ⟨_, rfl⟩
    obtain ⟨T1, hT1⟩ : ∃ T1, cntB ((pl cs).take (k + 1)) = T1 := ⟨_, rfl⟩
    have hm1 : cntB ((pl cs).take (k + 1)) = cntB ((pl cs).take k) + N := Hmore.out
    have hbd := Hb1.out
    rw [hT, hT1] at hm1
    rw [hT1] at hbd
    rw [hT] at hf Hf2
    have HT1 := Lib.hid hT1
    have Hm1 := Lib.hid hm1
    have Hbd := Lib.hid hbd
    clear hT hT1 hm1 hbd Hb1 Hmore
    go_wp2_with fail
    refine (count_row_c b T N _ Hf2.out (by have := Hm1.out; have := Hbd.out; omega)).mono ?_
    rintro e w2 ⟨rfl, hw2⟩
    have hne : wr.heap.size ≠ b := by have := hf.out.lt; omega
    have HB2 : Hid (Below V.heap.size V w2) := Lib.hid (by rw [hw2]; exact (below_via hb.out Hb2.out).setCell Hbb.out (p := ⟨b, 0, none⟩) _)
    have HD2 : Hid (Bf w2 wr.heap.size #[.slice xA xn xc, .int .i64 N] 49) := Lib.hid (by rw [hw2]; exact (Below.heap_setCell _ _ _ _ hne).trans dg0.out)
    have HF2 : Hid (Bf w2 b #[.int .i64 T1] 116) := Lib.hid (by rw [hw2, Hm1.out]; exact Hf2.out.set 0 _)
    clear hw2
    have g0 : w2.cell? ⟨wr.heap.size, 0, none⟩ = some (.slice xA xn xc) := HD2.out.cell 0
    have g1 : w2.cell? ⟨wr.heap.size, 1, none⟩ = some (.int .i64 N) := HD2.out.cell 1
    have lg2 : wr.heap.size < w2.heap.size := HD2.out.lt
    have v0 : w2.cell? ⟨w.heap.size, 1, none⟩ = some (.int .i64 col) := (HV0.out.after HB2.out HV0.out.lt).cell 1
    have lv2 : w.heap.size < w2.heap.size := Nat.lt_of_lt_of_le lv0 HB2.out.size
    have Hx2 : Hid (Ct.In w2 ⟨⟨xA, xn, xc, xs⟩, N⟩) := Lib.hid (((HB.out.after HVb.out).after HB2.out).each _ (Hmem.out))
    clear dg0 Hb2 Hf2 d0 d1 lg1
    go_wp2_with fail
    refine (gcolumn_c xA xn xc xs col _ Hx2.out.hd.len Hx2.out.hd.sl).mono ?_
    rintro e w3 ⟨rfl, hb3⟩
    obtain ⟨y, hy⟩ : ∃ y, atR xs col = y := ⟨_, rfl⟩
    rw [hy]
    have HB3 := Lib.hid (below_via HB2.out hb3)
    have HF3 := Lib.hid (HF2.out.after hb3 HF2.out.lt)
    have h1 := (hb3.cell (p := ⟨wr.heap.size, 1, none⟩) lg2).trans g1
    have lg3 : wr.heap.size < w3.heap.size := Nat.lt_of_lt_of_le lg2 hb3.size
    clear hb3 g0 g1 v0 lv2 hy Hx2
    have HFf := Lib.hid (HF3.out.over (.cells #[.int .i64 y.k, .int .i64 y.n, .string y.s] 39))
    have HBf := Lib.hid (below_via HB3.out (below_one w3 (.cells #[.int .i64 y.k, .int .i64 y.n, .string y.s] 39)))
    by_cases hy0 : y.k = 0
    · have hy1 : (y.k != 0) = false := by simp [hy0]
      clear hy0
      go_wp2_with fail
      go_roundw
      case rel => exact ⟨k + 1, by omega, by go_num, HBf, by rw [HT1.out]; exact HFf⟩
      case measure => simp [intOf]; omega
    · have hy1 : (y.k != 0) = true := by simp [hy0]
      have mv := fun K => m_count_value K HFf.out
      clear hy0
      go_wp2_with fail
      refine (nothing_value_c y N _).mono ?_
      rintro e w4 ⟨rfl, hb4⟩
      have HF4 := Lib.hid (HFf.out.after hb4 HFf.out.lt)
      have HB4 := Lib.hid (below_via HBf.out hb4)
      clear hb4
      go_wp2_with fail
      go_roundw
      case rel => exact ⟨k + 1, by omega, by go_num, HB4, by rw [HT1.out]; exact HF4⟩
      case measure => simp [intOf]; omega
  · obtain rfl : k = n := by omega
    have htk : (pl cs).take k = pl cs := List.take_of_length_le (by rw [pl_len, HB.out.len]; exact Nat.le_refl _)
    have hf1 := hf.out
    rw [htk] at hf1
    have HF1 := Lib.hid hf1
    clear hf1
    have ms := m_count_result ⟨b, 0, none⟩
    clear htk
    go_wp2_with fail
    refine (count_result_c b _ _ HF1.out).mono ?_
    rintro e w5 ⟨rfl, hb5⟩
    have hRe : (iv (cntB (pl cs)), (0 : Int)) = R := by rw [← HR.out]; rfl
    subst hRe
    have HB5 := Lib.hid (below_via hb.out hb5)
    have B5 := HV1.out.after HB5.out HV1.out.lt
    have HC5 := Lib.hid B5
    have e0 := B5.cell 0
    have e1 := B5.cell 1
    have e2 := B5.cell 2
    have t0 := B5.thaw 0
    have t1 := B5.thaw 1
    have t2 := B5.thaw 2
    have l5 := B5.lt
    clear hb5 B5
    go_wp2_with fail
    exact ret_valE (a := iv (cntB (pl cs))) Tryz.results36 rfl rfl (put3_box HC5.out (iv (cntB (pl cs)))) rfl ⟨rfl, put3s_below (below_via HVb.out HB5.out) (Nat.le_succ _) _ _ _⟩
set_option maxHeartbeats 1000000 in
theorem agg_sum_c (A : Option Addr) (n c : Nat) (cs : List Ct) (col : Int) (w : World) (hB : BgIn w A n cs) (hG : GOk (pl cs)) (hn : n ≤ 100000) :
 Calls Tryz.prog 36 #[.agg #[.int .i64 1, .int .i64 col], .slice A n c] w fun e w' => e = .returned (.tuple #[(aggR 1 col (pl cs)).1.v, .int .i64 (aggR 1 col (pl cs)).2]) ∧ Below w.heap.size w w' := by
 have HB := Lib.hid hB
 have HG := Lib.hid hG
 have H6 := Lib.hid (R64_pl hB)
 clear hB hG
 obtain ⟨V, hV⟩ : ∃ V, (w.alloc (.cells #[.int .i64 1, .int .i64 col] 32)).alloc (.cells #[.int .i64 0, .int .i64 0, .string ⟨#[]⟩] 39) = V := ⟨_, rfl⟩
 have HV0 : Hid (Bf V w.heap.size #[.int .i64 1, .int .i64 col] 32) := Lib.hid (by rw [← hV]; exact (Bf.new w _ _).over _)
 have HV1 : Hid (Bf V (w.heap.size + 1) #[.int .i64 0, .int .i64 0, .string ⟨#[]⟩] 39) := Lib.hid (by rw [← hV]; have := Bf.new (w.alloc (.cells #[.int .i64 1, .int .i64 col] 32)) #[.int .i64 0, .int .i64 0, .string ⟨#[]⟩] 39; simpa using this)
 have HVb : Hid (Below w.heap.size w V) := Lib.hid (by rw [← hV]; exact below_two _ _ _)
 have hv0 : V.cell? ⟨w.heap.size, 0, none⟩ = some (.int .i64 1) := HV0.out.cell 0
 have lv0 : w.heap.size < V.heap.size := HV0.out.lt
 obtain ⟨R, hR⟩ : ∃ R, aggR 1 col (pl cs) = R := ⟨_, rfl⟩
 have HR := Lib.hid hR
 rw [hR]
 clear hR
 go_enter Tryz.func36, Tryz.ntmps36
 go_wp2_with fail
 clear hV
 refine (folding_c 1 V).mono ?_
 rintro e W ⟨f, rfl, hF⟩
 obtain ⟨b, rfl, hb1, hb2⟩ := hF.sum rfl
 have HFb := Lib.hid hF.below
 have Hbb := Lib.hid hb1
 have HFv := Lib.hid hb2
 clear hF hb1 hb2 hv0
 have mv := m_sum_value ⟨b, 0, none⟩
 go_wp2_with fail
 go_loopw [15] (fun q wr => ∃ k : Nat, k ≤ n ∧ q = .int .i64 k ∧ Hid (Below V.heap.size V wr) ∧ Hid (Bf wr b #[.bool (anyI col ((pl cs).take k)), .int .i64 (sumF (fun n => n / 4294967296) col ((pl cs).take k)), .int .i64 (sumF (fun n => n % 4294967296) col ((pl cs).take k))] 119)) (fun q _ => n - (intOf q).toNat)
 case atStart => exact ⟨0, Nat.zero_le _, rfl, HFb, HFv⟩
 case round =>
  obtain ⟨k, hk, rfl, hb, hf⟩ := hrel
  by_cases hlt : k < n
  · have HBr := (HB.out.after HVb.out).after hb.out
    obtain ⟨bb, off, rfl⟩ := HBr.sl.some2 (k := k) (by rw [HBr.len]; exact hlt)
    obtain ⟨x, hx⟩ : ∃ x, cs[k]? = some x := ⟨_, List.getElem?_eq_getElem (by rw [HBr.len]; exact hlt)⟩
    obtain ⟨l0, d0, d1⟩ := HBr.sl.cell2 hx
    have Hmem := Lib.hid (List.mem_of_getElem? hx)
    have Hm0 := Lib.hid (anyI_more (i := col) (pl_at hx))
    have Hm1 := Lib.hid (sumF_more (f := fun n => n / 4294967296) (i := col) (pl_at hx))
    have Hm2 := Lib.hid (sumF_more (f := fun n => n % 4294967296) (i := col) (pl_at hx))
    have Hbd := Lib.hid (half_bd HG.out H6.out col k)
    have HN := Lib.hid (HG.out.n (pl_at hx))
    have HY := Lib.hid (atR_n64 (HBr.each x (List.mem_of_getElem? hx)).n64 col)
    clear hx HBr
    obtain ⟨⟨xA, xn, xc, xs⟩, N⟩ := x
    have hgo : (k : Int) < n := by omega
    try simp only at d0 d1
    have Hb2 : Hid (Below wr.heap.size wr (wr.alloc (.cells #[.slice xA xn xc, .int .i64 N] 49))) := Lib.hid (below_one _ _)
    have dg0 : Hid (Bf (wr.alloc (.cells #[.slice xA xn xc, .int .i64 N] 49)) wr.heap.size #[.slice xA xn xc, .int .i64 N] 49) := Lib.hid (Bf.new _ _ _)
    have lg1 : wr.heap.size < (wr.alloc (.cells #[.slice xA xn xc, .int .i64 N] 49)).heap.size := by simp
    have Hf2 := Lib.hid (hf.out.over (.cells #[.slice xA xn xc, .int .i64 N] 49))
    have mr := fun K => m_sum_row K Hf2.out
    go_wp2_with fail
    refine (nothing_row_c N _).mono ?_
    rintro e w2 ⟨rfl, hb2⟩
    have HB2 : Hid (Below V.heap.size V w2) := Lib.hid (below_via (below_via hb.out Hb2.out) hb2)
    have HD2 : Hid (Bf w2 wr.heap.size #[.slice xA xn xc, .int .i64 N] 49) := Lib.hid (dg0.out.after hb2 dg0.out.lt)
    have HF2 := Lib.hid (Hf2.out.after hb2 Hf2.out.lt)
    clear mr hb2
    have g0 : w2.cell? ⟨wr.heap.size, 0, none⟩ = some (.slice xA xn xc) := HD2.out.cell 0
    have g1 : w2.cell? ⟨wr.heap.size, 1, none⟩ = some (.int .i64 N) := HD2.out.cell 1
    have lg2 : wr.heap.size < w2.heap.size := HD2.out.lt
    have v0 : w2.cell? ⟨w.heap.size, 1, none⟩ = some (.int .i64 col) := (HV0.out.after HB2.out HV0.out.lt).cell 1
    have lv2 : w.heap.size < w2.heap.size := Nat.lt_of_lt_of_le lv0 HB2.out.size
    have Hx2 : Hid (Ct.In w2 ⟨⟨xA, xn, xc, xs⟩, N⟩) := Lib.hid (((HB.out.after HVb.out).after HB2.out).each _ (Hmem.out))
    clear dg0 Hb2 Hf2 d0 d1 lg1
    go_wp2_with fail
    refine (gcolumn_c xA xn xc xs col _ Hx2.out.hd.len Hx2.out.hd.sl).mono ?_
    rintro e w3 ⟨rfl, hb3⟩
    have hm0 := Hm0.out
    have hm1 := Hm1.out
    have hm2 := Hm2.out
    have hy6 := HY.out
    try simp only at hm0 hm1 hm2 hy6
    obtain ⟨y, hy⟩ : ∃ y, atR xs col = y := ⟨_, rfl⟩
    rw [hy] at hm0 hm1 hm2 hy6 ⊢
    have Hm0 := Lib.hid hm0
    have Hm1 := Lib.hid hm1
    have Hm2 := Lib.hid hm2
    have HY := Lib.hid hy6
    clear hm0 hm1 hm2 hy6
    have HB3 := Lib.hid (below_via HB2.out hb3)
    have HF3 := Lib.hid (HF2.out.after hb3 HF2.out.lt)
    have h1 := (hb3.cell (p := ⟨wr.heap.size, 1, none⟩) lg2).trans g1
    have lg3 : wr.heap.size < w3.heap.size := Nat.lt_of_lt_of_le lg2 hb3.size
    clear hb3 g0 g1 v0 lv2 hy Hx2
    have HFf := Lib.hid (HF3.out.over (.cells #[.int .i64 y.k, .int .i64 y.n, .string y.s] 39))
    have HBf := Lib.hid (below_via HB3.out (below_one w3 (.cells #[.int .i64 y.k, .int .i64 y.n, .string y.s] 39)))
    by_cases hy0 : y.k = 0
    · have hy1 : (y.k != 0) = false := by simp [hy0]
      have HS1 : Hid (Bf (w3.alloc (.cells #[.int .i64 y.k, .int .i64 y.n, .string y.s] 39)) b #[.bool (anyI col ((pl cs).take (k + 1))), .int .i64 (sumF (fun n => n / 4294967296) col ((pl cs).take (k + 1))), .int .i64 (sumF (fun n => n % 4294967296) col ((pl cs).take (k + 1)))] 119) := Lib.hid (by rw [Hm0.out, Hm1.out, Hm2.out, if_neg (by rw [hy0]; decide), if_neg (by rw [hy0]; decide), decide_eq_false (by rw [hy0]; decide), Bool.or_false, Int.add_zero, Int.add_zero]; exact HFf.out)
      clear hy0
      go_wp2_with fail
      go_roundw
      case rel => exact ⟨k + 1, by omega, by go_num, HBf, HS1⟩
      case measure => simp [intOf]; omega
    · have hy1 : (y.k != 0) = true := by simp [hy0]
      have Hy0 := Lib.hid hy0
      clear hy0
      by_cases hy2 : y.k = 2
      · have Hy2 := Lib.hid hy2
        clear hy2
        go_wp2_with fail
        refine (sum_value_c b y _ _ _ N _ HFf.out Hy2.out HN.out Hbd.out.1 Hbd.out.2 HY.out).mono ?_
        rintro e w4 ⟨rfl, hb4, hf4⟩
        have HB4 : Hid (Below V.heap.size V w4) := Lib.hid (HBf.out.trans (hb4 V.heap.size Hbb.out HBf.out.size))
        have HS1 : Hid (Bf w4 b #[.bool (anyI col ((pl cs).take (k + 1))), .int .i64 (sumF (fun n => n / 4294967296) col ((pl cs).take (k + 1))), .int .i64 (sumF (fun n => n % 4294967296) col ((pl cs).take (k + 1)))] 119) := Lib.hid (by rw [Hm0.out, Hm1.out, Hm2.out, if_pos Hy2.out, if_pos Hy2.out, decide_eq_true Hy2.out, Bool.or_true]; exact hf4)
        clear hb4 hf4
        go_wp2_with fail
        go_roundw
        case rel => exact ⟨k + 1, by omega, by go_num, HB4, HS1⟩
        case measure => simp [intOf]; omega
      · have Hy2 := Lib.hid hy2
        clear hy2
        go_wp2_with fail
        refine (sum_skip_c b y N _ Hy2.out).mono ?_
        rintro e w4 ⟨rfl, hb4⟩
        have HB4 := Lib.hid (below_via HBf.out hb4)
        have HS1 : Hid (Bf w4 b #[.bool (anyI col ((pl cs).take (k + 1))), .int .i64 (sumF (fun n => n / 4294967296) col ((pl cs).take (k + 1))), .int .i64 (sumF (fun n => n % 4294967296) col ((pl cs).take (k + 1)))] 119) := Lib.hid (by rw [Hm0.out, Hm1.out, Hm2.out, if_neg Hy2.out, if_neg Hy2.out, decide_eq_false Hy2.out, Bool.or_false, Int.add_zero, Int.add_zero]; exact HFf.out.after hb4 HFf.out.lt)
        clear hb4
        go_wp2_with fail
        go_roundw
        case rel => exact ⟨k + 1, by omega, by go_num, HB4, HS1⟩
        case measure => simp [intOf]; omega
  · obtain rfl : k = n := by omega
    have htk : (pl cs).take k = pl cs := List.take_of_length_le (by rw [pl_len, HB.out.len]; exact Nat.le_refl _)
    have hf1 := hf.out
    rw [htk] at hf1
    have HF1 := Lib.hid hf1
    clear hf1
    have ms := m_sum_result ⟨b, 0, none⟩
    have hbd := half_bd HG.out H6.out col k
    rw [htk] at hbd
    have Hbd := Lib.hid hbd
    clear hbd
    clear htk
    go_wp2_with fail
    refine (sum_result_c b _ _ _ _ HF1.out Hbd.out.1 Hbd.out.2).mono ?_
    rintro e w5 ⟨rfl, hb5⟩
    have hRe : sumV (anyI col (pl cs)) (sumF (fun n => n / 4294967296) col (pl cs)) (sumF (fun n => n % 4294967296) col (pl cs)) = R := by rw [← HR.out]; exact (sum_agg col (pl cs)).symm
    rw [hRe]
    clear hRe
    have HB5 := Lib.hid (below_via hb.out hb5)
    have B5 := HV1.out.after HB5.out HV1.out.lt
    have HC5 := Lib.hid B5
    have e0 := B5.cell 0
    have e1 := B5.cell 1
    have e2 := B5.cell 2
    have t0 := B5.thaw 0
    have t1 := B5.thaw 1
    have t2 := B5.thaw 2
    have l5 := B5.lt
    clear hb5 B5
    go_wp2_with fail
    exact ret_valE (a := R.1) Tryz.results36 rfl rfl (put3_box HC5.out (R.1)) rfl ⟨rfl, put3s_below (below_via HVb.out HB5.out) (Nat.le_succ _) _ _ _⟩
set_option maxHeartbeats 1000000 in
theorem agg_ext_c (A : Option Addr) (n c : Nat) (cs : List Ct) (col : Int) (fn t : Int) (hft : fn = 2 ∧ t = -1 ∨ fn = 3 ∧ t = 1) (w : World) (hB : BgIn w A n cs) (hG : GOk (pl cs)) (hn : n ≤ 100000) :
 Calls Tryz.prog 36 #[.agg #[.int .i64 fn, .int .i64 col], .slice A n c] w fun e w' => e = .returned (.tuple #[(aggR fn col (pl cs)).1.v, .int .i64 (aggR fn col (pl cs)).2]) ∧ Below w.heap.size w w' := by
 have HB := Lib.hid hB
 have HG := Lib.hid hG
 have H6 := Lib.hid (R64_pl hB)
 clear hB hG
 obtain ⟨V, hV⟩ : ∃ V, (w.alloc (.cells #[.int .i64 fn, .int .i64 col] 32)).alloc (.cells #[.int .i64 0, .int .i64 0, .string ⟨#[]⟩] 39) = V := ⟨_, rfl⟩
 have HV0 : Hid (Bf V w.heap.size #[.int .i64 fn, .int .i64 col] 32) := Lib.hid (by rw [← hV]; exact (Bf.new w _ _).over _)
 have HV1 : Hid (Bf V (w.heap.size + 1) #[.int .i64 0, .int .i64 0, .string ⟨#[]⟩] 39) := Lib.hid (by rw [← hV]; have := Bf.new (w.alloc (.cells #[.int .i64 fn, .int .i64 col] 32)) #[.int .i64 0, .int .i64 0, .string ⟨#[]⟩] 39; simpa using this)
 have HVb : Hid (Below w.heap.size w V) := Lib.hid (by rw [← hV]; exact below_two _ _ _)
 have hv0 : V.cell? ⟨w.heap.size, 0, none⟩ = some (.int .i64 fn) := HV0.out.cell 0
 have lv0 : w.heap.size < V.heap.size := HV0.out.lt
 obtain ⟨R, hR⟩ : ∃ R, aggR fn col (pl cs) = R := ⟨_, rfl⟩
 have HR := Lib.hid hR
 rw [hR]
 clear hR
 have Hft := Lib.hid hft
 clear hft
 go_enter Tryz.func36, Tryz.ntmps36
 go_wp2_with fail
 clear hV
 refine (folding_c fn V).mono ?_
 rintro e W ⟨f, rfl, hF⟩
 obtain ⟨b, rfl, hb1, hb2⟩ : ∃ b, f = .iface 120 (.pointer (some ⟨b, 0, none⟩)) ∧ V.heap.size ≤ b ∧ Bf W b #[.int .i64 t, .int .i64 0, .int .i64 0, .string ⟨#[]⟩] 122 := by
  rcases Hft.out with ⟨h1, h2⟩ | ⟨h1, h2⟩
  · rw [h2]; exact hF.lo h1
  · rw [h2]; exact hF.hi h1
 have HFb := Lib.hid hF.below
 have Hbb := Lib.hid hb1
 have HFv := Lib.hid hb2
 clear hF hb1 hb2 hv0
 have mv := m_extreme_value ⟨b, 0, none⟩
 go_wp2_with fail
 go_loopw [15] (fun q wr => ∃ k : Nat, k ≤ n ∧ q = .int .i64 k ∧ Hid (Below V.heap.size V wr) ∧ Hid (Bf wr b #[.int .i64 t, .int .i64 (extB t col ((pl cs).take k)).k, .int .i64 (extB t col ((pl cs).take k)).n, .string (extB t col ((pl cs).take k)).s] 122)) (fun q _ => n - (intOf q).toNat)
 case atStart => exact ⟨0, Nat.zero_le _, rfl, HFb, HFv⟩
 case round =>
  obtain ⟨k, hk, rfl, hb, hf⟩ := hrel
  by_cases hlt : k < n
  · have HBr := (HB.out.after HVb.out).after hb.out
    obtain ⟨bb, off, rfl⟩ := HBr.sl.some2 (k := k) (by rw [HBr.len]; exact hlt)
    obtain ⟨x, hx⟩ : ∃ x, cs[k]? = some x := ⟨_, List.getElem?_eq_getElem (by rw [HBr.len]; exact hlt)⟩
    obtain ⟨l0, d0, d1⟩ := HBr.sl.cell2 hx
    have Hmem := Lib.hid (List.mem_of_getElem? hx)
    have Hmore := Lib.hid (extB_more (t := t) (i := col) (pl_at hx))
    clear hx HBr
    obtain ⟨⟨xA, xn, xc, xs⟩, N⟩ := x
    have hgo : (k : Int) < n := by omega
    try simp only at d0 d1
    have Hb2 : Hid (Below wr.heap.size wr (wr.alloc (.cells #[.slice xA xn xc, .int .i64 N] 49))) := Lib.hid (below_one _ _)
    have dg0 : Hid (Bf (wr.alloc (.cells #[.slice xA xn xc, .int .i64 N] 49)) wr.heap.size #[.slice xA xn xc, .int .i64 N] 49) := Lib.hid (Bf.new _ _ _)
    have lg1 : wr.heap.size < (wr.alloc (.cells #[.slice xA xn xc, .int .i64 N] 49)).heap.size := by simp
    have Hf2 := Lib.hid (hf.out.over (.cells #[.slice xA xn xc, .int .i64 N] 49))
    have mr := fun K => m_ext_row K Hf2.out
    go_wp2_with fail
    refine (nothing_row_c N _).mono ?_
    rintro e w2 ⟨rfl, hb2⟩
    have HB2 : Hid (Below V.heap.size V w2) := Lib.hid (below_via (below_via hb.out Hb2.out) hb2)
    have HD2 : Hid (Bf w2 wr.heap.size #[.slice xA xn xc, .int .i64 N] 49) := Lib.hid (dg0.out.after hb2 dg0.out.lt)
    have HF2 := Lib.hid (Hf2.out.after hb2 Hf2.out.lt)
    clear mr hb2
    have g0 : w2.cell? ⟨wr.heap.size, 0, none⟩ = some (.slice xA xn xc) := HD2.out.cell 0
    have g1 : w2.cell? ⟨wr.heap.size, 1, none⟩ = some (.int .i64 N) := HD2.out.cell 1
    have lg2 : wr.heap.size < w2.heap.size := HD2.out.lt
    have v0 : w2.cell? ⟨w.heap.size, 1, none⟩ = some (.int .i64 col) := (HV0.out.after HB2.out HV0.out.lt).cell 1
    have lv2 : w.heap.size < w2.heap.size := Nat.lt_of_lt_of_le lv0 HB2.out.size
    have Hx2 : Hid (Ct.In w2 ⟨⟨xA, xn, xc, xs⟩, N⟩) := Lib.hid (((HB.out.after HVb.out).after HB2.out).each _ (Hmem.out))
    clear dg0 Hb2 Hf2 d0 d1 lg1
    go_wp2_with fail
    refine (gcolumn_c xA xn xc xs col _ Hx2.out.hd.len Hx2.out.hd.sl).mono ?_
    rintro e w3 ⟨rfl, hb3⟩
    have hm0 := Hmore.out
    try simp only at hm0
    obtain ⟨y, hy⟩ : ∃ y, atR xs col = y := ⟨_, rfl⟩
    rw [hy] at hm0 ⊢
    have Hm0 := Lib.hid hm0
    clear hm0
    have HB3 := Lib.hid (below_via HB2.out hb3)
    have HF3 := Lib.hid (HF2.out.after hb3 HF2.out.lt)
    have h1 := (hb3.cell (p := ⟨wr.heap.size, 1, none⟩) lg2).trans g1
    have lg3 : wr.heap.size < w3.heap.size := Nat.lt_of_lt_of_le lg2 hb3.size
    clear hb3 g0 g1 v0 lv2 hy Hx2
    have HFf := Lib.hid (HF3.out.over (.cells #[.int .i64 y.k, .int .i64 y.n, .string y.s] 39))
    have HBf := Lib.hid (below_via HB3.out (below_one w3 (.cells #[.int .i64 y.k, .int .i64 y.n, .string y.s] 39)))
    by_cases hy0 : y.k = 0
    · have hy1 : (y.k != 0) = false := by simp [hy0]
      have HS1 : Hid (Bf (w3.alloc (.cells #[.int .i64 y.k, .int .i64 y.n, .string y.s] 39)) b #[.int .i64 t, .int .i64 (extB t col ((pl cs).take (k + 1))).k, .int .i64 (extB t col ((pl cs).take (k + 1))).n, .string (extB t col ((pl cs).take (k + 1))).s] 122) := Lib.hid (by rw [Hm0.out, show ∀ z, extV t z y = z from fun z => by unfold extV; rw [if_pos hy0]]; exact HFf.out)
      clear hy0
      go_wp2_with fail
      go_roundw
      case rel => exact ⟨k + 1, by omega, by go_num, HBf, HS1⟩
      case measure => simp [intOf]; omega
    · have hy1 : (y.k != 0) = true := by simp [hy0]
      have Hy0 := Lib.hid hy0
      clear hy0
      go_wp2_with fail
      refine (ext_value_c b y t N _ _ HFf.out Hy0.out).mono ?_
      rintro e w4 ⟨rfl, hb4, hf4⟩
      have HB4 : Hid (Below V.heap.size V w4) := Lib.hid (HBf.out.trans (hb4 V.heap.size Hbb.out HBf.out.size))
      have HS1 : Hid (Bf w4 b #[.int .i64 t, .int .i64 (extB t col ((pl cs).take (k + 1))).k, .int .i64 (extB t col ((pl cs).take (k + 1))).n, .string (extB t col ((pl cs).take (k + 1))).s] 122) := Lib.hid (by rw [Hm0.out]; exact hf4)
      clear hb4 hf4
      go_wp2_with fail
      go_roundw
      case rel => exact ⟨k + 1, by omega, by go_num, HB4, HS1⟩
      case measure => simp [intOf]; omega
  · obtain rfl : k = n := by omega
    have htk : (pl cs).take k = pl cs := List.take_of_length_le (by rw [pl_len, HB.out.len]; exact Nat.le_refl _)
    have hf1 := hf.out
    rw [htk] at hf1
    have HF1 := Lib.hid hf1
    clear hf1
    have ms := m_extreme_result ⟨b, 0, none⟩
    clear htk
    go_wp2_with fail
    refine (ext_result_c b t _ _ HF1.out).mono ?_
    rintro e w5 ⟨rfl, hb5⟩
    have hRe : (extB t col (pl cs), (0 : Int)) = R := by rw [← HR.out]; rcases Hft.out with ⟨h1, h2⟩ | ⟨h1, h2⟩ <;> rw [h1, h2] <;> rfl
    subst hRe
    have HB5 := Lib.hid (below_via hb.out hb5)
    have B5 := HV1.out.after HB5.out HV1.out.lt
    have HC5 := Lib.hid B5
    have e0 := B5.cell 0
    have e1 := B5.cell 1
    have e2 := B5.cell 2
    have t0 := B5.thaw 0
    have t1 := B5.thaw 1
    have t2 := B5.thaw 2
    have l5 := B5.lt
    clear hb5 B5
    go_wp2_with fail
    exact ret_valE (a := extB t col (pl cs)) Tryz.results36 rfl rfl (put3_box HC5.out (extB t col (pl cs))) rfl ⟨rfl, put3s_below (below_via HVb.out HB5.out) (Nat.le_succ _) _ _ _⟩
set_option maxHeartbeats 1000000 in
theorem agg_non_c (A : Option Addr) (n c : Nat) (cs : List Ct) (col : Int) (fn : Int) (h0 : fn ≠ 0) (h1 : fn ≠ 1) (h2 : fn ≠ 2) (h3 : fn ≠ 3) (w : World) (hB : BgIn w A n cs) (hG : GOk (pl cs)) (hn : n ≤ 100000) :
 Calls Tryz.prog 36 #[.agg #[.int .i64 fn, .int .i64 col], .slice A n c] w fun e w' => e = .returned (.tuple #[(aggR fn col (pl cs)).1.v, .int .i64 (aggR fn col (pl cs)).2]) ∧ Below w.heap.size w w' := by
 have HB := Lib.hid hB
 have HG := Lib.hid hG
 have H6 := Lib.hid (R64_pl hB)
 clear hB hG
 obtain ⟨V, hV⟩ : ∃ V, (w.alloc (.cells #[.int .i64 fn, .int .i64 col] 32)).alloc (.cells #[.int .i64 0, .int .i64 0, .string ⟨#[]⟩] 39) = V := ⟨_, rfl⟩
 have HV0 : Hid (Bf V w.heap.size #[.int .i64 fn, .int .i64 col] 32) := Lib.hid (by rw [← hV]; exact (Bf.new w _ _).over _)
 have HV1 : Hid (Bf V (w.heap.size + 1) #[.int .i64 0, .int .i64 0, .string ⟨#[]⟩] 39) := Lib.hid (by rw [← hV]; have := Bf.new (w.alloc (.cells #[.int .i64 fn, .int .i64 col] 32)) #[.int .i64 0, .int .i64 0, .string ⟨#[]⟩] 39; simpa using this)
 have HVb : Hid (Below w.heap.size w V) := Lib.hid (by rw [← hV]; exact below_two _ _ _)
 have hv0 : V.cell? ⟨w.heap.size, 0, none⟩ = some (.int .i64 fn) := HV0.out.cell 0
 have lv0 : w.heap.size < V.heap.size := HV0.out.lt
 obtain ⟨R, hR⟩ : ∃ R, aggR fn col (pl cs) = R := ⟨_, rfl⟩
 have HR := Lib.hid hR
 rw [hR]
 clear hR
 have Hh := Lib.hid (And.intro h0 (And.intro h1 (And.intro h2 h3)))
 clear h0 h1 h2 h3
 go_enter Tryz.func36, Tryz.ntmps36
 go_wp2_with fail
 clear hV
 refine (folding_c fn V).mono ?_
 rintro e W ⟨f, rfl, hF⟩
 have hf := hF.non Hh.out.1 Hh.out.2.1 Hh.out.2.2.1 Hh.out.2.2.2
 subst hf
 have HFb := Lib.hid hF.below
 clear hF hv0
 have mr := m_nothing_row
 have mv := m_nothing_value
 go_wp2_with fail
 go_loopw [15] (fun q wr => ∃ k : Nat, k ≤ n ∧ q = .int .i64 k ∧ Hid (Below V.heap.size V wr)) (fun q _ => n - (intOf q).toNat)
 case atStart => exact ⟨0, Nat.zero_le _, rfl, HFb⟩
 case round =>
  obtain ⟨k, hk, rfl, hb⟩ := hrel
  by_cases hlt : k < n
  · have HBr := (HB.out.after HVb.out).after hb.out
    obtain ⟨bb, off, rfl⟩ := HBr.sl.some2 (k := k) (by rw [HBr.len]; exact hlt)
    obtain ⟨x, hx⟩ : ∃ x, cs[k]? = some x := ⟨_, List.getElem?_eq_getElem (by rw [HBr.len]; exact hlt)⟩
    obtain ⟨l0, d0, d1⟩ := HBr.sl.cell2 hx
    have Hmem := Lib.hid (List.mem_of_getElem? hx)
    clear hx HBr
    obtain ⟨⟨xA, xn, xc, xs⟩, N⟩ := x
    have hgo : (k : Int) < n := by omega
    try simp only at d0 d1
    have Hb2 : Hid (Below wr.heap.size wr (wr.alloc (.cells #[.slice xA xn xc, .int .i64 N] 49))) := Lib.hid (below_one _ _)
    have dg0 : Hid (Bf (wr.alloc (.cells #[.slice xA xn xc, .int .i64 N] 49)) wr.heap.size #[.slice xA xn xc, .int .i64 N] 49) := Lib.hid (Bf.new _ _ _)
    have lg1 : wr.heap.size < (wr.alloc (.cells #[.slice xA xn xc, .int .i64 N] 49)).heap.size := by simp
    go_wp2_with fail
    refine (nothing_row_c N _).mono ?_
    rintro e w2 ⟨rfl, hb2⟩
    have HB2 : Hid (Below V.heap.size V w2) := Lib.hid (below_via (below_via hb.out Hb2.out) hb2)
    have HD2 : Hid (Bf w2 wr.heap.size #[.slice xA xn xc, .int .i64 N] 49) := Lib.hid (dg0.out.after hb2 dg0.out.lt)
    clear hb2
    have g0 : w2.cell? ⟨wr.heap.size, 0, none⟩ = some (.slice xA xn xc) := HD2.out.cell 0
    have g1 : w2.cell? ⟨wr.heap.size, 1, none⟩ = some (.int .i64 N) := HD2.out.cell 1
    have lg2 : wr.heap.size < w2.heap.size := HD2.out.lt
    have v0 : w2.cell? ⟨w.heap.size, 1, none⟩ = some (.int .i64 col) := (HV0.out.after HB2.out HV0.out.lt).cell 1
    have lv2 : w.heap.size < w2.heap.size := Nat.lt_of_lt_of_le lv0 HB2.out.size
    have Hx2 : Hid (Ct.In w2 ⟨⟨xA, xn, xc, xs⟩, N⟩) := Lib.hid (((HB.out.after HVb.out).after HB2.out).each _ (Hmem.out))
    clear dg0 Hb2 d0 d1 lg1
    go_wp2_with fail
    refine (gcolumn_c xA xn xc xs col _ Hx2.out.hd.len Hx2.out.hd.sl).mono ?_
    rintro e w3 ⟨rfl, hb3⟩
    obtain ⟨y, hy⟩ : ∃ y, atR xs col = y := ⟨_, rfl⟩
    rw [hy]
    have HB3 := Lib.hid (below_via HB2.out hb3)
    have h1 := (hb3.cell (p := ⟨wr.heap.size, 1, none⟩) lg2).trans g1
    have lg3 : wr.heap.size < w3.heap.size := Nat.lt_of_lt_of_le lg2 hb3.size
    clear hb3 g0 g1 v0 lv2 hy Hx2
    have HBf := Lib.hid (below_via HB3.out (below_one w3 (.cells #[.int .i64 y.k, .int .i64 y.n, .string y.s] 39)))
    by_cases hy0 : y.k = 0
    · have hy1 : (y.k != 0) = false := by simp [hy0]
      clear hy0
      go_wp2_with fail
      go_roundw
      case rel => exact ⟨k + 1, by omega, by go_num, HBf⟩
      case measure => simp [intOf]; omega
    · have hy1 : (y.k != 0) = true := by simp [hy0]
      clear hy0
      go_wp2_with fail
      refine (nothing_value_c y N _).mono ?_
      rintro e w4 ⟨rfl, hb4⟩
      have HB4 := Lib.hid (below_via HBf.out hb4)
      clear hb4
      go_wp2_with fail
      go_roundw
      case rel => exact ⟨k + 1, by omega, by go_num, HB4⟩
      case measure => simp [intOf]; omega
  · obtain rfl : k = n := by omega
    have htk : (pl cs).take k = pl cs := List.take_of_length_le (by rw [pl_len, HB.out.len]; exact Nat.le_refl _)
    have ms := m_nothing_result
    clear htk
    go_wp2_with fail
    refine (nothing_result_c _).mono ?_
    rintro e w5 ⟨rfl, hb5⟩
    have hRe : (nl, (0 : Int)) = R := by rw [← HR.out]; unfold aggR; rw [if_neg Hh.out.1, if_neg Hh.out.2.1, if_neg Hh.out.2.2.1, if_neg Hh.out.2.2.2]
    subst hRe
    have HB5 := Lib.hid (below_via hb.out hb5)
    have B5 := HV1.out.after HB5.out HV1.out.lt
    have HC5 := Lib.hid B5
    have e0 := B5.cell 0
    have e1 := B5.cell 1
    have e2 := B5.cell 2
    have t0 := B5.thaw 0
    have t1 := B5.thaw 1
    have t2 := B5.thaw 2
    have l5 := B5.lt
    clear hb5 B5
    go_wp2_with fail
    exact ret_valE (a := nl) Tryz.results36 rfl rfl (put3_box HC5.out (nl)) rfl ⟨rfl, put3s_below (below_via HVb.out HB5.out) (Nat.le_succ _) _ _ _⟩
theorem aggregate_c (A : Option Addr) (n c : Nat) (cs : List Ct) (fn col : Int) (w : World) (hB : BgIn w A n cs) (hG : GOk (pl cs)) (hn : n ≤ 100000) :
 Calls Tryz.prog 36 #[.agg #[.int .i64 fn, .int .i64 col], .slice A n c] w fun e w' => e = .returned (.tuple #[(aggR fn col (pl cs)).1.v, .int .i64 (aggR fn col (pl cs)).2]) ∧ Below w.heap.size w w' := by
 by_cases h0 : fn = 0
 · subst h0; exact agg_cnt_c A n c cs col w hB hG hn
 by_cases h1 : fn = 1
 · subst h1; exact agg_sum_c A n c cs col w hB hG hn
 by_cases h2 : fn = 2
 · exact agg_ext_c A n c cs col fn (-1) (.inl ⟨h2, rfl⟩) w hB hG hn
 by_cases h3 : fn = 3
 · exact agg_ext_c A n c cs col fn 1 (.inr ⟨h3, rfl⟩) w hB hG hn
 exact agg_non_c A n c cs col fn h0 h1 h2 h3 w hB hG hn
end Go.Proofs.YtldaoepemofhlaaGreatDoor
namespace Go.Proofs.YtldaoepemofhlaaGreatDoor
open Go Go.RowKit Go.MapKept
set_option maxRecDepth 100000
section
variable {MT E : TypeId}
end
end Go.Proofs.YtldaoepemofhlaaGreatDoor
namespace Go.Proofs.YtldaoepemofhlaaGreatDoor
open Go Go.RowKit
set_option maxRecDepth 100000
def nilS : Value := .slice none 0 0
theorem SlG.sameAt {α : Type} {rd : α → List Value} {S : Nat} {w w' : World} {g o : Nat} {xs : List α} (h : SlG w (some ⟨g, o, none⟩) S rd xs) (hb : w'.heap[g]? = w.heap[g]?) (hs : w.heap.size ≤ w'.heap.size) : SlG w' (some ⟨g, o, none⟩) S rd xs := by
 rcases h with h | ⟨b, off, hA, hlt, h⟩
 · exact .inl h
 · cases hA
   refine .inr ⟨g, o, rfl, Nat.lt_of_lt_of_le hlt hs, fun i x hx j u hu => ?_⟩
   rw [← h i x hx j u hu]
   simp only [World.cell?, hb]
theorem pl_app (a b : List Ct) : pl (a ++ b) = pl a ++ pl b := by unfold pl; rw [List.map_append]
theorem pl_one (c : Ct) : pl [c] = [(c.h.xs, c.N)] := rfl
structure AddSt (w : World) (cs : List Ct) (r : Hd) (n0 : Int) (k : Nat) (L : Bool) (ol : List Ct) : Prop where
 eq : addB (pl cs) r.xs n0 = pl ol ++ (if L then (pl cs).drop k else addB ((pl cs).drop k) r.xs n0)
 up : L = true → ∀ x ∈ (pl cs).drop k, cmpL r.xs x.1 = -1
 len : ol.length ≤ k + (if L then 1 else 0)
 each : ∀ c ∈ ol, Ct.In w c
theorem AddSt.start (w : World) (cs : List Ct) (r : Hd) (n0 : Int) : AddSt w cs r n0 0 false [] := ⟨rfl, nofun, Nat.zero_le _, nofun⟩
theorem each_snoc {w : World} {ol : List Ct} {x : Ct} (h : ∀ c ∈ ol, Ct.In w c) (hx : Ct.In w x) : ∀ c ∈ ol ++ [x], Ct.In w c := by
 intro c hc
 rcases List.mem_append.1 hc with h1 | h1
 · exact h c h1
 · cases List.mem_singleton.1 h1
   exact hx
theorem pl_drop {cs : List Ct} {k : Nat} {x : Ct} (h : cs[k]? = some x) : (pl cs).drop k = (x.h.xs, x.N) :: (pl cs).drop (k + 1) := by
 have h0 := pl_at h
 have h1 := List.drop_eq_getElem_cons (List.getElem?_eq_some_iff.1 h0).1
 rw [(List.getElem?_eq_some_iff.1 h0).2] at h1
 exact h1
theorem asc_drop {b : Bg} (h : Asc b) (k : Nat) : Asc (b.drop k) := List.Pairwise.sublist (List.drop_sublist k b) h
theorem cmpL_one' {a b : List Val} (h : cmpL a b = 1) : cmpL b a = -1 := by rw [cmpL_neg a b, h]
theorem AddSt.lt {w : World} {cs : List Ct} {r : Hd} {n0 : Int} {k : Nat} {ol : List Ct} {x : Ct} (h : AddSt w cs r n0 k false ol) (hx : cs[k]? = some x) (hc : cmpL x.h.xs r.xs = -1) (hi : Ct.In w x) : AddSt w cs r n0 (k + 1) false (ol ++ [x]) := by
 refine ⟨?_, nofun, by have := h.len; simp at this ⊢; omega, each_snoc h.each hi⟩
 rw [h.eq, if_neg (by decide), if_neg (by decide), pl_drop hx, addB, if_pos hc, pl_app, pl_one, List.append_assoc]
 rfl
theorem up_of {cs : List Ct} {r : Hd} {k : Nat} {x : Ct} (ha : Asc (pl cs)) (hx : cs[k]? = some x) (hc : cmpL x.h.xs r.xs ≠ -1) : ∀ y ∈ (pl cs).drop (k + 1), cmpL r.xs y.1 = -1 := by
 intro y hy
 have h1 := asc_drop ha k
 rw [pl_drop hx] at h1
 have h2 := asc_head h1 y hy
 rcases cmpL_range x.h.xs r.xs with e | e | e
 · exact absurd e hc
 · rw [← cmpL_iff.1 e]
   exact h2
 · exact cmpL_trans (cmpL_one' e) h2
theorem AddSt.eq0 {w : World} {cs : List Ct} {r : Hd} {n0 : Int} {k : Nat} {ol : List Ct} {x : Ct} (h : AddSt w cs r n0 k false ol) (ha : Asc (pl cs)) (hx : cs[k]? = some x) (hc : cmpL x.h.xs r.xs = 0) (hn : n0 + x.N = 0) : AddSt w cs r n0 (k + 1) true ol := by
 refine ⟨?_, fun _ => up_of ha hx (by rw [hc]; decide), by have := h.len; simp at this ⊢; omega, h.each⟩
 rw [h.eq, if_neg (by decide), if_pos rfl, pl_drop hx, addB, if_neg (by rw [hc]; decide), if_pos hc, if_pos hn]
theorem AddSt.eq1 {w : World} {cs : List Ct} {r : Hd} {n0 : Int} {k : Nat} {ol : List Ct} {x : Ct} (h : AddSt w cs r n0 k false ol) (ha : Asc (pl cs)) (hx : cs[k]? = some x) (hc : cmpL x.h.xs r.xs = 0) (hn : n0 + x.N ≠ 0) (hi : Ct.In w ⟨r, n0 + x.N⟩) : AddSt w cs r n0 (k + 1) true (ol ++ [⟨r, n0 + x.N⟩]) := by
 refine ⟨?_, fun _ => up_of ha hx (by rw [hc]; decide), by have := h.len; simp at this ⊢; omega, each_snoc h.each hi⟩
 rw [h.eq, if_neg (by decide), if_pos rfl, pl_drop hx, addB, if_neg (by rw [hc]; decide), if_pos hc, if_neg hn, pl_app, pl_one, List.append_assoc]
 rfl
theorem AddSt.gt0 {w : World} {cs : List Ct} {r : Hd} {n0 : Int} {k : Nat} {ol : List Ct} {x : Ct} (h : AddSt w cs r n0 k false ol) (ha : Asc (pl cs)) (hx : cs[k]? = some x) (hc : cmpL x.h.xs r.xs = 1) (hn : n0 = 0) (hi : Ct.In w x) : AddSt w cs r n0 (k + 1) true (ol ++ [x]) := by
 refine ⟨?_, fun _ => up_of ha hx (by rw [hc]; decide), by have := h.len; simp at this ⊢; omega, each_snoc h.each hi⟩
 rw [h.eq, if_neg (by decide), if_pos rfl, pl_drop hx, addB, if_neg (by rw [hc]; decide), if_neg (by rw [hc]; decide), if_pos hn, pl_app, pl_one, List.append_assoc]
 rfl
theorem AddSt.gt1 {w : World} {cs : List Ct} {r : Hd} {n0 : Int} {k : Nat} {ol : List Ct} {x : Ct} (h : AddSt w cs r n0 k false ol) (ha : Asc (pl cs)) (hx : cs[k]? = some x) (hc : cmpL x.h.xs r.xs = 1) (hn : n0 ≠ 0) (hr : Ct.In w ⟨r, n0⟩) (hi : Ct.In w x) : AddSt w cs r n0 (k + 1) true ((ol ++ [⟨r, n0⟩]) ++ [x]) := by
 refine ⟨?_, fun _ => up_of ha hx (by rw [hc]; decide), by have := h.len; simp at this ⊢; omega, each_snoc (each_snoc h.each hr) hi⟩
 rw [h.eq, if_neg (by decide), if_pos rfl, pl_drop hx, addB, if_neg (by rw [hc]; decide), if_neg (by rw [hc]; decide), if_neg hn, pl_app, pl_app, pl_one, pl_one, List.append_assoc, List.append_assoc]
 rfl
theorem AddSt.laid {w : World} {cs : List Ct} {r : Hd} {n0 : Int} {k : Nat} {ol : List Ct} {x : Ct} (h : AddSt w cs r n0 k true ol) (hx : cs[k]? = some x) (hi : Ct.In w x) : AddSt w cs r n0 (k + 1) true (ol ++ [x]) := by
 refine ⟨?_, fun _ y hy => h.up rfl y (by rw [pl_drop hx]; exact List.mem_cons_of_mem _ hy), by have := h.len; simp at this ⊢; omega, each_snoc h.each hi⟩
 rw [h.eq, if_pos rfl, if_pos rfl, pl_drop hx, pl_app, pl_one, List.append_assoc]
 rfl
theorem AddSt.cmp {w : World} {cs : List Ct} {r : Hd} {n0 : Int} {k : Nat} {ol : List Ct} {x : Ct} (h : AddSt w cs r n0 k true ol) (hx : cs[k]? = some x) : cmpL x.h.xs r.xs = 1 := by
 have := h.up rfl (x.h.xs, x.N) (by rw [pl_drop hx]; exact List.mem_cons_self)
 rw [cmpL_neg r.xs x.h.xs, this]
 rfl
theorem AddSt.done {w : World} {cs : List Ct} {r : Hd} {n0 : Int} {k : Nat} {ol : List Ct} (h : AddSt w cs r n0 k true ol) (hk : cs.length ≤ k) : pl ol = addB (pl cs) r.xs n0 := by
 rw [h.eq, if_pos rfl, List.drop_eq_nil_of_le (by rw [pl_len]; exact hk), List.append_nil]
theorem AddSt.done0 {w : World} {cs : List Ct} {r : Hd} {n0 : Int} {k : Nat} {ol : List Ct} (h : AddSt w cs r n0 k false ol) (hk : cs.length ≤ k) (hn : n0 = 0) : pl ol = addB (pl cs) r.xs n0 := by
 rw [h.eq, if_neg (by decide), List.drop_eq_nil_of_le (by rw [pl_len]; exact hk), addB, if_pos hn, List.append_nil]
theorem AddSt.done1 {w : World} {cs : List Ct} {r : Hd} {n0 : Int} {k : Nat} {ol : List Ct} (h : AddSt w cs r n0 k false ol) (hk : cs.length ≤ k) (hn : n0 ≠ 0) : pl (ol ++ [⟨r, n0⟩]) = addB (pl cs) r.xs n0 := by
 rw [h.eq, if_neg (by decide), List.drop_eq_nil_of_le (by rw [pl_len]; exact hk), addB, if_neg hn, pl_app, pl_one]
set_option maxHeartbeats 4000000 in
theorem radd_c (A : Option Addr) (n c : Nat) (cs : List Ct) (r : Hd) (n0 : Int) (w : World) (hB : BgIn w A n cs) (hr : Ct.In w ⟨r, n0⟩) (ha : Asc (pl cs)) (hn : n ≤ 100000) (h64 : ∀ x ∈ cs, -9223372036854775808 ≤ n0 + x.N ∧ n0 + x.N ≤ 9223372036854775807) :
 Calls Tryz.prog 43 #[.slice A n c, .slice r.A r.n r.c, .int .i64 n0] w fun e w' => ∃ A' n' c' cs', e = .returned (.slice A' n' c') ∧ Below w.heap.size w w' ∧ BgIn w' A' n' cs' ∧ pl cs' = addB (pl cs) r.xs n0 := by
 have HB := Lib.hid hB
 have Hr := Lib.hid hr
 have Ha := Lib.hid ha
 have H64 := Lib.hid h64
 have n64 := hr.N64
 simp only [] at n64
 clear hB hr ha h64
 go_enter Tryz.func43, Tryz.ntmps43
 go_wp2_with fail
 go_loopw [7, 8, 9] (fun v l i wr => ∃ (k : Nat) (L : Bool) (ol : List Ct), k ≤ n ∧ i = .int .i64 k ∧ l = .bool L ∧ Hid (Below w.heap.size w wr) ∧ Hid (OwnG wr w.heap.size 49 2 rdC v ol) ∧ Hid (AddSt w cs r n0 k L ol)) (fun _ _ i _ => n - (intOf i).toNat)
 case atStart => exact ⟨0, false, [], Nat.zero_le _, rfl, rfl, Lib.hid (below_one _ _), Lib.hid (OwnG.made w w.heap.size _ #[] 0 (Nat.le_refl _) (Nat.zero_le _) rfl), Lib.hid (AddSt.start w cs r n0)⟩
 case round =>
  obtain ⟨k, L, ol, hk, rfl, rfl, hb, ho, hst⟩ := hrel
  by_cases hlt : k < n
  · have HL : Hid (ol.length ≤ 100000) := Lib.hid (by have := hst.out.len; split at this <;> omega)
    obtain ⟨b, off, x, rfl, hblt, hx, c0, c1⟩ := HB.out.sl.at2 (k := k) (by rw [HB.out.len]; exact hlt)
    have d0 := (hb.out.cell (p := ⟨b, off + k * 2, none⟩) hblt).trans c0
    have d1 := (hb.out.cell (p := ⟨b, off + k * 2 + 1, none⟩) hblt).trans c1
    have l0 : b < wr.heap.size := Nat.lt_of_lt_of_le hblt hb.out.size
    have Hi := Lib.hid (HB.out.each x (List.mem_of_getElem? hx))
    have s64 := H64.out x (List.mem_of_getElem? hx)
    have Hx := Lib.hid hx
    have HS : Hid (∀ w' : World, Below w.heap.size w w' → w'.cell? ⟨b, off + k * 2, none⟩ = some (.slice x.h.A x.h.n x.h.c) ∧ w'.cell? ⟨b, off + k * 2 + 1, none⟩ = some (.int .i64 x.N) ∧ b < w'.heap.size) := Lib.hid fun w' hb' => ⟨(hb'.cell hblt).trans c0, (hb'.cell hblt).trans c1, Nat.lt_of_lt_of_le hblt hb'.size⟩
    clear hx c0 c1 hblt
    obtain ⟨⟨xA, xn, xc, xs⟩, N⟩ := x
    simp only [] at s64
    have hw : IntKind.i64.wrap (n0 + N) = n0 + N := by rw [IntKind.wrap_i64]; omega
    have hi2 := (Hi.out.after hb.out).hd
    have hr2 := (Hr.out.after hb.out).hd
    have HC := Lib.hid (rcompareL_c xA r.A xn r.n xc r.c xs r.xs wr hi2.len hr2.len hi2.max hr2.max hi2.sl hr2.sl)
    clear hi2 hr2
    go_wp2_with fail
    refine HC.out.mono ?_
    rintro e w1 ⟨rfl, hb1⟩
    have d0 := (hb1.cell (p := ⟨b, off + k * 2, none⟩) l0).trans d0
    have d1 := (hb1.cell (p := ⟨b, off + k * 2 + 1, none⟩) l0).trans d1
    have l0 : b < w1.heap.size := Nat.lt_of_lt_of_le l0 hb1.size
    have Ho1 := Lib.hid (ho.out.after hb1)
    have Hb1 := Lib.hid (hb.out.trans (hb1.mono hb.out.size))
    have HRx := Lib.hid (Ct.In.mk (w := w) (c := ⟨r, n0 + N⟩) Hr.out.hd Hr.out.sz Hr.out.n64 s64 Hr.out.room)
    clear hb1 hb ho HC s64
    rcases cmpL_range xs r.xs with hc | hc | hc
    · obtain rfl : L = false := by
       cases L with
       | false => rfl
       | true => have := hst.out.cmp Hx.out; simp only [hc] at this; cases this
      rw [hc]
      go_wp2_with (at_builtin; go_must (first
       | (refine wpList_appG cOk rfl (.tmp 52) (.tmp 57) rfl w.heap.size _ ol [⟨⟨xA, xn, xc, xs⟩, N⟩] (some ⟨w1.heap.size, 0, none⟩) 1 1 rfl (Ho1.out.alloc _) rfl rfl (SlG.new cOk.len [⟨⟨xA, xn, xc, xs⟩, N⟩] rfl) (by have := HL.out; simp [maxLen]; omega) (by have := HL.out; simp; omega) (by have := Hb1.out.size; simp; omega) ?_
          intro v2 w2 hv hg
          have Hv2 := Lib.hid hv
          have Hb2 := Lib.hid ((Hb1.out.alloc Hb1.out.size _).grown hg (by have := Hb1.out.size; simp; omega) (fun k hk => (Ho1.out.lt k hk).1))
          clear hv hg)))
      go_roundw
      case rel => exact ⟨k + 1, false, _, by omega, by go_num, rfl, Hb2, Hv2, Lib.hid (hst.out.lt Hx.out hc Hi.out)⟩
      case measure => simp [intOf]; omega
    · obtain rfl : L = false := by
       cases L with
       | false => rfl
       | true => have := hst.out.cmp Hx.out; simp only [hc] at this; cases this
      rw [hc]
      cases hs : n0 + N != 0
      · have hs0 : n0 + N = 0 := by simpa using hs
        have Hs0 := Lib.hid hs0
        clear hs0
        go_wp2
        go_roundw
        case rel => exact ⟨k + 1, true, ol, by omega, by go_num, rfl, Hb1, Ho1, Lib.hid (hst.out.eq0 Ha.out Hx.out hc Hs0.out)⟩
        case measure => simp [intOf]; omega
      · have Hs1 : Hid (n0 + N ≠ 0) := Lib.hid (by simpa using hs)
        go_wp2_with (at_builtin; go_must (first
         | (refine wpList_appG cOk rfl (.tmp 44) (.tmp 48) rfl w.heap.size _ ol [⟨r, n0 + N⟩] (some ⟨w1.heap.size, 0, none⟩) 1 1 rfl (Ho1.out.alloc _) rfl rfl (SlG.new cOk.len [⟨r, n0 + N⟩] rfl) (by have := HL.out; simp [maxLen]; omega) (by have := HL.out; simp; omega) (by have := Hb1.out.size; simp; omega) ?_
            intro v2 w2 hv hg
            have Hv2 := Lib.hid hv
            have Hb2 := Lib.hid ((Hb1.out.alloc Hb1.out.size _).grown hg (by have := Hb1.out.size; simp; omega) (fun k hk => (Ho1.out.lt k hk).1))
            clear hv hg)))
        go_roundw
        case rel => exact ⟨k + 1, true, _, by omega, by go_num, rfl, Hb2, Hv2, Lib.hid (hst.out.eq1 Ha.out Hx.out hc Hs1.out HRx.out)⟩
        case measure => simp [intOf]; omega
    · rw [hc]
      cases L with
      | true =>
        go_wp2_with (at_builtin; go_must (first
         | (refine wpList_appG cOk rfl (.tmp 52) (.tmp 57) rfl w.heap.size _ ol [⟨⟨xA, xn, xc, xs⟩, N⟩] (some ⟨w1.heap.size, 0, none⟩) 1 1 rfl (Ho1.out.alloc _) rfl rfl (SlG.new cOk.len [⟨⟨xA, xn, xc, xs⟩, N⟩] rfl) (by have := HL.out; simp [maxLen]; omega) (by have := HL.out; simp; omega) (by have := Hb1.out.size; simp; omega) ?_
            intro v2 w2 hv hg
            have Hv2 := Lib.hid hv
            have Hb2 := Lib.hid ((Hb1.out.alloc Hb1.out.size _).grown hg (by have := Hb1.out.size; simp; omega) (fun k hk => (Ho1.out.lt k hk).1))
            clear hv hg)))
        go_roundw
        case rel => exact ⟨k + 1, true, _, by omega, by go_num, rfl, Hb2, Hv2, Lib.hid (hst.out.laid Hx.out Hi.out)⟩
        case measure => simp [intOf]; omega
      | false =>
        cases hs : n0 != 0
        · have Hs0 : Hid (n0 = 0) := Lib.hid (by simpa using hs)
          go_wp2_with (at_builtin; go_must (first
           | (refine wpList_appG cOk rfl (.tmp 52) (.tmp 57) rfl w.heap.size _ ol [⟨⟨xA, xn, xc, xs⟩, N⟩] (some ⟨w1.heap.size, 0, none⟩) 1 1 rfl (Ho1.out.alloc _) rfl rfl (SlG.new cOk.len [⟨⟨xA, xn, xc, xs⟩, N⟩] rfl) (by have := HL.out; simp [maxLen]; omega) (by have := HL.out; simp; omega) (by have := Hb1.out.size; simp; omega) ?_
              intro v2 w2 hv hg
              have Hv2 := Lib.hid hv
              have Hb2 := Lib.hid ((Hb1.out.alloc Hb1.out.size _).grown hg (by have := Hb1.out.size; simp; omega) (fun k hk => (Ho1.out.lt k hk).1))
              clear hv hg)))
          go_roundw
          case rel => exact ⟨k + 1, true, _, by omega, by go_num, rfl, Hb2, Hv2, Lib.hid (hst.out.gt0 Ha.out Hx.out hc Hs0.out Hi.out)⟩
          case measure => simp [intOf]; omega
        · have Hs1 : Hid (n0 ≠ 0) := Lib.hid (by simpa using hs)
          go_wp2_with (at_builtin; go_must (first
           | (refine wpList_appG cOk rfl (.tmp 44) (.tmp 48) rfl w.heap.size _ ol [⟨r, n0⟩] (some ⟨w1.heap.size, 0, none⟩) 1 1 rfl (Ho1.out.alloc _) rfl rfl (SlG.new cOk.len [⟨r, n0⟩] rfl) (by have := HL.out; simp [maxLen]; omega) (by have := HL.out; simp; omega) (by have := Hb1.out.size; simp; omega) ?_
              intro v2 w2 hv hg
              have Hv2 := Lib.hid hv
              have Hb2 := Lib.hid ((Hb1.out.alloc Hb1.out.size _).grown hg (by have := Hb1.out.size; simp; omega) (fun k hk => (Ho1.out.lt k hk).1))
              have e0 := (HS.out w2 Hb2.out).1
              have e1 := (HS.out w2 Hb2.out).2.1
              have l2 := (HS.out w2 Hb2.out).2.2
              clear hv hg)
           | (refine wpList_appG cOk rfl (.tmp 52) (.tmp 57) rfl w.heap.size _ (ol ++ [⟨r, n0⟩]) [⟨⟨xA, xn, xc, xs⟩, N⟩] (some ⟨w2.heap.size, 0, none⟩) 1 1 rfl (Hv2.out.alloc _) rfl rfl (SlG.new cOk.len [⟨⟨xA, xn, xc, xs⟩, N⟩] rfl) (by have := HL.out; simp [maxLen]; omega) (by have := HL.out; simp; omega) (by have := Hb2.out.size; simp; omega) ?_
              intro v3 w3 hv hg
              have Hv3 := Lib.hid hv
              have Hb3 := Lib.hid ((Hb2.out.alloc Hb2.out.size _).grown hg (by have := Hb2.out.size; simp; omega) (fun k hk => (Hv2.out.lt k hk).1))
              clear hv hg)))
          go_roundw
          case rel => exact ⟨k + 1, true, _, by omega, by go_num, rfl, Hb3, Hv3, Lib.hid (hst.out.gt1 Ha.out Hx.out hc Hs1.out Hr.out Hi.out)⟩
          case measure => simp [intOf]; omega
  · obtain rfl : k = n := by omega
    have HL : Hid (ol.length ≤ 100001) := Lib.hid (by have := hst.out.len; split at this <;> omega)
    have Hnk := Lib.hid (Nat.le_of_eq HB.out.len)
    cases L with
    | true =>
      obtain ⟨A3, c3, rfl, _, _, hs3⟩ := ho.out.sl cOk.len
      have Hs3 := Lib.hid hs3
      have Hm3 : Hid (ol.length ≤ maxLen) := Lib.hid (by have := HL.out; unfold maxLen; omega)
      clear hs3
      obtain ⟨m3, hm3⟩ : ∃ m, ol.length = m := ⟨_, rfl⟩
      rw [hm3]
      have HM := Lib.hid hm3
      clear hm3
      go_wp2
      go_ret
      exact ⟨A3, m3, c3, ol, rfl, hb.out, ⟨HM.out, by rw [← HM.out]; exact Hm3.out, Hs3.out, fun c hc => (hst.out.each c hc).after hb.out⟩, hst.out.done Hnk.out⟩
    | false =>
      cases hs : n0 != 0
      · have Hs0 : Hid (n0 = 0) := Lib.hid (by simpa using hs)
        obtain ⟨A3, c3, rfl, _, _, hs3⟩ := ho.out.sl cOk.len
        have Hs3 := Lib.hid hs3
        have Hm3 : Hid (ol.length ≤ maxLen) := Lib.hid (by have := HL.out; unfold maxLen; omega)
        clear hs3
        obtain ⟨m3, hm3⟩ : ∃ m, ol.length = m := ⟨_, rfl⟩
        rw [hm3]
        have HM := Lib.hid hm3
        clear hm3
        go_wp2
        go_ret
        exact ⟨A3, m3, c3, ol, rfl, hb.out, ⟨HM.out, by rw [← HM.out]; exact Hm3.out, Hs3.out, fun c hc => (hst.out.each c hc).after hb.out⟩, hst.out.done0 Hnk.out Hs0.out⟩
      · have Hs1 : Hid (n0 ≠ 0) := Lib.hid (by simpa using hs)
        go_wp2_with (at_builtin; go_must (first
         | (refine wpList_appG cOk rfl (.tmp 65) (.tmp 69) rfl w.heap.size _ ol [⟨r, n0⟩] (some ⟨wr.heap.size, 0, none⟩) 1 1 rfl (ho.out.alloc _) rfl rfl (SlG.new cOk.len [⟨r, n0⟩] rfl) (by have := HL.out; simp [maxLen]; omega) (by have := HL.out; simp; omega) (by have := hb.out.size; simp; omega) ?_
            intro v2 w2 hv hg
            have Hv2 := Lib.hid hv
            have Hb2 := Lib.hid ((hb.out.alloc hb.out.size _).grown hg (by have := hb.out.size; simp; omega) (fun k hk => (ho.out.lt k hk).1))
            obtain ⟨A3, c3, hv3, _, hm3, hs3⟩ := hv.sl cOk.len
            obtain ⟨m3, hl3⟩ : ∃ m, (ol ++ [(⟨r, n0⟩ : Ct)]).length = m := ⟨_, rfl⟩
            rw [hl3] at hv3
            subst hv3
            have Hs3 := Lib.hid hs3
            have HM := Lib.hid hl3
            clear hv hg hs3 hl3 Hv2)))
        go_ret
        exact ⟨A3, m3, c3, _, rfl, Hb2.out, ⟨HM.out, by rw [← HM.out]; have := HL.out; simp [maxLen]; omega, Hs3.out, fun c hc => (each_snoc hst.out.each Hr.out c hc).after Hb2.out⟩, hst.out.done1 Hnk.out Hs1.out⟩
def Bd (P : Int) (b : Bg) : Prop := ∀ x ∈ b, -P ≤ x.2 ∧ x.2 ≤ P
theorem bd_add : ∀ (b : Bg) (r : List Val) (n P Q : Int), Bd P b → 0 ≤ P → -Q ≤ n → n ≤ Q → Bd (P + Q) (addB b r n)
 | [], r, n, P, Q, _, h0, h1, h2 => by
   rw [addB]
   split
   · nofun
   · intro x hx
     cases List.mem_singleton.1 hx
     exact ⟨by show -(P + Q) ≤ n; omega, by show n ≤ P + Q; omega⟩
 | y :: b, r, n, P, Q, hb, h0, h1, h2 => by
   have hy := hb y List.mem_cons_self
   have ht : Bd P b := fun x hx => hb x (List.mem_cons_of_mem _ hx)
   have hw : ∀ x ∈ b, -(P + Q) ≤ x.2 ∧ x.2 ≤ P + Q := fun x hx => by have := ht x hx; omega
   have hy' : -(P + Q) ≤ y.2 ∧ y.2 ≤ P + Q := by omega
   rw [addB]
   split
   · intro x hx
     rcases List.mem_cons.1 hx with rfl | hx
     · exact hy'
     · exact bd_add b r n P Q ht h0 h1 h2 x hx
   · split
     · split
       · exact hw
       · intro x hx
         rcases List.mem_cons.1 hx with rfl | hx
         · exact ⟨by show -(P + Q) ≤ n + y.2; omega, by show n + y.2 ≤ P + Q; omega⟩
         · exact hw x hx
     · split
       · intro x hx
         rcases List.mem_cons.1 hx with rfl | hx
         · exact hy'
         · exact hw x hx
       · intro x hx
         rcases List.mem_cons.1 hx with rfl | hx
         · exact ⟨by show -(P + Q) ≤ n; omega, by show n ≤ P + Q; omega⟩
         · rcases List.mem_cons.1 hx with rfl | hx
           · exact hy'
           · exact hw x hx
theorem len_add : ∀ (b : Bg) (r : List Val) (n : Int), (addB b r n).length ≤ b.length + 1
 | [], r, n => by rw [addB]; split <;> simp
 | y :: b, r, n => by
   have := len_add b r n
   rw [addB]
   split
   · simp; omega
   · split <;> split <;> simp <;> omega
theorem both_take (a l : Bg) (k : Nat) (x : List Val × Int) (h : l[k]? = some x) : bothB a (l.take (k + 1)) = addB (bothB a (l.take k)) x.1 x.2 := by
 unfold bothB
 rw [List.take_add_one, h, List.foldl_append]
 rfl
theorem pl_mem {cs : List Ct} {x : Ct} (h : x ∈ cs) : (x.h.xs, x.N) ∈ pl cs := List.mem_map.2 ⟨x, h, rfl⟩
def ofR (l : List (List Val)) : Bg := if l.all mayR then ofL l else []
theorem BgIn.nil (w : World) (c : Nat) : BgIn w none 0 [] ∧ c = c := ⟨⟨rfl, Nat.zero_le _, .inl rfl, nofun⟩, rfl⟩
theorem BgIn.none (w : World) : BgIn w none 0 [] := (BgIn.nil w 0).1
theorem BgIn.empty (w : World) (E : TypeId) : BgIn (w.alloc (.cells #[] E)) (some ⟨w.heap.size, 0, Option.none⟩) 0 [] := ⟨rfl, Nat.zero_le _, SlG.new cOk.len [] rfl, nofun⟩
structure Bh where
 A : Option Addr
 n : Nat
 c : Nat
 cs : List Ct
def rdBh (b : Bh) : List Value := [.slice b.A b.n b.c]
def Bh.In (w : World) (b : Bh) : Prop := BgIn w b.A b.n b.cs
def totB : List Bh → Nat
 | [] => 0
 | b :: l => b.n + totB l
theorem totB_take : ∀ (l : List Bh) (k : Nat) (b : Bh), l[k]? = some b → totB (l.take (k + 1)) = totB (l.take k) + b.n
 | [], k, b, h => by simp at h
 | x :: l, 0, b, h => by
   simp at h
   subst h
   simp [totB]
 | x :: l, k + 1, b, h => by
   have := totB_take l k b (by simpa using h)
   rw [List.take_succ_cons, List.take_succ_cons, totB, totB, this]
   omega
theorem totB_le : ∀ (l : List Bh) (k : Nat), totB (l.take k) ≤ totB l
 | [], k => by simp
 | x :: l, 0 => Nat.zero_le _
 | x :: l, k + 1 => by
   have := totB_le l k
   rw [List.take_succ_cons, totB, totB]
   omega
theorem bd_may {b : Bg} (h : mayBag b = true) : Bd 1000000000 b := by
 unfold mayBag at h
 rw [Bool.and_eq_true, List.all_eq_true] at h
 intro x hx
 have := okC_parts (h.1 x hx)
 exact ⟨this.2.1, this.2.2.1⟩
def joinR (hs : List Hd) : List Val := hs.flatMap (·.xs)
theorem joinR_take (hs : List Hd) (k : Nat) (h : Hd) (hk : hs[k]? = some h) : joinR (hs.take (k + 1)) = joinR (hs.take k) ++ h.xs := by
 unfold joinR
 rw [List.take_add_one, hk]
 simp
theorem joinR_le (hs : List Hd) (k : Nat) : (joinR (hs.take k)).length ≤ (joinR hs).length := by
 have : joinR hs = joinR (hs.take k) ++ joinR (hs.drop k) := by
  unfold joinR
  rw [← List.flatMap_append, List.take_append_drop]
 rw [this, List.length_append]
 omega
set_option maxHeartbeats 1000000 in
theorem join_c (A : Option Addr) (n c : Nat) (hs : List Hd) (w : World) (hn : hs.length = n) (hn1 : n ≤ maxLen) (hsl : SlG w A 1 rdH hs) (hin : ∀ h ∈ hs, Hd.In w h) (htot : (joinR hs).length ≤ 100000) :
 Calls Tryz.prog 33 #[.slice A n c] w fun en w' => ∃ v, en = .returned v ∧ Below w.heap.size w w' ∧ OwnV w' w.heap.size v (joinR hs) := by
 unfold maxLen at hn1
 have Hs := Lib.hid hsl
 have Hn := Lib.hid hn
 have Hi := Lib.hid hin
 have Ht := Lib.hid htot
 clear hsl hn hin htot
 go_enter Tryz.func33, Tryz.ntmps33
 go_wp2_with fail
 go_loopw [3, 8] (fun v i wr => ∃ k : Nat, k ≤ n ∧ i = .int .i64 k ∧ Hid (Below w.heap.size w wr) ∧ Hid (OwnV wr w.heap.size v (joinR (hs.take k)))) (fun _ i _ => n - (intOf i).toNat)
 case atStart => exact ⟨0, Nat.zero_le _, rfl, Below.refl _ _, OwnG.nil _ _ _⟩
 case round =>
  obtain ⟨k, hk, rfl, hb, ho⟩ := hrel
  obtain ⟨A2, c2, hv⟩ := ho.out.isSlice
  obtain ⟨L, hL⟩ : ∃ L, (joinR (hs.take k)).length = L := ⟨_, rfl⟩
  rw [hL] at hv
  subst hv
  have HL := Lib.hid hL
  clear hL
  by_cases hlt : k < n
  · obtain ⟨b, off, h, rfl, hblt, hh, c0⟩ := Hs.out.at1 (by rw [Hn.out]; exact hlt)
    have d0 := (hb.out.cell (p := ⟨b, off + k, none⟩) hblt).trans (c0 _ rfl)
    have l0 : b < wr.heap.size := Nat.lt_of_lt_of_le hblt hb.out.size
    have hin2 := (Hi.out h (List.mem_of_getElem? hh)).after hb.out
    have hj := joinR_take hs k h hh
    have hle := joinR_le hs (k + 1)
    have hle2 := Ht.out
    rw [hj, List.length_append, HL.out] at hle
    obtain ⟨hA, hn', hc', hxs⟩ := h
    simp only [] at hle hj
    have e1 := hin2.len
    have e2 := hin2.sl
    simp only [] at e1 e2
    have HLL := Lib.hid (show L + hxs.length ≤ 100000 by omega)
    have Hj := Lib.hid hj
    have E1 := Lib.hid e1
    have E2 := Lib.hid e2
    clear hin2 hj hle hle2 c0 hh e1 e2 hblt
    go_wp2_with (at_builtin; go_must (
     refine wpList_appG vOk rfl (.tmp 12) (.tmp 13) rfl w.heap.size _ (joinR (hs.take k)) hxs hA hn' hc' rfl ho.out rfl E1.out (Sl.slG E2.out) (by have := HLL.out; rw [HL.out]; unfold maxLen; omega) (by have := HLL.out; rw [HL.out]; omega) hb.out.size ?_
     intro v3 w3 hv3 hg3
     rw [← Hj.out] at hv3
     have Hv3 := Lib.hid hv3
     have Hb3 := Lib.hid (hb.out.grown hg3 hb.out.size (fun k hk => (ho.out.lt k hk).1))
     clear hv3 hg3))
    go_roundw
    case rel => exact ⟨k + 1, by omega, by go_num, Hb3, Hv3⟩
    case measure => simp [intOf]; omega
  · obtain rfl : k = n := by omega
    have ho2 := ho.out
    rw [show hs.take k = hs from List.take_of_length_le (by rw [Hn.out]; omega)] at ho2
    have Ho2 := Lib.hid ho2
    clear ho2
    go_wp2_with fail
    go_ret
    exact ⟨_, rfl, hb.out, Ho2.out⟩
end Go.Proofs.YtldaoepemofhlaaGreatDoor
