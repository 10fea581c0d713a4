/-
  Part 10 of 11 of what the proof leans on: each part below says what it proves, and of what; no condition besides.
-/
import Derived.Test.YtbpopkgpepmlcaaGreatR01
import Derived.Test.YtbpopkgpepmlcaaGreatR03
import Derived.Test.YtbpopkgpepmlcaaGreatR04
import Derived.Test.YtbpopkgpepmlcaaGreatR09
import Derived.Shelf.SlSortCmp.WholeK
import Derived.Shelf.SlSortCmp.NoneTotal
import Derived.Shelf.SlGeneric
import Derived.Ground.SlsfProg
import Derived.Test.YtbpopkgpepmlcaaGreatProg
import Derived.Lib.SliceRun
set_option linter.unusedVariables false
set_option linter.unusedSimpArgs false
namespace Go.Proofs
open Go.Shelf
def Tryz.sortC_ren : Go.Shelf.Ren := ⟨fun | 6 => 56 | 15 => 70 | 14 => 69 | 28 => 90 | 29 => 91 | 20 => 82 | 21 => 83 | 22 => 84 | 23 => 85 | 24 => 86 | 25 => 87 | 26 => 88 | 27 => 89 | 46 => 102 | 47 => 103 | 48 => 104 | 49 => 105 | 50 => 106 | 57 => 116 | n => n, fun | 22 => 29 | 24 => 44 | 25 => 89 | 3 => 3 | 39 => 107 | 0 => 0 | 53 => 124 | 55 => 85 | 4 => 4 | 46 => 118 | 45 => 117 | 50 => 99 | 5 => 5 | 9 => 9 | 66 => 133 | 70 => 137 | 76 => 142 | 77 => 143 | n => n, fun | n => n⟩
theorem Tryz.sortC : Go.Proofs.SlLaysF0.n6 Tryz.prog Tryz.sortC_ren := {
 mixed := by kernel_rfl
 f6 := ⟨Tryz.f56.name, by decide, Tryz.func56.trans (congrArg some (by kernel_rfl))⟩
 f14 := ⟨Tryz.f69.name, by decide, Tryz.func69.trans (congrArg some (by kernel_rfl))⟩
 f15 := Tryz.func70.trans (congrArg some (by kernel_rfl))
 f20 := ⟨Tryz.f82.name, by decide, Tryz.func82.trans (congrArg some (by kernel_rfl))⟩
 f21 := ⟨Tryz.f83.name, by decide, Tryz.func83.trans (congrArg some (by kernel_rfl))⟩
 f22 := ⟨Tryz.f84.name, by decide, Tryz.func84.trans (congrArg some (by kernel_rfl))⟩
 f23 := ⟨Tryz.f85.name, by decide, Tryz.func85.trans (congrArg some (by kernel_rfl))⟩
 f24 := ⟨Tryz.f86.name, by decide, Tryz.func86.trans (congrArg some (by kernel_rfl))⟩
 f25 := ⟨Tryz.f87.name, by decide, Tryz.func87.trans (congrArg some (by kernel_rfl))⟩
 f26 := ⟨Tryz.f88.name, by decide, Tryz.func88.trans (congrArg some (by kernel_rfl))⟩
 f27 := ⟨Tryz.f89.name, by decide, Tryz.func89.trans (congrArg some (by kernel_rfl))⟩
 f28 := Tryz.func90.trans (congrArg some (by kernel_rfl))
 f29 := Tryz.func91.trans (congrArg some (by kernel_rfl))
 f46 := ⟨Tryz.f102.name, by decide, Tryz.func102.trans (congrArg some (by kernel_rfl))⟩
 f47 := Tryz.func103.trans (congrArg some (by kernel_rfl))
 f48 := Tryz.func104.trans (congrArg some (by kernel_rfl))
 f49 := ⟨Tryz.f105.name, by decide, Tryz.func105.trans (congrArg some (by kernel_rfl))⟩
 f50 := ⟨Tryz.f106.name, by decide, Tryz.func106.trans (congrArg some (by kernel_rfl))⟩
 f57 := ⟨Tryz.f116.name, by decide, Tryz.func116.trans (congrArg some (by kernel_rfl))⟩
 t0 := Tryz.underlying0
 a0 := Tryz.isAgg0
 z0 := Tryz.sizeOf0
 v0 := Tryz.zeroValue0
 t3 := Tryz.underlying3
 a3 := Tryz.isAgg3
 z3 := Tryz.sizeOf3
 v3 := Tryz.zeroValue3
 t4 := Tryz.underlying4
 a4 := Tryz.isAgg4
 z4 := Tryz.sizeOf4
 v4 := Tryz.zeroValue4
 t5 := Tryz.underlying5
 a5 := Tryz.isAgg5
 z5 := Tryz.sizeOf5
 v5 := Tryz.zeroValue5
 t9 := Tryz.underlying9
 a9 := Tryz.isAgg9
 z9 := Tryz.sizeOf9
 v9 := Tryz.zeroValue9
 t22 := Tryz.underlying29
 a22 := Tryz.isAgg29
 z22 := Tryz.sizeOf29
 v22 := Tryz.zeroValue29
 t25 := Tryz.underlying89
 a25 := Tryz.isAgg89
 z25 := Tryz.sizeOf89
 v25 := Tryz.zeroValue89
 t39 := Tryz.underlying107
 a39 := Tryz.isAgg107
 z39 := Tryz.sizeOf107
 v39 := Tryz.zeroValue107
 t45 := Tryz.underlying117
 a45 := Tryz.isAgg117
 z45 := Tryz.sizeOf117
 v45 := Tryz.zeroValue117
 t46 := Tryz.underlying118
 a46 := Tryz.isAgg118
 z46 := Tryz.sizeOf118
 v46 := Tryz.zeroValue118
 t50 := Tryz.underlying99
 a50 := Tryz.isAgg99
 z50 := Tryz.sizeOf99
 v50 := Tryz.zeroValue99
 t53 := Tryz.underlying124
 a53 := Tryz.isAgg124
 z53 := Tryz.sizeOf124
 v53 := Tryz.zeroValue124
 t55 := Tryz.underlying85
 a55 := Tryz.isAgg85
 z55 := Tryz.sizeOf85
 v55 := Tryz.zeroValue85
 t66 := Tryz.underlying133
 a66 := Tryz.isAgg133
 z66 := Tryz.sizeOf133
 v66 := Tryz.zeroValue133
 t70 := Tryz.underlying137
 a70 := Tryz.isAgg137
 z70 := Tryz.sizeOf137
 v70 := Tryz.zeroValue137
 t76 := Tryz.underlying142
 a76 := Tryz.isAgg142
 z76 := Tryz.sizeOf142
 v76 := Tryz.zeroValue142
 t77 := Tryz.underlying143
 a77 := Tryz.isAgg143
 z77 := Tryz.sizeOf143
 v77 := Tryz.zeroValue143 }
end Go.Proofs
namespace Go.Proofs.YtbpopkgpepmlcaaGreat
open Go Go.RowKit
set_option maxRecDepth 100000
def beyB (N : Int) : Bool := decide (N < -1000000000) || decide (1000000000 < N)
theorem bey_fits (N : Int) : beyB N = !(decide (-1000000000 ≤ N) && decide (N ≤ 1000000000)) := by
 unfold beyB
 by_cases h1 : N < -1000000000
 · have h2 : ¬ -1000000000 ≤ N := by omega
   simp [h1, h2]
 · by_cases h3 : 1000000000 < N
   · have h4 : ¬ N ≤ 1000000000 := by omega
     simp [h3, h4]
   · have h2 : -1000000000 ≤ N := by omega
     have h4 : N ≤ 1000000000 := by omega
     simp [h1, h2, h3, h4]
theorem beyond_g (A : Option Addr) (n c : Nat) (N : Int) (w : World) : Calls Tryz.prog 35 #[.agg #[.slice A n c, .int .i64 N]] w fun e w' => e = .returned (.bool (beyB N)) ∧ Gr w w' := by
 unfold beyB
 cases h1 : decide (N < -1000000000)
 · go_enter Tryz.func35, Tryz.ntmps35
   go_wp2
   go_ret
   exact ⟨rfl, gr_one _ _⟩
 · go_enter Tryz.func35, Tryz.ntmps35
   go_wp2
   go_ret
   exact ⟨rfl, gr_one _ _⟩
theorem zero_g (A : Option Addr) (n c : Nat) (N : Int) (w : World) : Calls Tryz.prog 41 #[.agg #[.slice A n c, .int .i64 N]] w fun e w' => e = .returned (.bool (N == 0)) ∧ Gr w w' := by
 go_enter Tryz.func41, Tryz.ntmps41
 go_wp2
 go_ret
 exact ⟨rfl, gr_one _ _⟩
theorem enKeyCompare : ∀ args w, (callFunc 37 args).run Tryz.prog w = .ok (.enter 37 args) w := fun _ _ => by kernel_rfl
set_option maxHeartbeats 4000000 in
theorem mayBag_c (A : Option Addr) (n c : Nat) (cs : List Ct) (w : World) (hB : BgIn w A n cs) :
 Calls Tryz.prog 17 #[.slice A n c] w fun e w' => e = .returned (.bool (mayBag (pl cs))) ∧ Below w.heap.size w w' := by
 obtain ⟨R, hR⟩ : ∃ R, mayBag (pl cs) = R := ⟨_, rfl⟩
 rw [hR]
 rw [← mayFrom_none] at hR
 have HR := Lib.hid hR
 have HB := Lib.hid hB
 have hmx : n ≤ 9223372036854775807 := hB.max
 clear hB hR
 go_enter Tryz.func17, Tryz.ntmps17
 go_wp2_with fail
 go_loopw [7] (fun i wr => ∃ k : Nat, k ≤ n ∧ i = .int .i64 k ∧ Hid (Below w.heap.size w wr) ∧ Hid (mayFrom (prevOf (pl cs) k) ((pl cs).drop k) = R)) (fun i _ => n - (intOf i).toNat)
 case atStart => exact ⟨0, Nat.zero_le _, rfl, Lib.hid (Below.refl _ _), HR⟩
 case round =>
  obtain ⟨k, hk, rfl, hb, hinv⟩ := hrel
  clear HR
  by_cases hlt : k < n
  · obtain ⟨b, off, rfl⟩ := HB.out.sl.some2 (k := k) (by rw [HB.out.len]; exact hlt)
    obtain ⟨x, hx⟩ : ∃ x, cs[k]? = some x := ⟨_, List.getElem?_eq_getElem (by rw [HB.out.len]; exact hlt)⟩
    obtain ⟨hblt, c0, c1⟩ := HB.out.sl.cell2 hx
    have d0 := (hb.out.cell (p := ⟨b, off + k * 2, none⟩) hblt).trans c0
    have d1 := (hb.out.cell (p := ⟨b, off + k * 2 + 1, none⟩) hblt).trans c1
    have l0 : b < wr.heap.size := Nat.lt_of_lt_of_le hblt hb.out.size
    have Hx := Lib.hid ((HB.out.each x (List.mem_of_getElem? hx)).after hb.out)
    have Hst := Lib.hid ((mayFrom_drop (pl cs) k _ (pl_at hx)).symm.trans hinv.out)
    clear hinv c0 c1 hx
    obtain ⟨⟨xA, xn, xc, xs⟩, N⟩ := x
    have hprev : Hid (∀ j, k = j + 1 → ∃ y : Ct, prevOf (pl cs) k = some y.h.xs ∧ Ct.In wr y ∧ wr.cell? ⟨b, off + j * 2, none⟩ = some (.slice y.h.A y.h.n y.h.c)) := Lib.hid (by
     rintro j rfl
     obtain ⟨y, hy⟩ : ∃ y, cs[j]? = some y := ⟨_, List.getElem?_eq_getElem (by rw [HB.out.len]; omega)⟩
     obtain ⟨hblt, c0, c1⟩ := HB.out.sl.cell2 hy
     exact ⟨y, prev_succ (pl_at hy), (HB.out.each y (List.mem_of_getElem? hy)).after hb.out, (hb.out.cell (p := ⟨b, off + j * 2, none⟩) hblt).trans c0⟩)
    have hgo : (k : Int) < n := by omega
    have lw := hb.out.size
    have Hbw := Lib.hid (below_one wr (.cells #[.slice xA xn xc, .int .i64 N] 44))
    have Hgc : Hid ((wr.alloc (.cells #[.slice xA xn xc, .int .i64 N] 44)).cell? ⟨wr.heap.size, 0, none⟩ = some (.slice xA xn xc)) := Lib.hid (by simp)
    cases hN0 : N == 0
    · go_wp2_with fail
      refine (beyond_g xA xn xc N _).mono ?_
      rintro e w1 ⟨rfl, hg1⟩
      have Hg1 := Lib.hid hg1.below
      rw [bey_fits]
      clear hg1 d0 d1
      have Hl1 : Hid (wr.heap.size + 1 ≤ w1.heap.size) := Lib.hid (by have := Hg1.out.size; simpa using this)
      have Hgc1 : Hid (w1.cell? ⟨wr.heap.size, 0, none⟩ = some (.slice xA xn xc)) := Lib.hid ((Hg1.out.cell (p := ⟨wr.heap.size, 0, none⟩) (by simp)).trans Hgc.out)
      have Hb1 := Lib.hid (below_via (below_via hb.out Hbw.out) Hg1.out)
      have HbW1 := Lib.hid (below_via Hbw.out Hg1.out)
      clear Hgc Hg1 Hbw
      cases hF1 : (decide (-1000000000 ≤ N) && decide (N ≤ 1000000000))
      · have Hst2 : Hid (false = R) := by
         have := Hst.out
         rw [okC_and] at this
         simp only [hN0, hF1, Bool.not_false, Bool.true_and, Bool.false_and] at this
         exact Lib.hid this
        clear Hst
        simp only [Bool.not_false]
        go_wp2
        go_ret
        exact ⟨congrArg (fun z => Ending.returned (Value.bool z)) Hst2.out, Hb1.out⟩
      · simp only [Bool.not_true]
        have gc := Hgc1.out
        go_wp2_with fail
        refine (mayRow_c xA xn xc xs _ (Hx.out.after HbW1.out).hd.len (Hx.out.after HbW1.out).hd.max (Hx.out.after HbW1.out).hd.sl Hx.out.sz).mono ?_
        rintro e w2 ⟨rfl, hb2⟩
        have Hb2 := Lib.hid (below_via Hb1.out hb2)
        have HbW2 := Lib.hid (below_via HbW1.out hb2)
        have dg := Lib.hid ((hb2.cell (p := ⟨wr.heap.size, 0, none⟩) (Nat.lt_of_lt_of_le (Nat.lt_succ_self _) Hl1.out)).trans Hgc1.out)
        have lg : wr.heap.size < w2.heap.size := Nat.lt_of_lt_of_le (Nat.lt_of_lt_of_le (Nat.lt_succ_self _) Hl1.out) hb2.size
        have l2 : b < w2.heap.size := Nat.lt_trans l0 lg
        have Hx2 := Lib.hid (Hx.out.after HbW2.out)
        clear hb2 gc Hgc1 Hl1
        cases hM : mayR xs
        · have Hst2 : Hid (false = R) := by
           have := Hst.out
           rw [okC_and] at this
           simp only [hN0, hF1, hM, Bool.not_false, Bool.true_and, Bool.false_and] at this
           exact Lib.hid this
          clear Hst
          go_wp2
          go_ret
          exact ⟨congrArg (fun z => Ending.returned (Value.bool z)) Hst2.out, Hb2.out⟩
        · go_wp2_with fail
          cases hk0 : decide (0 < (k : Int))
          · have hk1 : k = 0 := by have := of_decide_eq_false hk0; omega
            have hp0 : prevOf (pl cs) k = none := by rw [hk1]; rfl
            have Hst2 : Hid (mayFrom (prevOf (pl cs) (k + 1)) ((pl cs).drop (k + 1)) = R) := by
             have := Hst.out
             rw [okC_and] at this
             simp only [hN0, hF1, hM, hp0, Bool.not_false, Bool.true_and] at this
             exact Lib.hid this
            clear Hst
            clear hp0 hk1
            refine Reg.wp_region_vals mixed (by kernel_rfl) [(25, .int .i64 (k : Nat)), (26, .bool false), (27, .bool false), (28, undef), (29, undef), (30, undef), (31, undef), (32, undef), (33, undef), (34, undef), (35, undef), (36, undef), (37, undef), (38, .bool false)] 40 rfl (by kernel_rfl) ?_ ?_
            · intro F hF w' hB
              refine ⟨?_, ?_, ?_, ?_, ?_, ?_, ?_, ?_, ?_, ?_, ?_, ?_, ?_, ?_, trivial⟩
              · exact Reg.doesV_val (ev_move rfl) (by rw [hF]; kernel_rfl) (by rw [hF]; kernel_rfl)
              · exact Reg.doesV_val (by rw [ev_gtC5 (k : Int) 0 rfl (by rw [hF]; kernel_rfl), hk0]) (by rw [hF]; kernel_rfl) (by rw [hF]; kernel_rfl)
              · exact Reg.doesV_val (ev_move rfl) (by rw [hF]; kernel_rfl) (by rw [hF]; kernel_rfl)
              · exact Reg.doesV_skip (by rw [hF]; kernel_rfl) (by rw [hF]; kernel_rfl)
              · exact Reg.doesV_skip (by rw [hF]; kernel_rfl) (by rw [hF]; kernel_rfl)
              · exact Reg.doesV_skip (by rw [hF]; kernel_rfl) (by rw [hF]; kernel_rfl)
              · exact Reg.doesV_skip (by rw [hF]; kernel_rfl) (by rw [hF]; kernel_rfl)
              · exact Reg.doesV_skip (by rw [hF]; kernel_rfl) (by rw [hF]; kernel_rfl)
              · exact Reg.doesV_skip (by rw [hF]; kernel_rfl) (by rw [hF]; kernel_rfl)
              · exact Reg.doesV_skip (by rw [hF]; kernel_rfl) (by rw [hF]; kernel_rfl)
              · exact Reg.doesV_skip (by rw [hF]; kernel_rfl) (by rw [hF]; kernel_rfl)
              · exact Reg.doesV_skip (by rw [hF]; kernel_rfl) (by rw [hF]; kernel_rfl)
              · exact Reg.doesV_skip (by rw [hF]; kernel_rfl) (by rw [hF]; kernel_rfl)
              · exact Reg.doesV_val (ev_pick false rfl (by rw [hF]; kernel_rfl)) (by rw [hF]; kernel_rfl) (by rw [hF]; kernel_rfl)
            · intro w8 hB
              simp only [Reg.putAll, Act.put, List.setIfInBounds_toArray, List.set_cons_zero, List.set_cons_succ]
              have Hb3 := Lib.hid (Hb2.out.trans (hB.mono Hb2.out.size))
              clear hB
              go_wp2
              go_roundw
              case rel => exact ⟨k + 1, by omega, by go_num, Hb3, Hst2⟩
              case measure => simp [intOf]; omega
          · obtain ⟨j, hkj⟩ : ∃ j, k = j + 1 := ⟨k - 1, by have := of_decide_eq_true hk0; omega⟩
            have hjn : j < n := by omega
            have hjx : k ≤ 9223372036854775807 := by omega
            obtain ⟨⟨⟨yA, yn, yc, ys⟩, yN⟩, hp, hy, dq⟩ := hprev.out j hkj
            have Hy := Lib.hid (hy.after HbW2.out)
            have dq := Lib.hid ((HbW2.out.cell (p := ⟨b, off + j * 2, none⟩) l0).trans dq)
            clear hy
            cases hC : decide (0 ≤ cmpL ys xs)
            · have hC2 : decide (cmpL ys xs < 0) = true := by have := of_decide_eq_false hC; exact decide_eq_true (by omega)
              have Hst2 : Hid (mayFrom (prevOf (pl cs) (k + 1)) ((pl cs).drop (k + 1)) = R) := by
               have := Hst.out
               rw [okC_and] at this
               simp only [hN0, hF1, hM, hp, hC2, Bool.not_false, Bool.true_and] at this
               exact Lib.hid this
              clear Hst
              clear hp hC2
              refine Reg.wp_region_vals mixed (by kernel_rfl) [(25, .int .i64 (k : Nat)), (26, .bool true), (27, .bool true), (28, .slice (some ⟨b, off, none⟩) n c), (29, .int .i64 (k : Nat)), (30, .int .i64 (j : Nat)), (31, .pointer (some ⟨b, off + j * 2, none⟩)), (32, .pointer (some ⟨b, off + j * 2, none⟩)), (33, .slice yA yn yc), (34, .pointer (some ⟨wr.heap.size, 0, none⟩)), (35, .slice xA xn xc), (36, .int .i64 (cmpL ys xs)), (37, .bool false), (38, .bool false)] 40 rfl (by kernel_rfl) ?_ ?_
              · intro F hF w' hB
                have q0 := (hB.cell (p := ⟨b, off + j * 2, none⟩) l2).trans dq.out
                have jx := (hB.cell (p := ⟨wr.heap.size, 0, none⟩) lg).trans dg.out
                have ix := Hx2.out.after hB
                have iy := Hy.out.after hB
                refine ⟨?_, ?_, ?_, ?_, ?_, ?_, ?_, ?_, ?_, ?_, ?_, ?_, ?_, ?_, trivial⟩
                · exact Reg.doesV_val (ev_move rfl) (by rw [hF]; kernel_rfl) (by rw [hF]; kernel_rfl)
                · exact Reg.doesV_val (by rw [ev_gtC5 (k : Int) 0 rfl (by rw [hF]; kernel_rfl), hk0]) (by rw [hF]; kernel_rfl) (by rw [hF]; kernel_rfl)
                · exact Reg.doesV_val (ev_move rfl) (by rw [hF]; kernel_rfl) (by rw [hF]; kernel_rfl)
                · exact Reg.doesV_val (ev_move rfl) (by rw [hF]; kernel_rfl) (by rw [hF]; kernel_rfl)
                · exact Reg.doesV_val (ev_move rfl) (by rw [hF]; kernel_rfl) (by rw [hF]; kernel_rfl)
                · exact Reg.doesV_val (ev_dec5 k j hkj hjx rfl (by rw [hF]; kernel_rfl)) (by rw [hF]; kernel_rfl) (by rw [hF]; kernel_rfl)
                · exact Reg.doesV_val (ev_idxC (b := b) (off := off) (n := n) (c := c) (k := j) hjn rfl (by rw [hF]; kernel_rfl) (by rw [hF]; kernel_rfl)) (by rw [hF]; kernel_rfl) (by rw [hF]; kernel_rfl)
                · exact Reg.doesV_val (ev_c0 (b := b) (off := off + j * 2) rfl (by rw [hF]; kernel_rfl)) (by rw [hF]; kernel_rfl) (by rw [hF]; kernel_rfl)
                · exact Reg.doesV_val (ev_ldR (A := yA) (n := yn) (c := yc) q0 rfl (by rw [hF]; kernel_rfl)) (by rw [hF]; kernel_rfl) (by rw [hF]; kernel_rfl)
                · exact Reg.doesV_val (ev_c0 (b := wr.heap.size) (off := 0) rfl (by rw [hF]; kernel_rfl)) (by rw [hF]; kernel_rfl) (by rw [hF]; kernel_rfl)
                · exact Reg.doesV_val (ev_ldR (A := xA) (n := xn) (c := xc) jx rfl (by rw [hF]; kernel_rfl)) (by rw [hF]; kernel_rfl) (by rw [hF]; kernel_rfl)
                · exact Reg.doesV_call (compareL_c yA xA yn xn yc xc ys xs w' iy.hd.len ix.hd.len iy.hd.max ix.hd.max iy.hd.sl ix.hd.sl) (ev_call enKeyCompare rfl (by rw [hF]; kernel_rfl)) (by rw [hF]; kernel_rfl) (by rw [hF]; kernel_rfl)
                · exact Reg.doesV_val (by rw [ev_geC5 (cmpL ys xs) 0 rfl (by rw [hF]; kernel_rfl), hC]) (by rw [hF]; kernel_rfl) (by rw [hF]; kernel_rfl)
                · exact Reg.doesV_val (ev_pick true rfl (by rw [hF]; kernel_rfl)) (by rw [hF]; kernel_rfl) (by rw [hF]; kernel_rfl)
              · intro w8 hB
                simp only [Reg.putAll, Act.put, List.setIfInBounds_toArray, List.set_cons_zero, List.set_cons_succ]
                have Hb3 := Lib.hid (Hb2.out.trans (hB.mono Hb2.out.size))
                clear hB
                go_wp2
                go_roundw
                case rel => exact ⟨k + 1, by omega, by go_num, Hb3, Hst2⟩
                case measure => simp [intOf]; omega
            · have hC2 : decide (cmpL ys xs < 0) = false := by have := of_decide_eq_true hC; exact decide_eq_false (by omega)
              have Hst2 : Hid (false = R) := by
               have := Hst.out
               rw [okC_and] at this
               simp only [hN0, hF1, hM, hp, hC2, Bool.not_false, Bool.true_and, Bool.false_and] at this
               exact Lib.hid this
              clear Hst
              clear hp hC2
              refine Reg.wp_region_vals mixed (by kernel_rfl) [(25, .int .i64 (k : Nat)), (26, .bool true), (27, .bool true), (28, .slice (some ⟨b, off, none⟩) n c), (29, .int .i64 (k : Nat)), (30, .int .i64 (j : Nat)), (31, .pointer (some ⟨b, off + j * 2, none⟩)), (32, .pointer (some ⟨b, off + j * 2, none⟩)), (33, .slice yA yn yc), (34, .pointer (some ⟨wr.heap.size, 0, none⟩)), (35, .slice xA xn xc), (36, .int .i64 (cmpL ys xs)), (37, .bool true), (38, .bool true)] 40 rfl (by kernel_rfl) ?_ ?_
              · intro F hF w' hB
                have q0 := (hB.cell (p := ⟨b, off + j * 2, none⟩) l2).trans dq.out
                have jx := (hB.cell (p := ⟨wr.heap.size, 0, none⟩) lg).trans dg.out
                have ix := Hx2.out.after hB
                have iy := Hy.out.after hB
                refine ⟨?_, ?_, ?_, ?_, ?_, ?_, ?_, ?_, ?_, ?_, ?_, ?_, ?_, ?_, trivial⟩
                · exact Reg.doesV_val (ev_move rfl) (by rw [hF]; kernel_rfl) (by rw [hF]; kernel_rfl)
                · exact Reg.doesV_val (by rw [ev_gtC5 (k : Int) 0 rfl (by rw [hF]; kernel_rfl), hk0]) (by rw [hF]; kernel_rfl) (by rw [hF]; kernel_rfl)
                · exact Reg.doesV_val (ev_move rfl) (by rw [hF]; kernel_rfl) (by rw [hF]; kernel_rfl)
                · exact Reg.doesV_val (ev_move rfl) (by rw [hF]; kernel_rfl) (by rw [hF]; kernel_rfl)
                · exact Reg.doesV_val (ev_move rfl) (by rw [hF]; kernel_rfl) (by rw [hF]; kernel_rfl)
                · exact Reg.doesV_val (ev_dec5 k j hkj hjx rfl (by rw [hF]; kernel_rfl)) (by rw [hF]; kernel_rfl) (by rw [hF]; kernel_rfl)
                · exact Reg.doesV_val (ev_idxC (b := b) (off := off) (n := n) (c := c) (k := j) hjn rfl (by rw [hF]; kernel_rfl) (by rw [hF]; kernel_rfl)) (by rw [hF]; kernel_rfl) (by rw [hF]; kernel_rfl)
                · exact Reg.doesV_val (ev_c0 (b := b) (off := off + j * 2) rfl (by rw [hF]; kernel_rfl)) (by rw [hF]; kernel_rfl) (by rw [hF]; kernel_rfl)
                · exact Reg.doesV_val (ev_ldR (A := yA) (n := yn) (c := yc) q0 rfl (by rw [hF]; kernel_rfl)) (by rw [hF]; kernel_rfl) (by rw [hF]; kernel_rfl)
                · exact Reg.doesV_val (ev_c0 (b := wr.heap.size) (off := 0) rfl (by rw [hF]; kernel_rfl)) (by rw [hF]; kernel_rfl) (by rw [hF]; kernel_rfl)
                · exact Reg.doesV_val (ev_ldR (A := xA) (n := xn) (c := xc) jx rfl (by rw [hF]; kernel_rfl)) (by rw [hF]; kernel_rfl) (by rw [hF]; kernel_rfl)
                · exact Reg.doesV_call (compareL_c yA xA yn xn yc xc ys xs w' iy.hd.len ix.hd.len iy.hd.max ix.hd.max iy.hd.sl ix.hd.sl) (ev_call enKeyCompare rfl (by rw [hF]; kernel_rfl)) (by rw [hF]; kernel_rfl) (by rw [hF]; kernel_rfl)
                · exact Reg.doesV_val (by rw [ev_geC5 (cmpL ys xs) 0 rfl (by rw [hF]; kernel_rfl), hC]) (by rw [hF]; kernel_rfl) (by rw [hF]; kernel_rfl)
                · exact Reg.doesV_val (ev_pick true rfl (by rw [hF]; kernel_rfl)) (by rw [hF]; kernel_rfl) (by rw [hF]; kernel_rfl)
              · intro w8 hB
                simp only [Reg.putAll, Act.put, List.setIfInBounds_toArray, List.set_cons_zero, List.set_cons_succ]
                have Hb3 := Lib.hid (Hb2.out.trans (hB.mono Hb2.out.size))
                clear hB
                go_wp2
                go_ret
                exact ⟨congrArg (fun z => Ending.returned (Value.bool z)) Hst2.out, Hb3.out⟩
    · have Hst2 : Hid (false = R) := by
       have := Hst.out
       rw [okC_and] at this
       simp only [hN0, Bool.not_true, Bool.false_and] at this
       exact Lib.hid this
      clear Hst
      have Hb1 := Lib.hid (below_via hb.out Hbw.out)
      clear Hbw Hgc
      go_wp2
      go_ret
      exact ⟨congrArg (fun z => Ending.returned (Value.bool z)) Hst2.out, Hb1.out⟩
  · obtain rfl : k = n := by omega
    have Hst' : Hid (true = R) := by
     have := hinv.out
     rw [show (pl cs).drop k = [] from List.drop_eq_nil_of_le (by rw [pl_len, HB.out.len]; omega)] at this
     rw [← this]
     exact Lib.hid (mayFrom_nil _).symm
    clear hinv
    go_wp2
    go_ret
    exact ⟨congrArg (fun z => Ending.returned (Value.bool z)) Hst'.out, hb.out⟩
end Go.Proofs.YtbpopkgpepmlcaaGreat
namespace Go.Proofs.YtbpopkgpepmlcaaGreat
open Go Go.RowKit Go.Sort
set_option maxRecDepth 100000
theorem closureC_g (x y : Ct) (W : World) (hx : Ct.In W x) (hy : Ct.In W y) : Calls Tryz.prog 57 #[.agg (rdC x).toArray, .agg (rdC y).toArray] W fun e w' => e = .returned (.int .i64 (cmpL x.h.xs y.h.xs)) ∧ Gr W w' := by
 obtain ⟨⟨xA, xn, xc, xs⟩, xN⟩ := x
 obtain ⟨⟨yA, yn, yc, ys⟩, yN⟩ := y
 have Hx := Lib.hid hx
 have Hy := Lib.hid hy
 clear hx hy
 simp only [rdC]
 go_enter Tryz.func57, Tryz.ntmps57
 go_wp2_with fail
 have hb0 := below_two W (.cells #[.slice xA xn xc, .int .i64 xN] 44) (.cells #[.slice yA yn yc, .int .i64 yN] 44)
 refine (compareL_g xA yA xn yn xc yc xs ys _ (Hx.out.after hb0).hd.len (Hy.out.after hb0).hd.len (Hx.out.after hb0).hd.max (Hy.out.after hb0).hd.max (Hx.out.after hb0).hd.sl (Hy.out.after hb0).hd.sl).mono ?_
 rintro e w1 ⟨rfl, hb1⟩
 clear hb0
 have Hg := Lib.hid ((gr_two W (.cells #[.slice xA xn xc, .int .i64 xN] 44) (.cells #[.slice yA yn yc, .int .i64 yN] 44)).trans hb1)
 clear hb1
 go_wp2
 go_ret
 exact ⟨rfl, Hg.out⟩
theorem enClosureC : ∀ args w, (callFunc 57 args).run Tryz.prog w = .ok (.enter 57 args) w := fun _ _ => by kernel_rfl
def OutC (w : World) (g : Nat) (c : Ct) : Prop := Ct.In w c ∧ (c.h.xs = [] ∨ ∃ b off, c.h.A = some ⟨b, off, none⟩ ∧ b ≠ g ∧ b < w.heap.size)
theorem OutC.same {w w' : World} {g : Nat} {c : Ct} (ho : OutC w g c) (hs : w.heap.size ≤ w'.heap.size) (hb : ∀ b, b ≠ g → b < w.heap.size → w'.heap[b]? = w.heap[b]?) : OutC w' g c := by
 obtain ⟨hin, ho⟩ := ho
 rcases ho with h0 | ⟨b, off, hA, hne, hlt⟩
 · exact ⟨⟨⟨hin.hd.len, hin.hd.max, .inl h0⟩, hin.sz, hin.n64, hin.N64, hin.room⟩, .inl h0⟩
 · refine ⟨⟨⟨hin.hd.len, hin.hd.max, ?_⟩, hin.sz, hin.n64, hin.N64, hin.room⟩, .inr ⟨b, off, hA, hne, Nat.lt_of_lt_of_le hlt hs⟩⟩
   rcases hin.hd.sl with h0 | ⟨b', off', hA', hlt', hc⟩
   · exact .inl h0
   · rw [hA] at hA'
     cases hA'
     have e := hb b hne hlt
     have hcell : ∀ j, w'.cell? ⟨b, j, none⟩ = w.cell? ⟨b, j, none⟩ := fun j => by simp only [World.cell?, e]
     exact .inr ⟨b, off, hA, Nat.lt_of_lt_of_le hlt hs, fun i a ha => by rw [hcell, hcell, hcell]; exact hc i a ha⟩
theorem OutC.after {w w' : World} {g : Nat} {c : Ct} (ho : OutC w g c) (hb : Below w.heap.size w w') : OutC w' g c := ho.same hb.size (fun b _ hlt => hb.block b hlt)
theorem OutC.set {w : World} {g : Nat} {c : Ct} (ho : OutC w g c) (i : Nat) (v : Value) : OutC (w.setCell ⟨g, i, none⟩ v) g c :=
 ho.same (by simp) (fun b hb _ => Below.heap_setCell _ _ _ _ (by exact hb))
theorem OutC.old {w w' : World} {g : Nat} {c : Ct} (h : Ct.In w c) (hb : Below w.heap.size w w') (hg : w.heap.size ≤ g) : OutC w' g c := by
 refine ⟨h.after hb, ?_⟩
 rcases h.hd.sl with h0 | ⟨b, off, hA, hlt, _⟩
 · exact .inl h0
 · exact .inr ⟨b, off, hA, by omega, Nat.lt_of_lt_of_le hlt hb.size⟩
theorem sortWorldK_block {α : Type} [Inhabited α] (enc : α → List Value) (k : Nat) (w : World) (g off m : Nat) (d : Array α) (os : Array Obj) (b : Nat) (hb : b ≠ g) (hlt : b < w.heap.size) : (sortWorldK enc k w g off m d os).heap[b]? = w.heap[b]? := by
 unfold sortWorldK putRowK
 show ((putRow id (Sort.ahead w m) g off _).heap ++ os)[b]? = _
 rw [Array.getElem?_append_left (by rw [Sort.size_putRow]; exact hlt)]
 show (w.heap.modify g _)[b]? = _
 rw [Array.getElem?_modify, if_neg (Ne.symm hb)]
theorem sortWorldK_size {α : Type} [Inhabited α] (enc : α → List Value) (k : Nat) (w : World) (g off m : Nat) (d : Array α) (os : Array Obj) : w.heap.size ≤ (sortWorldK enc k w g off m d os).heap.size := by
 unfold sortWorldK putRowK
 rw [size_grow, Sort.size_putRow]
 exact Nat.le_add_right _ _
theorem sortWorldK_below {α : Type} [Inhabited α] (enc : α → List Value) (k : Nat) (w0 w : World) (B g off m : Nat) (d : Array α) (os : Array Obj) (h : Below B w0 w) (hg : B ≤ g) (hB : B ≤ w0.heap.size) : Below B w0 (sortWorldK enc k w g off m d os) :=
 ⟨h.os, h.tape, h.output, Nat.le_trans h.size (sortWorldK_size enc k w g off m d os), fun i hi => (sortWorldK_block enc k w g off m d os i (by omega) (Nat.lt_of_lt_of_le (by omega) h.size)).trans (h.block i hi)⟩
abbrev OutCT (w : World) (g : Nat) := { c : Ct // OutC w g c }
instance (w : World) (g : Nat) : Inhabited (OutCT w g) := ⟨⟨⟨⟨none, 0, 0, []⟩, 0⟩, ⟨⟨rfl, Nat.zero_le _, .inl rfl⟩, nofun, nofun, by decide, Nat.le_refl _⟩, .inl rfl⟩⟩
def encCO {w : World} {g : Nat} (x : OutCT w g) : List Value := rdC x.1
def cfCO {w : World} {g : Nat} (x y : OutCT w g) : Int := cmpL x.1.h.xs y.1.h.xs
theorem ltCO {w : World} {g : Nat} (x y : OutCT w g) : ltOf cfCO x y = !leR y.1.h.xs x.1.h.xs := by
 unfold ltOf cfCO leR
 rw [cmpL_neg x.1.h.xs y.1.h.xs]
 rcases cmpL_range x.1.h.xs y.1.h.xs with e | e | e <;> rw [e] <;> rfl
theorem swoCO (w : World) (g : Nat) : SWO (ltOf (cfCO (w := w) (g := g))) where
 irrefl x := by
  rw [ltCO]
  have := leR_total x.1.h.xs x.1.h.xs
  rw [Bool.or_self] at this
  rw [this]; rfl
 trans x y z h1 h2 := by
  rw [ltCO, Bool.not_eq_true'] at h1 h2 ⊢
  have t1 := leR_total y.1.h.xs x.1.h.xs
  rw [h1, Bool.false_or] at t1
  cases h3 : leR z.1.h.xs x.1.h.xs
  · rfl
  · rw [leR_trans _ _ _ h3 t1] at h2
    cases h2
 ntrans x y z h1 h2 := by
  rw [ltCO, Bool.not_eq_false'] at h1 h2 ⊢
  exact leR_trans _ _ _ h2 h1
theorem cmpCO (w : World) (g off n : Nat) : CmpLays Tryz.prog 57 #[] (encCO (w := w) (g := g)) 2 cfCO g off n w := by
 intro m os dk _ x y
 have hx : OutC (sortWorldK encCO 2 w g off m dk os) g x.1 := x.2.same (sortWorldK_size _ _ _ _ _ _ _ _) (fun b hb hlt => sortWorldK_block _ _ _ _ _ _ _ _ b hb hlt)
 have hy : OutC (sortWorldK encCO 2 w g off m dk os) g y.1 := y.2.same (sortWorldK_size _ _ _ _ _ _ _ _) (fun b hb hlt => sortWorldK_block _ _ _ _ _ _ _ _ b hb hlt)
 exact closureC_g x.1 y.1 _ hx.1 hy.1
structure Wr (w : World) (g off : Nat) (ks : List Ct) : Prop where
 lt : g < w.heap.size
 at' : ∀ i x, ks[i]? = some x → ∀ j u, (rdC x)[j]? = some u → w.cell? ⟨g, off + i * 2 + j, none⟩ = some u ∧ w.frozen? ⟨g, off + i * 2 + j, none⟩ = false
theorem Wr.slG {w : World} {g off : Nat} {ks : List Ct} (h : Wr w g off ks) : SlG w (some ⟨g, off, none⟩) 2 rdC ks := .inr ⟨g, off, rfl, h.lt, fun i x hx j u hu => (h.at' i x hx j u hu).1⟩
theorem sortC_c (g off n cap : Nat) (ks : List Ct) (w : World) (hn : ks.length = n) (hn1 : n ≤ 1000000) (hM : Wr w g off ks) (ho : ∀ c ∈ ks, OutC w g c) :
 Calls Tryz.prog 56 #[.slice (some ⟨g, off, none⟩) n cap, .func (.func 57) #[] #[]] w fun e w' => e = .returned (.tuple #[]) ∧
  ∃ ks' : List Ct, ks'.Perm ks ∧ (ks'.Pairwise fun x y => leR x.h.xs y.h.xs = true) ∧ Wr w' g off ks' ∧ (∀ c ∈ ks', OutC w' g c) ∧ (∀ (w0 : World) (B : Nat), Below B w0 w → B ≤ g → B ≤ w0.heap.size → Below B w0 w') ∧ w.heap.size ≤ w'.heap.size := by
 let l : List (OutCT w g) := ks.attachWith (OutC w g) ho
 have hl : l.map (·.1) = ks := List.attachWith_map_subtype_val ..
 have hll : l.length = n := by rw [← hn, ← hl, List.length_map]
 have hsz : l.toArray.size = n := by rw [List.size_toArray]; exact hll
 have hget : ∀ j (hj : j < n), l.toArray[j]! = l[j]'(by omega) := fun j hj => by
  rw [getElem!_pos _ j (by omega)]
  simp
 have hks : ∀ j (hj : j < n), ks[j]? = some (l[j]'(by omega)).1 := fun j hj => by
  have : ks[j]? = (l.map (·.1))[j]? := by rw [hl]
  rw [this, List.getElem?_map, List.getElem?_eq_getElem (by omega)]
  rfl
 have hH : HoldsK encCO 2 w g off l.toArray := by
  intro t ht
  have ht' : t < n * 2 := by rw [size_flatK, hsz] at ht; exact ht
  rw [get_flatK _ _ _ t (by rw [hsz]; exact ht'), hget _ (by omega)]
  have h2 := hM.at' (t / 2) _ (hks (t / 2) (by omega)) (t % 2)
  have e : off + t / 2 * 2 + t % 2 = off + t := by omega
  rw [e] at h2
  have hlt : t % 2 < (encCO (l[t / 2]'(by omega))).length := by
   show t % 2 < 2
   omega
  refine h2 _ ?_
  rw [getElem!_pos (encCO (l[t / 2]'(by omega))) (t % 2) hlt]
  exact List.getElem?_eq_getElem hlt
 have hS := AnyQ.slices_SortFunc Tryz.sortC 2 Tryz.isAgg44 Tryz.sizeOf44 encCO (fun _ => rfl) (fun x v hv => by simp [encCO, rdC] at hv; rcases hv with rfl | rfl <;> rfl) cfCO (swoCO w g) 57 #[] g off cap l.toArray w enClosureC (by rw [hsz]; exact cmpCO w g off n) hH hM.lt (by rw [hsz]; omega)
 rw [hsz] at hS
 refine hS.mono ?_
 rintro e w' ⟨he, d', q, os, hp, hs, rfl⟩
 have hd : d'.size = n := hp.1.trans hsz
 have hperm : d'.toList.Perm l := by
  have := hp.2.2
  rw [show d'.extract 0 n = d' by rw [← hd]; simp, show l.toArray.extract 0 n = l.toArray by rw [← hsz]; simp] at this
  exact this
 refine ⟨he, d'.toList.map (·.1), ?_, ?_, ?_, ?_, ?_, sortWorldK_size _ _ _ _ _ _ _ _⟩
 · rw [← hl]
   exact hperm.map _
 · rw [List.pairwise_map, List.pairwise_iff_getElem]
   intro i j hi hj hij
   have hi' : i < d'.size := by simpa using hi
   have hj' : j < d'.size := by simpa using hj
   have := hs i j (Nat.zero_le _) hij (by omega)
   rw [getElem!_pos _ i hi', getElem!_pos _ j hj', ltCO, Bool.not_eq_false'] at this
   simpa using this
 · have hH2 := holdsK_sortWorldK encCO 2 w g off q l.toArray d' os hM.lt hH hp.1
   refine ⟨Nat.lt_of_lt_of_le hM.lt (sortWorldK_size _ _ _ _ _ _ _ _), fun i x hx j u hu => ?_⟩
   have hj : j < 2 := (List.getElem?_eq_some_iff.1 hu).1
   rw [List.getElem?_map] at hx
   cases hy : d'.toList[i]? with
   | none => rw [hy] at hx; cases hx
   | some y =>
     rw [hy] at hx
     simp only [Option.map_some, Option.some.injEq] at hx
     subst hx
     obtain ⟨hi, hiy⟩ := List.getElem?_eq_some_iff.1 hy
     have hi' : i < d'.size := by simpa using hi
     have h1 := hH2.cell hi' hj
     rw [getElem!_pos _ i hi', show d'[i] = y by simpa using hiy] at h1
     have h3 : (encCO y)[j]! = u := by
      rw [getElem!_pos (encCO y) j (show j < (encCO y).length from hj)]
      have := (List.getElem?_eq_some_iff.1 hu).2
      exact this
     rw [h3] at h1
     exact h1
 · intro c hc
   obtain ⟨x, _, rfl⟩ := List.mem_map.1 hc
   exact x.2.same (sortWorldK_size _ _ _ _ _ _ _ _) (fun b hb hlt => sortWorldK_block _ _ _ _ _ _ _ _ b hb hlt)
 · intro w0 B hb hB hB0
   exact sortWorldK_below _ _ w0 w B g _ _ _ _ hb hB hB0
theorem sortC0_c (A : Option Addr) (cap : Nat) (w : World) : Calls Tryz.prog 56 #[.slice A 0 cap, .func (.func 57) #[] #[]] w fun e w' => e = .returned (.tuple #[]) ∧ w' = w :=
 AnyF.slices_SortFunc_none Tryz.sortC A cap _ w
end Go.Proofs.YtbpopkgpepmlcaaGreat
namespace Go.Proofs.YtbpopkgpepmlcaaGreat
open Go Go.RowKit
set_option maxRecDepth 100000
theorem ev_idxK {F : Act} {w : World} {t u : Tmp} {b off n c k : Nat} {o : Oper} (hk : k < n) (ho : o.op = .indexAddr 29 (.tmp t) (.tmp u)) (ht : Reg.slot F t = .slice (some ⟨b, off, none⟩) n c) (hu : Reg.slot F u = .int .i64 k) :
 (execOp F.eval o).run Tryz.prog w = .ok (.value (.pointer (some ⟨b, off + k * 2, none⟩))) w := by
 have e1 : F.eval (.tmp t) = .slice (some ⟨b, off, none⟩) n c := ht
 have e2 : F.eval (.tmp u) = .int .i64 k := hu
 have e0 : (execOp F.eval o).run Tryz.prog w = ((Instr.indexAt 29 (.slice (some ⟨b, off, none⟩) n c) (.int .i64 k)).run Tryz.prog w).andThen fun v w' => .ok (.value v) w' := by
  simp only [execOp, ho, e1, e2, Sem.run_bind, Sem.run_pure]
 rw [e0]
 go_simp
structure NewC (w : World) (B : Nat) (xs : List Val) (N : Int) (h : Hd) : Prop where
 ct : Ct.In w ⟨h, N⟩
 eq : h.xs = xs
 lt : ∀ b off, h.A = some ⟨b, off, none⟩ → B ≤ b ∧ b < w.heap.size
theorem NewC.of {w w' : World} {B : Nat} {h : Hd} {c : Ct} (hi : Hd.In w' h) (hx : h.xs = c.h.xs) (hb : ∀ b off, h.A = some ⟨b, off, none⟩ → B ≤ b ∧ b < w'.heap.size) (hc : Ct.In w c) (hroom : h.n ≤ h.c) : NewC w' B c.h.xs c.N h :=
 ⟨⟨hi, by rw [hx]; exact hc.sz, by rw [hx]; exact hc.n64, hc.N64, hroom⟩, hx, hb⟩
theorem sum_perm {a b : Bg} (h : a.Perm b) (s : List Val) : sumB a s = sumB b s := by
 induction h with
 | nil => rfl
 | cons x _ ih => rw [sumB, sumB, ih]
 | swap x y l => rw [sumB, sumB, sumB, sumB]; omega
 | trans _ _ h1 h2 => rw [h1, h2]
theorem sum_bd (P : Int) (hP : 0 ≤ P) : ∀ (b : Bg) (s : List Val), Bd P b → -(b.length * P) ≤ sumB b s ∧ sumB b s ≤ b.length * P
 | [], _, _ => by rw [sumB]; simp
 | x :: b, s, h => by
   have h1 := sum_bd P hP b s (fun y hy => h y (List.mem_cons_of_mem _ hy))
   have h2 := h x (by simp)
   rw [sumB, List.length_cons]
   have e : ((b.length + 1 : Nat) : Int) * P = b.length * P + P := by
    rw [Int.natCast_add, Int.add_mul, Int.natCast_one, Int.one_mul]
   rw [e]
   split <;> omega
structure MI (p M : Bg) : Prop where
 asc : Asc M
 sum : ∀ s, sumB M s = sumB p s
 key : ∀ x ∈ M, ∃ y ∈ p, y.1 = x.1
 last : (p = [] ∧ M = []) ∨ ∃ p' M' r n m, p = p' ++ [(r, n)] ∧ M = M' ++ [(r, m)]
theorem MI.start : MI [] [] := ⟨List.Pairwise.nil, fun _ => rfl, nofun, .inl ⟨rfl, rfl⟩⟩
theorem asc_last {M : Bg} {r : List Val} {n : Int} (h : Asc (M ++ [(r, n)])) : Asc M ∧ ∀ x ∈ M, cmpL x.1 r = -1 := by
 unfold Asc at h
 rw [List.pairwise_append] at h
 exact ⟨h.1, fun x hx => h.2.2 x hx (r, n) (by simp)⟩
theorem asc_snoc {M : Bg} {r : List Val} {n : Int} (h : Asc M) (h2 : ∀ x ∈ M, cmpL x.1 r = -1) : Asc (M ++ [(r, n)]) := by
 unfold Asc
 rw [List.pairwise_append]
 exact ⟨h, List.pairwise_singleton _ _, fun x hx y hy => by rw [List.mem_singleton] at hy; rw [hy]; exact h2 x hx⟩
theorem MI.same {p M : Bg} {r q : List Val} {m n : Int} (h : MI p (M ++ [(r, m)])) (hc : cmpL r q = 0) : MI (p ++ [(q, n)]) (M ++ [(r, m + n)]) := by
 have e := cmpL_iff.1 hc
 subst e
 have ha := asc_last h.asc
 refine ⟨asc_snoc ha.1 ha.2, fun s => ?_, fun x hx => ?_, .inr ⟨p, M, r, n, m + n, rfl, rfl⟩⟩
 · have := h.sum s
   rw [sum_append] at this
   rw [sum_append, sum_append, ← this]
   simp only [sumB]
   split <;> omega
 · rcases List.mem_append.1 hx with hx | hx
   · obtain ⟨y, hy, e⟩ := h.key x (List.mem_append_left _ hx)
     exact ⟨y, List.mem_append_left _ hy, e⟩
   · rw [List.mem_singleton] at hx
     exact ⟨(r, n), by simp, by rw [hx]⟩
theorem MI.next {p M : Bg} {q : List Val} {n : Int} (h : MI p M) (hle : ∀ y ∈ p, leR y.1 q = true) (hne : ∀ p' r m, p = p' ++ [(r, m)] → cmpL r q ≠ 0) : MI (p ++ [(q, n)]) (M ++ [(q, n)]) := by
 have hlt : ∀ x ∈ M, cmpL x.1 q = -1 := by
  rcases h.last with ⟨_, hM⟩ | ⟨p', M', r, n', m, hp, hM⟩
  · rw [hM]; nofun
  · have hr : cmpL r q = -1 := by
     have h1 := hle (r, n') (by rw [hp]; simp)
     have h2 := hne p' r n' hp
     unfold leR at h1
     rcases cmpL_range r q with e | e | e
     · exact e
     · exact absurd e h2
     · simp [e] at h1
    intro x hx
    have ha := h.asc
    rw [hM] at ha hx
    rcases List.mem_append.1 hx with hx | hx
    · exact cmpL_trans ((asc_last ha).2 x hx) hr
    · rw [List.mem_singleton] at hx
      rw [hx]
      exact hr
 refine ⟨asc_snoc h.asc hlt, fun s => ?_, fun x hx => ?_, .inr ⟨p, M, q, n, n, rfl, rfl⟩⟩
 · rw [sum_append, sum_append, h.sum s]
 · rcases List.mem_append.1 hx with hx | hx
   · obtain ⟨y, hy, e⟩ := h.key x hx
     exact ⟨y, List.mem_append_left _ hy, e⟩
   · rw [List.mem_singleton] at hx
     exact ⟨(q, n), by simp, by rw [hx]⟩
theorem MI.count {p M : Bg} (h : MI p M) {x : List Val × Int} (hx : x ∈ M) : x.2 = sumB p x.1 := by rw [← h.sum, sum_look _ _ h.asc, look_mem _ x h.asc hx]
theorem MI.bd {p M : Bg} (h : MI p M) (P : Int) (hP : 0 ≤ P) (hb : Bd P p) {x : List Val × Int} (hx : x ∈ M) : -(p.length * P) ≤ x.2 ∧ x.2 ≤ p.length * P := by rw [h.count hx]; exact sum_bd P hP p x.1 hb
theorem MI.plus {l : List Bg} {p M : Bg} (h : MI p M) (hp : p.Perm l.flatten) : M.filter (fun x => !(x.2 == 0)) = plusL l := by
 have hfl : ∀ (l : List Bg) (s : List Val), sumB l.flatten s = sumL l s := by
  intro l s
  induction l with
  | nil => rfl
  | cons b l ih => rw [List.flatten_cons, sum_append, ih, sumL]
 have hlook : ∀ (b : Bg) (s : List Val), Asc b → lookB (b.filter fun x => !(x.2 == 0)) s = lookB b s := by
  intro b s hb
  induction b with
  | nil => rfl
  | cons x b ih =>
    have hi := ih (asc_tail hb)
    cases hz : x.2 == 0
    · rw [List.filter_cons_of_pos (by rw [hz]; rfl), lookB, lookB, hi]
    · rw [List.filter_cons_of_neg (by rw [hz]; simp), lookB, hi]
      split
      · rename_i hc
        have e := cmpL_iff.1 hc
        rw [← e, look_none b x.1 (asc_head hb)]
        simpa using (eq_of_beq hz).symm
      · rfl
 refine bag_ext _ _ (List.Pairwise.sublist List.filter_sublist h.asc) (asc_plus l) (fun x hx => ?_) (nz_plus l) fun s => ?_
 · have := (List.mem_filter.1 hx).2
   simpa using this
 · rw [hlook M s h.asc, look_plus, ← hfl l s, ← sum_perm hp s, ← h.sum s, sum_look M s h.asc]
def ApartC (w : World) (A : Option Addr) (ol : List Ct) : Prop := ∀ c ∈ ol, Ct.In w c ∧ ∀ g o, A = some ⟨g, o, none⟩ → OutC w g c
theorem ApartC.nil (w : World) (A : Option Addr) : ApartC w A [] := nofun
theorem ApartC.after {w w' : World} {A : Option Addr} {ol : List Ct} (h : ApartC w A ol) (hb : Below w.heap.size w w') : ApartC w' A ol := fun c hc => ⟨(h c hc).1.after hb, fun g o hA => ((h c hc).2 g o hA).after hb⟩
theorem ApartC.each {w : World} {A : Option Addr} {ol : List Ct} (h : ApartC w A ol) : ∀ c ∈ ol, Ct.In w c := fun c hc => (h c hc).1
theorem grown_ct {w9 X w2 : World} {u u2 : Option Nat} {c : Ct} (hin : Ct.In w9 c) (hne : c.h.xs = [] ∨ ∃ b off, c.h.A = some ⟨b, off, none⟩ ∧ u ≠ some b ∧ b < w9.heap.size) (hX : Below w9.heap.size w9 X) (hg : X.grownBy w2 u) (hloc : u2 = u ∨ u2 = some X.heap.size) : Ct.In w2 c ∧ ∀ g, u2 = some g → OutC w2 g c := by
 rcases hne with h0 | ⟨b, off, hA, hub, hlt⟩
 · have h1 : Ct.In w2 c := ⟨⟨hin.hd.len, hin.hd.max, .inl h0⟩, hin.sz, hin.n64, hin.N64, hin.room⟩
   exact ⟨h1, fun g _ => ⟨h1, .inl h0⟩⟩
 · have hblk : w2.heap[b]? = w9.heap[b]? := (hg.block b (Nat.lt_of_lt_of_le hlt hX.size) (fun e => hub e.symm)).trans (hX.block b hlt)
   have hsz : w9.heap.size ≤ w2.heap.size := Nat.le_trans hX.size hg.size
   have h1 : Ct.In w2 c := by
    refine ⟨⟨hin.hd.len, hin.hd.max, ?_⟩, hin.sz, hin.n64, hin.N64, hin.room⟩
    rcases hin.hd.sl with h0 | ⟨b', off', hA', hlt', hc⟩
    · exact .inl h0
    · rw [hA] at hA'
      cases hA'
      have hcell : ∀ j, w2.cell? ⟨b, j, none⟩ = w9.cell? ⟨b, j, none⟩ := fun j => by simp only [World.cell?, hblk]
      exact .inr ⟨b, off, hA, Nat.lt_of_lt_of_le hlt hsz, fun i a ha => by rw [hcell, hcell, hcell]; exact hc i a ha⟩
   refine ⟨h1, fun g hg2 => ⟨h1, .inr ⟨b, off, hA, ?_, Nat.lt_of_lt_of_le hlt hsz⟩⟩⟩
   rintro rfl
   rcases hloc with e | e
   · rw [e] at hg2
     exact hub hg2
   · rw [e] at hg2
     cases hg2
     have := hX.size
     omega
theorem ApartC.app {w9 X w2 : World} {A' A2 : Option Addr} {m c' m2 c2 : Nat} {ol : List Ct} {h : Hd} {N : Int} (hA : ApartC w9 A' ol) (hX : Below w9.heap.size w9 X) (hg : X.grownBy w2 (Value.slice A' m c').ownBlock) (hloc : (Value.slice A2 m2 c2).ownBlock = (Value.slice A' m c').ownBlock ∨ (Value.slice A2 m2 c2).ownBlock = some X.heap.size)
 (hx : Ct.In w9 ⟨h, N⟩) (hx2 : ∀ b off, h.A = some ⟨b, off, none⟩ → (Value.slice A' m c').ownBlock ≠ some b ∧ b < w9.heap.size) (hp : ∀ g o t, A' = some ⟨g, o, t⟩ → t = none) : ApartC w2 A2 (ol ++ [⟨h, N⟩]) := by
 intro c hc
 have key : Ct.In w9 c ∧ (c.h.xs = [] ∨ ∃ b off, c.h.A = some ⟨b, off, none⟩ ∧ (Value.slice A' m c').ownBlock ≠ some b ∧ b < w9.heap.size) := by
  rcases List.mem_append.1 hc with hc | hc
  · refine ⟨(hA c hc).1, ?_⟩
    cases hA' : A' with
    | none =>
      rcases (hA c hc).1.hd.sl with h0 | ⟨b, off, hb, hlt, _⟩
      · exact .inl h0
      · exact .inr ⟨b, off, hb, nofun, hlt⟩
    | some ad =>
      obtain ⟨g, o, t⟩ := ad
      obtain rfl := hp g o t hA'
      rcases ((hA c hc).2 g o hA').2 with h0 | ⟨b, off, hb, hne, hlt⟩
      · exact .inl h0
      · refine .inr ⟨b, off, hb, fun e => hne ?_, hlt⟩
        injection e with e
        exact e.symm
  · rw [List.mem_singleton] at hc
    subst hc
    refine ⟨hx, ?_⟩
    rcases hx.hd.sl with h0 | ⟨b, off, hb, _, _⟩
    · exact .inl h0
    · exact .inr ⟨b, off, hb, hx2 b off hb⟩
 have h2 := grown_ct key.1 key.2 hX hg hloc
 exact ⟨h2.1, fun g o e => h2.2 g (by rw [e]; rfl)⟩
theorem OwnG.plain {w : World} {B m c : Nat} {E : TypeId} {A : Option Addr} {ol : List Ct} (h : OwnG w B E 2 rdC (.slice A m c) ol) : ∀ g o t, A = some ⟨g, o, t⟩ → t = none := by
 intro g o t hA
 rcases h.2 with ⟨hv, _⟩ | ⟨g', cap, cur, hv, _⟩
 · injection hv with e
   rw [hA] at e
   cases e
 · injection hv with e
   rw [hA] at e
   cases e
   rfl
theorem OwnG.setN {w : World} {B g m c : Nat} {ol : List Ct} {h : Hd} {N : Int} (ho : OwnG w B 44 2 rdC (.slice (some ⟨g, 0, none⟩) (m + 1) c) (ol ++ [⟨h, N⟩])) (hm : ol.length = m) (N1 : Int) : OwnG (w.setCell ⟨g, m * 2 + 1, none⟩ (.int .i64 N1)) B 44 2 rdC (.slice (some ⟨g, 0, none⟩) (m + 1) c) (ol ++ [⟨h, N1⟩]) := by
 obtain ⟨h1, h2⟩ := ho
 have hfl : (ol.flatMap rdC).length = m * 2 := by rw [flat_len cOk.len, hm]
 refine ⟨?_, ?_⟩
 · rw [flat_len cOk.len]
 · rcases h2 with ⟨hv, _⟩ | ⟨g', cap, cur, hv, hB, hh, hle, hmx, hsz, htk⟩
   · cases hv
   · injection hv with e1 e2 e3
     cases e1
     subst e3
     have hlen : (ol ++ [(⟨h, N⟩ : Ct)]).length = m + 1 := by rw [List.length_append, hm]; rfl
     have hlen1 : (ol ++ [(⟨h, N1⟩ : Ct)]).length = m + 1 := by rw [List.length_append, hm]; rfl
     rw [hlen] at htk hle
     refine .inr ⟨g, c, cur.setIfInBounds (m * 2 + 1) (.int .i64 N1), by rw [hlen1], hB, heap_setCell_same _ _ _ _ _ _ hh, by rw [hlen1]; exact hle, hmx, by rw [Array.size_setIfInBounds]; exact hsz, ?_⟩
     rw [hlen1, Array.toList_setIfInBounds, List.take_set, htk, List.flatMap_append, List.flatMap_append, List.set_append_right _ _ (by omega), hfl, show m * 2 + 1 - m * 2 = 1 by omega]
     rfl
structure MrgSaid (w : World) (A : Option Addr) (ks : List Ct) (A' : Option Addr) (m c' : Nat) (ol : List Ct) (w' : World) : Prop where
 len : ol.length = m
 le : m ≤ ks.length
 own : OwnG w' w.heap.size 44 2 rdC (.slice A' m c') ol
 apart : ApartC w' A' ol
 mi : ∃ p, p.Perm (pl ks) ∧ MI p (pl ol)
 below : ∀ w0 B, Below B w0 w → (∀ g off, A = some ⟨g, off, none⟩ → B ≤ g) → B ≤ w0.heap.size → Below B w0 w'
structure SrtSaid (w : World) (A : Option Addr) (ks ks' : List Ct) (w' : World) : Prop where
 perm : ks'.Perm ks
 asc : ks'.Pairwise fun x y => leR x.h.xs y.h.xs = true
 sl : SlG w' A 2 rdC ks'
 each : ∀ c ∈ ks', Ct.In w' c
 below : ∀ w0 B, Below B w0 w → (∀ g off, A = some ⟨g, off, none⟩ → B ≤ g) → B ≤ w0.heap.size → Below B w0 w'
 size : w.heap.size ≤ w'.heap.size
theorem sortAny_c (A : Option Addr) (n c : Nat) (ks : List Ct) (w : World) (hn : ks.length = n) (hn1 : n ≤ 1000000) (hM : n = 0 ∨ ∃ g off, A = some ⟨g, off, none⟩ ∧ Wr w g off ks ∧ ∀ c ∈ ks, OutC w g c) :
 Calls Tryz.prog 56 #[.slice A n c, .func (.func 57) #[] #[]] w fun e w' => e = .returned (.tuple #[]) ∧ ∃ ks', SrtSaid w A ks ks' w' := by
 by_cases h0 : n = 0
 · subst h0
   have : ks = [] := List.eq_nil_of_length_eq_zero hn
   subst this
   refine (sortC0_c A c w).mono ?_
   rintro e w' ⟨rfl, rfl⟩
   exact ⟨rfl, [], List.Perm.refl _, List.Pairwise.nil, .inl rfl, nofun, fun w0 B h _ _ => h, Nat.le_refl _⟩
 · rcases hM with h | ⟨g, off, rfl, hW, hO⟩
   · exact absurd h h0
   · refine (sortC_c g off n c ks w hn hn1 hW hO).mono ?_
     rintro e w' ⟨rfl, ks', h1, h2, h3, h4, h5, h6⟩
     exact ⟨rfl, ks', h1, h2, h3.slG, fun c hc => (h4 c hc).1, fun w0 B hb hg hB => h5 w0 B hb (hg g off rfl) hB, h6⟩
theorem pairwise_take {l : List Ct} (h : l.Pairwise fun x y => leR x.h.xs y.h.xs = true) (k : Nat) (x : Ct) (hx : l[k]? = some x) : ∀ y ∈ pl (l.take k), leR y.1 x.h.xs = true := by
 intro y hy
 obtain ⟨c, hc, rfl⟩ := List.mem_map.1 hy
 obtain ⟨i, hi, hic⟩ := List.getElem_of_mem hc
 rw [List.length_take] at hi
 rw [List.getElem_take] at hic
 obtain ⟨hk, hkx⟩ := List.getElem?_eq_some_iff.1 hx
 have := List.pairwise_iff_getElem.1 h i k (by omega) hk (by omega)
 rw [hic, hkx] at this
 exact this
theorem pl_take_succ {l : List Ct} {k : Nat} {x : Ct} (hx : l[k]? = some x) : pl (l.take (k + 1)) = pl (l.take k) ++ [(x.h.xs, x.N)] := by
 unfold pl
 rw [List.take_add_one, hx, List.map_append]
 rfl
theorem pl_split {ol : List Ct} {M : Bg} {r : List Val} {m : Int} (h : pl ol = M ++ [(r, m)]) : ∃ (ol' : List Ct) (h' : Hd) (N : Int), ol = ol' ++ [⟨h', N⟩] ∧ h'.xs = r ∧ N = m ∧ pl ol' = M := by
 have hne : ol ≠ [] := by
  rintro rfl
  have := congrArg List.length h
  simp [pl] at this
 refine ⟨ol.dropLast, (ol.getLast hne).h, (ol.getLast hne).N, (List.dropLast_concat_getLast hne).symm, ?_⟩
 have e : pl ol = pl ol.dropLast ++ [((ol.getLast hne).h.xs, (ol.getLast hne).N)] := by
  have := congrArg pl (List.dropLast_concat_getLast hne).symm
  rw [this, pl_app]
  rfl
 rw [e] at h
 have h2 := List.append_inj' h rfl
 have h3 := List.cons.inj h2.2
 exact ⟨congrArg Prod.fst h3.1, congrArg Prod.snd h3.1, h2.1⟩
set_option maxHeartbeats 4000000 in
theorem merged_c (A : Option Addr) (n c : Nat) (ks : List Ct) (w : World) (hn : ks.length = n) (hn1 : n ≤ 100000) (hM : n = 0 ∨ ∃ g off, A = some ⟨g, off, none⟩ ∧ Wr w g off ks ∧ ∀ c ∈ ks, OutC w g c) (hl : ∀ c ∈ ks, c.h.xs.length ≤ 100000) (hbd : Bd 1000000000 (pl ks)) :
 Calls Tryz.prog 38 #[.slice A n c] w fun e w' => ∃ A' m c' ol, e = .returned (.slice A' m c') ∧ MrgSaid w A ks A' m c' ol w' := by
 have HS := Lib.hid (sortAny_c A n c ks w hn (by omega) hM)
 have Hn := Lib.hid hn
 have Hl := Lib.hid hl
 have Hbd := Lib.hid hbd
 clear hn hl hbd hM
 go_enter Tryz.func38, Tryz.ntmps38
 go_wp2_with fail
 refine HS.out.mono ?_
 rintro e W ⟨rfl, ls, hS⟩
 have Hls : Hid (ls.length = n) := Lib.hid (by rw [hS.perm.length_eq, Hn.out])
 have HS2 := Lib.hid hS
 clear hS HS
 go_wp2_with fail
 go_loopw [3, 10] (fun v i wr => ∃ (k m : Nat) (A' : Option Addr) (c' : Nat) (ol : List Ct), k ≤ n ∧ m ≤ k ∧ i = .int .i64 k ∧ v = .slice A' m c' ∧ Hid (ol.length = m) ∧ Hid (Below W.heap.size W wr) ∧ Hid (OwnG wr W.heap.size 44 2 rdC (.slice A' m c') ol) ∧ Hid (ApartC wr A' ol) ∧ Hid (MI (pl (ls.take k)) (pl ol))) (fun _ i _ => n - (intOf i).toNat)
 case atStart => exact ⟨0, 0, none, 0, [], Nat.zero_le _, Nat.le_refl _, rfl, rfl, Lib.hid rfl, Lib.hid (Below.refl _ _), Lib.hid (OwnG.nil _ _ _), Lib.hid (ApartC.nil _ _), Lib.hid MI.start⟩
 case round =>
  obtain ⟨k, m, A', c', ol, hk, hmk, rfl, rfl, hol, hb, ho, hap, hmi⟩ := hrel
  by_cases hlt : k < n
  · obtain ⟨b, off, rfl⟩ := HS2.out.sl.some2 (k := k) (by rw [Hls.out]; exact hlt)
    obtain ⟨x, hx⟩ : ∃ x, ls[k]? = some x := ⟨_, List.getElem?_eq_getElem (by rw [Hls.out]; exact hlt)⟩
    obtain ⟨hblt, c0, c1⟩ := HS2.out.sl.cell2 hx
    have d0 := (hb.out.cell (p := ⟨b, off + k * 2, none⟩) hblt).trans c0
    have d1 := (hb.out.cell (p := ⟨b, off + k * 2 + 1, none⟩) hblt).trans c1
    have l0 : b < wr.heap.size := Nat.lt_of_lt_of_le hblt hb.out.size
    have Hx := Lib.hid ((HS2.out.each x (List.mem_of_getElem? hx)).after hb.out)
    have Hxl := Lib.hid (Hl.out x (HS2.out.perm.mem_iff.1 (List.mem_of_getElem? hx)))
    have Hpk := Lib.hid (pl_take_succ hx)
    have Hle := Lib.hid (pairwise_take HS2.out.asc k x hx)
    have HN : Hid (-1000000000 ≤ x.N ∧ x.N ≤ 1000000000) := Lib.hid (Hbd.out _ (pl_mem (HS2.out.perm.mem_iff.1 (List.mem_of_getElem? hx))))
    have HM9 : Hid (∀ y ∈ pl ol, -100000000000000 ≤ y.2 ∧ y.2 ≤ 100000000000000) := Lib.hid fun y hy => by
     have hp : Bd 1000000000 (pl (ls.take k)) := fun z hz => by
      obtain ⟨c1, hc1, rfl⟩ := List.mem_map.1 hz
      exact Hbd.out _ (pl_mem (HS2.out.perm.mem_iff.1 (List.mem_of_mem_take hc1)))
     have h1 := hmi.out.bd 1000000000 (by decide) hp hy
     have h2 : (pl (ls.take k)).length ≤ 100000 := by rw [pl_len, List.length_take]; omega
     omega
    clear c0 c1
    have hprev : Hid (∀ j, k = j + 1 → ∃ y : Ct, ls[j]? = some y ∧ Ct.In wr y ∧ wr.cell? ⟨b, off + j * 2, none⟩ = some (.slice y.h.A y.h.n y.h.c)) := Lib.hid (by
     rintro j rfl
     obtain ⟨y, hy⟩ : ∃ y, ls[j]? = some y := ⟨_, List.getElem?_eq_getElem (by rw [Hls.out]; omega)⟩
     obtain ⟨hblt, c0, c1⟩ := HS2.out.sl.cell2 hy
     exact ⟨y, hy, (HS2.out.each y (List.mem_of_getElem? hy)).after hb.out, (hb.out.cell (p := ⟨b, off + j * 2, none⟩) hblt).trans c0⟩)
    clear hx
    obtain ⟨⟨xA, xn, xc, xs⟩, N⟩ := x
    have hgo : (k : Int) < n := by omega
    have lw := hb.out.size
    have Hbw := Lib.hid (below_one wr (.cells #[.slice xA xn xc, .int .i64 N] 44))
    have dg0 : Hid ((wr.alloc (.cells #[.slice xA xn xc, .int .i64 N] 44)).cell? ⟨wr.heap.size, 0, none⟩ = some (.slice xA xn xc)) := Lib.hid (by simp)
    have dg1 : Hid ((wr.alloc (.cells #[.slice xA xn xc, .int .i64 N] 44)).cell? ⟨wr.heap.size, 1, none⟩ = some (.int .i64 N)) := Lib.hid (by simp)
    have Hb1 := Lib.hid (below_via hb.out Hbw.out)
    have Hx1 := Lib.hid (Hx.out.after Hbw.out)
    clear hb
    go_wp2_with fail
    have lg1 : wr.heap.size < (wr.alloc (.cells #[.slice xA xn xc, .int .i64 N] 44)).heap.size := by simp
    have l1 : b < (wr.alloc (.cells #[.slice xA xn xc, .int .i64 N] 44)).heap.size := Nat.lt_trans l0 lg1
    clear d0 d1
    cases hk0 : decide (0 < (k : Int))
    · have hk1 : k = 0 := by have := of_decide_eq_false hk0; omega
      have Hne : Hid (∀ p' r q, pl (ls.take k) = p' ++ [(r, q)] → cmpL r xs ≠ 0) := Lib.hid fun p' r q h => by
       rw [hk1] at h
       have := congrArg List.length h
       simp [pl] at this
      have Hmi2 := Lib.hid (hmi.out.next (n := N) Hle.out Hne.out)
      clear hk1 Hne
      refine Reg.wp_region_vals mixed (by kernel_rfl) [(15, .int .i64 (k : Nat)), (16, .bool false), (17, .bool false), (18, undef), (19, undef), (20, undef), (21, undef), (22, undef), (23, undef), (24, undef), (25, undef), (26, undef), (27, undef), (28, .bool false)] 53 rfl (by kernel_rfl) ?_ ?_
      · intro F hF w' hB
        refine ⟨?_, ?_, ?_, ?_, ?_, ?_, ?_, ?_, ?_, ?_, ?_, ?_, ?_, ?_, trivial⟩
        · exact Reg.doesV_val (ev_move rfl) (by rw [hF]; kernel_rfl) (by rw [hF]; kernel_rfl)
        · exact Reg.doesV_val (by rw [ev_gtC5 (k : Int) 0 rfl (by rw [hF]; kernel_rfl), hk0]) (by rw [hF]; kernel_rfl) (by rw [hF]; kernel_rfl)
        · exact Reg.doesV_val (ev_move rfl) (by rw [hF]; kernel_rfl) (by rw [hF]; kernel_rfl)
        · exact Reg.doesV_skip (by rw [hF]; kernel_rfl) (by rw [hF]; kernel_rfl)
        · exact Reg.doesV_skip (by rw [hF]; kernel_rfl) (by rw [hF]; kernel_rfl)
        · exact Reg.doesV_skip (by rw [hF]; kernel_rfl) (by rw [hF]; kernel_rfl)
        · exact Reg.doesV_skip (by rw [hF]; kernel_rfl) (by rw [hF]; kernel_rfl)
        · exact Reg.doesV_skip (by rw [hF]; kernel_rfl) (by rw [hF]; kernel_rfl)
        · exact Reg.doesV_skip (by rw [hF]; kernel_rfl) (by rw [hF]; kernel_rfl)
        · exact Reg.doesV_skip (by rw [hF]; kernel_rfl) (by rw [hF]; kernel_rfl)
        · exact Reg.doesV_skip (by rw [hF]; kernel_rfl) (by rw [hF]; kernel_rfl)
        · exact Reg.doesV_skip (by rw [hF]; kernel_rfl) (by rw [hF]; kernel_rfl)
        · exact Reg.doesV_skip (by rw [hF]; kernel_rfl) (by rw [hF]; kernel_rfl)
        · exact Reg.doesV_val (ev_pick false rfl (by rw [hF]; kernel_rfl)) (by rw [hF]; kernel_rfl) (by rw [hF]; kernel_rfl)
      · intro w8 hB
        simp only [Reg.putAll, Act.put, List.setIfInBounds_toArray, List.set_cons_zero, List.set_cons_succ]
        have Hb8 := Lib.hid (below_via Hb1.out hB)
        have HbW8 := Lib.hid (below_via Hbw.out hB)
        have g0 := (hB.cell (p := ⟨wr.heap.size, 0, none⟩) lg1).trans dg0.out
        have g1 := (hB.cell (p := ⟨wr.heap.size, 1, none⟩) lg1).trans dg1.out
        have lg8 : wr.heap.size < w8.heap.size := Nat.lt_of_lt_of_le lg1 hB.size
        have HOr : Hid (∀ k, (Value.slice A' m c').ownBlock = some k → k < wr.heap.size) := Lib.hid fun k hk => (ho.out.lt k hk).2
        have HO8 := Lib.hid (ho.out.after HbW8.out)
        have HA8 := Lib.hid (hap.out.after HbW8.out)
        have Hx8 := Lib.hid (Hx.out.after HbW8.out)
        clear hB dg0 dg1 Hb1 Hbw ho hap Hx Hx1
        have G0 := Lib.hid g0
        have G1 := Lib.hid g1
        have Hjn : Hid (joinR [(⟨xA, xn, xc, xs⟩ : Hd)] = xs) := Lib.hid (by simp [joinR])
        go_wp2_with fail
        go_region_held3 (fun w' => w'.cell? ⟨wr.heap.size, 0, none⟩ = some (.slice xA xn xc) ∧ w'.cell? ⟨wr.heap.size, 1, none⟩ = some (.int .i64 N)) (first | exact HGC9.out | exact HGCa.out | go_keep)
         (first
           | (go_at_call 27
              have hbj := Lib.hid (((Below.refl w8.heap.size w8).alloc (Nat.le_refl _) (.cells #[.slice xA xn xc] 42)).drew)
              have hsj : Hid (SlG (w8.alloc (.cells #[.slice xA xn xc] 42)).drew (some ⟨w8.heap.size, 0, none⟩) 1 rdH [⟨xA, xn, xc, xs⟩]) := Lib.hid ((SlG.new hOk.len [⟨xA, xn, xc, xs⟩] rfl).after (Below.refl _ _).drew)
              refine (join_c (some ⟨w8.heap.size, 0, none⟩) 1 1 [⟨xA, xn, xc, xs⟩] (w8.alloc (.cells #[.slice xA xn xc] 42)).drew rfl (by unfold maxLen; omega) hsj.out (fun h' hh' => by rw [List.mem_singleton] at hh'; subst hh'; exact Hx8.out.hd.after hbj.out) (by rw [Hjn.out]; exact Hxl.out)).mono ?_
              rintro en w9 ⟨v9, rfl, hb9, hv9⟩
              rw [Hjn.out] at hv9
              obtain ⟨h9, rfl, hIn9, hxs9, hbl9, hnc9⟩ := hv9.hd
              have Hb9 := Lib.hid (below_via Hb8.out (below_via hbj.out hb9))
              have Hb89 := Lib.hid (below_via hbj.out hb9)
              have HGC9 : Hid (w9.cell? ⟨wr.heap.size, 0, none⟩ = some (.slice xA xn xc) ∧ w9.cell? ⟨wr.heap.size, 1, none⟩ = some (.int .i64 N)) := Lib.hid ⟨(Hb89.out.cell lg8).trans G0.out, (Hb89.out.cell lg8).trans G1.out⟩
              have HO9 := Lib.hid (HO8.out.after Hb89.out)
              have Hs89 : Hid (w8.heap.size ≤ w9.heap.size) := Lib.hid Hb89.out.size
              have HOl : Hid (∀ k, (Value.slice A' m c').ownBlock = some k → k < w8.heap.size) := Lib.hid fun k hk => (HO8.out.lt k hk).2
              have HA9 := Lib.hid (HA8.out.after Hb89.out)
              have Hn9 := Lib.hid (NewC.of hIn9 hxs9 hbl9 Hx8.out hnc9)
              obtain ⟨h9A, h9n, h9c, h9xs⟩ := h9
              dsimp only [Hd.v]
              clear hv9 hIn9 hxs9 hbl9 hnc9 hb9 hbj hsj HO8 HA8 Hb8)
           | (refine step_appL cOk (by rfl) (.tmp 41) (.tmp 49) (by rfl) W.heap.size (.slice A' m c') ol [⟨⟨h9A, h9n, h9c, h9xs⟩, N⟩] (by rfl) (HO9.out.after ((Below.refl _ _).alloc (Nat.le_refl _) _)) (some ⟨w9.heap.size, 0, none⟩) 1 1 (by rfl) rfl (SlG.new cOk.len [⟨⟨h9A, h9n, h9c, h9xs⟩, N⟩] rfl) (by rw [hol.out]; simp [maxLen]; omega) (by rw [hol.out]; simp; omega) (by have := Hb9.out.size; simp; omega) ?_
              intro A2 c2 w2 hv hg hloc
              rw [hol.out] at hv hloc ⊢
              have HX := Lib.hid (below_one w9 (.cells #[.slice h9A h9n h9c, .int .i64 N] 44))
              have Hv2 := Lib.hid hv
              have Hb2 := Lib.hid ((below_al Hb9.out (.cells #[.slice h9A h9n h9c, .int .i64 N] 44)).grown hg (by have := Hb9.out.size; simp; omega) (fun k hk => (HO9.out.lt k hk).1))
              have HA2 := Lib.hid (HA9.out.app HX.out hg hloc Hn9.out.ct (fun b' off' hb' => ⟨fun e => by have h1 := (HOl.out b' e); have h2 := (Hn9.out.lt b' off' hb').1; simp at h2; omega, (Hn9.out.lt b' off' hb').2⟩) HO9.out.plain)
              have HGCa : Hid (w2.cell? ⟨wr.heap.size, 0, none⟩ = some (.slice xA xn xc) ∧ w2.cell? ⟨wr.heap.size, 1, none⟩ = some (.int .i64 N)) := Lib.hid (by
               have hlt9 : wr.heap.size < w9.heap.size := Nat.lt_of_lt_of_le lg8 Hs89.out
               have hne : some wr.heap.size ≠ (Value.slice A' m c').ownBlock := fun e => by have := HOr.out _ e.symm; omega
               have hbk : w2.heap[wr.heap.size]? = w9.heap[wr.heap.size]? := (hg.block _ (Nat.lt_of_lt_of_le hlt9 HX.out.size) hne).trans (HX.out.block _ hlt9)
               refine ⟨?_, ?_⟩
               · rw [← HGC9.out.1]; simp only [World.cell?, hbk]
               · rw [← HGC9.out.2]; simp only [World.cell?, hbk])
              clear hv hg hloc HX))
        have Hmi3 : Hid (MI (pl (ls.take (k + 1))) (pl (ol ++ [⟨⟨h9A, h9n, h9c, h9xs⟩, N⟩]))) := Lib.hid (by
         rw [Hpk.out, pl_app, pl_one]
         have e : h9xs = xs := Hn9.out.eq
         simp only [e]
         exact Hmi2.out)
        have Hol3 : Hid ((ol ++ [(⟨⟨h9A, h9n, h9c, h9xs⟩, N⟩ : Ct)]).length = m + 1) := Lib.hid (by rw [List.length_append, hol.out]; rfl)
        clear Hmi2 Hpk HGC9 HGCa HO9 HA9 Hn9 Hb9 Hb89
        go_wp2
        go_roundw
        case rel => exact ⟨k + 1, m + 1, A2, c2, ol ++ [⟨⟨h9A, h9n, h9c, h9xs⟩, N⟩], by omega, by omega, by go_num, rfl, Hol3, Hb2, Hv2, HA2, Hmi3⟩
        case measure => simp [intOf]; omega
    · obtain ⟨j, hkj⟩ : ∃ j, k = j + 1 := ⟨k - 1, by have := of_decide_eq_true hk0; omega⟩
      have hjn : j < n := by omega
      have hjx : k ≤ 9223372036854775807 := by omega
      obtain ⟨⟨⟨yA, yn, yc, ys⟩, yN⟩, hyj, hy, dq⟩ := hprev.out j hkj
      have Hy := Lib.hid (hy.after Hbw.out)
      have dq := Lib.hid ((Hbw.out.cell (p := ⟨b, off + j * 2, none⟩) l0).trans dq)
      have Hyj := Lib.hid hyj
      clear hy hyj
      cases hC : cmpL ys xs == 0
      · have Hne : Hid (∀ p' r q, pl (ls.take k) = p' ++ [(r, q)] → cmpL r xs ≠ 0) := Lib.hid fun p' r q h => by
         rw [hkj, pl_take_succ Hyj.out] at h
         have := (List.cons.inj (List.append_inj' h rfl).2).1
         have e := congrArg Prod.fst this
         simp only at e
         rw [← e]
         simpa using hC
        have Hmi2 := Lib.hid (hmi.out.next (n := N) Hle.out Hne.out)
        clear Hne
        refine Reg.wp_region_vals mixed (by kernel_rfl) [(15, .int .i64 (k : Nat)), (16, .bool true), (17, .bool true), (18, .slice (some ⟨b, off, none⟩) n c), (19, .int .i64 (k : Nat)), (20, .int .i64 (j : Nat)), (21, .pointer (some ⟨b, off + j * 2, none⟩)), (22, .pointer (some ⟨b, off + j * 2, none⟩)), (23, .slice yA yn yc), (24, .pointer (some ⟨wr.heap.size, 0, none⟩)), (25, .slice xA xn xc), (26, .int .i64 (cmpL ys xs)), (27, .bool false), (28, .bool false)] 53 rfl (by kernel_rfl) ?_ ?_
        · intro F hF w' hB
          have q0 := (hB.cell (p := ⟨b, off + j * 2, none⟩) l1).trans dq.out
          have jx := (hB.cell (p := ⟨wr.heap.size, 0, none⟩) lg1).trans dg0.out
          have ix := Hx1.out.after hB
          have iy := Hy.out.after hB
          refine ⟨?_, ?_, ?_, ?_, ?_, ?_, ?_, ?_, ?_, ?_, ?_, ?_, ?_, ?_, trivial⟩
          · exact Reg.doesV_val (ev_move rfl) (by rw [hF]; kernel_rfl) (by rw [hF]; kernel_rfl)
          · exact Reg.doesV_val (by rw [ev_gtC5 (k : Int) 0 rfl (by rw [hF]; kernel_rfl), hk0]) (by rw [hF]; kernel_rfl) (by rw [hF]; kernel_rfl)
          · exact Reg.doesV_val (ev_move rfl) (by rw [hF]; kernel_rfl) (by rw [hF]; kernel_rfl)
          · exact Reg.doesV_val (ev_move rfl) (by rw [hF]; kernel_rfl) (by rw [hF]; kernel_rfl)
          · exact Reg.doesV_val (ev_move rfl) (by rw [hF]; kernel_rfl) (by rw [hF]; kernel_rfl)
          · exact Reg.doesV_val (ev_dec5 k j hkj hjx rfl (by rw [hF]; kernel_rfl)) (by rw [hF]; kernel_rfl) (by rw [hF]; kernel_rfl)
          · exact Reg.doesV_val (ev_idxK (b := b) (off := off) (n := n) (c := c) (k := j) hjn rfl (by rw [hF]; kernel_rfl) (by rw [hF]; kernel_rfl)) (by rw [hF]; kernel_rfl) (by rw [hF]; kernel_rfl)
          · exact Reg.doesV_val (ev_c0 (b := b) (off := off + j * 2) rfl (by rw [hF]; kernel_rfl)) (by rw [hF]; kernel_rfl) (by rw [hF]; kernel_rfl)
          · exact Reg.doesV_val (ev_ldR (A := yA) (n := yn) (c := yc) q0 rfl (by rw [hF]; kernel_rfl)) (by rw [hF]; kernel_rfl) (by rw [hF]; kernel_rfl)
          · exact Reg.doesV_val (ev_c0 (b := wr.heap.size) (off := 0) rfl (by rw [hF]; kernel_rfl)) (by rw [hF]; kernel_rfl) (by rw [hF]; kernel_rfl)
          · exact Reg.doesV_val (ev_ldR (A := xA) (n := xn) (c := xc) jx rfl (by rw [hF]; kernel_rfl)) (by rw [hF]; kernel_rfl) (by rw [hF]; kernel_rfl)
          · exact Reg.doesV_call (compareL_c yA xA yn xn yc xc ys xs w' iy.hd.len ix.hd.len iy.hd.max ix.hd.max iy.hd.sl ix.hd.sl) (ev_call enKeyCompare rfl (by rw [hF]; kernel_rfl)) (by rw [hF]; kernel_rfl) (by rw [hF]; kernel_rfl)
          · exact Reg.doesV_val (by rw [ev_eqC5 (cmpL ys xs) 0 rfl (by rw [hF]; kernel_rfl), hC]) (by rw [hF]; kernel_rfl) (by rw [hF]; kernel_rfl)
          · exact Reg.doesV_val (ev_pick true rfl (by rw [hF]; kernel_rfl)) (by rw [hF]; kernel_rfl) (by rw [hF]; kernel_rfl)
        · intro w8 hB
          simp only [Reg.putAll, Act.put, List.setIfInBounds_toArray, List.set_cons_zero, List.set_cons_succ]
          have Hb8 := Lib.hid (below_via Hb1.out hB)
          have HbW8 := Lib.hid (below_via Hbw.out hB)
          have g0 := (hB.cell (p := ⟨wr.heap.size, 0, none⟩) lg1).trans dg0.out
          have g1 := (hB.cell (p := ⟨wr.heap.size, 1, none⟩) lg1).trans dg1.out
          have lg8 : wr.heap.size < w8.heap.size := Nat.lt_of_lt_of_le lg1 hB.size
          have HOr : Hid (∀ k, (Value.slice A' m c').ownBlock = some k → k < wr.heap.size) := Lib.hid fun k hk => (ho.out.lt k hk).2
          have HO8 := Lib.hid (ho.out.after HbW8.out)
          have HA8 := Lib.hid (hap.out.after HbW8.out)
          have Hx8 := Lib.hid (Hx.out.after HbW8.out)
          clear hB dg0 dg1 Hb1 Hbw ho hap Hx Hx1
          have G0 := Lib.hid g0
          have G1 := Lib.hid g1
          have Hjn : Hid (joinR [(⟨xA, xn, xc, xs⟩ : Hd)] = xs) := Lib.hid (by simp [joinR])
          go_wp2_with fail
          go_region_held3 (fun w' => w'.cell? ⟨wr.heap.size, 0, none⟩ = some (.slice xA xn xc) ∧ w'.cell? ⟨wr.heap.size, 1, none⟩ = some (.int .i64 N)) (first | exact HGC9.out | exact HGCa.out | go_keep)
           (first
             | (go_at_call 27
                have hbj := Lib.hid (((Below.refl w8.heap.size w8).alloc (Nat.le_refl _) (.cells #[.slice xA xn xc] 42)).drew)
                have hsj : Hid (SlG (w8.alloc (.cells #[.slice xA xn xc] 42)).drew (some ⟨w8.heap.size, 0, none⟩) 1 rdH [⟨xA, xn, xc, xs⟩]) := Lib.hid ((SlG.new hOk.len [⟨xA, xn, xc, xs⟩] rfl).after (Below.refl _ _).drew)
                refine (join_c (some ⟨w8.heap.size, 0, none⟩) 1 1 [⟨xA, xn, xc, xs⟩] (w8.alloc (.cells #[.slice xA xn xc] 42)).drew rfl (by unfold maxLen; omega) hsj.out (fun h' hh' => by rw [List.mem_singleton] at hh'; subst hh'; exact Hx8.out.hd.after hbj.out) (by rw [Hjn.out]; exact Hxl.out)).mono ?_
                rintro en w9 ⟨v9, rfl, hb9, hv9⟩
                rw [Hjn.out] at hv9
                obtain ⟨h9, rfl, hIn9, hxs9, hbl9, hnc9⟩ := hv9.hd
                have Hb9 := Lib.hid (below_via Hb8.out (below_via hbj.out hb9))
                have Hb89 := Lib.hid (below_via hbj.out hb9)
                have HGC9 : Hid (w9.cell? ⟨wr.heap.size, 0, none⟩ = some (.slice xA xn xc) ∧ w9.cell? ⟨wr.heap.size, 1, none⟩ = some (.int .i64 N)) := Lib.hid ⟨(Hb89.out.cell lg8).trans G0.out, (Hb89.out.cell lg8).trans G1.out⟩
                have HO9 := Lib.hid (HO8.out.after Hb89.out)
                have Hs89 : Hid (w8.heap.size ≤ w9.heap.size) := Lib.hid Hb89.out.size
                have HOl : Hid (∀ k, (Value.slice A' m c').ownBlock = some k → k < w8.heap.size) := Lib.hid fun k hk => (HO8.out.lt k hk).2
                have HA9 := Lib.hid (HA8.out.after Hb89.out)
                have Hn9 := Lib.hid (NewC.of hIn9 hxs9 hbl9 Hx8.out hnc9)
                obtain ⟨h9A, h9n, h9c, h9xs⟩ := h9
                dsimp only [Hd.v]
                clear hv9 hIn9 hxs9 hbl9 hnc9 hb9 hbj hsj HO8 HA8 Hb8)
             | (refine step_appL cOk (by rfl) (.tmp 41) (.tmp 49) (by rfl) W.heap.size (.slice A' m c') ol [⟨⟨h9A, h9n, h9c, h9xs⟩, N⟩] (by rfl) (HO9.out.after ((Below.refl _ _).alloc (Nat.le_refl _) _)) (some ⟨w9.heap.size, 0, none⟩) 1 1 (by rfl) rfl (SlG.new cOk.len [⟨⟨h9A, h9n, h9c, h9xs⟩, N⟩] rfl) (by rw [hol.out]; simp [maxLen]; omega) (by rw [hol.out]; simp; omega) (by have := Hb9.out.size; simp; omega) ?_
                intro A2 c2 w2 hv hg hloc
                rw [hol.out] at hv hloc ⊢
                have HX := Lib.hid (below_one w9 (.cells #[.slice h9A h9n h9c, .int .i64 N] 44))
                have Hv2 := Lib.hid hv
                have Hb2 := Lib.hid ((below_al Hb9.out (.cells #[.slice h9A h9n h9c, .int .i64 N] 44)).grown hg (by have := Hb9.out.size; simp; omega) (fun k hk => (HO9.out.lt k hk).1))
                have HA2 := Lib.hid (HA9.out.app HX.out hg hloc Hn9.out.ct (fun b' off' hb' => ⟨fun e => by have h1 := (HOl.out b' e); have h2 := (Hn9.out.lt b' off' hb').1; simp at h2; omega, (Hn9.out.lt b' off' hb').2⟩) HO9.out.plain)
                have HGCa : Hid (w2.cell? ⟨wr.heap.size, 0, none⟩ = some (.slice xA xn xc) ∧ w2.cell? ⟨wr.heap.size, 1, none⟩ = some (.int .i64 N)) := Lib.hid (by
                 have hlt9 : wr.heap.size < w9.heap.size := Nat.lt_of_lt_of_le lg8 Hs89.out
                 have hne : some wr.heap.size ≠ (Value.slice A' m c').ownBlock := fun e => by have := HOr.out _ e.symm; omega
                 have hbk : w2.heap[wr.heap.size]? = w9.heap[wr.heap.size]? := (hg.block _ (Nat.lt_of_lt_of_le hlt9 HX.out.size) hne).trans (HX.out.block _ hlt9)
                 refine ⟨?_, ?_⟩
                 · rw [← HGC9.out.1]; simp only [World.cell?, hbk]
                 · rw [← HGC9.out.2]; simp only [World.cell?, hbk])
                clear hv hg hloc HX))
          have Hmi3 : Hid (MI (pl (ls.take (k + 1))) (pl (ol ++ [⟨⟨h9A, h9n, h9c, h9xs⟩, N⟩]))) := Lib.hid (by
           rw [Hpk.out, pl_app, pl_one]
           have e : h9xs = xs := Hn9.out.eq
           simp only [e]
           exact Hmi2.out)
          have Hol3 : Hid ((ol ++ [(⟨⟨h9A, h9n, h9c, h9xs⟩, N⟩ : Ct)]).length = m + 1) := Lib.hid (by rw [List.length_append, hol.out]; rfl)
          clear Hmi2 Hpk HGC9 HGCa HO9 HA9 Hn9 Hb9 Hb89
          go_wp2
          go_roundw
          case rel => exact ⟨k + 1, m + 1, A2, c2, ol ++ [⟨⟨h9A, h9n, h9c, h9xs⟩, N⟩], by omega, by omega, by go_num, rfl, Hol3, Hb2, Hv2, HA2, Hmi3⟩
          case measure => simp [intOf]; omega
      · refine Reg.wp_region_vals mixed (by kernel_rfl) [(15, .int .i64 (k : Nat)), (16, .bool true), (17, .bool true), (18, .slice (some ⟨b, off, none⟩) n c), (19, .int .i64 (k : Nat)), (20, .int .i64 (j : Nat)), (21, .pointer (some ⟨b, off + j * 2, none⟩)), (22, .pointer (some ⟨b, off + j * 2, none⟩)), (23, .slice yA yn yc), (24, .pointer (some ⟨wr.heap.size, 0, none⟩)), (25, .slice xA xn xc), (26, .int .i64 (cmpL ys xs)), (27, .bool true), (28, .bool true)] 53 rfl (by kernel_rfl) ?_ ?_
        · intro F hF w' hB
          have q0 := (hB.cell (p := ⟨b, off + j * 2, none⟩) l1).trans dq.out
          have jx := (hB.cell (p := ⟨wr.heap.size, 0, none⟩) lg1).trans dg0.out
          have ix := Hx1.out.after hB
          have iy := Hy.out.after hB
          refine ⟨?_, ?_, ?_, ?_, ?_, ?_, ?_, ?_, ?_, ?_, ?_, ?_, ?_, ?_, trivial⟩
          · exact Reg.doesV_val (ev_move rfl) (by rw [hF]; kernel_rfl) (by rw [hF]; kernel_rfl)
          · exact Reg.doesV_val (by rw [ev_gtC5 (k : Int) 0 rfl (by rw [hF]; kernel_rfl), hk0]) (by rw [hF]; kernel_rfl) (by rw [hF]; kernel_rfl)
          · exact Reg.doesV_val (ev_move rfl) (by rw [hF]; kernel_rfl) (by rw [hF]; kernel_rfl)
          · exact Reg.doesV_val (ev_move rfl) (by rw [hF]; kernel_rfl) (by rw [hF]; kernel_rfl)
          · exact Reg.doesV_val (ev_move rfl) (by rw [hF]; kernel_rfl) (by rw [hF]; kernel_rfl)
          · exact Reg.doesV_val (ev_dec5 k j hkj hjx rfl (by rw [hF]; kernel_rfl)) (by rw [hF]; kernel_rfl) (by rw [hF]; kernel_rfl)
          · exact Reg.doesV_val (ev_idxK (b := b) (off := off) (n := n) (c := c) (k := j) hjn rfl (by rw [hF]; kernel_rfl) (by rw [hF]; kernel_rfl)) (by rw [hF]; kernel_rfl) (by rw [hF]; kernel_rfl)
          · exact Reg.doesV_val (ev_c0 (b := b) (off := off + j * 2) rfl (by rw [hF]; kernel_rfl)) (by rw [hF]; kernel_rfl) (by rw [hF]; kernel_rfl)
          · exact Reg.doesV_val (ev_ldR (A := yA) (n := yn) (c := yc) q0 rfl (by rw [hF]; kernel_rfl)) (by rw [hF]; kernel_rfl) (by rw [hF]; kernel_rfl)
          · exact Reg.doesV_val (ev_c0 (b := wr.heap.size) (off := 0) rfl (by rw [hF]; kernel_rfl)) (by rw [hF]; kernel_rfl) (by rw [hF]; kernel_rfl)
          · exact Reg.doesV_val (ev_ldR (A := xA) (n := xn) (c := xc) jx rfl (by rw [hF]; kernel_rfl)) (by rw [hF]; kernel_rfl) (by rw [hF]; kernel_rfl)
          · exact Reg.doesV_call (compareL_c yA xA yn xn yc xc ys xs w' iy.hd.len ix.hd.len iy.hd.max ix.hd.max iy.hd.sl ix.hd.sl) (ev_call enKeyCompare rfl (by rw [hF]; kernel_rfl)) (by rw [hF]; kernel_rfl) (by rw [hF]; kernel_rfl)
          · exact Reg.doesV_val (by rw [ev_eqC5 (cmpL ys xs) 0 rfl (by rw [hF]; kernel_rfl), hC]) (by rw [hF]; kernel_rfl) (by rw [hF]; kernel_rfl)
          · exact Reg.doesV_val (ev_pick true rfl (by rw [hF]; kernel_rfl)) (by rw [hF]; kernel_rfl) (by rw [hF]; kernel_rfl)
        · intro w8 hB
          simp only [Reg.putAll, Act.put, List.setIfInBounds_toArray, List.set_cons_zero, List.set_cons_succ]
          have Hb8 := Lib.hid (below_via Hb1.out hB)
          have HbW8 := Lib.hid (below_via Hbw.out hB)
          have g0 := (hB.cell (p := ⟨wr.heap.size, 0, none⟩) lg1).trans dg0.out
          have g1 := (hB.cell (p := ⟨wr.heap.size, 1, none⟩) lg1).trans dg1.out
          have lg8 : wr.heap.size < w8.heap.size := Nat.lt_of_lt_of_le lg1 hB.size
          have HOr : Hid (∀ k, (Value.slice A' m c').ownBlock = some k → k < wr.heap.size) := Lib.hid fun k hk => (ho.out.lt k hk).2
          have HO8 := Lib.hid (ho.out.after HbW8.out)
          have HA8 := Lib.hid (hap.out.after HbW8.out)
          have Hx8 := Lib.hid (Hx.out.after HbW8.out)
          clear hB dg0 dg1 Hb1 Hbw ho hap Hx Hx1
          obtain ⟨M', hM'⟩ : ∃ M', ∃ q, pl ol = M' ++ [(ys, q)] := by
           rcases hmi.out.last with ⟨h1, _⟩ | ⟨p', M', r, n', q, h1, h2⟩
           · rw [hkj, pl_take_succ Hyj.out] at h1
             have := congrArg List.length h1
             simp at this
           · rw [hkj, pl_take_succ Hyj.out] at h1
             have e := congrArg Prod.fst (List.cons.inj (List.append_inj' h1 rfl).2).1
             simp only at e
             subst e
             exact ⟨M', q, h2⟩
          obtain ⟨q, hM'⟩ := hM'
          obtain ⟨ol', h', N0, rfl, hh', hq', hol'⟩ := pl_split hM'
          subst hq'
          obtain ⟨m', hm'⟩ : ∃ m', m = m' + 1 := ⟨ol'.length, by rw [← hol.out, List.length_append]; rfl⟩
          subst hm'
          have Hol' : Hid (ol'.length = m') := Lib.hid (by have := hol.out; rw [List.length_append] at this; simpa using this)
          obtain ⟨gb, rfl, hgb⟩ : ∃ gb, A' = some ⟨gb, 0, none⟩ ∧ ∃ cur, w8.heap[gb]? = some (.cells cur 44 (0, 0)) := by
           rcases HO8.out.2 with ⟨hv, _⟩ | ⟨g', cap, cur, hv, _, hh, _⟩
           · cases hv
           · injection hv with e1
             exact ⟨g', e1, cur, hh⟩
          obtain ⟨cur, hcur⟩ := hgb
          have hfz : ∀ i, w8.frozen? ⟨gb, i, none⟩ = false := fun i => frozen_of_row _ _ _ _ _ hcur
          have fz := hfz (m' * 2 + 1)
          obtain ⟨A9, c9, e9, e9c, e9d, hs9⟩ := HO8.out.sl cOk.len
          injection e9 with e9 e9a e9b
          subst e9
          clear e9a e9b e9c e9d
          obtain ⟨lgb, cb0, cb1⟩ := hs9.cell2 (k := m') (x := ⟨h', N0⟩) (by rw [List.getElem?_append_right (by rw [Hol'.out]; exact Nat.le_refl _), Hol'.out, Nat.sub_self]; rfl)
          simp only [Nat.zero_add] at cb1
          have hN0 := HM9.out (h'.xs, N0) (pl_mem (x := ⟨h', N0⟩) (List.mem_append_right _ (List.mem_singleton.2 rfl)))
          simp only at hN0
          have hN1 := HN.out
          have hw : IntKind.i64.wrap (N0 + N) = N0 + N := by rw [IntKind.wrap_i64]; omega
          have hsub : IntKind.i64.wrap (m' : Int) = m' := by rw [IntKind.wrap_i64]; omega
          have hm0 : (0 : Int) ≤ m' := by omega
          have hm1 : (m' : Int) < m' + 1 := by omega
          have hgW : W.heap.size ≤ gb := (HO8.out.lt gb rfl).1
          have Hb2 := Lib.hid (Hb8.out.setCell (p := ⟨gb, m' * 2 + 1, none⟩) hgW (.int .i64 (N0 + N)))
          have Hv2 := Lib.hid (OwnG.setN HO8.out Hol'.out (N0 + N))
          have HA2 : Hid (ApartC (w8.setCell ⟨gb, m' * 2 + 1, none⟩ (.int .i64 (N0 + N))) (some ⟨gb, 0, none⟩) (ol' ++ [⟨h', N0 + N⟩])) := Lib.hid (fun c hc => by
           rcases List.mem_append.1 hc with hc | hc
           · have h1 := ((HA8.out c (List.mem_append_left _ hc)).2 gb 0 rfl).set (m' * 2 + 1) (.int .i64 (N0 + N))
             exact ⟨h1.1, fun g o e => by cases e; exact h1⟩
           · rw [List.mem_singleton] at hc
             subst hc
             have h1 := ((HA8.out ⟨h', N0⟩ (by simp)).2 gb 0 rfl).set (m' * 2 + 1) (.int .i64 (N0 + N))
             have h2 : OutC (w8.setCell ⟨gb, m' * 2 + 1, none⟩ (.int .i64 (N0 + N))) gb ⟨h', N0 + N⟩ := ⟨⟨h1.1.hd, h1.1.sz, h1.1.n64, by simp only; omega, h1.1.room⟩, h1.2⟩
             exact ⟨h2.1, fun g o e => by cases e; exact h2⟩)
          have Hmi3 : Hid (MI (pl (ls.take (k + 1))) (pl (ol' ++ [⟨h', N0 + N⟩]))) := Lib.hid (by
           rw [Hpk.out, pl_app, pl_one, hh', hol']
           have h1 := hmi.out
           rw [hM'] at h1
           exact h1.same (by simpa using hC))
          have Hol3 : Hid ((ol' ++ [(⟨h', N0 + N⟩ : Ct)]).length = m' + 1) := Lib.hid (by rw [List.length_append, Hol'.out]; rfl)
          clear hs9 cb0 hfz hcur HO8 HA8 Hb8 hmi hM' hh' hol' hN0 hN1 Hpk HM9 HN g0 hkj hjx hprev Hyj dq Hy hC
          have Hb3 := Lib.hid Hb2.out.drew
          have Hv3 := Lib.hid (Hv2.out.after (Below.refl _ _).drew)
          have HA3 := Lib.hid (HA2.out.after (Below.refl _ _).drew)
          clear Hb2 Hv2 HA2
          go_wp2_with fail
          go_region
          clear cb1 fz
          go_wp2
          go_roundw
          case rel => exact ⟨k + 1, m' + 1, some ⟨gb, 0, none⟩, c', ol' ++ [⟨h', N0 + N⟩], by omega, by omega, by go_num, rfl, Hol3, Hb3, Hv3, HA3, Hmi3⟩
          case measure => simp [intOf]; omega
  · obtain rfl : k = n := by omega
    have Ht : Hid (ls.take k = ls) := Lib.hid (List.take_of_length_le (by rw [Hls.out]; exact Nat.le_refl _))
    have HF : Hid (MrgSaid w A ks A' m c' ol wr) := Lib.hid ⟨hol.out, by rw [Hn.out]; exact hmk, ho.out.mono HS2.out.size, hap.out, ⟨pl ls, HS2.out.perm.map _, by have := hmi.out; rw [Ht.out] at this; exact this⟩, fun w0 B h1 h2 h3 => by
     have h4 := HS2.out.below w0 B h1 h2 h3
     exact h4.trans (hb.out.mono (Nat.le_trans h3 h4.size))⟩
    clear hol hb ho hap hmi Ht
    go_wp2
    go_ret
    exact ⟨A', m, c', ol, rfl, HF.out⟩
theorem kOk : ElOk Tryz.prog 29 44 2 32 (.agg #[.slice none 0 0, .int .i64 0]) rdC where
 under := Tryz.underlying29
 info := by kernel_rfl
 zs := rfl
 pos := by decide
 len := fun _ => rfl
 one := fun x u hu => by
  simp [rdC] at hu
  rcases hu with rfl | rfl <;> rfl
theorem MrgSaid.bg {w w' : World} {A A' : Option Addr} {ks ol : List Ct} {m c' : Nat} (h : MrgSaid w A ks A' m c' ol w') (hm : ks.length ≤ maxLen) : BgIn w' A' m ol := by
 obtain ⟨A2, c2, e2, _, _, hs⟩ := h.own.sl cOk.len
 injection e2 with e2
 subst e2
 exact ⟨h.len, Nat.le_trans h.le hm, hs, h.apart.each⟩
theorem mayR_len {xs : List Val} (h : mayR xs = true) : xs.length ≤ 40 := by
 unfold mayR at h
 rw [Bool.and_eq_true, decide_eq_true_eq] at h
 exact h.1
def idxF (p : Int → Bool) : List Ct → Nat → Int
 | [], _ => -1
 | x :: l, k => if p x.N then (k : Int) else idxF p l (k + 1)
theorem idxF_drop (p : Int → Bool) (cs : List Ct) (k : Nat) (x : Ct) (h : cs[k]? = some x) : idxF p (cs.drop k) k = if p x.N then (k : Int) else idxF p (cs.drop (k + 1)) (k + 1) := by
 have h1 := List.drop_eq_getElem_cons (List.getElem?_eq_some_iff.1 h).1
 rw [(List.getElem?_eq_some_iff.1 h).2] at h1
 rw [h1, idxF]
theorem idxF_spec (p : Int → Bool) : ∀ (l : List Ct) (k : Nat), (idxF p l k = -1 ∧ ∀ x ∈ l, p x.N = false) ∨ ∃ i x, idxF p l k = ((k + i : Nat) : Int) ∧ l[i]? = some x ∧ p x.N = true ∧ ∀ y ∈ l.take i, p y.N = false
 | [], k => .inl ⟨rfl, nofun⟩
 | x :: l, k => by
   cases h : p x.N
   · rcases idxF_spec p l (k + 1) with ⟨h1, h2⟩ | ⟨i, y, h1, h2, h3, h4⟩
     · refine .inl ⟨by rw [idxF, h, if_neg (by simp), h1], fun y hy => ?_⟩
       rcases List.mem_cons.1 hy with rfl | hy
       · exact h
       · exact h2 y hy
     · refine .inr ⟨i + 1, y, by rw [idxF, h, if_neg (by simp), h1]; congr 1; omega, by simpa using h2, h3, fun z hz => ?_⟩
       rw [List.take_succ_cons] at hz
       rcases List.mem_cons.1 hz with rfl | hz
       · exact h
       · exact h4 z hz
   · exact .inr ⟨0, x, by rw [idxF, h, if_pos rfl]; rfl, rfl, h, nofun⟩
def Asks (g : FuncId) (p : Int → Bool) : Prop := ∀ (A : Option Addr) (n c : Nat) (N : Int) (w : World), Calls Tryz.prog g #[.agg #[.slice A n c, .int .i64 N]] w fun e w' => e = .returned (.bool (p N)) ∧ Gr w w'
theorem asksBey : Asks 35 beyB := beyond_g
theorem asksZero : Asks 41 (fun N => N == 0) := zero_g
set_option maxHeartbeats 2000000 in
theorem idx_c (g : FuncId) (p : Int → Bool) (hp : Asks g p) (eg : ∀ args w, (callFunc g args).run Tryz.prog w = .ok (.enter g args) w) (A : Option Addr) (n c : Nat) (cs : List Ct) (w : World) (hB : BgIn w A n cs) :
 Calls Tryz.prog 58 #[.slice A n c, .func (.func g) #[] #[]] w fun e w' => e = .returned (.int .i64 (idxF p cs 0)) ∧ Below w.heap.size w w' := by
 obtain ⟨R, hR⟩ : ∃ R, idxF p cs 0 = R := ⟨_, rfl⟩
 rw [hR]
 have HR := Lib.hid hR
 have HB := Lib.hid hB
 have Hp := Lib.hid hp
 have hmx : n ≤ 9223372036854775807 := hB.max
 clear hB hR hp
 go_enter Tryz.func58, Tryz.ntmps58
 go_wp2_with fail
 go_loopw [8] (fun i wr => ∃ k : Nat, k ≤ n ∧ i = .int .i64 k ∧ Hid (Below w.heap.size w wr) ∧ Hid (idxF p (cs.drop k) k = R)) (fun i _ => n - (intOf i).toNat)
 case atStart => exact ⟨0, Nat.zero_le _, rfl, Lib.hid (Below.refl _ _), HR⟩
 case round =>
  obtain ⟨k, hk, rfl, hb, hinv⟩ := hrel
  clear HR
  by_cases hlt : k < n
  · obtain ⟨b, off, rfl⟩ := HB.out.sl.some2 (k := k) (by rw [HB.out.len]; exact hlt)
    obtain ⟨x, hx⟩ : ∃ x, cs[k]? = some x := ⟨_, List.getElem?_eq_getElem (by rw [HB.out.len]; exact hlt)⟩
    obtain ⟨hblt, c0, c1⟩ := HB.out.sl.cell2 hx
    have d0 := (hb.out.cell (p := ⟨b, off + k * 2, none⟩) hblt).trans c0
    have d1 := (hb.out.cell (p := ⟨b, off + k * 2 + 1, none⟩) hblt).trans c1
    have l0 : b < wr.heap.size := Nat.lt_of_lt_of_le hblt hb.out.size
    have Hst := Lib.hid ((idxF_drop p cs k x hx).symm.trans hinv.out)
    clear hinv c0 c1 hx
    obtain ⟨⟨xA, xn, xc, xs⟩, N⟩ := x
    simp only [] at d0 d1
    have hgo : (k : Int) < n := by omega
    have HC := Lib.hid (Hp.out xA xn xc N wr)
    cases hq : p N
    · have Hst2 : Hid (idxF p (cs.drop (k + 1)) (k + 1) = R) := by
       have := Hst.out
       simp only [hq] at this
       exact Lib.hid this
      clear Hst
      go_wp2_with fail
      refine HC.out.mono ?_
      rintro e w1 ⟨rfl, hg1⟩
      rw [hq]
      have Hb1 := Lib.hid (below_via hb.out hg1.below)
      clear hg1 hb d0 d1 HC
      go_wp2
      go_roundw
      case rel => exact ⟨k + 1, by omega, by go_num, Hb1, Hst2⟩
      case measure => simp [intOf]; omega
    · have Hst2 : Hid ((k : Int) = R) := by
       have := Hst.out
       simp only [hq] at this
       exact Lib.hid this
      clear Hst
      go_wp2_with fail
      refine HC.out.mono ?_
      rintro e w1 ⟨rfl, hg1⟩
      rw [hq]
      have Hb1 := Lib.hid (below_via hb.out hg1.below)
      clear hg1 hb d0 d1 HC
      go_wp2
      go_ret
      exact ⟨congrArg (fun z => Ending.returned (Value.int .i64 z)) Hst2.out, Hb1.out⟩
  · obtain rfl : k = n := by omega
    have Hst' : Hid (-1 = R) := by
     have := hinv.out
     rw [show cs.drop k = [] from List.drop_eq_nil_of_le (by rw [HB.out.len]; exact Nat.le_refl _)] at this
     exact Lib.hid this
    clear hinv
    go_wp2
    go_ret
    exact ⟨congrArg (fun z => Ending.returned (Value.int .i64 z)) Hst'.out, hb.out⟩
theorem idx_any (p : Int → Bool) (cs : List Ct) : decide (0 ≤ idxF p cs 0) = cs.any fun x => p x.N := by
 rcases idxF_spec p cs 0 with ⟨h1, h2⟩ | ⟨i, x, h1, h2, h3, _⟩
 · rw [h1]
   symm
   rw [show decide ((0 : Int) ≤ -1) = false from rfl, List.any_eq_false]
   intro x hx
   rw [h2 x hx]
   decide
 · rw [h1, decide_eq_true (by omega)]
   symm
   rw [List.any_eq_true]
   exact ⟨x, List.mem_of_getElem? h2, h3⟩
theorem contains_c (A : Option Addr) (n c : Nat) (cs : List Ct) (w : World) (hB : BgIn w A n cs) :
 Calls Tryz.prog 39 #[.slice A n c, .func (.func 35) #[] #[]] w fun e w' => e = .returned (.bool (cs.any fun x => beyB x.N)) ∧ Below w.heap.size w w' := by
 have HC := Lib.hid (idx_c 35 beyB asksBey (fun _ _ => by kernel_rfl) A n c cs w hB)
 rw [← idx_any]
 obtain ⟨R, hR⟩ : ∃ R, idxF beyB cs 0 = R := ⟨_, rfl⟩
 rw [hR] at HC ⊢
 clear hB hR
 go_enter Tryz.func39, Tryz.ntmps39
 go_wp2_with fail
 refine HC.out.mono ?_
 rintro e w1 ⟨rfl, hb1⟩
 go_wp2
 go_ret
 exact ⟨rfl, hb1⟩
def fl (l : List Ct) : List Ct := l.filter fun x => !(x.N == 0)
theorem fl_pl (l : List Ct) : pl (fl l) = (pl l).filter fun x => !(x.2 == 0) := by
 unfold fl pl
 rw [List.filter_map]
 rfl
theorem fl_take {l : List Ct} {j : Nat} {x : Ct} (h : l[j]? = some x) : fl (l.take (j + 1)) = fl (l.take j) ++ if x.N == 0 then [] else [x] := by
 unfold fl
 rw [List.take_add_one, h, List.filter_append]
 congr 1
 cases hz : x.N == 0 <;> simp [hz]
structure DelSt (w : World) (g n i j : Nat) (ol : List Ct) : Prop where
 lt : g < w.heap.size
 thaw : ∀ t, w.frozen? ⟨g, t, none⟩ = false
 all : ∀ t, t < n * 2 → ∃ u, w.cell? ⟨g, t, none⟩ = some u
 len : (fl (ol.take j)).length = i
 lo : ∀ t x, (fl (ol.take j))[t]? = some x → w.cell? ⟨g, t * 2, none⟩ = some (.slice x.h.A x.h.n x.h.c) ∧ w.cell? ⟨g, t * 2 + 1, none⟩ = some (.int .i64 x.N)
 hi : ∀ t x, j ≤ t → ol[t]? = some x → w.cell? ⟨g, t * 2, none⟩ = some (.slice x.h.A x.h.n x.h.c) ∧ w.cell? ⟨g, t * 2 + 1, none⟩ = some (.int .i64 x.N)
 out : ∀ c ∈ ol, OutC w g c
 ij : i < j
theorem DelSt.after {w w' : World} {g n i j : Nat} {ol : List Ct} (h : DelSt w g n i j ol) (hb : Below w.heap.size w w') : DelSt w' g n i j ol :=
 ⟨Nat.lt_of_lt_of_le h.lt hb.size, fun t => by rw [hb.frozen (p := ⟨g, t, none⟩) h.lt]; exact h.thaw t, fun t ht => by rw [hb.cell (p := ⟨g, t, none⟩) h.lt]; exact h.all t ht, h.len,
   fun t x hx => by rw [hb.cell (p := ⟨g, t * 2, none⟩) h.lt, hb.cell (p := ⟨g, t * 2 + 1, none⟩) h.lt]; exact h.lo t x hx,
   fun t x ht hx => by rw [hb.cell (p := ⟨g, t * 2, none⟩) h.lt, hb.cell (p := ⟨g, t * 2 + 1, none⟩) h.lt]; exact h.hi t x ht hx, fun c hc => (h.out c hc).after hb, h.ij⟩
theorem DelSt.skip {w : World} {g n i j : Nat} {ol : List Ct} {x : Ct} (h : DelSt w g n i j ol) (hx : ol[j]? = some x) (hz : (x.N == 0) = true) : DelSt w g n i (j + 1) ol := by
 have e : fl (ol.take (j + 1)) = fl (ol.take j) := by rw [fl_take hx, hz, if_pos rfl, List.append_nil]
 exact ⟨h.lt, h.thaw, h.all, by rw [e]; exact h.len, by rw [e]; exact h.lo, fun t y ht => h.hi t y (by omega), h.out, by have := h.ij; omega⟩
theorem DelSt.keep {w : World} {g n i j : Nat} {ol : List Ct} {x : Ct} (h : DelSt w g n i j ol) (hl : ol.length = n) (hx : ol[j]? = some x) (hz : (x.N == 0) = false) : DelSt ((w.setCell ⟨g, i * 2, none⟩ x.h.v).setCell ⟨g, i * 2 + 1, none⟩ (.int .i64 x.N)) g n (i + 1) (j + 1) ol := by
 have e : fl (ol.take (j + 1)) = fl (ol.take j) ++ [x] := by rw [fl_take hx, hz, if_neg (by decide)]
 have hij := h.ij
 have hjn : j < n := by rw [← hl]; exact (List.getElem?_eq_some_iff.1 hx).1
 obtain ⟨u0, h0⟩ := h.all (i * 2) (by omega)
 obtain ⟨u1, h1⟩ := h.all (i * 2 + 1) (by omega)
 have oth : ∀ (w : World) (p j : Nat) (v : Value), j ≠ p → (w.setCell ⟨g, p, none⟩ v).cell? ⟨g, j, none⟩ = w.cell? ⟨g, j, none⟩ := fun w p j v hj => World.cell?_setCell_other _ _ _ _ (by intro e; simp only [Addr.mk.injEq] at e; exact hj e.2.1.symm)
 have k1 : (w.setCell ⟨g, i * 2, none⟩ x.h.v).cell? ⟨g, i * 2 + 1, none⟩ = some u1 := (oth _ _ _ _ (by omega)).trans h1
 have c1 := World.cell?_setCell_same _ ⟨g, i * 2 + 1, none⟩ (.int .i64 x.N) k1
 have c0 := (oth (w.setCell ⟨g, i * 2, none⟩ x.h.v) (i * 2 + 1) (i * 2) (.int .i64 x.N) (by omega)).trans (World.cell?_setCell_same _ ⟨g, i * 2, none⟩ x.h.v h0)
 have other : ∀ j, j ≠ i * 2 → j ≠ i * 2 + 1 → ((w.setCell ⟨g, i * 2, none⟩ x.h.v).setCell ⟨g, i * 2 + 1, none⟩ (.int .i64 x.N)).cell? ⟨g, j, none⟩ = w.cell? ⟨g, j, none⟩ := fun j e0 e1 => (oth _ _ _ _ e1).trans (oth _ _ _ _ e0)
 refine ⟨by simpa using h.lt, fun t => by rw [World.frozen?_setCell, World.frozen?_setCell]; exact h.thaw t, fun t ht => ?_, by rw [e, List.length_append, h.len]; rfl, fun t y hy => ?_, fun t y ht hy => ?_, fun c hc => ((h.out c hc).set _ _).set _ _, by omega⟩
 · by_cases e0 : t = i * 2
   · subst e0; exact ⟨_, c0⟩
   by_cases e1 : t = i * 2 + 1
   · subst e1; exact ⟨_, c1⟩
   rw [other t e0 e1]
   exact h.all t ht
 · rw [e] at hy
   by_cases ht : t < i
   · rw [List.getElem?_append_left (by rw [h.len]; exact ht)] at hy
     rw [other _ (by omega) (by omega), other _ (by omega) (by omega)]
     exact h.lo t y hy
   · have ht' : t = i := by
      have := (List.getElem?_eq_some_iff.1 hy).1
      rw [List.length_append, h.len] at this
      simp at this
      omega
     subst ht'
     rw [List.getElem?_append_right (by rw [h.len]; exact Nat.le_refl _), h.len, Nat.sub_self] at hy
     simp at hy
     subst hy
     exact ⟨c0, c1⟩
 · rw [other _ (by omega) (by omega), other _ (by omega) (by omega)]
   exact h.hi t y (by omega) hy
theorem setCs_block (g : Nat) : ∀ (vs : List Value) (o : Nat) (w : World) (b : Nat), b ≠ g → (w.setCells g o vs).heap[b]? = w.heap[b]?
 | [], _, _, _, _ => rfl
 | v :: r, o, w, b, hb => by
   rw [World.setCells]
   exact (setCs_block g r _ _ b hb).trans (Below.heap_setCell _ _ _ _ hb)
theorem setCs_size (g : Nat) : ∀ (vs : List Value) (o : Nat) (w : World), (w.setCells g o vs).heap.size = w.heap.size
 | [], _, _ => rfl
 | v :: r, o, w => by
   rw [World.setCells, setCs_size g r]
   simp
theorem setCs_below {B g : Nat} (hg : B ≤ g) {w0 : World} : ∀ (vs : List Value) (o : Nat) (w : World), Below B w0 w → Below B w0 (w.setCells g o vs)
 | [], _, _, h => h
 | v :: r, o, w, h => by
   rw [World.setCells]
   exact setCs_below hg r _ _ (h.setCell hg v)
theorem clear2_run (w : World) (ty : TypeId) (b o n c : Nat) (hn : 0 < n) (hc : ∀ j, j < n * 2 → (w.cell? ⟨b, o + j, none⟩).isSome = true) (hf : ∀ j, w.frozen? ⟨b, j, none⟩ = false) :
 ∃ vs : List Value, vs.length = n * 2 ∧ (Builtin.clear_ #[30] ty #[.slice (some ⟨b, o, none⟩) n c]).run Tryz.prog w = .ok (.tuple #[]) (w.setCells b o vs) := by
 have hv : ∀ w, (zeroValue 44).run Tryz.prog w = .ok (.agg #[.slice none 0 0, .int .i64 0]) w := Tryz.zeroValue44
 have hlen : (Builtin.zeroCells (Value.agg #[.slice none 0 0, .int .i64 0]).cells n).toList.length = n * 2 := by
  rw [Array.length_toList, size_zeroCells]
  rfl
 have hone : ∀ v ∈ (Builtin.zeroCells (Value.agg #[.slice none 0 0, .int .i64 0]).cells n).toList, v.oneCell' = true := by
  intro v hv'
  rw [Array.mem_toList_iff] at hv'
  unfold Builtin.zeroCells at hv'
  rw [Array.mem_map] at hv'
  obtain ⟨i, _, rfl⟩ := hv'
  have hs : (Value.agg #[.slice none 0 0, .int .i64 0]).cells = #[.slice none 0 0, .int .i64 0] := by kernel_rfl
  rw [hs]
  have h2 : i % (#[Value.slice none 0 0, .int .i64 0] : Array Value).size = 0 ∨ i % (#[Value.slice none 0 0, .int .i64 0] : Array Value).size = 1 := by
   show i % 2 = 0 ∨ i % 2 = 1
   omega
  rcases h2 with e | e <;> rw [e] <;> rfl
 refine ⟨_, hlen, ?_⟩
 have hst := run_storeCells_cells (P := Tryz.prog) b o _ 0 w (fun j hj => by rw [hlen] at hj; simpa using hc j hj) (fun j _ => hf _) hone
 simp only [Nat.add_zero] at hst
 obtain ⟨m, rfl⟩ : ∃ m, n = m + 1 := ⟨n - 1, by omega⟩
 simp [Builtin.clear_, run_underlying Tryz.underlying30, hv, hst]
structure DelSaid (w : World) (B : Nat) (ol : List Ct) (A' : Option Addr) (m : Nat) (w' : World) : Prop where
 bg : ∃ ol', BgIn w' A' m ol' ∧ pl ol' = (pl ol).filter fun x => !(x.2 == 0)
 below : ∀ w0 B0, Below B0 w0 w → B0 ≤ B → B0 ≤ w0.heap.size → Below B0 w0 w'
set_option maxHeartbeats 4000000 in
theorem del_c (A : Option Addr) (n c B : Nat) (ol : List Ct) (w : World) (ho : OwnG w B 44 2 rdC (.slice A n c) ol) (hl : ol.length = n) (hn : n ≤ 100000) (hap : ApartC w A ol) (hBw : B ≤ w.heap.size) :
 Calls Tryz.prog 40 #[.slice A n c, .func (.func 41) #[] #[]] w fun e w' => ∃ A' m c', e = .returned (.slice A' m c') ∧ DelSaid w B ol A' m w' := by
 have hBg : BgIn w A n ol := by
  obtain ⟨A2, c2, e2, _, _, hs⟩ := ho.sl cOk.len
  injection e2 with e2
  subst e2
  exact ⟨hl, by unfold maxLen; omega, hs, hap.each⟩
 have HI := Lib.hid (idx_c 41 (fun N => N == 0) asksZero (fun _ _ => by kernel_rfl) A n c ol w hBg)
 rcases idxF_spec (fun N => N == 0) ol 0 with ⟨h1, h2⟩ | ⟨i0, x0, h1, h2, h3, h4⟩
 · rw [h1] at HI
   have HF : Hid (∀ w', Below w.heap.size w w' → DelSaid w B ol A n w') := Lib.hid fun w' hb => ⟨⟨ol, hBg.after hb, by
    symm
    rw [List.filter_eq_self]
    intro y hy
    obtain ⟨z, hz, rfl⟩ := List.mem_map.1 hy
    have h5 : (z.N == 0) = false := h2 z hz
    simp only [h5]
    rfl⟩, fun w0 B0 hb0 hB0 _ => hb0.trans (hb.mono (Nat.le_trans hB0 hBw))⟩
   clear hBg h1 h2 ho hap
   go_enter Tryz.func40, Tryz.ntmps40
   go_wp2_with fail
   refine HI.out.mono ?_
   rintro e w1 ⟨rfl, hb1⟩
   have HF1 := Lib.hid (HF.out w1 hb1)
   clear hb1 HF HI
   go_wp2
   go_ret
   exact ⟨A, n, c, rfl, HF1.out⟩
 · rw [h1, Nat.zero_add] at HI
   have hi0 : i0 < n := by rw [← hl]; exact (List.getElem?_eq_some_iff.1 h2).1
   obtain ⟨g, rfl, cur, hcur, hnc, hcs⟩ : ∃ g, A = some ⟨g, 0, none⟩ ∧ ∃ cur, w.heap[g]? = some (.cells cur 44 (0, 0)) ∧ n ≤ c ∧ cur.size = c * 2 := by
    rcases ho.2 with ⟨hv, hz⟩ | ⟨g', cap, cur, hv, _, hh, hle, _, hsz, _⟩
    · rw [hl] at hz; omega
    · injection hv with e1 e2 e3
      subst e3
      exact ⟨g', e1, cur, hh, by rw [hl] at hle; exact hle, hsz⟩
   have hgB : B ≤ g := (ho.lt g rfl).1
   have hflt : fl (ol.take i0) = ol.take i0 := by
    unfold fl
    rw [List.filter_eq_self]
    intro y hy
    have h5 : (y.N == 0) = false := h4 y hy
    rw [h5]
    rfl
   have HS : Hid (DelSt w g n i0 (i0 + 1) ol) := Lib.hid (by
    have e : fl (ol.take (i0 + 1)) = ol.take i0 := by
     rw [fl_take h2, show (x0.N == 0) = true from h3, if_pos rfl, List.append_nil, hflt]
    have hcell : ∀ t x, ol[t]? = some x → w.cell? ⟨g, t * 2, none⟩ = some (.slice x.h.A x.h.n x.h.c) ∧ w.cell? ⟨g, t * 2 + 1, none⟩ = some (.int .i64 x.N) := fun t x hx => by
     have := (hBg.sl.cell2 hx).2
     rwa [Nat.zero_add] at this
    refine ⟨(ho.lt g rfl).2, fun t => frozen_of_row _ _ _ _ _ hcur, fun t ht => ⟨cur[t]'(by rw [hcs]; omega), ?_⟩, by rw [e, List.length_take, hl]; omega, fun t x hx => ?_, fun t x _ hx => hcell t x hx, fun c hc => (hap c hc).2 g 0 rfl, by omega⟩
    · simp only [World.cell?, hcur, Option.isSome_none, Bool.false_eq_true, if_false]
      exact Array.getElem?_eq_getElem _
    · rw [e] at hx
      refine hcell t x ?_
      rw [List.getElem?_take] at hx
      split at hx
      · exact hx
      · cases hx)
   have Hl := Lib.hid hl
   clear hBg h1 h2 h3 h4 ho hap hflt hcur hcs hl
   have hne1 : ((i0 : Int) == -1) = false := beq_eq_false_iff_ne.2 (by omega)
   go_enter Tryz.func40, Tryz.ntmps40
   go_wp2_with fail
   refine HI.out.mono ?_
   rintro e w1 ⟨rfl, hb1⟩
   have HS1 := Lib.hid (HS.out.after hb1)
   have Hb1 : Hid (Below B w w1) := Lib.hid (hb1.mono hBw)
   clear hb1 HS HI
   go_wp2_with fail
   go_loopw [5, 6] (fun a d wr => ∃ i j : Nat, j ≤ n ∧ i < j ∧ a = .int .i64 i ∧ d = .int .i64 j ∧ Hid (Below B w wr) ∧ Hid (DelSt wr g n i j ol)) (fun _ d _ => n - (intOf d).toNat)
   case atStart => exact ⟨i0, i0 + 1, by omega, by omega, rfl, by go_num, Hb1, HS1⟩
   case round =>
    obtain ⟨i, j, hj, hij, rfl, rfl, hb, hS⟩ := hrel
    clear HS1 Hb1
    by_cases hlt : j < n
    · obtain ⟨x, hx⟩ : ∃ x, ol[j]? = some x := ⟨_, List.getElem?_eq_getElem (by rw [Hl.out]; exact hlt)⟩
      obtain ⟨d0, d1⟩ := hS.out.hi j x (Nat.le_refl _) hx
      have Hx := Lib.hid hx
      have l0 := hS.out.lt
      clear hx
      obtain ⟨⟨xA, xn, xc, xs⟩, N⟩ := x
      simp only [] at d0 d1
      have hgo : (j : Int) < n := by omega
      have hBr : B ≤ wr.heap.size := Nat.le_trans hBw hb.out.size
      cases hz : N == 0
      · go_wp2_with fail
        refine (zero_g xA xn xc N _).mono ?_
        rintro e w2 ⟨rfl, hg2⟩
        rw [hz]
        have Hb2 := Lib.hid (below_via (below_one wr (.cells #[.slice xA xn xc, .int .i64 N] 44)) hg2.below)
        have HS2 := Lib.hid (hS.out.after Hb2.out)
        have HK := Lib.hid (HS2.out.keep Hl.out Hx.out hz)
        obtain ⟨u0, f0⟩ := HS2.out.all (i * 2) (by omega)
        obtain ⟨u1, f1⟩ := HS2.out.all (i * 2 + 1) (by omega)
        have z0 := HS2.out.thaw (i * 2)
        have z1 := HS2.out.thaw (i * 2 + 1)
        have e0 : w2.cell? ⟨wr.heap.size, 0, none⟩ = some (.slice xA xn xc) := (hg2.below.cell (p := ⟨wr.heap.size, 0, none⟩) (by simp)).trans (by simp)
        have e1 : w2.cell? ⟨wr.heap.size, 1, none⟩ = some (.int .i64 N) := (hg2.below.cell (p := ⟨wr.heap.size, 1, none⟩) (by simp)).trans (by simp)
        have HF : Hid (Below B w ((w2.setCell ⟨g, i * 2, none⟩ (.slice xA xn xc)).setCell ⟨g, i * 2 + 1, none⟩ (.int .i64 N))) := Lib.hid (((hb.out.trans (Hb2.out.mono hBr)).setCell hgB _).setCell hgB _)
        clear hg2 Hb2 HS2 hb hS d0 d1 Hx hBr
        have hii : (i : Int) < n := by omega
        have hi0' : (0 : Int) ≤ i := by omega
        go_wp2_with fail
        go_roundw
        case rel => exact ⟨i + 1, j + 1, by omega, by omega, by go_num, by go_num, HF, HK⟩
        case measure => simp [intOf]; omega
      · go_wp2_with fail
        refine (zero_g xA xn xc N _).mono ?_
        rintro e w2 ⟨rfl, hg2⟩
        rw [hz]
        have Hb2 := Lib.hid (below_via (below_one wr (.cells #[.slice xA xn xc, .int .i64 N] 44)) hg2.below)
        have HK := Lib.hid ((hS.out.after Hb2.out).skip Hx.out hz)
        have HF : Hid (Below B w w2) := Lib.hid (hb.out.trans (Hb2.out.mono hBr))
        clear hg2 Hb2 hb hS d0 d1 Hx hBr
        go_wp2_with fail
        go_roundw
        case rel => exact ⟨i, j + 1, by omega, by omega, rfl, by go_num, HF, HK⟩
        case measure => simp [intOf]; omega
    · obtain rfl : j = n := by omega
      have hcl : ∃ vs : List Value, vs.length = (j - i) * 2 ∧ ∀ ty, (Builtin.clear_ #[30] ty #[.slice (some ⟨g, i * 2, none⟩) (j - i) (c - i)]).run Tryz.prog wr = .ok (.tuple #[]) (wr.setCells g (i * 2) vs) := by
       obtain ⟨vs, hv1, hv2⟩ := clear2_run wr 0 g (i * 2) (j - i) (c - i) (by omega) (fun t ht => by obtain ⟨u, hu⟩ := hS.out.all (i * 2 + t) (by omega); rw [hu]; rfl) hS.out.thaw
       exact ⟨vs, hv1, fun _ => hv2⟩
      obtain ⟨vs, hvs, hcl⟩ := hcl
      have ht : ol.take j = ol := List.take_of_length_le (by rw [Hl.out]; exact Nat.le_refl _)
      have HF : Hid (DelSaid w B ol (some ⟨g, 0, none⟩) i (wr.setCells g (i * 2) vs)) := Lib.hid (by
       have hS' := hS.out
       have hlen := hS'.len
       have hlo := hS'.lo
       rw [ht] at hlen hlo
       have hblk : ∀ b, b ≠ g → b < wr.heap.size → (wr.setCells g (i * 2) vs).heap[b]? = wr.heap[b]? := fun b hb _ => setCs_block g vs _ _ b hb
       have hsz : (wr.setCells g (i * 2) vs).heap.size = wr.heap.size := setCs_size g vs _ _
       refine ⟨⟨fl ol, ⟨hlen, by unfold maxLen; omega, .inr ⟨g, 0, rfl, by rw [hsz]; exact hS'.lt, fun t x hx q u hu => ?_⟩, fun c hc => ((hS'.out c (List.mem_filter.1 hc).1).same (by rw [hsz]; exact Nat.le_refl _) hblk).1⟩, fl_pl ol⟩, fun w0 B0 h0 h1 _ => ?_⟩
       · have hti : t < i := by rw [← hlen]; exact (List.getElem?_eq_some_iff.1 hx).1
         have hq : q < 2 := (List.getElem?_eq_some_iff.1 hu).1
         rw [World.cell?_setCells_out g vs (i * 2) wr _ (fun _ _ => .inl (by simp only; omega))]
         have h3 := hlo t x hx
         match q, hu with
         | 0, hu => simp [rdC] at hu; subst hu; rw [Nat.zero_add]; exact h3.1
         | 1, hu => simp [rdC] at hu; subst hu; rw [Nat.zero_add]; exact h3.2
       · exact setCs_below (Nat.le_trans h1 hgB) vs _ _ (h0.trans (hb.out.mono h1)))
      clear hS hb hvs ht
      have hci : ¬ c = i := by omega
      have hii : (i : Int) ≤ j := by omega
      have hic : (i : Int) ≤ c := by omega
      have hi0' : (0 : Int) ≤ i := by omega
      have hjc : (j : Int) ≤ c := by omega
      go_wp2
      go_ret
      exact ⟨_, _, _, rfl, HF.out⟩
theorem append_types (w : World) (ty : TypeId) (b : Option Addr) (n1 c1 : Nat) (A : Option Addr) (n c : Nat) : (Builtin.append_ #[29, 30] ty #[.slice b n1 c1, .slice A n c]).run Tryz.prog w = (Builtin.append_ #[29, 29] ty #[.slice b n1 c1, .slice A n c]).run Tryz.prog w := by
 simp [Builtin.append_, run_underlying Tryz.underlying29, run_underlying Tryz.underlying30]
theorem wpList_appU {ops : Array Oper} {rest : List Oper} {o : Oper} {a : Act} {Q : Exit → Act → World → Prop} {w : World} (hgd : o.guard = none) (s x : Operand) (ho : o.op = .call { callee := .builtin .append, args := #[s, x], argTypes := #[29, 30] })
 (B : Nat) (v : Value) (xs ys : List Ct) (A : Option Addr) (n c : Nat) (hs : a.eval s = v) (hb : OwnG w B 44 2 rdC v xs) (hx : a.eval x = .slice A n c) (hn : ys.length = n) (hsl : SlG w A 2 rdC ys)
 (hmax : xs.length + ys.length ≤ maxLen) (hbytes : (xs.length + ys.length) * 32 ≤ 140737488355328) (hB : B ≤ w.heap.size)
 (h : ∀ v' w', OwnG w' B 44 2 rdC v' (xs ++ ys) → w.grownBy w' v.ownBlock → wpList Tryz.prog ops Q rest (a.put o.dst v') w') : wpList Tryz.prog ops Q (o :: rest) a w := by
 obtain ⟨i0, hi, hz0, hz1, hz2⟩ := kOk.parts
 subst hn
 obtain ⟨b1, c1, hv1⟩ := hb.isSlice
 have some_case : ∀ (ad : Addr), A = some ad → (∀ j u, (ys.flatMap rdC)[j]? = some u → w.cell? (ad.add j) = some u) → wpList Tryz.prog ops Q (o :: rest) a w := by
  intro ad hA hcells
  subst hA
  refine wpList_plain hgd fun K hK => ?_
  obtain ⟨v', w', hr, h2, h3, h4, h5⟩ := run_append_own_at (P := Tryz.prog) w B 29 o.type 44 i0 _ 2 32 kOk.under hi hz0 hz1 hz2 kOk.zs kOk.pos v xs.length (xs.flatMap rdC) hb ad ys.length c (ys.flatMap rdC) (flat_len kOk.len ys) hcells (fun u hu => by obtain ⟨q, _, hq⟩ := List.mem_flatMap.1 hu; exact kOk.one q u hq) hmax hbytes hB
  rw [hv1, ← append_types, ← hv1] at hr
  unfold Oper.wp execOp
  simp only [ho, resolve, invoke, builtin, Sem.run_bind, Sem.run_pure, Result.andThen_ok, List.map_toArray, List.map_cons, List.map_nil, hs, hx, hr]
  refine hK _ _ (h v' w' ?_ h3)
  unfold OwnG
  rw [List.flatMap_append, List.length_append]
  exact h2
 rcases hsl with rfl | ⟨b, off, hA, hlt, hc⟩
 · cases A with
   | some ad => exact some_case ad rfl (fun j u hj => by simp at hj)
   | none =>
     refine wpList_plain hgd fun K hK => ?_
     have hr := app_none kOk w v B c o.type xs hb
     rw [hv1, ← append_types, ← hv1] at hr
     unfold Oper.wp execOp
     have hx' : a.eval x = .slice none 0 c := hx
     simp only [ho, resolve, invoke, builtin, Sem.run_bind, Sem.run_pure, Result.andThen_ok, List.map_toArray, List.map_cons, List.map_nil, hs, hx', hr]
     exact hK _ _ (h v w (by rw [List.append_nil]; exact hb) (World.grownBy.refl w _))
 · refine some_case ⟨b, off, none⟩ hA fun j u hj => ?_
   rw [Go.WideShapes.add_plain]
   exact SlG.flat kOk.len kOk.pos hc j u hj
def allC (bs : List Bh) : List Ct := bs.flatMap (·.cs)
theorem allC_take {bs : List Bh} {k : Nat} {b : Bh} (h : bs[k]? = some b) : allC (bs.take (k + 1)) = allC (bs.take k) ++ b.cs := by
 unfold allC
 rw [List.take_add_one, h, List.flatMap_append]
 simp
theorem allC_len {bs : List Bh} (h : ∀ b ∈ bs, b.cs.length = b.n) : (allC bs).length = totB bs := by
 induction bs with
 | nil => rfl
 | cons b bs ih =>
   have h1 := ih fun c hc => h c (List.mem_cons_of_mem _ hc)
   unfold allC at h1 ⊢
   rw [List.flatMap_cons, List.length_append, h1, h b (by simp)]
   rfl
theorem allC_pl (bs : List Bh) : pl (allC bs) = (bs.map fun b => pl b.cs).flatten := by
 unfold allC pl
 induction bs with
 | nil => rfl
 | cons b bs ih => rw [List.flatMap_cons, List.map_append, ih, List.map_cons, List.flatten_cons]
theorem OwnG.wrC {w : World} {B n c : Nat} {A : Option Addr} {ol : List Ct} (h : OwnG w B 44 2 rdC (.slice A n c) ol) (hl : ol.length = n) : n = 0 ∨ ∃ g off, A = some ⟨g, off, none⟩ ∧ Wr w g off ol ∧ B ≤ g := by
 rcases h.2 with ⟨hv, hz⟩ | ⟨g, cap, cur, hv, hB, hh, _⟩
 · exact .inl (by rw [← hl, hz])
 · injection hv with e1
   subst e1
   refine .inr ⟨g, 0, rfl, ⟨(h.lt g rfl).2, fun i x hx j u hu => ?_⟩, hB⟩
   obtain ⟨A2, c2, e2, _, _, hs⟩ := h.sl cOk.len
   injection e2 with e2
   subst e2
   have hc2 := hs.cell2 hx
   refine ⟨?_, frozen_of_row _ _ _ _ _ hh⟩
   match j, hu with
   | 0, hu => simp [rdC] at hu; subst hu; exact hc2.2.1
   | 1, hu => simp [rdC] at hu; subst hu; exact hc2.2.2
theorem mayBag_rows {b : Bg} (h : mayBag b = true) : ∀ x ∈ b, x.1.length ≤ 100000 := fun x hx => by
 have := mayR_len (okC_parts (may_okC h x hx)).2.2.2
 omega
theorem bey_may {l : List Bg} {p M : Bg} (hl : ∀ b ∈ l, mayBag b = true) (h : MI p M) (hp : p.Perm l.flatten) : mayBag (plusL l) = !(M.any fun x => beyB x.2) := by
 have hf := h.plus hp
 cases hb : M.any fun x => beyB x.2
 · rw [Bool.not_false, ← hf]
   rw [List.any_eq_false] at hb
   refine may_of (by rw [hf]; exact asc_plus l) fun x hx => ?_
   obtain ⟨h1, h2⟩ := List.mem_filter.1 hx
   have h3 : x ∈ plusL l := by rw [← hf]; exact hx
   have h4 := hb x h1
   rw [bey_fits] at h4
   have h5 : (decide (-1000000000 ≤ x.2) && decide (x.2 ≤ 1000000000)) = true := by
    cases hq : (decide (-1000000000 ≤ x.2) && decide (x.2 ≤ 1000000000))
    · rw [hq] at h4; simp at h4
    · rfl
   rw [Bool.and_eq_true, decide_eq_true_eq, decide_eq_true_eq] at h5
   exact okC_of (nz_plus l x h3) h5.1 h5.2 (key_plus (fun r => mayR r = true) l (fun b hb y hy => (okC_parts (may_okC (hl b hb) y hy)).2.2.2) x h3)
 · rw [Bool.not_true]
   rw [List.any_eq_true] at hb
   obtain ⟨x, hx, hbx⟩ := hb
   cases hm : mayBag (plusL l)
   · rfl
   · exfalso
     rw [bey_fits] at hbx
     have hz : (x.2 == 0) = false := by
      cases hq : x.2 == 0
      · rfl
      · rw [eq_of_beq hq] at hbx
        exact absurd hbx (by decide)
     have hin : x ∈ plusL l := by
      rw [← hf]
      exact List.mem_filter.2 ⟨hx, by rw [hz]; rfl⟩
     have h5 := okC_parts (may_okC hm x hin)
     rw [decide_eq_true h5.2.1, decide_eq_true h5.2.2.1] at hbx
     exact absurd hbx (by decide)
set_option maxHeartbeats 4000000 in
theorem plus_c (A : Option Addr) (n c : Nat) (bs : List Bh) (w : World) (hl : bs.length = n) (hn : n ≤ 10000) (hsl : SlG w A 1 rdBh bs) (hin : ∀ b ∈ bs, Bh.In w b) (ht : totB bs ≤ 100000) :
 Calls Tryz.prog 18 #[.slice A n c] w fun e w' => ∃ A' n' c' cs', e = .returned (.slice A' n' c') ∧ Below w.heap.size w w' ∧ BgIn w' A' n' cs' ∧ pl cs' = plusR (bs.map fun b => pl b.cs) := by
 have Hl := Lib.hid hl
 have Hs := Lib.hid hsl
 have Hi := Lib.hid hin
 have Ht := Lib.hid ht
 clear hl hsl hin ht
 go_enter Tryz.func18, Tryz.ntmps18
 go_wp2_with fail
 go_loopw [3, 9] (fun v i wr => ∃ k : Nat, k ≤ n ∧ i = .int .i64 k ∧ Hid (Below w.heap.size w wr) ∧ Hid (OwnG wr w.heap.size 44 2 rdC v (allC (bs.take k))) ∧ Hid (∀ b ∈ bs.take k, mayBag (pl b.cs) = true)) (fun _ i _ => n - (intOf i).toNat)
 case atStart => exact ⟨0, Nat.zero_le _, rfl, Lib.hid (Below.refl _ _), Lib.hid (OwnG.nil _ _ _), Lib.hid nofun⟩
 case round =>
  obtain ⟨k, hk, rfl, hb, ho, hall⟩ := hrel
  by_cases hlt : k < n
  · obtain ⟨b, off, x, rfl, hblt, hx, c0⟩ := Hs.out.at1 (by rw [Hl.out]; exact hlt)
    have d0 := (hb.out.cell (p := ⟨b, off + k, none⟩) hblt).trans (c0 _ rfl)
    have l0 : b < wr.heap.size := Nat.lt_of_lt_of_le hblt hb.out.size
    have hxi : BgIn wr x.A x.n x.cs := (Hi.out x (List.mem_of_getElem? hx)).after hb.out
    have Hx := Lib.hid hxi
    have Htk := Lib.hid (allC_take hx)
    have Htt : Hid (∀ y ∈ bs.take (k + 1), y ∈ bs.take k ∨ y = x) := Lib.hid fun y hy => by
     rw [List.take_add_one, hx] at hy
     rcases List.mem_append.1 hy with hy | hy
     · exact .inl hy
     · simp at hy; exact .inr hy
    have Hno : Hid (mayBag (pl x.cs) = false → plusR (bs.map fun b => pl b.cs) = []) := Lib.hid fun hf => by
     unfold plusR
     rw [if_neg]
     intro ha
     rw [Bool.and_eq_true] at ha
     rw [List.all_eq_true.1 ha.1 (pl x.cs) (List.mem_map.2 ⟨x, List.mem_of_getElem? hx, rfl⟩)] at hf
     cases hf
    have Hlen : Hid ((allC (bs.take k)).length + x.cs.length ≤ 100000) := Lib.hid (by
     have h1 := totB_take bs k x hx
     have h2 := totB_le bs (k + 1)
     have h3 := allC_len (bs := bs.take k) fun b hb => (Hi.out b (List.mem_of_mem_take hb)).len
     have h4 := hxi.len
     have := Ht.out
     omega)
    clear c0 hblt hx hxi
    obtain ⟨xA, xn, xc, cs⟩ := x
    simp only [] at d0
    have HM := Lib.hid (mayBag_c xA xn xc cs wr Hx.out)
    go_wp2_with fail
    refine HM.out.mono ?_
    rintro e w1 ⟨rfl, hb1⟩
    have Hb2 := Lib.hid (below_via hb.out hb1)
    have HO1 := Lib.hid (ho.out.after hb1)
    have Hx1 := Lib.hid (Hx.out.after hb1)
    clear hb1 hb d0 HM ho Hx
    cases hM : mayBag (pl cs)
    · have Hno2 := Lib.hid (Hno.out hM)
      clear Hno
      go_wp2
      go_ret
      exact ⟨none, 0, 0, [], rfl, Hb2.out, BgIn.none _, Hno2.out.symm⟩
    · have Hall2 : Hid (∀ b ∈ bs.take (k + 1), mayBag (pl b.cs) = true) := Lib.hid fun b hb => by
       rcases Htt.out b hb with h | h
       · exact hall.out b h
       · subst h; exact hM
      clear Hno hall Htt hM
      go_wp2_with (at_builtin; go_must (refine wpList_appU rfl (.tmp 16) (.tmp 17) rfl w.heap.size _ (allC (bs.take k)) cs xA xn xc rfl HO1.out rfl Hx1.out.len Hx1.out.sl (by have := Hlen.out; unfold maxLen; omega) (by have := Hlen.out; omega) Hb2.out.size ?_; intro v1 w2 hv1 hg1; rw [← Htk.out] at hv1; have Hb3 := Lib.hid (Hb2.out.grown hg1 Hb2.out.size (fun k hk => (HO1.out.lt k hk).1)); have Hv1 := Lib.hid hv1; clear hv1 hg1))
      go_roundw
      case rel => exact ⟨k + 1, by omega, by go_num, Hb3, Hv1, Hall2⟩
      case measure => simp [intOf]; omega
  · obtain rfl : k = n := by omega
    have ht : bs.take k = bs := List.take_of_length_le (by rw [Hl.out]; omega)
    rw [ht] at ho hall
    obtain ⟨A1, c1, rfl⟩ := ho.out.isSlice
    have hlen : (allC bs).length ≤ 100000 := by
     rw [allC_len fun b hb => (Hi.out b hb).len]
     exact Ht.out
    have hct : ∀ c ∈ allC bs, Ct.In w c := fun c hc => by
     obtain ⟨b, hb, hc⟩ := List.mem_flatMap.1 hc
     exact (Hi.out b hb).each c hc
    have hmay : ∀ x ∈ pl (allC bs), ∃ b ∈ bs.map (fun b => pl b.cs), mayBag b = true ∧ x ∈ b := fun x hx => by
     rw [allC_pl] at hx
     obtain ⟨b, hb, hx⟩ := List.mem_flatten.1 hx
     obtain ⟨q, hq, rfl⟩ := List.mem_map.1 hb
     exact ⟨_, hb, hall.out q hq, hx⟩
    have HM := Lib.hid (merged_c A1 (allC bs).length c1 (allC bs) wr rfl hlen (by
     rcases ho.out.wrC rfl with h | ⟨g, off, h1, h2, h3⟩
     · exact .inl h
     · exact .inr ⟨g, off, h1, h2, fun c hc => OutC.old (hct c hc) hb.out h3⟩) (fun c hc => by
     obtain ⟨b, _, h1, h2⟩ := hmay _ (pl_mem hc)
     exact mayBag_rows h1 _ h2) (fun x hx => by
     obtain ⟨b, _, h1, h2⟩ := hmay _ hx
     exact bd_may h1 x h2))
    have Hg : Hid (∀ g off, A1 = some ⟨g, off, none⟩ → w.heap.size ≤ g) := Lib.hid fun g off e => (ho.out.lt g (by rw [e]; rfl)).1
    have Hlen := Lib.hid hlen
    have Hall : Hid (∀ b ∈ bs.map (fun b => pl b.cs), mayBag b = true) := Lib.hid fun b hb => by
     obtain ⟨q, hq, rfl⟩ := List.mem_map.1 hb
     exact hall.out q hq
    clear hlen hct hmay ht hall ho
    go_wp2_with fail
    refine HM.out.mono ?_
    rintro e w2 ⟨A', m, c', ol, rfl, hS⟩
    have HS := Lib.hid hS
    have Hb2 := Lib.hid (hS.below w w.heap.size hb.out Hg.out (Nat.le_refl _))
    have hm5 : m ≤ 100000 := Nat.le_trans hS.le Hlen.out
    have Hc := Lib.hid (contains_c A' m c' ol w2 (hS.bg (by have := Hlen.out; unfold maxLen; omega)))
    have Hr : Hid (plusR (bs.map fun b => pl b.cs) = if (ol.any fun x => beyB x.N) then [] else (pl ol).filter fun x => !(x.2 == 0)) := Lib.hid (by
     obtain ⟨p, hp, hmi⟩ := hS.mi
     rw [allC_pl] at hp
     have h1 := bey_may Hall.out hmi hp
     have h2 : (pl ol).any (fun x => beyB x.2) = ol.any fun x => beyB x.N := by unfold pl; rw [List.any_map]; rfl
     rw [h2] at h1
     unfold plusR
     rw [List.all_eq_true.2 Hall.out, Bool.true_and, h1, hmi.plus hp]
     cases ol.any fun x => beyB x.N <;> rfl)
    have Hsz := Lib.hid hb.out.size
    clear hS HM hb
    go_wp2_with fail
    refine Hc.out.mono ?_
    rintro e w3 ⟨rfl, hb3⟩
    cases hany : ol.any fun x => beyB x.N
    · have Hr2 : Hid (plusR (bs.map fun b => pl b.cs) = (pl ol).filter fun x => !(x.2 == 0)) := Lib.hid (by rw [Hr.out, hany]; rfl)
      have Hb3 := Lib.hid (below_via Hb2.out hb3)
      have HD := Lib.hid (del_c A' m c' w.heap.size ol w3 ((HS.out.own.after hb3).mono Hsz.out) HS.out.len hm5 (HS.out.apart.after hb3) Hb3.out.size)
      clear Hr hb3 Hc
      go_wp2_with fail
      refine HD.out.mono ?_
      rintro e w4 ⟨A4, m4, c4, rfl, hD⟩
      have HF : Hid (∃ cs', Below w.heap.size w w4 ∧ BgIn w4 A4 m4 cs' ∧ pl cs' = plusR (bs.map fun b => pl b.cs)) := Lib.hid (by
       obtain ⟨cs', h1, h2⟩ := hD.bg
       exact ⟨cs', hD.below w w.heap.size Hb3.out (Nat.le_refl _) (Nat.le_refl _), h1, by rw [h2, Hr2.out]⟩)
      clear hD HD
      go_wp2
      go_ret
      obtain ⟨cs', h1, h2, h3⟩ := HF.out
      exact ⟨A4, m4, c4, cs', rfl, h1, h2, h3⟩
    · have Hr2 : Hid (plusR (bs.map fun b => pl b.cs) = []) := Lib.hid (by rw [Hr.out, hany]; rfl)
      have Hb3 := Lib.hid (below_via Hb2.out hb3)
      clear Hr hb3 Hc
      go_wp2
      go_ret
      exact ⟨none, 0, 0, [], rfl, Hb3.out, BgIn.none _, Hr2.out.symm⟩
attribute [local go_sem ↓] Go.wp_at_zero Go.wp_at_succ
structure Vq where
 name : ByteArray
 frm : ByteArray
 wth : ByteArray
 on0 : Int
 on1 : Int
 eA : Option Addr
 en : Nat
 ec : Nat
 e : List Nd
 pA : Option Addr
 pn : Nat
 pc : Nat
 ps : List Int
 grp : Bool
 aA : Option Addr
 an : Nat
 ac : Nat
abbrev Vq.w (x : Vq) : Value := .agg #[.string x.name, .string x.frm, .string x.wth, .int .i64 x.on0, .int .i64 x.on1, .slice x.eA x.en x.ec, .slice x.pA x.pn x.pc, .bool x.grp, .slice x.aA x.an x.ac]
def Vq.cells (x : Vq) : Array Value := #[.string x.name, .string x.frm, .string x.wth, .int .i64 x.on0, .int .i64 x.on1, .slice x.eA x.en x.ec, .slice x.pA x.pn x.pc, .bool x.grp, .slice x.aA x.an x.ac]
structure Vq.In (w : World) (x : Vq) : Prop where
 elen : x.e.length = x.en
 emax : x.en ≤ maxLen
 esl : SlN w x.eA x.e
 ez : ∀ n ∈ x.e, n.v.s.size ≤ maxLen
 plen : x.ps.length = x.pn
 pmax : x.pn ≤ maxLen
 psl : SlG w x.pA 1 rdI x.ps
theorem Vq.In.after {w w' : World} {x : Vq} (h : Vq.In w x) (hb : Below w.heap.size w w') : Vq.In w' x := ⟨h.elen, h.emax, h.esl.after hb, h.ez, h.plen, h.pmax, h.psl.after hb⟩
def Bq (w : World) (b : Nat) (x : Vq) : Prop := w.heap[b]? = some (.cells x.cells 28 (0, 0))
theorem Bq.new (w : World) (x : Vq) : Bq (w.alloc (.cells x.cells 28)) w.heap.size x := by
 show (w.heap.push _)[w.heap.size]? = _
 simp
theorem Bq.below {w w' : World} {b B : Nat} {x : Vq} (h : Bq w b x) (hb : Below B w w') (hlt : b < B) : Bq w' b x := (hb.block b hlt).trans h
theorem Bq.on {w : World} {b : Nat} {x : Vq} (h : Bq w b x) : w.cell? ⟨b, 3, none⟩ = some (.int .i64 x.on0) ∧ w.cell? ⟨b, 4, none⟩ = some (.int .i64 x.on1) := by
 unfold Bq at h
 constructor <;> simp [World.cell?, h, Vq.cells]
theorem Bq.wth {w : World} {b : Nat} {x : Vq} (h : Bq w b x) : w.cell? ⟨b, 2, none⟩ = some (.string x.wth) := by
 unfold Bq at h
 simp [World.cell?, h, Vq.cells]
theorem Bq.whr {w : World} {b : Nat} {x : Vq} (h : Bq w b x) : w.cell? ⟨b, 5, none⟩ = some (.slice x.eA x.en x.ec) := by
 unfold Bq at h
 simp [World.cell?, h, Vq.cells]
theorem Bq.pick {w : World} {b : Nat} {x : Vq} (h : Bq w b x) : w.cell? ⟨b, 6, none⟩ = some (.slice x.pA x.pn x.pc) := by
 unfold Bq at h
 simp [World.cell?, h, Vq.cells]
theorem plus_one {b : Bg} (h : mayBag b = true) : plusR [b] = b := by
 have e : plusL [b] = b := both_nil (may_asc h) (may_nz h)
 unfold plusR
 rw [e, List.all_cons, h]
 rfl
theorem bgIn_nil (w : World) : BgIn w none 0 [] := ⟨rfl, Nat.zero_le _, .inl rfl, nofun⟩
structure ErrSaid (w : World) (A : Option Addr) (n : Nat) (os : List Ct) (er : Int) (r : Option Bg) (w' : World) : Prop where
 below : Below w.heap.size w w'
 bag : BgIn w' A n os
 said : match r with | some p => er = 0 ∧ pl os = p | none => er = 100 ∧ os = []
theorem joined_c (A : Option Addr) (n c : Nat) (bs : List Bh) (L : Bg) (w : World) (hl : bs.length = n) (hn : n ≤ 10000) (hsl : SlG w A 1 rdBh bs) (hin : ∀ b ∈ bs, Bh.In w b) (ht : totB bs = n) (hL : bs.map (fun b => pl b.cs) = ones L) :
 Calls Tryz.prog 20 #[.slice A n c] w fun e w' => ∃ A' n' c' os er, e = .returned (.tuple #[.slice A' n' c', .int .i64 er]) ∧ ErrSaid w A' n' os er (joinedR L) w' := by
 have hLl : L.length = n := by
  have := congrArg List.length hL
  unfold ones at this
  rw [List.length_map, List.length_map, hl] at this
  exact this.symm
 have hc := plus_c A n c bs w hl hn hsl hin (by omega)
 rw [hL] at hc
 have HC := Lib.hid hc
 have HL := Lib.hid hLl
 clear hc hLl hsl hin ht hL hl
 go_enter Tryz.func20, Tryz.ntmps20
 go_wp2_with fail
 refine HC.out.mono ?_
 rintro e w1 ⟨A', n', c', os, rfl, hb, hB, hp⟩
 have Hb := Lib.hid hb
 have HB := Lib.hid hB
 have Hn' : Hid ((plusR (ones L)).length = n') := Lib.hid (by rw [← hp, pl_len, hB.len])
 have Hp := Lib.hid hp
 clear hb hB hp HC
 by_cases h0 : n' = 0
 · by_cases h1 : n = 0
   · have HF : Hid (ErrSaid w A' n' os 0 (joinedR L) w1) := Lib.hid ⟨Hb.out, HB.out, by
      unfold joinedR
      rw [if_neg (by rw [HL.out]; omega)]
      exact ⟨rfl, Hp.out⟩⟩
     have h2 : (n' : Int) = 0 := by omega
     have h3 : ¬ (0 : Int) < n := by omega
     subst h0 h1
     go_wp2
     go_ret2
     exact ⟨_, _, _, _, _, rfl, HF.out⟩
   · have HF : Hid (ErrSaid w none 0 [] 100 (joinedR L) w1) := Lib.hid ⟨Hb.out, bgIn_nil _, by
      unfold joinedR
      rw [if_pos ⟨by rw [Hn'.out]; exact h0, by rw [HL.out]; omega⟩]
      exact ⟨rfl, rfl⟩⟩
     have h3 : (0 : Int) < n := by omega
     subst h0
     go_wp2
     go_ret2
     exact ⟨_, _, _, _, _, rfl, HF.out⟩
 · have HF : Hid (ErrSaid w A' n' os 0 (joinedR L) w1) := Lib.hid ⟨Hb.out, HB.out, by
    unfold joinedR
    rw [if_neg (by rw [Hn'.out]; omega)]
    exact ⟨rfl, Hp.out⟩⟩
   have h2 : ((n' : Int) == 0) = false := by simp [h0]
   go_wp2
   go_ret2
   exact ⟨_, _, _, _, _, rfl, HF.out⟩
end Go.Proofs.YtbpopkgpepmlcaaGreat
namespace Go.Proofs.YtbpopkgpepmlcaaGreat
open Go Go.RowKit
set_option maxRecDepth 100000
attribute [local go_sem ↓] Go.wp_at_zero Go.wp_at_succ
set_option maxHeartbeats 4000000 in
theorem product_c (x : Vq) (A B : Option Addr) (n m c d : Nat) (cs ds : List Ct) (w : World) (hA : BgIn w A n cs) (hB : BgIn w B m ds) (hn : n ≤ 100000) (hm : m ≤ 100000) :
 Calls Tryz.prog 6 #[x.w, .slice A n c, .slice B m d] w fun e w' => ∃ A' n' c' os er, e = .returned (.tuple #[.slice A' n' c', .int .i64 er]) ∧ ErrSaid w A' n' os er (productR x.wth.toList.isEmpty x.on0 x.on1 (pl cs) (pl ds)) w' := by
 have HQ : Hid (Bq (w.alloc (.cells x.cells 28)) w.heap.size x) := Lib.hid (Bq.new w x)
 have HA := Lib.hid hA
 have HB := Lib.hid hB
 clear hA hB
 obtain ⟨nm, fr, wt, o0, o1, eA, en, ec, ee, pA, pn, pc, ps, gr, aA, an, ac⟩ := x
 have Hb0 : Hid (Below w.heap.size w (w.alloc (.cells #[.string nm, .string fr, .string wt, .int .i64 o0, .int .i64 o1, .slice eA en ec, .slice pA pn pc, .bool gr, .slice aA an ac] 28))) := Lib.hid (below_one _ _)
 have Hl0 : Hid (w.heap.size < (w.alloc (.cells #[.string nm, .string fr, .string wt, .int .i64 o0, .int .i64 o1, .slice eA en ec, .slice pA pn pc, .bool gr, .slice aA an ac] 28)).heap.size) := Lib.hid (by simp)
 have HQ1 : Hid (Bq (w.alloc (.cells #[.string nm, .string fr, .string wt, .int .i64 o0, .int .i64 o1, .slice eA en ec, .slice pA pn pc, .bool gr, .slice aA an ac] 28)) w.heap.size ⟨nm, fr, wt, o0, o1, eA, en, ec, ee, pA, pn, pc, ps, gr, aA, an, ac⟩) := HQ
 clear HQ
 dsimp only [Vq.w]
 go_enter Tryz.func6, Tryz.ntmps6
 go_wp2_with fail
 refine (mayBag_c A n c cs _ (HA.out.after Hb0.out)).mono ?_
 rintro e w1 ⟨rfl, hb1⟩
 have Hb1 := Lib.hid (below_via Hb0.out hb1)
 have HQ2 := Lib.hid (HQ1.out.below hb1 Hl0.out)
 have Hl1 := Lib.hid (Nat.lt_of_lt_of_le Hl0.out hb1.size)
 clear hb1 Hb0 HQ1 Hl0
 cases hma : mayBag (pl cs)
 · have HF : Hid (ErrSaid w none 0 [] 0 (productR wt.toList.isEmpty o0 o1 (pl cs) (pl ds)) w1) := Lib.hid ⟨Hb1.out, bgIn_nil _, by
    unfold productR
    rw [hma]
    exact ⟨rfl, rfl⟩⟩
   clear hma
   go_wp2
   go_ret2
   exact ⟨_, _, _, _, _, rfl, HF.out⟩
 · have Hma := Lib.hid hma
   clear hma
   go_wp2_with fail
   refine (mayBag_c B m d ds _ (HB.out.after Hb1.out)).mono ?_
   rintro e w2 ⟨rfl, hb2⟩
   have Hb2 := Lib.hid (below_via Hb1.out hb2)
   have HQ3 := HQ2.out.below hb2 Hl1.out
   have l2 := Nat.lt_of_lt_of_le Hl1.out hb2.size
   clear hb2 Hb1 HQ2 Hl1
   cases hmb : mayBag (pl ds)
   · have HF : Hid (ErrSaid w none 0 [] 0 (productR wt.toList.isEmpty o0 o1 (pl cs) (pl ds)) w2) := Lib.hid ⟨Hb2.out, bgIn_nil _, by
      unfold productR
      rw [hmb, Bool.and_false]
      exact ⟨rfl, rfl⟩⟩
     clear hmb HQ3
     go_wp2
     go_ret2
     exact ⟨_, _, _, _, _, rfl, HF.out⟩
   · have Hmb := Lib.hid hmb
     have d2 := HQ3.wth
     have d3 := HQ3.on.1
     have d4 := HQ3.on.2
     simp only at d2 d3 d4
     clear hmb HQ3
     cases he : wt.toList.isEmpty
     · go_wp2_with fail
       refine (paired_c A B n m c d cs ds o0 o1 _ (HA.out.after Hb2.out) (HB.out.after Hb2.out) hn hm Hma.out Hmb.out).mono ?_
       rintro e w3 ⟨v, ok, rfl, hS⟩
       have Hb3 := Lib.hid (below_via Hb2.out hS.below)
       cases ok
       · have HF : Hid (ErrSaid w none 0 [] 100 (productR wt.toList.isEmpty o0 o1 (pl cs) (pl ds)) w3) := Lib.hid ⟨Hb3.out, bgIn_nil _, by
          rw [he, product_many Hma.out Hmb.out (by have := hS.how; simpa using this)]
          exact ⟨rfl, rfl⟩⟩
         clear hS
         go_wp2
         go_ret2
         exact ⟨_, _, _, _, _, rfl, HF.out⟩
       · obtain ⟨A3, n3, c3, ps3, rfl, h1, h2, h3, h4, h5⟩ := hS.said rfl
         have hle : (pairL o0 o1 (pl cs) (pl ds)).length ≤ 10000 := by have := hS.how; simpa using this
         have hn3 : n3 ≤ 10000 := by
          have := congrArg List.length h5
          unfold ones at this
          rw [List.length_map, List.length_map, h1] at this
          omega
         have Hj := Lib.hid (joined_c A3 n3 c3 ps3 (pairL o0 o1 (pl cs) (pl ds)) w3 h1 hn3 h2 h3 h4 h5)
         have Hjp := Lib.hid (joined_product Hma.out Hmb.out hle)
         clear hS h1 h2 h3 h4 h5 hle
         go_wp2_with fail
         refine Hj.out.mono ?_
         rintro e w4 ⟨A4, n4, c4, os, er, rfl, hE⟩
         have HF : Hid (ErrSaid w A4 n4 os er (productR wt.toList.isEmpty o0 o1 (pl cs) (pl ds)) w4) := Lib.hid ⟨below_via Hb3.out hE.below, hE.bag, by
          rw [he, ← Hjp.out]
          exact hE.said⟩
         clear hE
         go_wp2
         go_ret2
         exact ⟨_, _, _, _, _, rfl, HF.out⟩
     · have hcp := plus_c (some ⟨w2.heap.size, 0, none⟩) 1 1 [⟨A, n, c, cs⟩] (w2.alloc (.cells #[.slice A n c] 30)) rfl (by omega) (SlG.new bOkQ.len [⟨A, n, c, cs⟩] rfl) (fun h hh => by rw [List.mem_singleton] at hh; subst hh; exact HA.out.after (below_via Hb2.out (below_one _ _))) (by show n + 0 ≤ 100000; omega)
       simp only [List.map_cons, List.map_nil] at hcp
       rw [plus_one Hma.out] at hcp
       have Hcp := Lib.hid hcp
       clear hcp
       go_wp2_with fail
       refine Hcp.out.mono ?_
       rintro e w3 ⟨A3, n3, c3, os, rfl, hb3, hB3, hp3⟩
       have HF : Hid (ErrSaid w A3 n3 os 0 (productR wt.toList.isEmpty o0 o1 (pl cs) (pl ds)) w3) := Lib.hid ⟨below_via (below_via Hb2.out (below_one _ _)) hb3, hB3, by
        unfold productR
        rw [he, Hma.out, Hmb.out]
        exact ⟨rfl, hp3⟩⟩
       clear hb3 hB3 hp3
       go_wp2
       go_ret2
       exact ⟨_, _, _, _, _, rfl, HF.out⟩
end Go.Proofs.YtbpopkgpepmlcaaGreat
namespace Go.Proofs.YtbpopkgpepmlcaaGreat
open Go Go.RowKit
set_option maxRecDepth 100000
attribute [local go_sem ↓] Go.wp_at_zero Go.wp_at_succ
structure WhereSaid (w : World) (f : List Val → Bool × Int) (cs : List Ct) (A : Option Addr) (n : Nat) (os : List Ct) (er : Int) (w' : World) : Prop where
 below : Below w.heap.size w w'
 bag : BgIn w' A n os
 er : er = if mayBag (pl cs) then errW f (pl cs) else 0
 said : pl os = if mayBag (pl cs) then whereR f (pl cs) else []
set_option maxHeartbeats 4000000 in
theorem where_c (x : Vq) (A : Option Addr) (n c : Nat) (cs : List Ct) (w : World) (hx : Vq.In w x) (hA : BgIn w A n cs) (hn : n ≤ 100000) :
 Calls Tryz.prog 8 #[x.w, .slice A n c] w fun e w' => ∃ A' n' c' os er, e = .returned (.tuple #[.slice A' n' c', .int .i64 er]) ∧ WhereSaid w (trueR x.e) cs A' n' os er w' := by
 have HQ : Hid (Bq (w.alloc (.cells x.cells 28)) w.heap.size x) := Lib.hid (Bq.new w x)
 have HX := Lib.hid hx
 have HA := Lib.hid hA
 clear hA hx
 obtain ⟨nm, fr, wt, o0, o1, eA, en, ec, ee, pA, pn, pc, ps, gr, aA, an, ac⟩ := x
 have Hb0 : Hid (Below w.heap.size w (w.alloc (.cells #[.string nm, .string fr, .string wt, .int .i64 o0, .int .i64 o1, .slice eA en ec, .slice pA pn pc, .bool gr, .slice aA an ac] 28))) := Lib.hid (below_one _ _)
 have Hl0 : Hid (w.heap.size < (w.alloc (.cells #[.string nm, .string fr, .string wt, .int .i64 o0, .int .i64 o1, .slice eA en ec, .slice pA pn pc, .bool gr, .slice aA an ac] 28)).heap.size) := Lib.hid (by simp)
 have HQ1 : Hid (Bq (w.alloc (.cells #[.string nm, .string fr, .string wt, .int .i64 o0, .int .i64 o1, .slice eA en ec, .slice pA pn pc, .bool gr, .slice aA an ac] 28)) w.heap.size ⟨nm, fr, wt, o0, o1, eA, en, ec, ee, pA, pn, pc, ps, gr, aA, an, ac⟩) := HQ
 clear HQ
 dsimp only [Vq.w]
 go_enter Tryz.func8, Tryz.ntmps8
 go_wp2_with fail
 refine (mayBag_c A n c cs _ (HA.out.after Hb0.out)).mono ?_
 rintro e W ⟨rfl, hb1⟩
 have HbW := Lib.hid (below_via Hb0.out hb1)
 have HQ2 := HQ1.out.below hb1 Hl0.out
 have HlW := Lib.hid (Nat.lt_of_lt_of_le Hl0.out hb1.size)
 have Hq5 := Lib.hid HQ2.whr
 clear hb1 Hb0 HQ1 Hl0 HQ2
 cases hma : mayBag (pl cs)
 · have HF : Hid (WhereSaid w (trueR ee) cs none 0 [] 0 W) := Lib.hid ⟨HbW.out, bgIn_nil _, by rw [hma]; rfl, by rw [hma]; rfl⟩
   clear hma
   go_wp2
   go_ret2
   exact ⟨_, _, _, _, _, rfl, HF.out⟩
 · have Hma := Lib.hid hma
   clear hma
   go_wp2_with fail
   go_loopw [6, 16] (fun v q wr => ∃ (k m : Nat) (A' : Option Addr) (c' : Nat) (ol : List Ct), k ≤ n ∧ m ≤ k ∧ q = .int .i64 k ∧ v = .slice A' m c' ∧ Hid (ol.length = m) ∧ Hid (Below W.heap.size W wr) ∧ Hid (OwnG wr W.heap.size 44 2 rdC (.slice A' m c') ol) ∧ Hid (ApartC wr A' ol) ∧ Hid (pl ol = stayB (fun r => (trueR ee r).1) ((pl cs).take k)) ∧ Hid (errW (trueR ee) (pl cs) = errW (trueR ee) ((pl cs).drop k))) (fun _ q _ => n - (intOf q).toNat)
   case atStart => exact ⟨0, 0, none, 0, [], Nat.zero_le _, Nat.le_refl _, rfl, rfl, Lib.hid rfl, Lib.hid (Below.refl _ _), Lib.hid (OwnG.nil _ _ _), Lib.hid (ApartC.nil _ _), Lib.hid rfl, Lib.hid rfl⟩
   case round =>
    obtain ⟨k, m, A', c', ol, hk, hmk, rfl, rfl, hol, hb, ho, hap, hst, her⟩ := hrel
    by_cases hlt : k < n
    · obtain ⟨b, off, rfl⟩ := HA.out.sl.some2 (k := k) (by rw [HA.out.len]; exact hlt)
      obtain ⟨x, hx⟩ : ∃ x, cs[k]? = some x := ⟨_, List.getElem?_eq_getElem (by rw [HA.out.len]; exact hlt)⟩
      obtain ⟨hblt, c0, c1⟩ := (HA.out.after HbW.out).sl.cell2 hx
      have d0 := (hb.out.cell (p := ⟨b, off + k * 2, none⟩) hblt).trans c0
      have d1 := (hb.out.cell (p := ⟨b, off + k * 2 + 1, none⟩) hblt).trans c1
      have l0 : b < wr.heap.size := Nat.lt_of_lt_of_le hblt hb.out.size
      have d5 := (hb.out.cell (p := ⟨w.heap.size, 5, none⟩) HlW.out).trans Hq5.out
      have l5 : w.heap.size < wr.heap.size := Nat.lt_of_lt_of_le HlW.out hb.out.size
      try simp only at d5
      have Hxr := Lib.hid (((HA.out.each x (List.mem_of_getElem? hx)).after HbW.out).after hb.out)
      have HVr := Lib.hid ((HX.out.after HbW.out).after hb.out)
      have Hmx := Lib.hid (may_row Hma.out (pl_mem (List.mem_of_getElem? hx)))
      have Hstk := Lib.hid (stay_take (fun r => (trueR ee r).1) (pl_at hx))
      have Herk := Lib.hid (errW_drop (trueR ee) (pl cs) k _ (pl_at hx))
      clear c0 c1 hx
      obtain ⟨⟨xA, xn, xc, xs⟩, N⟩ := x
      have hgo : (k : Int) < n := by omega
      have Hb1 : Hid (Below wr.heap.size wr (wr.alloc (.cells #[.slice xA xn xc, .int .i64 N] 44))) := Lib.hid (below_one _ _)
      have dg0 : Hid ((wr.alloc (.cells #[.slice xA xn xc, .int .i64 N] 44)).cell? ⟨wr.heap.size, 0, none⟩ = some (.slice xA xn xc)) := Lib.hid (by simp)
      have dg1 : Hid ((wr.alloc (.cells #[.slice xA xn xc, .int .i64 N] 44)).cell? ⟨wr.heap.size, 1, none⟩ = some (.int .i64 N)) := Lib.hid (by simp)
      have lg1 : wr.heap.size < (wr.alloc (.cells #[.slice xA xn xc, .int .i64 N] 44)).heap.size := by simp
      have Hx1 := Lib.hid (Hxr.out.after Hb1.out)
      have HV1 := Lib.hid (HVr.out.after Hb1.out)
      go_wp2_with fail
      refine (true_c eA xA en ec xn xc ee xs _ HV1.out.elen HV1.out.esl HV1.out.emax Hx1.out.hd.len Hx1.out.hd.sl HV1.out.ez).mono ?_
      rintro e w8 ⟨rfl, hb8⟩
      have Ht2 := Hstk.out
      have He2 := Herk.out
      try simp only at Ht2
      try simp only at He2
      obtain ⟨tb, htb⟩ : ∃ tb, (trueR ee xs).1 = tb := ⟨_, rfl⟩
      obtain ⟨er, her2⟩ : ∃ er, (trueR ee xs).2 = er := ⟨_, rfl⟩
      rw [htb] at Ht2 ⊢
      rw [her2] at He2 ⊢
      have Hst2 := Lib.hid Ht2
      have Her2 := Lib.hid He2
      have Hb8 := Lib.hid (hb.out.trans ((below_via Hb1.out hb8).mono hb.out.size))
      have HbW8 := Lib.hid (below_via Hb1.out hb8)
      have g0 := (hb8.cell (p := ⟨wr.heap.size, 0, none⟩) lg1).trans dg0.out
      have g1 := (hb8.cell (p := ⟨wr.heap.size, 1, none⟩) lg1).trans dg1.out
      have lg8 : wr.heap.size < w8.heap.size := Nat.lt_of_lt_of_le lg1 hb8.size
      clear hb8 dg0 dg1 Hb1 Hx1 HV1 HVr htb her2 Ht2 He2 Hstk Herk d0 d1 d5
      by_cases h0 : er = 0
      · have Her3 : Hid (errW (trueR ee) (pl cs) = errW (trueR ee) ((pl cs).drop (k + 1))) := Lib.hid (by rw [her.out, Her2.out, if_pos h0])
        have h1 : (er != 0) = false := by simp [h0]
        have H0 := Lib.hid h0
        clear h0
        cases tb
        · have Hst3 : Hid (pl ol = stayB (fun r => (trueR ee r).1) ((pl cs).take (k + 1))) := Lib.hid (by rw [Hst2.out, hst.out]; simp)
          have Hap8 := Lib.hid (hap.out.after HbW8.out)
          have Ho8 := Lib.hid (ho.out.after HbW8.out)
          clear hst her Hst2 Her2 hap ho hb
          go_wp2_with fail
          go_roundw
          case rel => exact ⟨k + 1, m, A', c', ol, by omega, by omega, by go_num, rfl, hol, Hb8, Ho8, Hap8, Hst3, Her3⟩
          case measure => simp [intOf]; omega
        · have HOr : Hid (∀ k, (Value.slice A' m c').ownBlock = some k → k < wr.heap.size) := Lib.hid fun k hk => (ho.out.lt k hk).2
          have HO8 := Lib.hid (ho.out.after HbW8.out)
          have HA8 := Lib.hid (hap.out.after HbW8.out)
          have Hx8 := Lib.hid (Hxr.out.after HbW8.out)
          clear hap ho hb Hxr
          have G0 := Lib.hid g0
          have G1 := Lib.hid g1
          have Hjn : Hid (joinR [(⟨xA, xn, xc, xs⟩ : Hd)] = xs) := Lib.hid (by simp [joinR])
          go_wp2_with fail
          go_region_held3 (fun w' => w'.cell? ⟨wr.heap.size, 0, none⟩ = some (.slice xA xn xc) ∧ w'.cell? ⟨wr.heap.size, 1, none⟩ = some (.int .i64 N)) (first | exact HGC9.out | exact HGCa.out | go_keep)
           (first
             | (go_at_call 27
                have hbj := Lib.hid (((Below.refl w8.heap.size w8).alloc (Nat.le_refl _) (.cells #[.slice xA xn xc] 42)).drew)
                have hsj : Hid (SlG (w8.alloc (.cells #[.slice xA xn xc] 42)).drew (some ⟨w8.heap.size, 0, none⟩) 1 rdH [⟨xA, xn, xc, xs⟩]) := Lib.hid ((SlG.new hOk.len [⟨xA, xn, xc, xs⟩] rfl).after (Below.refl _ _).drew)
                refine (join_c (some ⟨w8.heap.size, 0, none⟩) 1 1 [⟨xA, xn, xc, xs⟩] (w8.alloc (.cells #[.slice xA xn xc] 42)).drew rfl (by unfold maxLen; omega) hsj.out (fun h' hh' => by rw [List.mem_singleton] at hh'; subst hh'; exact Hx8.out.hd.after hbj.out) (by rw [Hjn.out]; have h7 : xs.length ≤ 40 := Hmx.out.1; omega)).mono ?_
                rintro en w9 ⟨v9, rfl, hb9, hv9⟩
                rw [Hjn.out] at hv9
                obtain ⟨h9, rfl, hIn9, hxs9, hbl9, hnc9⟩ := hv9.hd
                have Hb9 := Lib.hid (Hb8.out.trans ((below_via hbj.out hb9).mono Hb8.out.size))
                have Hb89 := Lib.hid (below_via hbj.out hb9)
                have HGC9 : Hid (w9.cell? ⟨wr.heap.size, 0, none⟩ = some (.slice xA xn xc) ∧ w9.cell? ⟨wr.heap.size, 1, none⟩ = some (.int .i64 N)) := Lib.hid ⟨(Hb89.out.cell lg8).trans G0.out, (Hb89.out.cell lg8).trans G1.out⟩
                have HO9 := Lib.hid (HO8.out.after Hb89.out)
                have Hs89 : Hid (w8.heap.size ≤ w9.heap.size) := Lib.hid Hb89.out.size
                have HOl : Hid (∀ k, (Value.slice A' m c').ownBlock = some k → k < w8.heap.size) := Lib.hid fun k hk => (HO8.out.lt k hk).2
                have HA9 := Lib.hid (HA8.out.after Hb89.out)
                have Hn9 := Lib.hid (NewC.of hIn9 hxs9 hbl9 Hx8.out hnc9)
                obtain ⟨h9A, h9n, h9c, h9xs⟩ := h9
                dsimp only [Hd.v]
                clear hv9 hIn9 hxs9 hbl9 hnc9 hb9 hbj hsj HO8 HA8)
             | (refine step_appL cOk (by rfl) (.tmp 32) (.tmp 40) (by rfl) W.heap.size (.slice A' m c') ol [⟨⟨h9A, h9n, h9c, h9xs⟩, N⟩] (by rfl) (HO9.out.after ((Below.refl _ _).alloc (Nat.le_refl _) _)) (some ⟨w9.heap.size, 0, none⟩) 1 1 (by rfl) rfl (SlG.new cOk.len [⟨⟨h9A, h9n, h9c, h9xs⟩, N⟩] rfl) (by rw [hol.out]; simp [maxLen]; omega) (by rw [hol.out]; simp; omega) (by have := Hb9.out.size; simp; omega) ?_
                intro A2 c2 w2 hv hg hloc
                rw [hol.out] at hv hloc ⊢
                have HX2 := Lib.hid (below_one w9 (.cells #[.slice h9A h9n h9c, .int .i64 N] 44))
                have Hv2 := Lib.hid hv
                have Hb2 := Lib.hid ((below_al Hb9.out (.cells #[.slice h9A h9n h9c, .int .i64 N] 44)).grown hg (by have := Hb9.out.size; simp; omega) (fun k hk => (HO9.out.lt k hk).1))
                have HA2 := Lib.hid (HA9.out.app HX2.out hg hloc Hn9.out.ct (fun b' off' hb' => ⟨fun e => by have h1 := (HOl.out b' e); have h2 := (Hn9.out.lt b' off' hb').1; simp at h2; omega, (Hn9.out.lt b' off' hb').2⟩) HO9.out.plain)
                have HGCa : Hid (w2.cell? ⟨wr.heap.size, 0, none⟩ = some (.slice xA xn xc) ∧ w2.cell? ⟨wr.heap.size, 1, none⟩ = some (.int .i64 N)) := Lib.hid (by
                 have hlt9 : wr.heap.size < w9.heap.size := Nat.lt_of_lt_of_le lg8 Hs89.out
                 have hne : some wr.heap.size ≠ (Value.slice A' m c').ownBlock := fun e => by have := HOr.out _ e.symm; omega
                 have hbk : w2.heap[wr.heap.size]? = w9.heap[wr.heap.size]? := (hg.block _ (Nat.lt_of_lt_of_le hlt9 HX2.out.size) hne).trans (HX2.out.block _ hlt9)
                 refine ⟨?_, ?_⟩
                 · rw [← HGC9.out.1]; simp only [World.cell?, hbk]
                 · rw [← HGC9.out.2]; simp only [World.cell?, hbk])
                clear hv hg hloc HX2))
          have Hst3 : Hid (pl (ol ++ [⟨⟨h9A, h9n, h9c, h9xs⟩, N⟩]) = stayB (fun r => (trueR ee r).1) ((pl cs).take (k + 1))) := Lib.hid (by
           rw [Hst2.out, ← hst.out, pl_app, pl_one]
           have e : h9xs = xs := Hn9.out.eq
           simp only [e]
           rfl)
          have Hol3 : Hid ((ol ++ [(⟨⟨h9A, h9n, h9c, h9xs⟩, N⟩ : Ct)]).length = m + 1) := Lib.hid (by rw [List.length_append, hol.out]; rfl)
          clear Hst2 Her2 hst her HGC9 HGCa HO9 HA9 Hn9 Hb9 Hb89
          go_wp2
          go_roundw
          case rel => exact ⟨k + 1, m + 1, A2, c2, ol ++ [⟨⟨h9A, h9n, h9c, h9xs⟩, N⟩], by omega, by omega, by go_num, rfl, Hol3, Hb2, Hv2, HA2, Hst3, Her3⟩
          case measure => simp [intOf]; omega
      · have HF : Hid (WhereSaid w (trueR ee) cs none 0 [] er w8) := Lib.hid (by
         have h1 : errW (trueR ee) (pl cs) = er := by rw [her.out, Her2.out, if_neg h0]
         refine ⟨below_via HbW.out Hb8.out, bgIn_nil _, by rw [Hma.out, if_pos rfl, h1], ?_⟩
         rw [Hma.out, if_pos rfl]
         unfold whereR
         rw [h1, if_neg h0]
         rfl)
        have h1 : (er != 0) = true := by simp [h0]
        clear her Her2 Hst2 hst hap ho h0
        go_wp2
        go_ret2
        exact ⟨_, _, _, _, _, rfl, HF.out⟩
    · obtain rfl : k = n := by omega
      have HF : Hid (WhereSaid w (trueR ee) cs A' m ol 0 wr) := Lib.hid (by
       have h1 : errW (trueR ee) (pl cs) = 0 := by
        rw [her.out, show (pl cs).drop k = [] from List.drop_eq_nil_of_le (by rw [pl_len, HA.out.len]; exact Nat.le_refl _)]
        rfl
       obtain ⟨A2, c2, e2, h2, h3, hs2⟩ := ho.out.sl cOk.len
       injection e2 with e2
       refine ⟨below_via HbW.out hb.out, ⟨hol.out, by rw [← hol.out]; omega, by rw [e2]; exact hs2, hap.out.each⟩, by rw [Hma.out, if_pos rfl, h1], ?_⟩
       rw [Hma.out, if_pos rfl]
       unfold whereR
       rw [h1, if_pos rfl, hst.out, show (pl cs).take k = pl cs from List.take_of_length_le (by rw [pl_len, HA.out.len]; exact Nat.le_refl _)])
      clear hol hb ho hap hst her
      go_wp2
      go_ret2
      exact ⟨_, _, _, _, _, rfl, HF.out⟩
end Go.Proofs.YtbpopkgpepmlcaaGreat
