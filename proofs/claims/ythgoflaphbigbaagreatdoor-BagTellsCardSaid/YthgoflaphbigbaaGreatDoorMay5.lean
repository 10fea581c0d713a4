/-
  Whether a bag may be, and whether a count is beyond the bounds, as the program has it. Of all bags.
-/
import Derived.Test.YthgoflaphbigbaaGreatDoorSame5
import Derived.Test.YthgoflaphbigbaaGreatDoorCmpG
namespace Go.Proofs.YthgoflaphbigbaaGreatDoor
open Go Go.RowKit
set_option maxRecDepth 100000

/-- Is a count beyond the bounds? -/
def beyB (N : Int) : Bool := decide (N < -1000000000) || decide (1000000000 < N)
theorem bey_fits (N : Int) : beyB N = !(decide (-1000000000 ≤ N) && decide (N ≤ 1000000000)) := by
  unfold beyB
  by_cases h1 : N < -1000000000
  · have h2 : ¬ -1000000000 ≤ N := by omega
    simp [h1, h2]
  · by_cases h3 : 1000000000 < N
    · have h4 : ¬ N ≤ 1000000000 := by omega
      simp [h3, h4]
    · have h2 : -1000000000 ≤ N := by omega
      have h4 : N ≤ 1000000000 := by omega
      simp [h1, h2, h3, h4]
theorem beyond_g (A : Option Addr) (n c : Nat) (N : Int) (w : World) : Calls Tryz.prog 25 #[.agg #[.slice A n c, .int .i64 N]] w fun e w' => e = .returned (.bool (beyB N)) ∧ Gr w w' := by
  unfold beyB
  cases h1 : decide (N < -1000000000)
  · go_enter Tryz.func25, Tryz.ntmps25
    go_wp2
    go_ret
    exact ⟨rfl, gr_one _ _⟩
  · go_enter Tryz.func25, Tryz.ntmps25
    go_wp2
    go_ret
    exact ⟨rfl, gr_one _ _⟩
theorem zero_g (A : Option Addr) (n c : Nat) (N : Int) (w : World) : Calls Tryz.prog 36 #[.agg #[.slice A n c, .int .i64 N]] w fun e w' => e = .returned (.bool (N == 0)) ∧ Gr w w' := by
  go_enter Tryz.func36, Tryz.ntmps36
  go_wp2
  go_ret
  exact ⟨rfl, gr_one _ _⟩
theorem enKeyCompare : ∀ args w, (callFunc 27 args).run Tryz.prog w = .ok (.enter 27 args) w := fun _ _ => by kernel_rfl


set_option maxHeartbeats 4000000 in
theorem mayBag_c (A : Option Addr) (n c : Nat) (cs : List Ct) (w : World) (hB : BgIn w A n cs) :
    Calls Tryz.prog 7 #[.slice A n c] w fun e w' => e = .returned (.bool (mayBag (pl cs))) ∧ Below w.heap.size w w' := by
  obtain ⟨R, hR⟩ : ∃ R, mayBag (pl cs) = R := ⟨_, rfl⟩
  rw [hR]
  rw [← mayFrom_none] at hR
  have HR := Lib.hid hR
  have HB := Lib.hid hB
  have hmx : n ≤ 9223372036854775807 := hB.max
  clear hB hR
  go_enter Tryz.func7, Tryz.ntmps7
  go_wp2_with fail
  go_loopw [7] (fun i wr => ∃ k : Nat, k ≤ n ∧ i = .int .i64 k ∧ Hid (Below w.heap.size w wr) ∧ Hid (mayFrom (prevOf (pl cs) k) ((pl cs).drop k) = R)) (fun i _ => n - (intOf i).toNat)
  case atStart => exact ⟨0, Nat.zero_le _, rfl, Lib.hid (Below.refl _ _), HR⟩
  case round =>
    obtain ⟨k, hk, rfl, hb, hinv⟩ := hrel
    clear HR
    by_cases hlt : k < n
    · obtain ⟨b, off, rfl⟩ := HB.out.sl.some2 (k := k) (by rw [HB.out.len]; exact hlt)
      obtain ⟨x, hx⟩ : ∃ x, cs[k]? = some x := ⟨_, List.getElem?_eq_getElem (by rw [HB.out.len]; exact hlt)⟩
      obtain ⟨hblt, c0, c1⟩ := HB.out.sl.cell2 hx
      have d0 := (hb.out.cell (p := ⟨b, off + k * 2, none⟩) hblt).trans c0
      have d1 := (hb.out.cell (p := ⟨b, off + k * 2 + 1, none⟩) hblt).trans c1
      have l0 : b < wr.heap.size := Nat.lt_of_lt_of_le hblt hb.out.size
      have Hx := Lib.hid ((HB.out.each x (List.mem_of_getElem? hx)).after hb.out)
      have Hst := Lib.hid ((mayFrom_drop (pl cs) k _ (pl_at hx)).symm.trans hinv.out)
      clear hinv c0 c1 hx
      obtain ⟨⟨xA, xn, xc, xs⟩, N⟩ := x
      have hprev : Hid (∀ j, k = j + 1 → ∃ y : Ct, prevOf (pl cs) k = some y.h.xs ∧ Ct.In wr y ∧ wr.cell? ⟨b, off + j * 2, none⟩ = some (.slice y.h.A y.h.n y.h.c)) := Lib.hid (by
        rintro j rfl
        obtain ⟨y, hy⟩ : ∃ y, cs[j]? = some y := ⟨_, List.getElem?_eq_getElem (by rw [HB.out.len]; omega)⟩
        obtain ⟨hblt, c0, c1⟩ := HB.out.sl.cell2 hy
        exact ⟨y, prev_succ (pl_at hy), (HB.out.each y (List.mem_of_getElem? hy)).after hb.out, (hb.out.cell (p := ⟨b, off + j * 2, none⟩) hblt).trans c0⟩)
      have hgo : (k : Int) < n := by omega
      have lw := hb.out.size
      have Hbw := Lib.hid (below_one wr (.cells #[.slice xA xn xc, .int .i64 N] 36))
      have Hgc : Hid ((wr.alloc (.cells #[.slice xA xn xc, .int .i64 N] 36)).cell? ⟨wr.heap.size, 0, none⟩ = some (.slice xA xn xc)) := Lib.hid (by simp)
      cases hN0 : N == 0
      · go_wp2_with fail
        refine (beyond_g xA xn xc N _).mono ?_
        rintro e w1 ⟨rfl, hg1⟩
        have Hg1 := Lib.hid hg1.below
        rw [bey_fits]
        clear hg1 d0 d1
        have Hl1 : Hid (wr.heap.size + 1 ≤ w1.heap.size) := Lib.hid (by have := Hg1.out.size; simpa using this)
        have Hgc1 : Hid (w1.cell? ⟨wr.heap.size, 0, none⟩ = some (.slice xA xn xc)) := Lib.hid ((Hg1.out.cell (p := ⟨wr.heap.size, 0, none⟩) (by simp)).trans Hgc.out)
        have Hb1 := Lib.hid (below_via (below_via hb.out Hbw.out) Hg1.out)
        have HbW1 := Lib.hid (below_via Hbw.out Hg1.out)
        clear Hgc Hg1 Hbw
        cases hF1 : (decide (-1000000000 ≤ N) && decide (N ≤ 1000000000))
        · have Hst2 : Hid (false = R) := by
            have := Hst.out
            rw [okC_and] at this
            simp only [hN0, hF1, Bool.not_false, Bool.true_and, Bool.false_and] at this
            exact Lib.hid this
          clear Hst
          simp only [Bool.not_false]
          go_wp2
          go_ret
          exact ⟨congrArg (fun z => Ending.returned (Value.bool z)) Hst2.out, Hb1.out⟩
        · simp only [Bool.not_true]
          have gc := Hgc1.out
          go_wp2_with fail
          refine (mayRow_c xA xn xc xs _ (Hx.out.after HbW1.out).hd.len (Hx.out.after HbW1.out).hd.max (Hx.out.after HbW1.out).hd.sl Hx.out.sz).mono ?_
          rintro e w2 ⟨rfl, hb2⟩
          have Hb2 := Lib.hid (below_via Hb1.out hb2)
          have HbW2 := Lib.hid (below_via HbW1.out hb2)
          have dg := Lib.hid ((hb2.cell (p := ⟨wr.heap.size, 0, none⟩) (Nat.lt_of_lt_of_le (Nat.lt_succ_self _) Hl1.out)).trans Hgc1.out)
          have lg : wr.heap.size < w2.heap.size := Nat.lt_of_lt_of_le (Nat.lt_of_lt_of_le (Nat.lt_succ_self _) Hl1.out) hb2.size
          have l2 : b < w2.heap.size := Nat.lt_trans l0 lg
          have Hx2 := Lib.hid (Hx.out.after HbW2.out)
          clear hb2 gc Hgc1 Hl1
          cases hM : mayR xs
          · have Hst2 : Hid (false = R) := by
              have := Hst.out
              rw [okC_and] at this
              simp only [hN0, hF1, hM, Bool.not_false, Bool.true_and, Bool.false_and] at this
              exact Lib.hid this
            clear Hst
            go_wp2
            go_ret
            exact ⟨congrArg (fun z => Ending.returned (Value.bool z)) Hst2.out, Hb2.out⟩
          · go_wp2_with fail
            cases hk0 : decide (0 < (k : Int))
            · have hk1 : k = 0 := by have := of_decide_eq_false hk0; omega
              have hp0 : prevOf (pl cs) k = none := by rw [hk1]; rfl
              have Hst2 : Hid (mayFrom (prevOf (pl cs) (k + 1)) ((pl cs).drop (k + 1)) = R) := by
                have := Hst.out
                rw [okC_and] at this
                simp only [hN0, hF1, hM, hp0, Bool.not_false, Bool.true_and] at this
                exact Lib.hid this
              clear Hst
              clear hp0 hk1
              refine Reg.wp_region_vals mixed (by kernel_rfl) [(25, .int .i64 (k : Nat)), (26, .bool false), (27, .bool false), (28, undef), (29, undef), (30, undef), (31, undef), (32, undef), (33, undef), (34, undef), (35, undef), (36, undef), (37, undef), (38, .bool false)] 40 rfl (by kernel_rfl) ?_ ?_
              · intro F hF w' hB
                refine ⟨?_, ?_, ?_, ?_, ?_, ?_, ?_, ?_, ?_, ?_, ?_, ?_, ?_, ?_, trivial⟩
                · exact Reg.doesV_val (ev_move rfl) (by rw [hF]; kernel_rfl) (by rw [hF]; kernel_rfl)
                · exact Reg.doesV_val (by rw [ev_gtC5 (k : Int) 0 rfl (by rw [hF]; kernel_rfl), hk0]) (by rw [hF]; kernel_rfl) (by rw [hF]; kernel_rfl)
                · exact Reg.doesV_val (ev_move rfl) (by rw [hF]; kernel_rfl) (by rw [hF]; kernel_rfl)
                · exact Reg.doesV_skip (by rw [hF]; kernel_rfl) (by rw [hF]; kernel_rfl)
                · exact Reg.doesV_skip (by rw [hF]; kernel_rfl) (by rw [hF]; kernel_rfl)
                · exact Reg.doesV_skip (by rw [hF]; kernel_rfl) (by rw [hF]; kernel_rfl)
                · exact Reg.doesV_skip (by rw [hF]; kernel_rfl) (by rw [hF]; kernel_rfl)
                · exact Reg.doesV_skip (by rw [hF]; kernel_rfl) (by rw [hF]; kernel_rfl)
                · exact Reg.doesV_skip (by rw [hF]; kernel_rfl) (by rw [hF]; kernel_rfl)
                · exact Reg.doesV_skip (by rw [hF]; kernel_rfl) (by rw [hF]; kernel_rfl)
                · exact Reg.doesV_skip (by rw [hF]; kernel_rfl) (by rw [hF]; kernel_rfl)
                · exact Reg.doesV_skip (by rw [hF]; kernel_rfl) (by rw [hF]; kernel_rfl)
                · exact Reg.doesV_skip (by rw [hF]; kernel_rfl) (by rw [hF]; kernel_rfl)
                · exact Reg.doesV_val (ev_pick false rfl (by rw [hF]; kernel_rfl)) (by rw [hF]; kernel_rfl) (by rw [hF]; kernel_rfl)
              · intro w8 hB
                simp only [Reg.putAll, Act.put, List.setIfInBounds_toArray, List.set_cons_zero, List.set_cons_succ]
                have Hb3 := Lib.hid (Hb2.out.trans (hB.mono Hb2.out.size))
                clear hB
                go_wp2
                go_roundw
                case rel => exact ⟨k + 1, by omega, by go_num, Hb3, Hst2⟩
                case measure => simp [intOf]; omega
            · obtain ⟨j, hkj⟩ : ∃ j, k = j + 1 := ⟨k - 1, by have := of_decide_eq_true hk0; omega⟩
              have hjn : j < n := by omega
              have hjx : k ≤ 9223372036854775807 := by omega
              obtain ⟨⟨⟨yA, yn, yc, ys⟩, yN⟩, hp, hy, dq⟩ := hprev.out j hkj
              have Hy := Lib.hid (hy.after HbW2.out)
              have dq := Lib.hid ((HbW2.out.cell (p := ⟨b, off + j * 2, none⟩) l0).trans dq)
              clear hy
              cases hC : decide (0 ≤ cmpL ys xs)
              · have hC2 : decide (cmpL ys xs < 0) = true := by have := of_decide_eq_false hC; exact decide_eq_true (by omega)
                have Hst2 : Hid (mayFrom (prevOf (pl cs) (k + 1)) ((pl cs).drop (k + 1)) = R) := by
                  have := Hst.out
                  rw [okC_and] at this
                  simp only [hN0, hF1, hM, hp, hC2, Bool.not_false, Bool.true_and] at this
                  exact Lib.hid this
                clear Hst
                clear hp hC2
                refine Reg.wp_region_vals mixed (by kernel_rfl) [(25, .int .i64 (k : Nat)), (26, .bool true), (27, .bool true), (28, .slice (some ⟨b, off, none⟩) n c), (29, .int .i64 (k : Nat)), (30, .int .i64 (j : Nat)), (31, .pointer (some ⟨b, off + j * 2, none⟩)), (32, .pointer (some ⟨b, off + j * 2, none⟩)), (33, .slice yA yn yc), (34, .pointer (some ⟨wr.heap.size, 0, none⟩)), (35, .slice xA xn xc), (36, .int .i64 (cmpL ys xs)), (37, .bool false), (38, .bool false)] 40 rfl (by kernel_rfl) ?_ ?_
                · intro F hF w' hB
                  have q0 := (hB.cell (p := ⟨b, off + j * 2, none⟩) l2).trans dq.out
                  have jx := (hB.cell (p := ⟨wr.heap.size, 0, none⟩) lg).trans dg.out
                  have ix := Hx2.out.after hB
                  have iy := Hy.out.after hB
                  refine ⟨?_, ?_, ?_, ?_, ?_, ?_, ?_, ?_, ?_, ?_, ?_, ?_, ?_, ?_, trivial⟩
                  · exact Reg.doesV_val (ev_move rfl) (by rw [hF]; kernel_rfl) (by rw [hF]; kernel_rfl)
                  · exact Reg.doesV_val (by rw [ev_gtC5 (k : Int) 0 rfl (by rw [hF]; kernel_rfl), hk0]) (by rw [hF]; kernel_rfl) (by rw [hF]; kernel_rfl)
                  · exact Reg.doesV_val (ev_move rfl) (by rw [hF]; kernel_rfl) (by rw [hF]; kernel_rfl)
                  · exact Reg.doesV_val (ev_move rfl) (by rw [hF]; kernel_rfl) (by rw [hF]; kernel_rfl)
                  · exact Reg.doesV_val (ev_move rfl) (by rw [hF]; kernel_rfl) (by rw [hF]; kernel_rfl)
                  · exact Reg.doesV_val (ev_dec5 k j hkj hjx rfl (by rw [hF]; kernel_rfl)) (by rw [hF]; kernel_rfl) (by rw [hF]; kernel_rfl)
                  · exact Reg.doesV_val (ev_idxC (b := b) (off := off) (n := n) (c := c) (k := j) hjn rfl (by rw [hF]; kernel_rfl) (by rw [hF]; kernel_rfl)) (by rw [hF]; kernel_rfl) (by rw [hF]; kernel_rfl)
                  · exact Reg.doesV_val (ev_c0 (b := b) (off := off + j * 2) rfl (by rw [hF]; kernel_rfl)) (by rw [hF]; kernel_rfl) (by rw [hF]; kernel_rfl)
                  · exact Reg.doesV_val (ev_ldR (A := yA) (n := yn) (c := yc) q0 rfl (by rw [hF]; kernel_rfl)) (by rw [hF]; kernel_rfl) (by rw [hF]; kernel_rfl)
                  · exact Reg.doesV_val (ev_c0 (b := wr.heap.size) (off := 0) rfl (by rw [hF]; kernel_rfl)) (by rw [hF]; kernel_rfl) (by rw [hF]; kernel_rfl)
                  · exact Reg.doesV_val (ev_ldR (A := xA) (n := xn) (c := xc) jx rfl (by rw [hF]; kernel_rfl)) (by rw [hF]; kernel_rfl) (by rw [hF]; kernel_rfl)
                  · exact Reg.doesV_call (compareL_c yA xA yn xn yc xc ys xs w' iy.hd.len ix.hd.len iy.hd.max ix.hd.max iy.hd.sl ix.hd.sl) (ev_call enKeyCompare rfl (by rw [hF]; kernel_rfl)) (by rw [hF]; kernel_rfl) (by rw [hF]; kernel_rfl)
                  · exact Reg.doesV_val (by rw [ev_geC5 (cmpL ys xs) 0 rfl (by rw [hF]; kernel_rfl), hC]) (by rw [hF]; kernel_rfl) (by rw [hF]; kernel_rfl)
                  · exact Reg.doesV_val (ev_pick true rfl (by rw [hF]; kernel_rfl)) (by rw [hF]; kernel_rfl) (by rw [hF]; kernel_rfl)
                · intro w8 hB
                  simp only [Reg.putAll, Act.put, List.setIfInBounds_toArray, List.set_cons_zero, List.set_cons_succ]
                  have Hb3 := Lib.hid (Hb2.out.trans (hB.mono Hb2.out.size))
                  clear hB
                  go_wp2
                  go_roundw
                  case rel => exact ⟨k + 1, by omega, by go_num, Hb3, Hst2⟩
                  case measure => simp [intOf]; omega
              · have hC2 : decide (cmpL ys xs < 0) = false := by have := of_decide_eq_true hC; exact decide_eq_false (by omega)
                have Hst2 : Hid (false = R) := by
                  have := Hst.out
                  rw [okC_and] at this
                  simp only [hN0, hF1, hM, hp, hC2, Bool.not_false, Bool.true_and, Bool.false_and] at this
                  exact Lib.hid this
                clear Hst
                clear hp hC2
                refine Reg.wp_region_vals mixed (by kernel_rfl) [(25, .int .i64 (k : Nat)), (26, .bool true), (27, .bool true), (28, .slice (some ⟨b, off, none⟩) n c), (29, .int .i64 (k : Nat)), (30, .int .i64 (j : Nat)), (31, .pointer (some ⟨b, off + j * 2, none⟩)), (32, .pointer (some ⟨b, off + j * 2, none⟩)), (33, .slice yA yn yc), (34, .pointer (some ⟨wr.heap.size, 0, none⟩)), (35, .slice xA xn xc), (36, .int .i64 (cmpL ys xs)), (37, .bool true), (38, .bool true)] 40 rfl (by kernel_rfl) ?_ ?_
                · intro F hF w' hB
                  have q0 := (hB.cell (p := ⟨b, off + j * 2, none⟩) l2).trans dq.out
                  have jx := (hB.cell (p := ⟨wr.heap.size, 0, none⟩) lg).trans dg.out
                  have ix := Hx2.out.after hB
                  have iy := Hy.out.after hB
                  refine ⟨?_, ?_, ?_, ?_, ?_, ?_, ?_, ?_, ?_, ?_, ?_, ?_, ?_, ?_, trivial⟩
                  · exact Reg.doesV_val (ev_move rfl) (by rw [hF]; kernel_rfl) (by rw [hF]; kernel_rfl)
                  · exact Reg.doesV_val (by rw [ev_gtC5 (k : Int) 0 rfl (by rw [hF]; kernel_rfl), hk0]) (by rw [hF]; kernel_rfl) (by rw [hF]; kernel_rfl)
                  · exact Reg.doesV_val (ev_move rfl) (by rw [hF]; kernel_rfl) (by rw [hF]; kernel_rfl)
                  · exact Reg.doesV_val (ev_move rfl) (by rw [hF]; kernel_rfl) (by rw [hF]; kernel_rfl)
                  · exact Reg.doesV_val (ev_move rfl) (by rw [hF]; kernel_rfl) (by rw [hF]; kernel_rfl)
                  · exact Reg.doesV_val (ev_dec5 k j hkj hjx rfl (by rw [hF]; kernel_rfl)) (by rw [hF]; kernel_rfl) (by rw [hF]; kernel_rfl)
                  · exact Reg.doesV_val (ev_idxC (b := b) (off := off) (n := n) (c := c) (k := j) hjn rfl (by rw [hF]; kernel_rfl) (by rw [hF]; kernel_rfl)) (by rw [hF]; kernel_rfl) (by rw [hF]; kernel_rfl)
                  · exact Reg.doesV_val (ev_c0 (b := b) (off := off + j * 2) rfl (by rw [hF]; kernel_rfl)) (by rw [hF]; kernel_rfl) (by rw [hF]; kernel_rfl)
                  · exact Reg.doesV_val (ev_ldR (A := yA) (n := yn) (c := yc) q0 rfl (by rw [hF]; kernel_rfl)) (by rw [hF]; kernel_rfl) (by rw [hF]; kernel_rfl)
                  · exact Reg.doesV_val (ev_c0 (b := wr.heap.size) (off := 0) rfl (by rw [hF]; kernel_rfl)) (by rw [hF]; kernel_rfl) (by rw [hF]; kernel_rfl)
                  · exact Reg.doesV_val (ev_ldR (A := xA) (n := xn) (c := xc) jx rfl (by rw [hF]; kernel_rfl)) (by rw [hF]; kernel_rfl) (by rw [hF]; kernel_rfl)
                  · exact Reg.doesV_call (compareL_c yA xA yn xn yc xc ys xs w' iy.hd.len ix.hd.len iy.hd.max ix.hd.max iy.hd.sl ix.hd.sl) (ev_call enKeyCompare rfl (by rw [hF]; kernel_rfl)) (by rw [hF]; kernel_rfl) (by rw [hF]; kernel_rfl)
                  · exact Reg.doesV_val (by rw [ev_geC5 (cmpL ys xs) 0 rfl (by rw [hF]; kernel_rfl), hC]) (by rw [hF]; kernel_rfl) (by rw [hF]; kernel_rfl)
                  · exact Reg.doesV_val (ev_pick true rfl (by rw [hF]; kernel_rfl)) (by rw [hF]; kernel_rfl) (by rw [hF]; kernel_rfl)
                · intro w8 hB
                  simp only [Reg.putAll, Act.put, List.setIfInBounds_toArray, List.set_cons_zero, List.set_cons_succ]
                  have Hb3 := Lib.hid (Hb2.out.trans (hB.mono Hb2.out.size))
                  clear hB
                  go_wp2
                  go_ret
                  exact ⟨congrArg (fun z => Ending.returned (Value.bool z)) Hst2.out, Hb3.out⟩
      · have Hst2 : Hid (false = R) := by
          have := Hst.out
          rw [okC_and] at this
          simp only [hN0, Bool.not_true, Bool.false_and] at this
          exact Lib.hid this
        clear Hst
        have Hb1 := Lib.hid (below_via hb.out Hbw.out)
        clear Hbw Hgc
        go_wp2
        go_ret
        exact ⟨congrArg (fun z => Ending.returned (Value.bool z)) Hst2.out, Hb1.out⟩
    · obtain rfl : k = n := by omega
      have Hst' : Hid (true = R) := by
        have := hinv.out
        rw [show (pl cs).drop k = [] from List.drop_eq_nil_of_le (by rw [pl_len, HB.out.len]; omega)] at this
        rw [← this]
        exact Lib.hid (mayFrom_nil _).symm
      clear hinv
      go_wp2
      go_ret
      exact ⟨congrArg (fun z => Ending.returned (Value.bool z)) Hst'.out, hb.out⟩
end Go.Proofs.YthgoflaphbigbaaGreatDoor
