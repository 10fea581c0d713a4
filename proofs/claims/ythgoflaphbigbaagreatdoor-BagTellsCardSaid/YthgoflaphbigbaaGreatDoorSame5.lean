/-
  Whether a bag is small, how often a row is in it, and whether two bags are the same, as the document has it. Of all bags.
-/
import Derived.Test.YthgoflaphbigbaaGreatDoorCt
namespace Go.Proofs.YthgoflaphbigbaaGreatDoor
open Go Go.RowKit
set_option maxRecDepth 100000

theorem all_dropG {α : Type} (p : α → Bool) (xs : List α) (k : Nat) (x : α) (hx : xs[k]? = some x) : (xs.drop k).all p = (p x && (xs.drop (k + 1)).all p) := by
  have h1 := List.drop_eq_getElem_cons (List.getElem?_eq_some_iff.1 hx).1
  rw [(List.getElem?_eq_some_iff.1 hx).2] at h1
  rw [h1, List.all_cons]
/-- Are there few rows, of few values, of short texts? -/
def smallB (b : Bg) : Bool := b.all (fun x => shortB x.1) && decide (b.length ≤ 60)
set_option maxHeartbeats 2000000 in
theorem smallB_c (A : Option Addr) (n c : Nat) (cs : List Ct) (w : World) (hB : BgIn w A n cs) :
    Calls Tryz.prog 5 #[.slice A n c] w fun e w' => e = .returned (.bool (smallB (pl cs))) ∧ Below w.heap.size w w' := by
  obtain ⟨R, hR⟩ : ∃ R, smallB (pl cs) = R := ⟨_, rfl⟩
  rw [hR]
  have HR := Lib.hid hR
  have HB := Lib.hid hB
  have hmx : n ≤ 9223372036854775807 := hB.max
  clear hB hR
  go_enter Tryz.func5, Tryz.ntmps5
  go_wp2_with fail
  go_loopw [3] (fun i wr => ∃ k : Nat, k ≤ n ∧ i = .int .i64 k ∧ Hid (Below w.heap.size w wr) ∧ Hid (((pl cs).drop k).all (fun x => shortB x.1) = (pl cs).all (fun x => shortB x.1))) (fun i _ => n - (intOf i).toNat)
  case atStart => exact ⟨0, Nat.zero_le _, rfl, Below.refl _ _, rfl⟩
  case round =>
    obtain ⟨k, hk, rfl, hb, hinv⟩ := hrel
    by_cases hlt : k < n
    · obtain ⟨b, off, x, rfl, hblt, hx, c0, c1⟩ := HB.out.sl.at2 (k := k) (by rw [HB.out.len]; exact hlt)
      have d0 := (hb.out.cell (p := ⟨b, off + k * 2, none⟩) hblt).trans c0
      have l1 : b < wr.heap.size := Nat.lt_of_lt_of_le hblt hb.out.size
      have Hx := Lib.hid ((HB.out.each x (List.mem_of_getElem? hx)).after hb.out)
      have Hst := Lib.hid ((all_dropG (fun x => shortB x.1) _ k _ (pl_at hx)).symm.trans hinv.out)
      clear hx c0 c1 hblt hinv
      go_wp2_with fail
      refine (short_c x.h.A x.h.n x.h.c x.h.xs wr Hx.out.hd.len Hx.out.hd.max Hx.out.hd.sl Hx.out.sz).mono ?_
      rintro e w1 ⟨rfl, hb1⟩
      have Hb1 := Lib.hid (hb.out.trans (hb1.mono hb.out.size))
      clear hb1 hb Hx d0
      cases hc : shortB x.h.xs
      · have Hst' : Hid (false = R) := by
          have := Hst.out
          simp only [hc, Bool.false_and] at this
          have h2 := HR.out
          unfold smallB at h2
          rw [← this, Bool.false_and] at h2
          exact h2
        clear Hst HR
        go_wp2
        go_ret
        exact ⟨congrArg (fun z => Ending.returned (Value.bool z)) Hst'.out, Hb1.out⟩
      · have Hst' : Hid (((pl cs).drop (k + 1)).all (fun x => shortB x.1) = (pl cs).all (fun x => shortB x.1)) := by
          have := Hst.out
          simp only [hc, Bool.true_and] at this
          exact this
        clear Hst HR
        go_wp2
        go_roundw
        case rel => exact ⟨k + 1, by omega, by go_num, Hb1, Hst'⟩
        case measure => simp [intOf]; omega
    · obtain rfl : k = n := by omega
      have Hst' : Hid (decide ((k : Int) ≤ 60) = R) := by
        have := hinv.out
        rw [List.drop_eq_nil_of_le (by rw [pl_len, HB.out.len]; omega)] at this
        have h2 := HR.out
        unfold smallB at h2
        rw [← this, pl_len, HB.out.len] at h2
        rw [← h2]
        simp only [List.all_nil, Bool.true_and]
        exact decide_eq_decide.2 (by omega)
      clear hinv HR
      go_wp2
      go_ret
      exact ⟨congrArg (fun z => Ending.returned (Value.bool z)) Hst'.out, hb.out⟩

/-- How often a row is in a bag. -/
def getB (b : Bg) (r : List Val) : Int := if mayBag b then lookB b r else 0
theorem lookB_drop (b : Bg) (r : List Val) (k : Nat) (x : List Val × Int) (h : b[k]? = some x) : lookB (b.drop k) r = (if cmpL x.1 r = 0 then x.2 else lookB (b.drop (k + 1)) r) := by
  have h1 := List.drop_eq_getElem_cons (List.getElem?_eq_some_iff.1 h).1
  rw [(List.getElem?_eq_some_iff.1 h).2] at h1
  rw [h1, lookB]
/-- Are two bags the same? -/
def sameB : Bg → Bg → Bool
  | [], [] => true
  | x :: a, y :: b => x.2 == y.2 && (cmpL x.1 y.1 == 0 && sameB a b)
  | _, _ => false
theorem sameB_len : ∀ (a b : Bg), a.length ≠ b.length → sameB a b = false
  | [], [], h => absurd rfl h
  | [], _ :: _, _ => rfl
  | _ :: _, [], _ => rfl
  | x :: a, y :: b, h => by rw [sameB, sameB_len a b (by simpa using h)]; simp
theorem sameB_drop (a b : Bg) (k : Nat) (x y : List Val × Int) (hx : a[k]? = some x) (hy : b[k]? = some y) : sameB (a.drop k) (b.drop k) = (x.2 == y.2 && (cmpL x.1 y.1 == 0 && sameB (a.drop (k + 1)) (b.drop (k + 1)))) := by
  have h1 := List.drop_eq_getElem_cons (List.getElem?_eq_some_iff.1 hx).1
  rw [(List.getElem?_eq_some_iff.1 hx).2] at h1
  have h2 := List.drop_eq_getElem_cons (List.getElem?_eq_some_iff.1 hy).1
  rw [(List.getElem?_eq_some_iff.1 hy).2] at h2
  rw [h1, h2, sameB]
set_option maxHeartbeats 4000000 in
theorem sameB_c (A B : Option Addr) (n m c d : Nat) (cs ds : List Ct) (w : World) (hA : BgIn w A n cs) (hB : BgIn w B m ds) :
    Calls Tryz.prog 11 #[.slice A n c, .slice B m d] w fun e w' => e = .returned (.bool (sameB (pl cs) (pl ds))) ∧ Below w.heap.size w w' := by
  obtain ⟨R, hR⟩ : ∃ R, sameB (pl cs) (pl ds) = R := ⟨_, rfl⟩
  rw [hR]
  have HR := Lib.hid hR
  have HA := Lib.hid hA
  have HB := Lib.hid hB
  have hmx : n ≤ 9223372036854775807 := hA.max
  have hmy : m ≤ 9223372036854775807 := hB.max
  clear hA hB hR
  by_cases hnm : n = m
  case neg =>
    have HRf : Hid (false = R) := by
      have := HR.out
      rw [sameB_len _ _ (by rw [pl_len, pl_len, HA.out.len, HB.out.len]; exact hnm)] at this
      exact Lib.hid this
    have hne : ((n : Int) != (m : Int)) = true := by simpa using (by omega : ¬ (n : Int) = m)
    clear HR
    go_enter Tryz.func11, Tryz.ntmps11
    go_wp2
    go_ret
    exact ⟨congrArg (fun z => Ending.returned (Value.bool z)) HRf.out, Below.refl _ _⟩
  subst hnm
  go_enter Tryz.func11, Tryz.ntmps11
  go_wp2_with fail
  go_loopw [5] (fun i wr => ∃ k : Nat, k ≤ n ∧ i = .int .i64 k ∧ Hid (Below w.heap.size w wr) ∧ Hid (sameB ((pl cs).drop k) ((pl ds).drop k) = R)) (fun i _ => n - (intOf i).toNat)
  case atStart => exact ⟨0, Nat.zero_le _, rfl, Lib.hid (Below.refl _ _), HR⟩
  case round =>
    obtain ⟨k, hk, rfl, hb, hinv⟩ := hrel
    clear HR
    by_cases hlt : k < n
    · obtain ⟨b, off, x, rfl, hblt, hx, c0, c1⟩ := HA.out.sl.at2 (k := k) (by rw [HA.out.len]; exact hlt)
      obtain ⟨b', off', y, rfl, hblt', hy, c0', c1'⟩ := HB.out.sl.at2 (k := k) (by rw [HB.out.len]; exact hlt)
      have d0 := Lib.hid ((hb.out.cell (p := ⟨b, off + k * 2, none⟩) hblt).trans c0)
      have d1 := Lib.hid ((hb.out.cell (p := ⟨b, off + k * 2 + 1, none⟩) hblt).trans c1)
      have e0 := Lib.hid ((hb.out.cell (p := ⟨b', off' + k * 2, none⟩) hblt').trans c0')
      have e1 := Lib.hid ((hb.out.cell (p := ⟨b', off' + k * 2 + 1, none⟩) hblt').trans c1')
      have l1 : b < wr.heap.size := Nat.lt_of_lt_of_le hblt hb.out.size
      have l2 : b' < wr.heap.size := Nat.lt_of_lt_of_le hblt' hb.out.size
      have Hx := Lib.hid ((HA.out.each x (List.mem_of_getElem? hx)).after hb.out)
      have Hy := Lib.hid ((HB.out.each y (List.mem_of_getElem? hy)).after hb.out)
      have Hst := Lib.hid ((sameB_drop _ _ k _ _ (pl_at hx) (pl_at hy)).symm.trans hinv.out)
      clear hinv hx hy c0 c1 c0' c1' hblt hblt'
      obtain ⟨⟨xA, xn, xc, xs⟩, N⟩ := x
      obtain ⟨⟨yA, yn, yc, ys⟩, M⟩ := y
      have hlt' : (k : Int) < n := by omega
      go_wp2_with fail
      cases hNM : N != M
      · have hE : (N == M) = true := by simpa using hNM
        cases hC : cmpL xs ys != 0
        · have hC2 : (cmpL xs ys == 0) = true := by simpa using hC
          have Hst2 : Hid (sameB ((pl cs).drop (k + 1)) ((pl ds).drop (k + 1)) = R) := by
            have := Hst.out
            simp only [hE, hC2, Bool.true_and] at this
            exact Lib.hid this
          clear Hst
          clear hE hC2
          refine Reg.wp_region_vals mixed (by kernel_rfl) [(17, .slice (some ⟨b, off, none⟩) n c), (18, .int .i64 (k : Nat)), (19, .pointer (some ⟨b, off + k * 2, none⟩)), (20, .pointer (some ⟨b, off + k * 2 + 1, none⟩)), (21, .int .i64 N), (22, .slice (some ⟨b', off', none⟩) n d), (23, .int .i64 (k : Nat)), (24, .pointer (some ⟨b', off' + k * 2, none⟩)), (25, .pointer (some ⟨b', off' + k * 2 + 1, none⟩)), (26, .int .i64 M), (27, .bool false), (28, .bool false), (29, .slice (some ⟨b, off, none⟩) n c), (30, .int .i64 (k : Nat)), (31, .pointer (some ⟨b, off + k * 2, none⟩)), (32, .pointer (some ⟨b, off + k * 2, none⟩)), (33, .slice xA xn xc), (34, .slice (some ⟨b', off', none⟩) n d), (35, .int .i64 (k : Nat)), (36, .pointer (some ⟨b', off' + k * 2, none⟩)), (37, .pointer (some ⟨b', off' + k * 2, none⟩)), (38, .slice yA yn yc), (39, .int .i64 (cmpL xs ys)), (40, .bool false), (41, .bool false)] 42 rfl (by kernel_rfl) ?_ ?_
          · intro F hF w' hB
            have j0 := (hB.cell (p := ⟨b, off + k * 2, none⟩) l1).trans d0.out
            have j1 := (hB.cell (p := ⟨b, off + k * 2 + 1, none⟩) l1).trans d1.out
            have q0 := (hB.cell (p := ⟨b', off' + k * 2, none⟩) l2).trans e0.out
            have q1 := (hB.cell (p := ⟨b', off' + k * 2 + 1, none⟩) l2).trans e1.out
            have ix := Hx.out.after hB
            have iy := Hy.out.after hB
            refine ⟨?_, ?_, ?_, ?_, ?_, ?_, ?_, ?_, ?_, ?_, ?_, ?_, ?_, ?_, ?_, ?_, ?_, ?_, ?_, ?_, ?_, ?_, ?_, ?_, ?_, trivial⟩
            · exact Reg.doesV_val (ev_move rfl) (by rw [hF]; kernel_rfl) (by rw [hF]; kernel_rfl)
            · exact Reg.doesV_val (ev_move rfl) (by rw [hF]; kernel_rfl) (by rw [hF]; kernel_rfl)
            · exact Reg.doesV_val (ev_idxC (b := b) (off := off) (n := n) (c := c) (k := k) hlt rfl (by rw [hF]; kernel_rfl) (by rw [hF]; kernel_rfl)) (by rw [hF]; kernel_rfl) (by rw [hF]; kernel_rfl)
            · exact Reg.doesV_val (ev_c1 (b := b) (off := off + k * 2) rfl (by rw [hF]; kernel_rfl)) (by rw [hF]; kernel_rfl) (by rw [hF]; kernel_rfl)
            · exact Reg.doesV_val (ev_ldI (k := N) j1 rfl (by rw [hF]; kernel_rfl)) (by rw [hF]; kernel_rfl) (by rw [hF]; kernel_rfl)
            · exact Reg.doesV_val (ev_move rfl) (by rw [hF]; kernel_rfl) (by rw [hF]; kernel_rfl)
            · exact Reg.doesV_val (ev_move rfl) (by rw [hF]; kernel_rfl) (by rw [hF]; kernel_rfl)
            · exact Reg.doesV_val (ev_idxC (b := b') (off := off') (n := n) (c := d) (k := k) hlt rfl (by rw [hF]; kernel_rfl) (by rw [hF]; kernel_rfl)) (by rw [hF]; kernel_rfl) (by rw [hF]; kernel_rfl)
            · exact Reg.doesV_val (ev_c1 (b := b') (off := off' + k * 2) rfl (by rw [hF]; kernel_rfl)) (by rw [hF]; kernel_rfl) (by rw [hF]; kernel_rfl)
            · exact Reg.doesV_val (ev_ldI (k := M) q1 rfl (by rw [hF]; kernel_rfl)) (by rw [hF]; kernel_rfl) (by rw [hF]; kernel_rfl)
            · exact Reg.doesV_val (by rw [ev_neT5 N M rfl (by rw [hF]; kernel_rfl) (by rw [hF]; kernel_rfl), hNM]) (by rw [hF]; kernel_rfl) (by rw [hF]; kernel_rfl)
            · exact Reg.doesV_val (ev_move rfl) (by rw [hF]; kernel_rfl) (by rw [hF]; kernel_rfl)
            · exact Reg.doesV_val (ev_move rfl) (by rw [hF]; kernel_rfl) (by rw [hF]; kernel_rfl)
            · exact Reg.doesV_val (ev_move rfl) (by rw [hF]; kernel_rfl) (by rw [hF]; kernel_rfl)
            · exact Reg.doesV_val (ev_idxC (b := b) (off := off) (n := n) (c := c) (k := k) hlt rfl (by rw [hF]; kernel_rfl) (by rw [hF]; kernel_rfl)) (by rw [hF]; kernel_rfl) (by rw [hF]; kernel_rfl)
            · exact Reg.doesV_val (ev_c0 (b := b) (off := off + k * 2) rfl (by rw [hF]; kernel_rfl)) (by rw [hF]; kernel_rfl) (by rw [hF]; kernel_rfl)
            · exact Reg.doesV_val (ev_ldR (A := xA) (n := xn) (c := xc) j0 rfl (by rw [hF]; kernel_rfl)) (by rw [hF]; kernel_rfl) (by rw [hF]; kernel_rfl)
            · exact Reg.doesV_val (ev_move rfl) (by rw [hF]; kernel_rfl) (by rw [hF]; kernel_rfl)
            · exact Reg.doesV_val (ev_move rfl) (by rw [hF]; kernel_rfl) (by rw [hF]; kernel_rfl)
            · exact Reg.doesV_val (ev_idxC (b := b') (off := off') (n := n) (c := d) (k := k) hlt rfl (by rw [hF]; kernel_rfl) (by rw [hF]; kernel_rfl)) (by rw [hF]; kernel_rfl) (by rw [hF]; kernel_rfl)
            · exact Reg.doesV_val (ev_c0 (b := b') (off := off' + k * 2) rfl (by rw [hF]; kernel_rfl)) (by rw [hF]; kernel_rfl) (by rw [hF]; kernel_rfl)
            · exact Reg.doesV_val (ev_ldR (A := yA) (n := yn) (c := yc) q0 rfl (by rw [hF]; kernel_rfl)) (by rw [hF]; kernel_rfl) (by rw [hF]; kernel_rfl)
            · exact Reg.doesV_call (rcompareL_c xA yA xn yn xc yc xs ys w' ix.hd.len iy.hd.len ix.hd.max iy.hd.max ix.hd.sl iy.hd.sl) (ev_call enRCompareL rfl (by rw [hF]; kernel_rfl)) (by rw [hF]; kernel_rfl) (by rw [hF]; kernel_rfl)
            · exact Reg.doesV_val (by rw [ev_neIC (cmpL xs ys) 0 rfl (by rw [hF]; kernel_rfl), hC]) (by rw [hF]; kernel_rfl) (by rw [hF]; kernel_rfl)
            · exact Reg.doesV_val (ev_pick false rfl (by rw [hF]; kernel_rfl)) (by rw [hF]; kernel_rfl) (by rw [hF]; kernel_rfl)
          · intro w8 hB
            simp only [Reg.putAll, Act.put, List.setIfInBounds_toArray, List.set_cons_zero, List.set_cons_succ]
            have Hb2 := Lib.hid (hb.out.trans (hB.mono hb.out.size))
            clear hB
            go_wp2
            go_roundw
            case rel => exact ⟨k + 1, by omega, by go_num, Hb2, Hst2⟩
            case measure => simp [intOf]; omega
        · have hC2 : (cmpL xs ys == 0) = false := by simpa using hC
          have Hst2 : Hid (false = R) := by
            have := Hst.out
            simp only [hE, hC2, Bool.true_and, Bool.false_and] at this
            exact Lib.hid this
          clear Hst
          clear hE hC2
          refine Reg.wp_region_vals mixed (by kernel_rfl) [(17, .slice (some ⟨b, off, none⟩) n c), (18, .int .i64 (k : Nat)), (19, .pointer (some ⟨b, off + k * 2, none⟩)), (20, .pointer (some ⟨b, off + k * 2 + 1, none⟩)), (21, .int .i64 N), (22, .slice (some ⟨b', off', none⟩) n d), (23, .int .i64 (k : Nat)), (24, .pointer (some ⟨b', off' + k * 2, none⟩)), (25, .pointer (some ⟨b', off' + k * 2 + 1, none⟩)), (26, .int .i64 M), (27, .bool false), (28, .bool false), (29, .slice (some ⟨b, off, none⟩) n c), (30, .int .i64 (k : Nat)), (31, .pointer (some ⟨b, off + k * 2, none⟩)), (32, .pointer (some ⟨b, off + k * 2, none⟩)), (33, .slice xA xn xc), (34, .slice (some ⟨b', off', none⟩) n d), (35, .int .i64 (k : Nat)), (36, .pointer (some ⟨b', off' + k * 2, none⟩)), (37, .pointer (some ⟨b', off' + k * 2, none⟩)), (38, .slice yA yn yc), (39, .int .i64 (cmpL xs ys)), (40, .bool true), (41, .bool true)] 42 rfl (by kernel_rfl) ?_ ?_
          · intro F hF w' hB
            have j0 := (hB.cell (p := ⟨b, off + k * 2, none⟩) l1).trans d0.out
            have j1 := (hB.cell (p := ⟨b, off + k * 2 + 1, none⟩) l1).trans d1.out
            have q0 := (hB.cell (p := ⟨b', off' + k * 2, none⟩) l2).trans e0.out
            have q1 := (hB.cell (p := ⟨b', off' + k * 2 + 1, none⟩) l2).trans e1.out
            have ix := Hx.out.after hB
            have iy := Hy.out.after hB
            refine ⟨?_, ?_, ?_, ?_, ?_, ?_, ?_, ?_, ?_, ?_, ?_, ?_, ?_, ?_, ?_, ?_, ?_, ?_, ?_, ?_, ?_, ?_, ?_, ?_, ?_, trivial⟩
            · exact Reg.doesV_val (ev_move rfl) (by rw [hF]; kernel_rfl) (by rw [hF]; kernel_rfl)
            · exact Reg.doesV_val (ev_move rfl) (by rw [hF]; kernel_rfl) (by rw [hF]; kernel_rfl)
            · exact Reg.doesV_val (ev_idxC (b := b) (off := off) (n := n) (c := c) (k := k) hlt rfl (by rw [hF]; kernel_rfl) (by rw [hF]; kernel_rfl)) (by rw [hF]; kernel_rfl) (by rw [hF]; kernel_rfl)
            · exact Reg.doesV_val (ev_c1 (b := b) (off := off + k * 2) rfl (by rw [hF]; kernel_rfl)) (by rw [hF]; kernel_rfl) (by rw [hF]; kernel_rfl)
            · exact Reg.doesV_val (ev_ldI (k := N) j1 rfl (by rw [hF]; kernel_rfl)) (by rw [hF]; kernel_rfl) (by rw [hF]; kernel_rfl)
            · exact Reg.doesV_val (ev_move rfl) (by rw [hF]; kernel_rfl) (by rw [hF]; kernel_rfl)
            · exact Reg.doesV_val (ev_move rfl) (by rw [hF]; kernel_rfl) (by rw [hF]; kernel_rfl)
            · exact Reg.doesV_val (ev_idxC (b := b') (off := off') (n := n) (c := d) (k := k) hlt rfl (by rw [hF]; kernel_rfl) (by rw [hF]; kernel_rfl)) (by rw [hF]; kernel_rfl) (by rw [hF]; kernel_rfl)
            · exact Reg.doesV_val (ev_c1 (b := b') (off := off' + k * 2) rfl (by rw [hF]; kernel_rfl)) (by rw [hF]; kernel_rfl) (by rw [hF]; kernel_rfl)
            · exact Reg.doesV_val (ev_ldI (k := M) q1 rfl (by rw [hF]; kernel_rfl)) (by rw [hF]; kernel_rfl) (by rw [hF]; kernel_rfl)
            · exact Reg.doesV_val (by rw [ev_neT5 N M rfl (by rw [hF]; kernel_rfl) (by rw [hF]; kernel_rfl), hNM]) (by rw [hF]; kernel_rfl) (by rw [hF]; kernel_rfl)
            · exact Reg.doesV_val (ev_move rfl) (by rw [hF]; kernel_rfl) (by rw [hF]; kernel_rfl)
            · exact Reg.doesV_val (ev_move rfl) (by rw [hF]; kernel_rfl) (by rw [hF]; kernel_rfl)
            · exact Reg.doesV_val (ev_move rfl) (by rw [hF]; kernel_rfl) (by rw [hF]; kernel_rfl)
            · exact Reg.doesV_val (ev_idxC (b := b) (off := off) (n := n) (c := c) (k := k) hlt rfl (by rw [hF]; kernel_rfl) (by rw [hF]; kernel_rfl)) (by rw [hF]; kernel_rfl) (by rw [hF]; kernel_rfl)
            · exact Reg.doesV_val (ev_c0 (b := b) (off := off + k * 2) rfl (by rw [hF]; kernel_rfl)) (by rw [hF]; kernel_rfl) (by rw [hF]; kernel_rfl)
            · exact Reg.doesV_val (ev_ldR (A := xA) (n := xn) (c := xc) j0 rfl (by rw [hF]; kernel_rfl)) (by rw [hF]; kernel_rfl) (by rw [hF]; kernel_rfl)
            · exact Reg.doesV_val (ev_move rfl) (by rw [hF]; kernel_rfl) (by rw [hF]; kernel_rfl)
            · exact Reg.doesV_val (ev_move rfl) (by rw [hF]; kernel_rfl) (by rw [hF]; kernel_rfl)
            · exact Reg.doesV_val (ev_idxC (b := b') (off := off') (n := n) (c := d) (k := k) hlt rfl (by rw [hF]; kernel_rfl) (by rw [hF]; kernel_rfl)) (by rw [hF]; kernel_rfl) (by rw [hF]; kernel_rfl)
            · exact Reg.doesV_val (ev_c0 (b := b') (off := off' + k * 2) rfl (by rw [hF]; kernel_rfl)) (by rw [hF]; kernel_rfl) (by rw [hF]; kernel_rfl)
            · exact Reg.doesV_val (ev_ldR (A := yA) (n := yn) (c := yc) q0 rfl (by rw [hF]; kernel_rfl)) (by rw [hF]; kernel_rfl) (by rw [hF]; kernel_rfl)
            · exact Reg.doesV_call (rcompareL_c xA yA xn yn xc yc xs ys w' ix.hd.len iy.hd.len ix.hd.max iy.hd.max ix.hd.sl iy.hd.sl) (ev_call enRCompareL rfl (by rw [hF]; kernel_rfl)) (by rw [hF]; kernel_rfl) (by rw [hF]; kernel_rfl)
            · exact Reg.doesV_val (by rw [ev_neIC (cmpL xs ys) 0 rfl (by rw [hF]; kernel_rfl), hC]) (by rw [hF]; kernel_rfl) (by rw [hF]; kernel_rfl)
            · exact Reg.doesV_val (ev_pick false rfl (by rw [hF]; kernel_rfl)) (by rw [hF]; kernel_rfl) (by rw [hF]; kernel_rfl)
          · intro w8 hB
            simp only [Reg.putAll, Act.put, List.setIfInBounds_toArray, List.set_cons_zero, List.set_cons_succ]
            have Hb2 := Lib.hid (hb.out.trans (hB.mono hb.out.size))
            clear hB
            go_wp2
            go_ret
            exact ⟨congrArg (fun z => Ending.returned (Value.bool z)) Hst2.out, Hb2.out⟩
      · have hE : (N == M) = false := by simpa using hNM
        have Hst2 : Hid (false = R) := by
          have := Hst.out
          simp only [hE, Bool.false_and] at this
          exact Lib.hid this
        clear Hst
        clear hE
        refine Reg.wp_region_vals mixed (by kernel_rfl) [(17, .slice (some ⟨b, off, none⟩) n c), (18, .int .i64 (k : Nat)), (19, .pointer (some ⟨b, off + k * 2, none⟩)), (20, .pointer (some ⟨b, off + k * 2 + 1, none⟩)), (21, .int .i64 N), (22, .slice (some ⟨b', off', none⟩) n d), (23, .int .i64 (k : Nat)), (24, .pointer (some ⟨b', off' + k * 2, none⟩)), (25, .pointer (some ⟨b', off' + k * 2 + 1, none⟩)), (26, .int .i64 M), (27, .bool true), (28, .bool true), (29, undef), (30, undef), (31, undef), (32, undef), (33, undef), (34, undef), (35, undef), (36, undef), (37, undef), (38, undef), (39, undef), (40, undef), (41, .bool true)] 42 rfl (by kernel_rfl) ?_ ?_
        · intro F hF w' hB
          have j0 := (hB.cell (p := ⟨b, off + k * 2, none⟩) l1).trans d0.out
          have j1 := (hB.cell (p := ⟨b, off + k * 2 + 1, none⟩) l1).trans d1.out
          have q0 := (hB.cell (p := ⟨b', off' + k * 2, none⟩) l2).trans e0.out
          have q1 := (hB.cell (p := ⟨b', off' + k * 2 + 1, none⟩) l2).trans e1.out
          have ix := Hx.out.after hB
          have iy := Hy.out.after hB
          refine ⟨?_, ?_, ?_, ?_, ?_, ?_, ?_, ?_, ?_, ?_, ?_, ?_, ?_, ?_, ?_, ?_, ?_, ?_, ?_, ?_, ?_, ?_, ?_, ?_, ?_, trivial⟩
          · exact Reg.doesV_val (ev_move rfl) (by rw [hF]; kernel_rfl) (by rw [hF]; kernel_rfl)
          · exact Reg.doesV_val (ev_move rfl) (by rw [hF]; kernel_rfl) (by rw [hF]; kernel_rfl)
          · exact Reg.doesV_val (ev_idxC (b := b) (off := off) (n := n) (c := c) (k := k) hlt rfl (by rw [hF]; kernel_rfl) (by rw [hF]; kernel_rfl)) (by rw [hF]; kernel_rfl) (by rw [hF]; kernel_rfl)
          · exact Reg.doesV_val (ev_c1 (b := b) (off := off + k * 2) rfl (by rw [hF]; kernel_rfl)) (by rw [hF]; kernel_rfl) (by rw [hF]; kernel_rfl)
          · exact Reg.doesV_val (ev_ldI (k := N) j1 rfl (by rw [hF]; kernel_rfl)) (by rw [hF]; kernel_rfl) (by rw [hF]; kernel_rfl)
          · exact Reg.doesV_val (ev_move rfl) (by rw [hF]; kernel_rfl) (by rw [hF]; kernel_rfl)
          · exact Reg.doesV_val (ev_move rfl) (by rw [hF]; kernel_rfl) (by rw [hF]; kernel_rfl)
          · exact Reg.doesV_val (ev_idxC (b := b') (off := off') (n := n) (c := d) (k := k) hlt rfl (by rw [hF]; kernel_rfl) (by rw [hF]; kernel_rfl)) (by rw [hF]; kernel_rfl) (by rw [hF]; kernel_rfl)
          · exact Reg.doesV_val (ev_c1 (b := b') (off := off' + k * 2) rfl (by rw [hF]; kernel_rfl)) (by rw [hF]; kernel_rfl) (by rw [hF]; kernel_rfl)
          · exact Reg.doesV_val (ev_ldI (k := M) q1 rfl (by rw [hF]; kernel_rfl)) (by rw [hF]; kernel_rfl) (by rw [hF]; kernel_rfl)
          · exact Reg.doesV_val (by rw [ev_neT5 N M rfl (by rw [hF]; kernel_rfl) (by rw [hF]; kernel_rfl), hNM]) (by rw [hF]; kernel_rfl) (by rw [hF]; kernel_rfl)
          · exact Reg.doesV_val (ev_move rfl) (by rw [hF]; kernel_rfl) (by rw [hF]; kernel_rfl)
          · exact Reg.doesV_skip (by rw [hF]; kernel_rfl) (by rw [hF]; kernel_rfl)
          · exact Reg.doesV_skip (by rw [hF]; kernel_rfl) (by rw [hF]; kernel_rfl)
          · exact Reg.doesV_skip (by rw [hF]; kernel_rfl) (by rw [hF]; kernel_rfl)
          · exact Reg.doesV_skip (by rw [hF]; kernel_rfl) (by rw [hF]; kernel_rfl)
          · exact Reg.doesV_skip (by rw [hF]; kernel_rfl) (by rw [hF]; kernel_rfl)
          · exact Reg.doesV_skip (by rw [hF]; kernel_rfl) (by rw [hF]; kernel_rfl)
          · exact Reg.doesV_skip (by rw [hF]; kernel_rfl) (by rw [hF]; kernel_rfl)
          · exact Reg.doesV_skip (by rw [hF]; kernel_rfl) (by rw [hF]; kernel_rfl)
          · exact Reg.doesV_skip (by rw [hF]; kernel_rfl) (by rw [hF]; kernel_rfl)
          · exact Reg.doesV_skip (by rw [hF]; kernel_rfl) (by rw [hF]; kernel_rfl)
          · exact Reg.doesV_skip (by rw [hF]; kernel_rfl) (by rw [hF]; kernel_rfl)
          · exact Reg.doesV_skip (by rw [hF]; kernel_rfl) (by rw [hF]; kernel_rfl)
          · exact Reg.doesV_val (ev_pick true rfl (by rw [hF]; kernel_rfl)) (by rw [hF]; kernel_rfl) (by rw [hF]; kernel_rfl)
        · intro w8 hB
          simp only [Reg.putAll, Act.put, List.setIfInBounds_toArray, List.set_cons_zero, List.set_cons_succ]
          have Hb2 := Lib.hid (hb.out.trans (hB.mono hb.out.size))
          clear hB
          go_wp2
          go_ret
          exact ⟨congrArg (fun z => Ending.returned (Value.bool z)) Hst2.out, Hb2.out⟩
    · obtain rfl : k = n := by omega
      have Hst' : Hid (true = R) := by
        have := hinv.out
        rw [show (pl cs).drop k = [] from List.drop_eq_nil_of_le (by rw [pl_len, HA.out.len]; omega), show (pl ds).drop k = [] from List.drop_eq_nil_of_le (by rw [pl_len, HB.out.len]; omega)] at this
        exact Lib.hid this
      clear hinv
      go_wp2
      go_ret
      exact ⟨congrArg (fun z => Ending.returned (Value.bool z)) Hst'.out, hb.out⟩
end Go.Proofs.YthgoflaphbigbaaGreatDoor
