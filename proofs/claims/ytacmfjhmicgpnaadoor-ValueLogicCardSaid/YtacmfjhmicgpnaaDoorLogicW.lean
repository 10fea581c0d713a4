/-
  The law ValueLogic, walked: for every list of values and every bool it answers true, and turns nothing that was there.
-/
import Derived.Test.YtacmfjhmicgpnaaDoorFix
namespace Go.Proofs.YtacmfjhmicgpnaaDoor
open Go Go.RowKit
attribute [local go_sem ↓] run_eqV run_neV

/-- A list of more than a hundred. -/
theorem logic_long (A : Option Addr) (n c : Nat) (bb : Bool) (m : Int) (w : World) (hn : 100 < n) (hmax : n ≤ maxLen) (hm : w.cell? ⟨0, 0, none⟩ = some (.int .i64 m)) :
    Calls Tryd.prog 3 #[.slice A n c, .bool bb] w fun e w' => e = .returned (.bool true) ∧ Below w.heap.size w w' := by
  unfold maxLen at hmax
  have Hm := Lib.hid hm
  clear hm
  go_enter Tryd.func3, Tryd.ntmps3
  go_wp2_with fail
  refine (fixed_c m _ Hm.out).mono ?_
  rintro e w1 ⟨rfl, hb1⟩
  go_wp2
  go_ret
  exact ⟨rfl, hb1⟩

/-- What stands behind the loop. -/
theorem logic_tail (A : Option Addr) (vs : List Val) (w w1 : World) (m : Int) (hs : Sl w A vs) (hb : Below w.heap.size w w1) (hm : w.cell? ⟨0, 0, none⟩ = some (.int .i64 m)) :
    Sl w1 A vs ∧ w1.cell? ⟨0, 0, none⟩ = some (.int .i64 m) :=
  ⟨hs.after hb, (hb.cell (World.block_lt_of_cell? _ _ hm)).trans hm⟩

set_option maxHeartbeats 1000000 in
theorem logic_some (b off n c : Nat) (bb : Bool) (vs : List Val) (m : Int) (w : World) (hn : vs.length = n) (h100 : n ≤ 100) (hlt : b < w.heap.size)
    (hs : ∀ i (a : Val), vs[i]? = some a → w.cell? ⟨b, off + i * 3, none⟩ = some (.int .i64 a.k) ∧ w.cell? ⟨b, off + i * 3 + 1, none⟩ = some (.int .i64 a.n) ∧ w.cell? ⟨b, off + i * 3 + 2, none⟩ = some (.string a.s))
    (hm : w.cell? ⟨0, 0, none⟩ = some (.int .i64 m)) :
    Calls Tryd.prog 3 #[.slice (some ⟨b, off, none⟩) n c, .bool bb] w fun e w' => e = .returned (.bool true) ∧ Below w.heap.size w w' := by
  have Hsl : Hid (Sl w (some ⟨b, off, none⟩) vs) := .inr ⟨b, off, rfl, hlt, hs⟩
  have Hn := Lib.hid hn
  have Hs := Lib.hid hs
  have Hm := Lib.hid hm
  clear hn hs hm
  go_enter Tryd.func3, Tryd.ntmps3
  go_wp2_with fail
  go_loopw [5] (fun i wr => ∃ k : Nat, k ≤ n ∧ i = .int .i64 k ∧ Below w.heap.size w wr) (fun i _ => n - (intOf i).toNat)
  case atStart => exact ⟨0, Nat.zero_le _, rfl, Below.refl _ _⟩
  case round =>
    obtain ⟨k, hk, rfl, hbr⟩ := hrel
    by_cases hlt' : k < n
    · obtain ⟨v, hv⟩ : ∃ v, vs[k]? = some v := ⟨vs[k]'(by rw [Hn.out]; exact hlt'), List.getElem?_eq_getElem _⟩
      obtain ⟨c0, c1, c2⟩ := Hs.out k v hv
      have d0 : Hid (wr.cell? ⟨b, off + k * 3, none⟩ = some (.int .i64 v.k)) := (hbr.cell (p := ⟨b, off + k * 3, none⟩) hlt).trans c0
      have d1 : Hid (wr.cell? ⟨b, off + k * 3 + 1, none⟩ = some (.int .i64 v.n)) := (hbr.cell (p := ⟨b, off + k * 3 + 1, none⟩) hlt).trans c1
      have d2 : Hid (wr.cell? ⟨b, off + k * 3 + 2, none⟩ = some (.string v.s)) := (hbr.cell (p := ⟨b, off + k * 3 + 2, none⟩) hlt).trans c2
      have hbl : b < wr.heap.size := Nat.lt_of_lt_of_le hlt hbr.size
      clear c0 c1 c2 hv
      go_wp2_with fail
      refine Reg.wp_region_vals mixed (by kernel_rfl) [(16, .slice (some ⟨b, off, none⟩) n c), (17, .int .i64 k), (18, .pointer (some ⟨b, off + k * 3, none⟩)), (19, v.v), (20, (nt v).v), (21, .slice (some ⟨b, off, none⟩) n c), (22, .int .i64 k), (23, .pointer (some ⟨b, off + k * 3, none⟩)), (24, v.v), (25, (nt v).v), (26, .bool false)] 49 rfl (by kernel_rfl) ?_ ?_
      · intro F hF w' hB
        have e0 := (hB.cell (p := ⟨b, off + k * 3, none⟩) hbl).trans d0.out
        have e1 := (hB.cell (p := ⟨b, off + k * 3 + 1, none⟩) hbl).trans d1.out
        have e2 := (hB.cell (p := ⟨b, off + k * 3 + 2, none⟩) hbl).trans d2.out
        refine ⟨?_, ?_, ?_, ?_, ?_, ?_, ?_, ?_, ?_, ?_, ?_, trivial⟩
        · exact Reg.doesV_val (ev_move rfl) (by rw [hF]; kernel_rfl) (by rw [hF]; kernel_rfl)
        · exact Reg.doesV_val (ev_move rfl) (by rw [hF]; kernel_rfl) (by rw [hF]; kernel_rfl)
        · exact Reg.doesV_val (ev_index (b := b) (off := off) (c := c) hlt' rfl (by rw [hF]; kernel_rfl) (by rw [hF]; kernel_rfl)) (by rw [hF]; kernel_rfl) (by rw [hF]; kernel_rfl)
        · exact Reg.doesV_val (ev_load3 e0 e1 e2 rfl (by rw [hF]; kernel_rfl)) (by rw [hF]; kernel_rfl) (by rw [hF]; kernel_rfl)
        · exact Reg.doesV_call (not_c v w') (ev_call enNot rfl (by rw [hF]; kernel_rfl)) (by rw [hF]; kernel_rfl) (by rw [hF]; kernel_rfl)
        · exact Reg.doesV_val (ev_move rfl) (by rw [hF]; kernel_rfl) (by rw [hF]; kernel_rfl)
        · exact Reg.doesV_val (ev_move rfl) (by rw [hF]; kernel_rfl) (by rw [hF]; kernel_rfl)
        · exact Reg.doesV_val (ev_index (b := b) (off := off) (c := c) hlt' rfl (by rw [hF]; kernel_rfl) (by rw [hF]; kernel_rfl)) (by rw [hF]; kernel_rfl) (by rw [hF]; kernel_rfl)
        · exact Reg.doesV_val (ev_load3 e0 e1 e2 rfl (by rw [hF]; kernel_rfl)) (by rw [hF]; kernel_rfl) (by rw [hF]; kernel_rfl)
        · exact Reg.doesV_call (rnot_c v w') (ev_call enRNot rfl (by rw [hF]; kernel_rfl)) (by rw [hF]; kernel_rfl) (by rw [hF]; kernel_rfl)
        · exact Reg.doesV_val (by rw [ev_ne (nt v) (nt v) rfl (by rw [hF]; kernel_rfl) (by rw [hF]; kernel_rfl), Val.eq_self]) (by rw [hF]; kernel_rfl) (by rw [hF]; kernel_rfl)
      · intro w2 hB
        simp only [Reg.putAll, Act.put, List.setIfInBounds_toArray, List.set_cons_zero, List.set_cons_succ]
        have hb2 := hbr.trans (hB.mono hbr.size)
        clear hB hbr hbl
        go_wp2
        go_roundw
        case rel => exact ⟨k + 1, by omega, by go_num, hb2⟩
        case measure => simp [intOf]; omega
    · go_wp2_with fail
      obtain ⟨s1, m1⟩ := logic_tail _ vs w wr m Hsl.out hbr Hm.out
      have S1 := Lib.hid s1
      have M1 := Lib.hid m1
      clear s1 m1
      refine (fixed_c m _ M1.out).mono ?_
      rintro e w1 ⟨rfl, hb1⟩
      have S2 : Hid (Sl w1 (some ⟨b, off, none⟩) vs) := S1.out.after hb1
      have hbw1 := hbr.trans (hb1.mono hbr.size)
      clear hb1 S1 M1
      go_wp2_with fail
      refine (and_c _ n c vs w1 Hn.out (by unfold maxLen; omega) S2.out).mono ?_
      rintro e w2 ⟨rfl, hb2⟩
      have S3 : Hid (Sl w2 (some ⟨b, off, none⟩) vs) := S2.out.after hb2
      have hbw2 := hbw1.trans (hb2.mono hbw1.size)
      clear hb2 S2 hbw1
      go_wp2_with fail
      refine (rand_c _ n c vs w2 Hn.out (by unfold maxLen; omega) S3.out).mono ?_
      rintro e w3 ⟨rfl, hb3⟩
      rw [rand_and]
      have S4 : Hid (Sl w3 (some ⟨b, off, none⟩) vs) := S3.out.after hb3
      have hbw3 := hbw2.trans (hb3.mono hbw2.size)
      clear hb3 S3 hbw2
      have q1 := Val.eq_self (andV vs)
      go_wp2_with fail
      refine (or_c _ n c vs w3 Hn.out (by unfold maxLen; omega) S4.out).mono ?_
      rintro e w4 ⟨rfl, hb4⟩
      have S5 : Hid (Sl w4 (some ⟨b, off, none⟩) vs) := S4.out.after hb4
      have hbw4 := hbw3.trans (hb4.mono hbw3.size)
      clear hb4 S4 hbw3
      go_wp2_with fail
      refine (ror_c _ n c vs w4 Hn.out (by unfold maxLen; omega) S5.out).mono ?_
      rintro e w5 ⟨rfl, hb5⟩
      rw [ror_or]
      have hbw5 := hbw4.trans (hb5.mono hbw4.size)
      clear hb5 S5 hbw4
      have q2 := Val.eq_self (orV vs)
      go_wp2_with fail
      refine (truth_c bb _).mono ?_
      rintro e w6 ⟨rfl, hb6⟩
      have hbw6 := hbw5.trans (hb6.mono hbw5.size)
      clear hb6 hbw5
      go_wp2_with fail
      refine (rtruth_c bb _).mono ?_
      rintro e w7 ⟨rfl, hb7⟩
      have hbw7 := hbw6.trans (hb7.mono hbw6.size)
      clear hb7 hbw6
      have q3 := Val.eq_self (tv bb)
      go_wp2
      go_ret
      exact ⟨rfl, hbw7⟩

set_option maxHeartbeats 1000000 in
theorem logic_nil (A : Option Addr) (c : Nat) (bb : Bool) (m : Int) (w : World) (hm : w.cell? ⟨0, 0, none⟩ = some (.int .i64 m)) :
    Calls Tryd.prog 3 #[.slice A 0 c, .bool bb] w fun e w' => e = .returned (.bool true) ∧ Below w.heap.size w w' := by
  have Hm := Lib.hid hm
  clear hm
  go_enter Tryd.func3, Tryd.ntmps3
  go_wp2_with fail
  refine wp_loop_rounds 1 ?_
  rw [rounds_succ]
  go_wp2_with fail
  obtain ⟨s1, m1⟩ := logic_tail A [] w w m (.inl rfl) (Below.refl _ _) Hm.out
  have S1 := Lib.hid s1
  have M1 := Lib.hid m1
  clear s1 m1
  refine (fixed_c m _ M1.out).mono ?_
  rintro e w1 ⟨rfl, hb1⟩
  have S2 : Hid (Sl w1 A []) := S1.out.after hb1
  have hbw1 := hb1
  clear hb1 S1 M1
  go_wp2_with fail
  refine (and_c _ 0 c [] w1 rfl (Nat.zero_le _) S2.out).mono ?_
  rintro e w2 ⟨rfl, hb2⟩
  have S3 : Hid (Sl w2 A []) := S2.out.after hb2
  have hbw2 := hbw1.trans (hb2.mono hbw1.size)
  clear hb2 S2 hbw1
  go_wp2_with fail
  refine (rand_c _ 0 c [] w2 rfl (Nat.zero_le _) S3.out).mono ?_
  rintro e w3 ⟨rfl, hb3⟩
  rw [rand_and]
  have S4 : Hid (Sl w3 A []) := S3.out.after hb3
  have hbw3 := hbw2.trans (hb3.mono hbw2.size)
  clear hb3 S3 hbw2
  have q1 := Val.eq_self (andV [])
  go_wp2_with fail
  refine (or_c _ 0 c [] w3 rfl (Nat.zero_le _) S4.out).mono ?_
  rintro e w4 ⟨rfl, hb4⟩
  have S5 : Hid (Sl w4 A []) := S4.out.after hb4
  have hbw4 := hbw3.trans (hb4.mono hbw3.size)
  clear hb4 S4 hbw3
  go_wp2_with fail
  refine (ror_c _ 0 c [] w4 rfl (Nat.zero_le _) S5.out).mono ?_
  rintro e w5 ⟨rfl, hb5⟩
  rw [ror_or]
  have hbw5 := hbw4.trans (hb5.mono hbw4.size)
  clear hb5 S5 hbw4
  have q2 := Val.eq_self (orV [])
  go_wp2_with fail
  refine (truth_c bb _).mono ?_
  rintro e w6 ⟨rfl, hb6⟩
  have hbw6 := hbw5.trans (hb6.mono hbw5.size)
  clear hb6 hbw5
  go_wp2_with fail
  refine (rtruth_c bb _).mono ?_
  rintro e w7 ⟨rfl, hb7⟩
  have hbw7 := hbw6.trans (hb7.mono hbw6.size)
  clear hb7 hbw6
  have q3 := Val.eq_self (tv bb)
  go_wp2
  go_ret
  exact ⟨rfl, hbw7⟩

theorem logic_c (A : Option Addr) (n c : Nat) (bb : Bool) (vs : List Val) (m : Int) (w : World) (hn : vs.length = n) (hmax : n ≤ maxLen) (hs : Sl w A vs) (hm : w.cell? ⟨0, 0, none⟩ = some (.int .i64 m)) :
    Calls Tryd.prog 3 #[.slice A n c, .bool bb] w fun e w' => e = .returned (.bool true) ∧ Below w.heap.size w w' := by
  by_cases h : 100 < n
  · exact logic_long A n c bb m w h hmax hm
  · rcases hs with rfl | ⟨b, off, rfl, hlt, hs⟩
    · obtain rfl : n = 0 := hn.symm
      exact logic_nil A c bb m w hm
    · exact logic_some b off n c bb vs m w hn (by omega) hlt hs hm
end Go.Proofs.YtacmfjhmicgpnaaDoor
