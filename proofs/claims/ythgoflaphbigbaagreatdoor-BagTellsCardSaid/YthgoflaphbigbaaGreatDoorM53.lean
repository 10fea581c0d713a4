/-
  How often a row is there, bags together, a bag turned round, and its rows, as the document has them; each part says what it proves, and of what.
-/
import Derived.Test.YthgoflaphbigbaaGreatDoorSame5
import Derived.Test.YthgoflaphbigbaaGreatDoorBothD5
import Derived.Test.YthgoflaphbigbaaGreatDoorPlusD5
import Derived.Test.YthgoflaphbigbaaGreatDoorNegD5
import Derived.Test.YthgoflaphbigbaaGreatDoorRowsD5
/-
  How often a row is in a bag, as the document has it. Of all bags.
-/
namespace Go.Proofs.YthgoflaphbigbaaGreatDoor
open Go Go.RowKit
set_option maxRecDepth 100000

set_option maxHeartbeats 2000000 in
theorem rgetB_c (A : Option Addr) (n c : Nat) (cs : List Ct) (r : Hd) (w : World) (hB : BgIn w A n cs) (hr : Hd.In w r) :
    Calls Tryz.prog 10 #[.slice A n c, .slice r.A r.n r.c] w fun e w' => e = .returned (.int .i64 (getB (pl cs) r.xs)) ∧ Below w.heap.size w w' := by
  obtain ⟨R, hR⟩ : ∃ R, getB (pl cs) r.xs = R := ⟨_, rfl⟩
  rw [hR]
  have HR := Lib.hid hR
  have HB := Lib.hid hB
  have Hr := Lib.hid hr
  have hmx : n ≤ 9223372036854775807 := hB.max
  clear hB hR hr
  go_enter Tryz.func10, Tryz.ntmps10
  go_wp2_with fail
  go_loopw [5] (fun i wr => ∃ k : Nat, k ≤ n ∧ i = .int .i64 k ∧ Hid (Below w.heap.size w wr) ∧ Hid ((if mayBag (pl cs) then lookB ((pl cs).drop k) r.xs else 0) = R)) (fun i _ => n - (intOf i).toNat)
  case atStart => exact ⟨0, Nat.zero_le _, rfl, Lib.hid (Below.refl _ _), HR⟩
  case round =>
    obtain ⟨k, hk, rfl, hb, hinv⟩ := hrel
    clear HR
    by_cases hlt : k < n
    · have hlt' : (k : Int) < n := by omega
      go_wp2_with fail
      refine (rmayBag_c A n c cs wr (HB.out.after hb.out)).mono ?_
      rintro e w1 ⟨rfl, hb1⟩
      have Hb1 := Lib.hid (hb.out.trans (hb1.mono hb.out.size))
      clear hb1 hb
      cases hM : mayBag (pl cs)
      · have Hst' : Hid (0 = R) := by
          have := hinv.out
          rw [hM, if_neg (by decide)] at this
          exact Lib.hid this
        clear hinv
        go_wp2
        go_ret
        exact ⟨congrArg (fun z => Ending.returned (Value.int .i64 z)) Hst'.out, Hb1.out⟩
      · obtain ⟨b, off, x, rfl, hblt, hx, c0, c1⟩ := HB.out.sl.at2 (k := k) (by rw [HB.out.len]; exact hlt)
        have d0 := (Hb1.out.cell (p := ⟨b, off + k * 2, none⟩) hblt).trans c0
        have d1 := (Hb1.out.cell (p := ⟨b, off + k * 2 + 1, none⟩) hblt).trans c1
        have l1 : b < w1.heap.size := Nat.lt_of_lt_of_le hblt Hb1.out.size
        have Hx := Lib.hid ((HB.out.each x (List.mem_of_getElem? hx)).after Hb1.out)
        have hst := hinv.out
        rw [hM, if_pos rfl, lookB_drop _ _ k _ (pl_at hx)] at hst
        have Hst := Lib.hid hst
        have HM := Lib.hid hM
        clear hx c0 c1 hblt hinv hst hM
        go_wp2_with fail
        refine (rcompareL_c x.h.A r.A x.h.n r.n x.h.c r.c x.h.xs r.xs w1 Hx.out.hd.len Hr.out.len Hx.out.hd.max Hr.out.max Hx.out.hd.sl (Hr.out.after Hb1.out).sl).mono ?_
        rintro e w2 ⟨rfl, hb2⟩
        have d1 := (hb2.cell (p := ⟨b, off + k * 2 + 1, none⟩) l1).trans d1
        have l1 : b < w2.heap.size := Nat.lt_of_lt_of_le l1 hb2.size
        have Hb2 := Lib.hid (Hb1.out.trans (hb2.mono Hb1.out.size))
        clear hb2 Hb1 d0
        cases hc : cmpL x.h.xs r.xs == 0
        · have Hst' : Hid ((if mayBag (pl cs) then lookB ((pl cs).drop (k + 1)) r.xs else 0) = R) := by
            have := Hst.out
            rw [if_neg (by simpa using hc)] at this
            rw [HM.out, if_pos rfl]
            exact Lib.hid this
          clear Hst HM
          go_wp2
          go_roundw
          case rel => exact ⟨k + 1, by omega, by go_num, Hb2, Hst'⟩
          case measure => simp [intOf]; omega
        · have Hst' : Hid (x.N = R) := by
            have := Hst.out
            rw [if_pos (by simpa using hc)] at this
            exact Lib.hid this
          clear Hst HM
          go_wp2
          go_ret
          exact ⟨congrArg (fun z => Ending.returned (Value.int .i64 z)) Hst'.out, Hb2.out⟩
    · obtain rfl : k = n := by omega
      have Hst' : Hid (0 = R) := by
        have := hinv.out
        rw [show (pl cs).drop k = [] from List.drop_eq_nil_of_le (by rw [pl_len, HB.out.len]; omega)] at this
        rw [← this]
        exact Lib.hid (by unfold lookB; simp)
      clear hinv
      go_wp2
      go_ret
      exact ⟨congrArg (fun z => Ending.returned (Value.int .i64 z)) Hst'.out, hb.out⟩
end Go.Proofs.YthgoflaphbigbaaGreatDoor
/-
  Two bags together, as the document has it: of bags of at most 100000 rows together, whose counts are not too large. In new memory, or the first one.
-/
namespace Go.Proofs.YthgoflaphbigbaaGreatDoor
open Go Go.RowKit
set_option maxRecDepth 100000
set_option maxHeartbeats 4000000 in
theorem rboth_c (A B : Option Addr) (n m c d : Nat) (cs ds : List Ct) (P : Int) (w : World) (hA : BgIn w A n cs) (hB : BgIn w B m ds) (ha : Asc (pl cs)) (hn : n + m ≤ 100000) (h0 : 0 ≤ P) (hP : Bd P (pl cs)) (hQ : Bd 1000000000 (pl ds)) (hs : P + m * 1000000000 ≤ 9000000000000000000) :
    Calls Tryz.prog 37 #[.slice A n c, .slice B m d] w fun e w' => ∃ A' n' c' cs', e = .returned (.slice A' n' c') ∧ Below w.heap.size w w' ∧ BgIn w' A' n' cs' ∧ pl cs' = bothB (pl cs) (pl ds) ∧ Bd (P + m * 1000000000) (pl cs') ∧ n' ≤ n + m := by
  have HA := Lib.hid hA
  have HB := Lib.hid hB
  have Ha := Lib.hid ha
  have HP := Lib.hid hP
  have HQ := Lib.hid hQ
  have Hs := Lib.hid hs
  have H0 := Lib.hid h0
  clear hA hB ha hP hQ hs h0
  go_enter Tryz.func37, Tryz.ntmps37
  go_wp2_with fail
  go_loopw [0, 5] (fun v i wr => ∃ (k : Nat) (A' : Option Addr) (n' c' : Nat) (cs' : List Ct), k ≤ m ∧ i = .int .i64 k ∧ v = .slice A' n' c' ∧ Hid (Below w.heap.size w wr) ∧ Hid (BgIn wr A' n' cs') ∧ Hid (pl cs' = bothB (pl cs) ((pl ds).take k)) ∧ Hid (Bd (P + k * 1000000000) (pl cs')) ∧ Hid (n' ≤ n + k)) (fun _ i _ => m - (intOf i).toNat)
  case atStart => exact ⟨0, A, n, c, cs, Nat.zero_le _, rfl, rfl, Lib.hid (Below.refl _ _), HA, Lib.hid rfl, Lib.hid (by simpa using HP.out), Lib.hid (Nat.le_refl _)⟩
  case round =>
    obtain ⟨k, A', n', c', cs', hk, rfl, rfl, hb, hI, he, hd, hl⟩ := hrel
    by_cases hlt : k < m
    · obtain ⟨b, off, x, rfl, hblt, hx, c0, c1⟩ := HB.out.sl.at2 (k := k) (by rw [HB.out.len]; exact hlt)
      have d0 := (hb.out.cell (p := ⟨b, off + k * 2, none⟩) hblt).trans c0
      have d1 := (hb.out.cell (p := ⟨b, off + k * 2 + 1, none⟩) hblt).trans c1
      have l0 : b < wr.heap.size := Nat.lt_of_lt_of_le hblt hb.out.size
      have Hi := Lib.hid ((HB.out.each x (List.mem_of_getElem? hx)).after hb.out)
      have hq := HQ.out _ (pl_mem (List.mem_of_getElem? hx))
      simp only [] at hq
      have Hq := Lib.hid hq
      have Hx := Lib.hid (pl_at hx)
      have Has : Hid (Asc (pl cs')) := Lib.hid (by rw [he.out]; exact asc_both _ _ Ha.out)
      have H64 : Hid (∀ y ∈ cs', -9223372036854775808 ≤ x.N + y.N ∧ x.N + y.N ≤ 9223372036854775807) := Lib.hid fun y hy => by
        have h1 := hd.out _ (pl_mem hy)
        have h2 := Hs.out
        simp only [] at h1
        omega
      have Hn' : Hid (n' ≤ 100000) := Lib.hid (by have := hl.out; omega)
      have HS : Hid (∀ w' : World, Below w.heap.size w w' → w'.cell? ⟨b, off + k * 2, none⟩ = some (.slice x.h.A x.h.n x.h.c) ∧ w'.cell? ⟨b, off + k * 2 + 1, none⟩ = some (.int .i64 x.N)) := Lib.hid fun w' hb' => ⟨(hb'.cell hblt).trans c0, (hb'.cell hblt).trans c1⟩
      clear hx c0 c1 hblt hq
      obtain ⟨⟨xA, xn, xc, xs⟩, N⟩ := x
      simp only [] at d0 d1
      have hlt' : (k : Int) < m := by omega
      go_wp2_with fail
      go_region_held3 (fun w' => w'.cell? ⟨b, off + k * 2, none⟩ = some (.slice xA xn xc) ∧ w'.cell? ⟨b, off + k * 2 + 1, none⟩ = some (.int .i64 N)) (first | exact HS.out _ Hb2.out | go_keep)
        (first
          | (go_at_call 54
             refine (radd_c A' n' c' cs' ⟨xA, xn, xc, xs⟩ N _ (hI.out.after (Below.refl _ _).drew) (Hi.out.after (Below.refl _ _).drew) Has.out Hn'.out H64.out).mono ?_
             rintro en w2 ⟨A2, n2, c2, cs2, rfl, hb2, hI2, he2⟩
             have Hb2 := Lib.hid (hb.out.trans ((below_via (Below.refl _ _).drew hb2).mono hb.out.size))
             have HI2 := Lib.hid hI2
             have He2 := Lib.hid he2
             clear hb2 hI2 he2))
      go_wp2
      go_roundw
      case rel =>
        refine ⟨k + 1, A2, n2, c2, cs2, by omega, by go_num, rfl, Hb2, HI2, Lib.hid ?_, Lib.hid ?_, Lib.hid ?_⟩
        · rw [He2.out, he.out, both_take _ _ k _ Hx.out]
        · rw [He2.out]
          have h1 := bd_add (pl cs') xs N (P + k * 1000000000) 1000000000 hd.out (by have := H0.out; omega) Hq.out.1 Hq.out.2
          rw [show P + ((k + 1 : Nat) : Int) * 1000000000 = P + k * 1000000000 + 1000000000 by omega]
          exact h1
        · have h1 := len_add (pl cs') xs N
          rw [← He2.out, pl_len, pl_len, HI2.out.len, hI.out.len] at h1
          have := hl.out
          omega
      case measure => simp [intOf]; omega
    · obtain rfl : k = m := by omega
      have He : Hid (pl cs' = bothB (pl cs) (pl ds)) := Lib.hid (by
        have := he.out
        rw [List.take_of_length_le (by rw [pl_len, HB.out.len]; exact Nat.le_refl _)] at this
        exact this)
      clear he
      go_wp2
      go_ret
      exact ⟨A', n', c', cs', rfl, hb.out, hI.out, He.out, hd.out, hl.out⟩
end Go.Proofs.YthgoflaphbigbaaGreatDoor
/-
  Bags together, as the document has it: of at most 1000 bags, of at most 100000 rows together. In new memory, or nothing.
-/
namespace Go.Proofs.YthgoflaphbigbaaGreatDoor
open Go Go.RowKit
set_option maxRecDepth 100000
set_option maxHeartbeats 4000000 in
theorem rplusB_c (A : Option Addr) (n c : Nat) (bs : List Bh) (w : World) (hl : bs.length = n) (hn : n ≤ 1000) (hsl : SlG w A 1 rdBh bs) (hin : ∀ b ∈ bs, Bh.In w b) (ht : totB bs ≤ 100000) :
    Calls Tryz.prog 13 #[.slice A n c] w fun e w' => ∃ A' n' c' cs', e = .returned (.slice A' n' c') ∧ Below w.heap.size w w' ∧ BgIn w' A' n' cs' ∧ pl cs' = plusR (bs.map fun b => pl b.cs) := by
  have Hl := Lib.hid hl
  have Hs := Lib.hid hsl
  have Hi := Lib.hid hin
  have Ht := Lib.hid ht
  clear hl hsl hin ht
  obtain ⟨L, hL⟩ : ∃ L, (bs.map fun b => pl b.cs) = L := ⟨_, rfl⟩
  rw [hL]
  have HL := Lib.hid hL
  clear hL
  go_enter Tryz.func13, Tryz.ntmps13
  go_wp2_with fail
  go_loopw [3, 4] (fun v i wr => ∃ (k : Nat) (A' : Option Addr) (n' c' : Nat) (cs' : List Ct), k ≤ n ∧ i = .int .i64 k ∧ v = .slice A' n' c' ∧ Hid (Below w.heap.size w wr) ∧ Hid (BgIn wr A' n' cs') ∧ Hid (pl cs' = plusL (L.take k)) ∧ Hid (Bd (totB (bs.take k) * 1000000000) (pl cs')) ∧ Hid (n' ≤ totB (bs.take k)) ∧ Hid (L.all mayBag = (L.drop k).all mayBag)) (fun _ i _ => n - (intOf i).toNat)
  case atStart => exact ⟨0, some ⟨w.heap.size, 0, none⟩, 0, 0, [], Nat.zero_le _, rfl, rfl, Lib.hid (below_one _ _), Lib.hid (BgIn.empty _ _), Lib.hid rfl, Lib.hid nofun, Lib.hid (Nat.zero_le _), Lib.hid rfl⟩
  case round =>
    obtain ⟨k, A', n', c', cs', hk, rfl, rfl, hb, hI, he, hd, hm, hall⟩ := hrel
    by_cases hlt : k < n
    · obtain ⟨b, off, x, rfl, hblt, hx, c0⟩ := Hs.out.at1 (by rw [Hl.out]; exact hlt)
      have d0 := (hb.out.cell (p := ⟨b, off + k, none⟩) hblt).trans (c0 _ rfl)
      have l0 : b < wr.heap.size := Nat.lt_of_lt_of_le hblt hb.out.size
      have hxi : BgIn wr x.A x.n x.cs := BgIn.after (Hi.out x (List.mem_of_getElem? hx)) hb.out
      have Hx := Lib.hid hxi
      have hLk : L[k]? = some (pl x.cs) := by rw [← HL.out, List.getElem?_map, hx]; rfl
      have Hst := Lib.hid (hall.out.trans (all_dropG mayBag L k _ hLk))
      have HLk := Lib.hid hLk
      have htk := totB_take bs k x hx
      have htl := totB_le bs (k + 1)
      have htt := Ht.out
      have Hn' : Hid (n' + x.n ≤ 100000) := Lib.hid (by have := hm.out; omega)
      have Htk := Lib.hid htk
      have Hb9 : Hid ((totB (bs.take k) : Int) * 1000000000 + x.n * 1000000000 ≤ 9000000000000000000) := Lib.hid (by omega)
      have Has : Hid (Asc (pl cs')) := Lib.hid (by rw [he.out]; exact asc_plusL _)
      clear hx c0 hblt hLk hall htk htl htt hxi
      obtain ⟨xA, xn, xc, xs⟩ := x
      simp only [] at *
      have HM := Lib.hid (rmayBag_c xA xn xc xs wr Hx.out)
      go_wp2_with fail
      refine HM.out.mono ?_
      rintro e w1 ⟨rfl, hb1⟩
      have d0 := (hb1.cell (p := ⟨b, off + k, none⟩) l0).trans d0
      have l0 : b < w1.heap.size := Nat.lt_of_lt_of_le l0 hb1.size
      have HI1 := Lib.hid (hI.out.after hb1)
      have Hx1 := Lib.hid (Hx.out.after hb1)
      have Hb1 := Lib.hid (hb.out.trans (hb1.mono hb.out.size))
      clear hb1 HM hb hI Hx
      cases hy : mayBag (pl xs)
      · have Hno : Hid (plusR L = []) := Lib.hid (by
          have := Hst.out
          simp only [hy, Bool.false_and] at this
          unfold plusR
          rw [this]
          rfl)
        clear Hst
        go_wp2
        go_ret
        exact ⟨none, 0, 0, [], rfl, Hb1.out, BgIn.none _, Hno.out.symm⟩
      · have Hst2 : Hid (L.all mayBag = (L.drop (k + 1)).all mayBag) := Lib.hid (by
          have := Hst.out
          simp only [hy, Bool.true_and] at this
          exact this)
        clear Hst
        go_wp2_with fail
        refine (rboth_c A' xA n' xn c' xc cs' xs (totB (bs.take k) * 1000000000) w1 HI1.out Hx1.out Has.out Hn'.out (by omega) hd.out (bd_may hy) Hb9.out).mono ?_
        rintro en w2 ⟨A2, n2, c2, cs2, rfl, hb2, hI2, he2, hd2, hm2⟩
        have Hb2 := Lib.hid (Hb1.out.trans (hb2.mono Hb1.out.size))
        have HI2 := Lib.hid hI2
        have He2 := Lib.hid he2
        have Hd2 := Lib.hid hd2
        have Hm2 := Lib.hid hm2
        clear hb2 hI2 he2 hd2 hm2
        go_wp2
        go_roundw
        case rel =>
          refine ⟨k + 1, A2, n2, c2, cs2, by omega, by go_num, rfl, Hb2, HI2, Lib.hid ?_, Lib.hid ?_, Lib.hid ?_, Hst2⟩
          · rw [He2.out, he.out, plus_take _ k _ HLk.out]
          · have h1 := Hd2.out
            rw [show (totB (bs.take k) : Int) * 1000000000 + xn * 1000000000 = (totB (bs.take (k + 1)) : Int) * 1000000000 by rw [Htk.out]; omega] at h1
            exact h1
          · have h1 := Hm2.out
            have h2 := hm.out
            rw [Htk.out]
            omega
        case measure => simp [intOf]; omega
    · obtain rfl : k = n := by omega
      have h3 : L.length = k := by rw [← HL.out, List.length_map, Hl.out]
      have He : Hid (pl cs' = plusL L) := Lib.hid (by
        have h1 := he.out
        rw [List.take_of_length_le (by rw [h3]; exact Nat.le_refl _)] at h1
        exact h1)
      have Hall : Hid (L.all mayBag = true) := Lib.hid (by
        have h2 := hall.out
        rw [List.drop_eq_nil_of_le (by rw [h3]; exact Nat.le_refl _), List.all_nil] at h2
        exact h2)
      clear he hall h3
      have HM := Lib.hid (rmayBag_c A' n' c' cs' wr hI.out)
      go_wp2_with fail
      refine HM.out.mono ?_
      rintro e w1 ⟨rfl, hb1⟩
      have HI1 := Lib.hid (hI.out.after hb1)
      have Hb1 := Lib.hid (hb.out.trans (hb1.mono hb.out.size))
      clear hb1 HM hb hI
      cases hy : mayBag (pl cs')
      · have Hno : Hid (plusR L = []) := Lib.hid (by
          rw [He.out] at hy
          unfold plusR
          rw [hy, Bool.and_false]
          rfl)
        go_wp2
        go_ret
        exact ⟨none, 0, 0, [], rfl, Hb1.out, BgIn.none _, Hno.out.symm⟩
      · have Hyes : Hid (pl cs' = plusR L) := Lib.hid (by
          rw [He.out] at hy
          unfold plusR
          rw [hy, Hall.out, Bool.and_true, if_pos rfl, He.out])
        go_wp2
        go_ret
        exact ⟨A', n', c', cs', rfl, Hb1.out, HI1.out, Hyes.out⟩
end Go.Proofs.YthgoflaphbigbaaGreatDoor
/-
  A bag turned round, as the document has it: of at most 100000 rows. In new memory.
-/
namespace Go.Proofs.YthgoflaphbigbaaGreatDoor
open Go Go.RowKit
set_option maxRecDepth 100000
set_option maxHeartbeats 4000000 in
theorem rnegB_c (A : Option Addr) (n c : Nat) (cs : List Ct) (w : World) (hB : BgIn w A n cs) (hn : n ≤ 100000) :
    Calls Tryz.prog 15 #[.slice A n c] w fun e w' => ∃ A' n' c' cs', e = .returned (.slice A' n' c') ∧ Below w.heap.size w w' ∧ BgIn w' A' n' cs' ∧ pl cs' = negR (pl cs) := by
  have HB := Lib.hid hB
  clear hB
  go_enter Tryz.func15, Tryz.ntmps15
  go_wp2_with fail
  go_loopw [3, 4] (fun v i wr => ∃ (k : Nat) (A' : Option Addr) (c' : Nat), k ≤ n ∧ i = .int .i64 k ∧ v = .slice A' k c' ∧ Hid (Below w.heap.size w wr) ∧ Hid (OwnG wr w.heap.size 36 2 rdC (.slice A' k c') ((cs.take k).map negC)) ∧ Hid (k = 0 ∨ mayBag (pl cs) = true)) (fun _ i _ => n - (intOf i).toNat)
  case atStart => exact ⟨0, some ⟨w.heap.size, 0, none⟩, 0, Nat.zero_le _, rfl, rfl, Lib.hid (below_one _ _), Lib.hid (OwnG.made w w.heap.size _ #[] 0 (Nat.le_refl _) (Nat.zero_le _) rfl), Lib.hid (.inl rfl)⟩
  case round =>
    obtain ⟨k, A', c', hk, rfl, rfl, hb, ho, hm⟩ := hrel
    by_cases hlt : k < n
    · have hlt' : (k : Int) < n := by omega
      have HM := Lib.hid (rmayBag_c A n c cs wr (HB.out.after hb.out))
      go_wp2_with fail
      refine HM.out.mono ?_
      rintro e w1 ⟨rfl, hb1⟩
      have Ho1 := Lib.hid (ho.out.after hb1)
      have Hb1 := Lib.hid (hb.out.trans (hb1.mono hb.out.size))
      clear hb1 hb HM ho
      cases hM : mayBag (pl cs)
      · have hk0 : k = 0 := by
          rcases hm.out with h | h
          · exact h
          · rw [hM] at h; cases h
        subst hk0
        have Hno : Hid (negR (pl cs) = []) := Lib.hid (by unfold negR; rw [hM]; rfl)
        obtain ⟨A3, c3, e3, _, _, hs3⟩ := Ho1.out.sl cOk.len
        injection e3 with e3 e4 e5
        subst e3
        have Hs3 := Lib.hid hs3
        clear hs3 e4 e5 hm
        go_wp2
        go_ret
        exact ⟨A', 0, c', [], rfl, Hb1.out, ⟨rfl, Nat.zero_le _, Hs3.out, nofun⟩, Hno.out.symm⟩
      · obtain ⟨b, off, x, rfl, hblt, hx, c0, c1⟩ := HB.out.sl.at2 (k := k) (by rw [HB.out.len]; exact hlt)
        have d0 := (Hb1.out.cell (p := ⟨b, off + k * 2, none⟩) hblt).trans c0
        have d1 := (Hb1.out.cell (p := ⟨b, off + k * 2 + 1, none⟩) hblt).trans c1
        have l0 : b < w1.heap.size := Nat.lt_of_lt_of_le hblt Hb1.out.size
        have hq := bd_may hM _ (pl_mem (List.mem_of_getElem? hx))
        simp only [] at hq
        have hw : IntKind.i64.wrap (-x.N) = -x.N := by rw [IntKind.wrap_i64]; omega
        have Hnt := Lib.hid (neg_take cs k x hx)
        have HS : Hid (∀ w' : World, Below w.heap.size w w' → w'.cell? ⟨b, off + k * 2, none⟩ = some (.slice x.h.A x.h.n x.h.c) ∧ w'.cell? ⟨b, off + k * 2 + 1, none⟩ = some (.int .i64 x.N)) := Lib.hid fun w' hb' => ⟨(hb'.cell hblt).trans c0, (hb'.cell hblt).trans c1⟩
        have HLk : Hid (((cs.take k).map negC).length = k) := Lib.hid (by rw [List.length_map, List.length_take, HB.out.len]; omega)
        have HM2 := Lib.hid hM
        clear hx c0 c1 hblt hq hM hm
        obtain ⟨⟨xA, xn, xc, xs⟩, N⟩ := x
        simp only [] at d0 d1 hw
        go_wp2_with fail
        go_region_held3 (fun w' => w'.cell? ⟨b, off + k * 2, none⟩ = some (.slice xA xn xc) ∧ w'.cell? ⟨b, off + k * 2 + 1, none⟩ = some (.int .i64 N)) (first | exact HS.out _ Hb2.out | go_keep)
          (first
            | (refine step_appA cOk (by rfl) (.tmp 16) (.tmp 29) (by rfl) w.heap.size (.slice A' k c') ((cs.take k).map negC) [negC ⟨⟨xA, xn, xc, xs⟩, N⟩] (by rfl) (Ho1.out.after ((Below.refl _ _).drew.alloc (Nat.le_refl _) _)) (some ⟨w1.heap.size, 0, none⟩) 1 1 (by rfl) rfl (SlG.new cOk.len [negC ⟨⟨xA, xn, xc, xs⟩, N⟩] rfl) (by rw [HLk.out]; simp [maxLen]; omega) (by rw [HLk.out]; simp; omega) (by have := Hb1.out.size; simp; omega) ?_
               intro A2 c2 w2 hv hg
               rw [HLk.out] at hv ⊢
               rw [← Hnt.out] at hv
               have Hv2 := Lib.hid hv
               have Hb2 := Lib.hid ((Hb1.out.drew.alloc Hb1.out.size _).grown hg (by have := Hb1.out.size; simp; omega) (fun k hk => (Ho1.out.lt k hk).1))
               clear hv hg))
        go_wp2
        go_roundw
        case rel => exact ⟨k + 1, A2, c2, by omega, by go_num, rfl, Hb2, Hv2, Lib.hid (.inr HM2.out)⟩
        case measure => simp [intOf]; omega
    · obtain rfl : k = n := by omega
      have Ht : Hid (cs.take k = cs) := Lib.hid (List.take_of_length_le (by rw [HB.out.len]; exact Nat.le_refl _))
      have Hyes : Hid (pl (cs.map negC) = negR (pl cs)) := Lib.hid (by
        rw [pl_neg]
        unfold negR
        rcases hm.out with h | h
        · have : cs = [] := List.eq_nil_of_length_eq_zero (by rw [HB.out.len, h])
          rw [this]
          rfl
        · rw [h, if_pos rfl])
      obtain ⟨A3, c3, e3, _, _, hs3⟩ := ho.out.sl cOk.len
      injection e3 with e3 e4 e5
      subst e3
      rw [Ht.out] at hs3
      have Hs3 := Lib.hid hs3
      have Heach : Hid (∀ c ∈ cs.map negC, Ct.In w c) := Lib.hid (by
        intro c hc
        obtain ⟨y, hy, rfl⟩ := List.mem_map.1 hc
        have h1 := HB.out.each y hy
        rcases hm.out with h | h
        · have : cs = [] := List.eq_nil_of_length_eq_zero (by rw [HB.out.len, h])
          rw [this] at hy
          cases hy
        · have h2 := bd_may h _ (pl_mem hy)
          simp only [] at h2
          exact ⟨h1.hd, h1.sz, h1.n64, by show -9223372036854775808 ≤ -y.N ∧ -y.N ≤ 9223372036854775807; omega⟩)
      clear hs3 e4 e5 hm
      go_wp2
      go_ret
      exact ⟨A', k, c', cs.map negC, rfl, hb.out, ⟨by rw [List.length_map, HB.out.len], HB.out.max, Hs3.out, fun c hc => (Heach.out c hc).after hb.out⟩, Hyes.out⟩
end Go.Proofs.YthgoflaphbigbaaGreatDoor
/-
  The rows of a bag, as the document has it. Of all bags. In new memory, or nothing.
-/
namespace Go.Proofs.YthgoflaphbigbaaGreatDoor
open Go Go.RowKit
set_option maxRecDepth 100000
set_option maxHeartbeats 8000000 in
theorem rrowsB_c (A : Option Addr) (n c : Nat) (cs : List Ct) (w : World) (hB : BgIn w A n cs) :
    Calls Tryz.prog 19 #[.slice A n c] w fun e w' => ∃ v, e = .returned (.tuple #[v, .bool (rowsOkB (pl cs))]) ∧ RowsSaid w cs (rowsOkB (pl cs)) v w' := by
  have HB := Lib.hid hB
  have hmx : n ≤ 9223372036854775807 := hB.max
  clear hB
  obtain ⟨R, hR⟩ : ∃ R, rowsOkB (pl cs) = R := ⟨_, rfl⟩
  rw [hR]
  have HR := Lib.hid hR
  clear hR
  go_enter Tryz.func19, Tryz.ntmps19
  go_wp2_with fail
  go_loopw [4, 5] (fun v i wr => ∃ (k : Nat) (s : Int), k ≤ n ∧ i = .int .i64 k ∧ v = .int .i64 s ∧ 0 ≤ s ∧ s ≤ 100000 ∧ w = wr ∧ Hid (okFrom s ((pl cs).drop k) = okFrom 0 (pl cs))) (fun _ i _ => n - (intOf i).toNat)
  case atStart => exact ⟨0, 0, Nat.zero_le _, rfl, rfl, by omega, by omega, rfl, Lib.hid rfl⟩
  case round =>
    obtain ⟨k, s, hk, rfl, rfl, hs0, hs1, rfl, hinv⟩ := hrel
    by_cases hlt : k < n
    · obtain ⟨b, off, x, rfl, hblt, hx, d0, d1⟩ := HB.out.sl.at2 (k := k) (by rw [HB.out.len]; exact hlt)
      have hst := hinv.out
      rw [pl_drop hx] at hst
      have Hst := Lib.hid hst
      clear hinv hst hx d0
      obtain ⟨⟨xA, xn, xc, xs⟩, N⟩ := x
      simp only [] at d1
      have hlt' : (k : Int) < n := by omega
      have hno : okFrom 0 (pl cs) = false → R = false := fun h => by
        have := HR.out
        unfold rowsOkB at this
        rw [h, Bool.false_and] at this
        exact this.symm
      have Hno := Lib.hid hno
      clear hno
      rcases Int.lt_or_le N 0 with hN | hN
      · have hRf : R = false := Hno.out (by rw [← Hst.out]; exact okFrom_neg _ _ _ hN)
        subst hRf
        clear Hst
        go_wp2
        go_ret2
        exact ⟨_, rfl, RowsSaid.no (Below.refl _ _)⟩
      · have hst := Hst.out
        rw [okFrom_step _ _ _ hN] at hst
        have Hst2 : Hid (okFrom (s + N) ((pl cs).drop (k + 1)) = okFrom 0 (pl cs)) := Lib.hid hst
        clear hst Hst
        rcases Int.lt_or_le 100000 N with hN2 | hN2
        · have hRf : R = false := Hno.out (by rw [← Hst2.out]; exact okFrom_big _ _ (by omega))
          subst hRf
          clear Hst2
          go_wp2
          go_ret2
          exact ⟨_, rfl, RowsSaid.no (Below.refl _ _)⟩
        · have hw : IntKind.i64.wrap (s + N) = s + N := by rw [IntKind.wrap_i64]; omega
          rcases Int.lt_or_le 100000 (s + N) with hN3 | hN3
          · have hRf : R = false := Hno.out (by rw [← Hst2.out]; exact okFrom_big _ _ hN3)
            subst hRf
            clear Hst2
            go_wp2
            go_ret2
            exact ⟨_, rfl, RowsSaid.no (Below.refl _ _)⟩
          · go_wp2
            go_roundw
            case rel => exact ⟨k + 1, s + N, by omega, by go_num, rfl, by omega, by omega, trivial, Hst2⟩
            case measure => simp [intOf]; omega
    · obtain rfl : k = n := by omega
      have Hok : Hid (okFrom 0 (pl cs) = true) := Lib.hid (by
        rw [← hinv.out, List.drop_eq_nil_of_le (by rw [pl_len, HB.out.len]; exact Nat.le_refl _)]
        unfold okFrom
        rw [List.all_nil, Bool.true_and]
        exact decide_eq_true (by show s + 0 ≤ 100000; omega))
      clear hinv
      have HM := Lib.hid (rmayBag_c A k c cs w HB.out)
      go_wp2_with fail
      refine HM.out.mono ?_
      rintro e w1 ⟨rfl, hb1⟩
      have Hb1 := Lib.hid hb1
      clear hb1 HM
      cases hM : mayBag (pl cs)
      · have hRf : R = false := by
          have := HR.out
          unfold rowsOkB at this
          rw [hM, Bool.and_false] at this
          exact this.symm
        subst hRf
        go_wp2
        go_ret2
        exact ⟨_, rfl, RowsSaid.no Hb1.out⟩
      · have hRt : R = true := by
          have := HR.out
          unfold rowsOkB at this
          rw [hM, Hok.out] at this
          exact this.symm
        subst hRt
        have Htot : Hid ((rowsC cs).length ≤ 100000) := Lib.hid (by
          have h1 := Hok.out
          unfold okFrom at h1
          rw [Bool.and_eq_true, decide_eq_true_eq] at h1
          have h2 := rowsC_len cs h1.1
          omega)
        have Hnn : Hid (∀ y ∈ pl cs, 0 ≤ y.2 ∧ y.2 ≤ 100000) := Lib.hid fun y hy => by
          have h1 := Hok.out
          unfold okFrom at h1
          rw [Bool.and_eq_true, decide_eq_true_eq] at h1
          exact nn_le (pl cs) h1.1 (by omega) y hy
        clear HR Hok
        go_wp2_with fail
        go_loopw [6, 7] (fun v i wr => ∃ (j : Nat), j ≤ k ∧ i = .int .i64 j ∧ Hid (Below w.heap.size w wr) ∧ Hid (OwnG wr w.heap.size 25 1 rdH v (rowsC (cs.take j)))) (fun _ i _ => k - (intOf i).toNat)
        case atStart => exact ⟨0, Nat.zero_le _, rfl, Lib.hid (Hb1.out.trans ((below_one _ _).mono Hb1.out.size)), Lib.hid (OwnG.made w1 w.heap.size _ #[] 0 Hb1.out.size (Nat.zero_le _) rfl)⟩
        case round =>
          obtain ⟨j, hj, rfl, hb, ho⟩ := hrel
          by_cases hlt : j < k
          · obtain ⟨b, off, x, rfl, hblt, hx, c0, c1⟩ := HB.out.sl.at2 (k := j) (by rw [HB.out.len]; exact hlt)
            have Htk := Lib.hid (rowsC_take cs j x hx)
            have hx0 : 0 ≤ x.N ∧ x.N ≤ 100000 := by
              have h1 := Hnn.out _ (pl_mem (List.mem_of_getElem? hx))
              exact h1
            have HS : Hid (∀ w' : World, Below w.heap.size w w' → w'.cell? ⟨b, off + j * 2, none⟩ = some (.slice x.h.A x.h.n x.h.c) ∧ w'.cell? ⟨b, off + j * 2 + 1, none⟩ = some (.int .i64 x.N) ∧ b < w'.heap.size) := Lib.hid fun w' hb' => ⟨(hb'.cell hblt).trans c0, (hb'.cell hblt).trans c1, Nat.lt_of_lt_of_le hblt hb'.size⟩
            have Hle : Hid ((rowsC (cs.take j)).length + x.N.toNat ≤ 100000) := Lib.hid (by
              have h1 := rowsC_le cs (j + 1)
              have h2 := Htot.out
              rw [Htk.out, List.length_append, List.length_replicate] at h1
              omega)
            clear hx c0 c1 hblt
            obtain ⟨⟨xA, xn, xc, xs⟩, N⟩ := x
            simp only [] at hx0
            have hlt' : (j : Int) < k := by omega
            go_wp2_with fail
            go_loopw [6, 8] (fun v i wr => ∃ (q : Nat), (q : Int) ≤ N ∧ i = .int .i64 q ∧ Hid (Below w.heap.size w wr) ∧ Hid (OwnG wr w.heap.size 25 1 rdH v (rowsC (cs.take j) ++ List.replicate q ⟨xA, xn, xc, xs⟩))) (fun _ i _ => N.toNat - (intOf i).toNat)
            case atStart => exact ⟨0, by omega, rfl, hb, Lib.hid (by rw [List.replicate_zero, List.append_nil]; exact ho.out)⟩
            case round =>
              obtain ⟨q, hq, rfl, hb, ho⟩ := hrel
              obtain ⟨d0, d1, l0⟩ := HS.out _ hb.out
              by_cases hqn : (q : Int) < N
              · have HL : Hid ((rowsC (cs.take j) ++ List.replicate q (⟨xA, xn, xc, xs⟩ : Hd)).length + 1 ≤ 100000) := Lib.hid (by
                  have h1 := Hle.out
                  rw [List.length_append, List.length_replicate]
                  omega)
                go_wp2_with (at_builtin; go_must (
                  refine wpList_appG hOk rfl (.tmp 57) (.tmp 63) rfl w.heap.size _ (rowsC (cs.take j) ++ List.replicate q ⟨xA, xn, xc, xs⟩) [⟨xA, xn, xc, xs⟩] (some ⟨wr.heap.size, 0, none⟩) 1 1 rfl (ho.out.alloc _) rfl rfl (SlG.new hOk.len [⟨xA, xn, xc, xs⟩] rfl) (by have := HL.out; simp only [List.length_cons, List.length_nil, maxLen]; omega) (by have := HL.out; simp only [List.length_cons, List.length_nil]; omega) (by have := hb.out.size; simp; omega) ?_
                  intro v2 w2 hv hg
                  rw [List.append_assoc, ← List.replicate_succ'] at hv
                  have Hv2 := Lib.hid hv
                  have Hb2 := Lib.hid ((hb.out.alloc hb.out.size _).grown hg (by have := hb.out.size; simp; omega) (fun k hk => (ho.out.lt k hk).1))
                  clear hv hg))
                go_roundw
                case rel => exact ⟨q + 1, by omega, by go_num, Hb2, Hv2⟩
                case measure => simp [intOf]; omega
              · have hqe : (q : Int) = N := by omega
                have Ho2 := ho.out
                rw [show q = N.toNat by omega, ← Htk.out] at Ho2
                have Ho3 := Lib.hid Ho2
                clear Ho2 Htk Hle ho
                go_wp2
                go_roundw
                case rel => exact ⟨j + 1, by omega, by go_num, hb, Ho3⟩
                case measure => simp [intOf]; omega
          · obtain rfl : j = k := by omega
            have Ho2 := ho.out
            rw [show cs.take j = cs from List.take_of_length_le (by rw [HB.out.len]; exact Nat.le_refl _)] at Ho2
            obtain ⟨A3, c3, rfl, _, _, hs3⟩ := Ho2.sl hOk.len
            have Hs3 := Lib.hid hs3
            clear Ho2 hs3 ho
            obtain ⟨m3, hm3⟩ : ∃ m, (rowsC cs).length = m := ⟨_, rfl⟩
            rw [hm3]
            have Hm3 := Lib.hid hm3
            clear hm3
            go_wp2
            go_ret2
            exact ⟨_, rfl, ⟨⟨A3, m3, c3, rowsC cs, rfl, Hm3.out, by rw [← Hm3.out]; exact Htot.out, Hs3.out, fun h hh => rowsC_mem hh, by rw [rowsC_xs]; rfl⟩, hb.out⟩⟩
end Go.Proofs.YthgoflaphbigbaaGreatDoor
