/-
  The bag of rows, as the document has it: of at most 1000 rows. In new memory, or nothing.
-/
import Derived.Test.YthgoflaphbigbaaDoorBgIn5
namespace Go.Proofs.YthgoflaphbigbaaDoor
open Go Go.RowKit
set_option maxRecDepth 100000

set_option maxHeartbeats 4000000 in
theorem rofB_c (A : Option Addr) (n c : Nat) (hs : List Hd) (w : World) (hl : hs.length = n) (hn : n ≤ 1000) (hsl : SlG w A 1 rdH hs) (hin : ∀ h ∈ hs, Ct.In w ⟨h, 1⟩) :
    Calls Tryd.prog 12 #[.slice A n c] w fun e w' => ∃ A' n' c' cs', e = .returned (.slice A' n' c') ∧ Below w.heap.size w w' ∧ BgIn w' A' n' cs' ∧ pl cs' = ofR (hs.map (·.xs)) := by
  have Hl := Lib.hid hl
  have Hs := Lib.hid hsl
  have Hi := Lib.hid hin
  clear hl hsl hin
  obtain ⟨L, hL⟩ : ∃ L, hs.map (·.xs) = L := ⟨_, rfl⟩
  rw [hL]
  have HL := Lib.hid hL
  clear hL
  go_enter Tryd.func12, Tryd.ntmps12
  go_wp2_with fail
  go_loopw [3, 4] (fun v i wr => ∃ (k : Nat) (A' : Option Addr) (n' c' : Nat) (cs' : List Ct), k ≤ n ∧ i = .int .i64 k ∧ v = .slice A' n' c' ∧ Hid (Below w.heap.size w wr) ∧ Hid (BgIn wr A' n' cs') ∧ Hid (pl cs' = bothB [] ((L.map fun r => (r, (1 : Int))).take k)) ∧ Hid (Bd k (pl cs')) ∧ Hid (n' ≤ k) ∧ Hid (L.all mayR = (L.drop k).all mayR)) (fun _ i _ => n - (intOf i).toNat)
  case atStart => exact ⟨0, some ⟨w.heap.size, 0, none⟩, 0, 0, [], Nat.zero_le _, rfl, rfl, Lib.hid (below_one _ _), Lib.hid (BgIn.empty _ _), Lib.hid rfl, Lib.hid nofun, Lib.hid (Nat.le_refl _), Lib.hid rfl⟩
  case round =>
    obtain ⟨k, A', n', c', cs', hk, rfl, rfl, hb, hI, he, hd, hm, hall⟩ := hrel
    by_cases hlt : k < n
    · obtain ⟨b, off, x, rfl, hblt, hx, c0⟩ := Hs.out.at1 (by rw [Hl.out]; exact hlt)
      have d0 := (hb.out.cell (p := ⟨b, off + k, none⟩) hblt).trans (c0 _ rfl)
      have l0 : b < wr.heap.size := Nat.lt_of_lt_of_le hblt hb.out.size
      have Hx := Lib.hid ((Hi.out x (List.mem_of_getElem? hx)).after hb.out)
      have hLk : L[k]? = some x.xs := by rw [← HL.out]; exact xs_at hx
      have hst := hall.out.trans (all_dropG mayR L k x.xs hLk)
      have Hst := Lib.hid hst
      have HLk : Hid ((L.map fun r => (r, (1 : Int)))[k]? = some (x.xs, 1)) := Lib.hid (by rw [List.getElem?_map, hLk]; rfl)
      have Has : Hid (Asc (pl cs')) := Lib.hid (by rw [he.out]; exact asc_both _ _ List.Pairwise.nil)
      have H64 : Hid (∀ y ∈ cs', -9223372036854775808 ≤ 1 + y.N ∧ 1 + y.N ≤ 9223372036854775807) := Lib.hid fun y hy => by
        have h1 := hd.out _ (pl_mem hy)
        simp only [] at h1
        omega
      have Hn' : Hid (n' ≤ 100000) := Lib.hid (by have := hm.out; omega)
      clear hx c0 hblt hLk hst hall
      obtain ⟨xA, xn, xc, xs⟩ := x
      have HM := Lib.hid (rmayRow_c xA xn xc xs wr Hx.out.hd.len Hx.out.hd.max Hx.out.hd.sl Hx.out.sz)
      go_wp2_with fail
      refine HM.out.mono ?_
      rintro e w1 ⟨rfl, hb1⟩
      rw [rmay_mayR]
      have d0 := (hb1.cell (p := ⟨b, off + k, none⟩) l0).trans d0
      have l0 : b < w1.heap.size := Nat.lt_of_lt_of_le l0 hb1.size
      have HI1 := Lib.hid (hI.out.after hb1)
      have Hx1 := Lib.hid (Hx.out.after hb1)
      have Hb1 := Lib.hid (hb.out.trans (hb1.mono hb.out.size))
      clear hb1 HM hb hI Hx
      cases hy : mayR xs
      · have Hno : Hid (ofR L = []) := Lib.hid (by
          have := Hst.out
          simp only [hy, Bool.false_and] at this
          unfold ofR
          rw [this]
          rfl)
        clear Hst
        go_wp2
        go_ret
        exact ⟨none, 0, 0, [], rfl, Hb1.out, BgIn.none _, Hno.out.symm⟩
      · have Hst2 : Hid (L.all mayR = (L.drop (k + 1)).all mayR) := Lib.hid (by
          have := Hst.out
          simp only [hy, Bool.true_and] at this
          exact this)
        clear Hst
        go_wp2_with fail
        refine (radd_c A' n' c' cs' ⟨xA, xn, xc, xs⟩ 1 w1 HI1.out Hx1.out Has.out Hn'.out H64.out).mono ?_
        rintro en w2 ⟨A2, n2, c2, cs2, rfl, hb2, hI2, he2⟩
        have Hb2 := Lib.hid (Hb1.out.trans (hb2.mono Hb1.out.size))
        have HI2 := Lib.hid hI2
        have He2 := Lib.hid he2
        clear hb2 hI2 he2
        go_wp2
        go_roundw
        case rel =>
          refine ⟨k + 1, A2, n2, c2, cs2, by omega, by go_num, rfl, Hb2, HI2, Lib.hid ?_, Lib.hid ?_, Lib.hid ?_, Hst2⟩
          · rw [He2.out, he.out, both_take _ _ k _ HLk.out]
          · rw [He2.out]
            have h1 := bd_add (pl cs') xs 1 k 1 hd.out (by omega) (by omega) (by omega)
            rw [show ((k + 1 : Nat) : Int) = k + 1 by omega]
            exact h1
          · have h1 := len_add (pl cs') xs 1
            rw [← He2.out, pl_len, pl_len, HI2.out.len, HI1.out.len] at h1
            have := hm.out
            omega
        case measure => simp [intOf]; omega
    · obtain rfl : k = n := by omega
      have He : Hid (pl cs' = ofR L) := Lib.hid (by
        have h1 := he.out
        have h2 := hall.out
        have h3 : L.length = k := by rw [← HL.out, List.length_map, Hl.out]
        rw [List.take_of_length_le (by rw [List.length_map, h3]; exact Nat.le_refl _)] at h1
        rw [List.drop_eq_nil_of_le (by rw [h3]; exact Nat.le_refl _), List.all_nil] at h2
        unfold ofR
        rw [h2, if_pos rfl, h1]
        rfl)
      clear he hall
      go_wp2
      go_ret
      exact ⟨A', n', c', cs', rfl, hb.out, hI.out, He.out⟩
end Go.Proofs.YthgoflaphbigbaaDoor
