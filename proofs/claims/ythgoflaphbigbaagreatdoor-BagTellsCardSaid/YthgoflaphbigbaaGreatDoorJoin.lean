/-
  Rows joined, one behind the other: of any rows that together have at most 100000 values. In new memory.
-/
import Derived.Test.YthgoflaphbigbaaGreatDoorHd
namespace Go.Proofs.YthgoflaphbigbaaGreatDoor
open Go Go.RowKit
set_option maxRecDepth 100000

/-- All values, one row behind the other. -/
def joinR (hs : List Hd) : List Val := hs.flatMap (·.xs)
theorem joinR_take (hs : List Hd) (k : Nat) (h : Hd) (hk : hs[k]? = some h) : joinR (hs.take (k + 1)) = joinR (hs.take k) ++ h.xs := by
  unfold joinR
  rw [List.take_add_one, hk]
  simp
theorem joinR_le (hs : List Hd) (k : Nat) : (joinR (hs.take k)).length ≤ (joinR hs).length := by
  have : joinR hs = joinR (hs.take k) ++ joinR (hs.drop k) := by
    unfold joinR
    rw [← List.flatMap_append, List.take_append_drop]
  rw [this, List.length_append]
  omega
set_option maxHeartbeats 1000000 in
theorem join_c (A : Option Addr) (n c : Nat) (hs : List Hd) (w : World) (hn : hs.length = n) (hn1 : n ≤ maxLen) (hsl : SlG w A 1 rdH hs) (hin : ∀ h ∈ hs, Hd.In w h) (htot : (joinR hs).length ≤ 100000) :
    Calls Tryz.prog 38 #[.slice A n c] w fun en w' => ∃ v, en = .returned v ∧ Below w.heap.size w w' ∧ OwnV w' w.heap.size v (joinR hs) := by
  unfold maxLen at hn1
  have Hs := Lib.hid hsl
  have Hn := Lib.hid hn
  have Hi := Lib.hid hin
  have Ht := Lib.hid htot
  clear hsl hn hin htot
  go_enter Tryz.func38, Tryz.ntmps38
  go_wp2_with fail
  go_loopw [3, 8] (fun v i wr => ∃ k : Nat, k ≤ n ∧ i = .int .i64 k ∧ Hid (Below w.heap.size w wr) ∧ Hid (OwnV wr w.heap.size v (joinR (hs.take k)))) (fun _ i _ => n - (intOf i).toNat)
  case atStart => exact ⟨0, Nat.zero_le _, rfl, Below.refl _ _, OwnG.nil _ _ _⟩
  case round =>
    obtain ⟨k, hk, rfl, hb, ho⟩ := hrel
    obtain ⟨A2, c2, hv⟩ := ho.out.isSlice
    obtain ⟨L, hL⟩ : ∃ L, (joinR (hs.take k)).length = L := ⟨_, rfl⟩
    rw [hL] at hv
    subst hv
    have HL := Lib.hid hL
    clear hL
    by_cases hlt : k < n
    · obtain ⟨b, off, h, rfl, hblt, hh, c0⟩ := Hs.out.at1 (by rw [Hn.out]; exact hlt)
      have d0 := (hb.out.cell (p := ⟨b, off + k, none⟩) hblt).trans (c0 _ rfl)
      have l0 : b < wr.heap.size := Nat.lt_of_lt_of_le hblt hb.out.size
      have hin2 := (Hi.out h (List.mem_of_getElem? hh)).after hb.out
      have hj := joinR_take hs k h hh
      have hle := joinR_le hs (k + 1)
      have hle2 := Ht.out
      rw [hj, List.length_append, HL.out] at hle
      obtain ⟨hA, hn', hc', hxs⟩ := h
      simp only [] at hle hj
      have e1 := hin2.len
      have e2 := hin2.sl
      simp only [] at e1 e2
      have HLL := Lib.hid (show L + hxs.length ≤ 100000 by omega)
      have Hj := Lib.hid hj
      have E1 := Lib.hid e1
      have E2 := Lib.hid e2
      clear hin2 hj hle hle2 c0 hh e1 e2 hblt
      go_wp2_with (at_builtin; go_must (
        refine wpList_appG vOk rfl (.tmp 12) (.tmp 13) rfl w.heap.size _ (joinR (hs.take k)) hxs hA hn' hc' rfl ho.out rfl E1.out (Sl.slG E2.out) (by have := HLL.out; rw [HL.out]; unfold maxLen; omega) (by have := HLL.out; rw [HL.out]; omega) hb.out.size ?_
        intro v3 w3 hv3 hg3
        rw [← Hj.out] at hv3
        have Hv3 := Lib.hid hv3
        have Hb3 := Lib.hid (hb.out.grown hg3 hb.out.size (fun k hk => (ho.out.lt k hk).1))
        clear hv3 hg3))
      go_roundw
      case rel => exact ⟨k + 1, by omega, by go_num, Hb3, Hv3⟩
      case measure => simp [intOf]; omega
    · obtain rfl : k = n := by omega
      have ho2 := ho.out
      rw [show hs.take k = hs from List.take_of_length_le (by rw [Hn.out]; omega)] at ho2
      have Ho2 := Lib.hid ho2
      clear ho2
      go_wp2_with fail
      go_ret
      exact ⟨_, rfl, hb.out, Ho2.out⟩
end Go.Proofs.YthgoflaphbigbaaGreatDoor
