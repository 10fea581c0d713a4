/-
  The reader of a text: so many bytes of it, and all bytes of some classes. Of texts of at most 1000000 bytes.
-/
import Derived.Test.YtmgmdkagnhmihaaDoorLexA
namespace Go.Proofs.YtmgmdkagnhmihaaDoor
open Go Go.RowKit
set_option maxRecDepth 100000

/-- Block b is a reader, in which l is left. -/
def Rd (w : World) (b : Nat) (l : List UInt8) : Prop := w.heap[b]? = some (.cells #[.string (ba l)] 43 (0, 0))
theorem Rd.cell {w : World} {b : Nat} {l : List UInt8} (h : Rd w b l) : w.cell? ⟨b, 0, none⟩ = some (.string (ba l)) := by unfold Rd at h; simp [World.cell?, h]
theorem Rd.frozen {w : World} {b : Nat} {l : List UInt8} (h : Rd w b l) : w.frozen? ⟨b, 0, none⟩ = false := by unfold Rd at h; simp [World.frozen?, h]
theorem Rd.lt {w : World} {b : Nat} {l : List UInt8} (h : Rd w b l) : b < w.heap.size := by
  rcases Nat.lt_or_ge b w.heap.size with hlt | hge
  · exact hlt
  · unfold Rd at h; rw [Array.getElem?_eq_none hge] at h; cases h
theorem Rd.after {w w' : World} {b : Nat} {l : List UInt8} (h : Rd w b l) (hb : Below w.heap.size w w') : Rd w' b l := (hb.block b h.lt).trans h
theorem Rd.alloc {w : World} {b : Nat} {l : List UInt8} (h : Rd w b l) (o : Obj) : Rd (w.alloc o) b l := h.after (below_one w o)
theorem Rd.set {w : World} {b : Nat} {l : List UInt8} (h : Rd w b l) (r : List UInt8) : Rd (w.setCell ⟨b, 0, none⟩ (.string (ba r))) b r := by
  unfold Rd at *
  simp [World.setCell, Array.getElem?_modify, h]
theorem ba_take (l : List UInt8) (n : Nat) : (ba l).extract 0 n = ba (l.take n) := by
  apply ByteArray.ext
  simp
theorem ba_drop (l : List UInt8) (n : Nat) : (ba l).extract n l.length = ba (l.drop n) := by
  apply ByteArray.ext
  simp
  exact List.take_of_length_le (by simp)
set_option maxHeartbeats 1000000 in
theorem take_c (b n : Nat) (l : List UInt8) (w : World) (hR : Rd w b l) (hn : n ≤ l.length) (_hl : l.length ≤ 1000000) :
    Calls Tryd.prog 31 #[.pointer (some ⟨b, 0, none⟩), .int .i64 n] w fun e w' => e = .returned (.string (ba (l.take n))) ∧ w' = w.setCell ⟨b, 0, none⟩ (.string (ba (l.drop n))) := by
  have h0 := hR.cell
  have hf := hR.frozen
  have hlt := hR.lt
  go_enter Tryd.func31, Tryd.ntmps31
  go_wp2_with fail
  go_ret
  exact ⟨by rw [ba_take]; rfl, by rw [ba_drop]⟩
theorem tw_step (p : UInt8 → Bool) : ∀ (l : List UInt8) (k : Nat) (x : UInt8), k ≤ (l.takeWhile p).length → l[k]? = some x → (p x = true → k + 1 ≤ (l.takeWhile p).length) ∧ (p x = false → k = (l.takeWhile p).length)
  | [], k, x, _, hx => by simp at hx
  | c :: l, 0, x, _, hx => by
    simp at hx
    subst hx
    rw [List.takeWhile_cons]
    constructor
    · intro h; rw [h]; simp
    · intro h; rw [h]; simp
  | c :: l, k + 1, x, hk, hx => by
    rw [List.takeWhile_cons] at hk ⊢
    cases hc : p c
    · rw [hc] at hk; simp at hk
    · rw [hc] at hk
      simp only [if_true, List.length_cons] at hk ⊢
      have := tw_step p l k x (by omega) (by simpa using hx)
      exact ⟨fun h => by have := this.1 h; omega, fun h => by have := this.2 h; omega⟩
theorem tw_take (p : UInt8 → Bool) (l : List UInt8) : l.take (l.takeWhile p).length = l.takeWhile p ∧ l.drop (l.takeWhile p).length = l.dropWhile p := by
  have h := List.takeWhile_append_dropWhile (p := p) (l := l)
  constructor
  · conv => lhs; arg 2; rw [← h]
    rw [List.take_left]
  · conv => lhs; arg 2; rw [← h]
    rw [List.drop_left]
theorem tw_le (p : UInt8 → Bool) (l : List UInt8) : (l.takeWhile p).length ≤ l.length := by
  have := congrArg List.length (List.takeWhile_append_dropWhile (p := p) (l := l))
  rw [List.length_append] at this
  omega
set_option maxHeartbeats 1000000 in
theorem run_c (b cb m c : Nat) (cs : List Int) (l : List UInt8) (w : World) (hR : Rd w b l) (hm : cs.length = m) (hm2 : m ≤ 100) (hcs : ∀ j, j < cs.length → w.cell? ⟨cb, 0 + j, none⟩ = some (.int .i64 (cs.getD j 0))) (hl : l.length ≤ 1000000) :
    Calls Tryd.prog 18 #[.pointer (some ⟨b, 0, none⟩), .slice (some ⟨cb, 0, none⟩) m c] w fun e w' => e = .returned (.string (ba (l.takeWhile (isIn cs)))) ∧ w' = w.setCell ⟨b, 0, none⟩ (.string (ba (l.dropWhile (isIn cs)))) := by
  have h0 := hR.cell
  have hlt := hR.lt
  have HR := Lib.hid hR
  have Hm := Lib.hid hm
  have Hc := Lib.hid hcs
  obtain ⟨h1, h2⟩ := tw_take (isIn cs) l
  have Hle := Lib.hid (tw_le (isIn cs) l)
  have Hst := Lib.hid (tw_step (isIn cs) l)
  generalize (l.takeWhile (isIn cs)) = T at h1 h2 Hle Hst ⊢
  generalize (l.dropWhile (isIn cs)) = D at h2 ⊢
  have H1 := Lib.hid h1
  have H2 := Lib.hid h2
  clear hR hm hcs h1 h2
  go_enter Tryd.func18, Tryd.ntmps18
  go_wp2_with fail
  go_loopw [5] (fun i wr => ∃ k : Nat, k ≤ T.length ∧ i = .int .i64 k ∧ w = wr) (fun i _ => l.length - (intOf i).toNat)
  case atStart => exact ⟨0, Nat.zero_le _, rfl, rfl⟩
  case round =>
    obtain ⟨k, hk, rfl, rfl⟩ := hrel
    have hkl : k ≤ l.length := Nat.le_trans hk Hle.out
    by_cases hlt2 : k < l.length
    · obtain ⟨x, hx⟩ : ∃ x, l[k]? = some x := ⟨_, List.getElem?_eq_getElem hlt2⟩
      have Hx := Lib.hid hx
      have Hk := Lib.hid hk
      have Hg : Hid ((ba l)[k]'(show k < l.toArray.size by simpa using hlt2) = x) := by
        have e := (List.getElem?_eq_some_iff.1 hx).2
        show l.toArray[k]'(by simpa using hlt2) = x
        simpa using e
      clear hx hk
      go_wp2_with fail
      refine (cls_c _ _).mono ?_
      rintro e w1 ⟨rfl, rfl⟩
      rw [Hg.out]
      have hin : isIn cs x = (cs.take m).contains (cls x) := by
        rw [List.take_of_length_le (by rw [Hm.out]; exact Nat.le_refl _)]
        rfl
      have Hin := Lib.hid hin
      clear hin
      generalize cls x = cx at Hin ⊢
      go_wp2_with fail
      refine (Tryd.slices_Contains_int cb 0 m c cs cx _ (by rw [Hm.out]; exact Nat.le_refl _) (by omega) Hc.out).mono ?_
      rintro e w2 ⟨rfl, rfl⟩
      rw [← Hin.out]
      cases hi : isIn cs x
      · have hkT := (Hst.out k x Hk.out Hx.out).2 hi
        have Hkt := Lib.hid hkT
        clear hkT hi
        go_wp2_with fail
        refine (take_c b k l _ HR.out (by omega) hl).mono ?_
        rintro e w3 ⟨rfl, rfl⟩
        go_wp2
        go_ret
        rw [Hkt.out, H1.out, H2.out]
        exact ⟨rfl, rfl⟩
      · have hkT := (Hst.out k x Hk.out Hx.out).1 hi
        have Hkt := Lib.hid hkT
        clear hkT hi
        go_wp2_with fail
        go_roundw
        case rel => exact ⟨k + 1, Hkt.out, by go_num, trivial⟩
        case measure => simp [intOf]; omega
    · have hke : k = l.length := by omega
      have hkT : k = T.length := by have := Hle.out; omega
      have Hkt := Lib.hid hkT
      clear hkT hke hk
      go_wp2_with fail
      refine (take_c b k l _ HR.out (by omega) hl).mono ?_
      rintro e w3 ⟨rfl, rfl⟩
      go_wp2
      go_ret
      rw [Hkt.out, H1.out, H2.out]
      exact ⟨rfl, rfl⟩
end Go.Proofs.YtmgmdkagnhmihaaDoor
