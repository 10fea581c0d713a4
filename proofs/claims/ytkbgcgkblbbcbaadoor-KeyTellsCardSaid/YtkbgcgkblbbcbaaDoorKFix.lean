/-
  The calls whose answers the document fixes, of layer 2: they are answered so, in every world.
-/
import Derived.Test.YtkbgcgkblbbcbaaDoorDecL
import Derived.Test.YtkbgcgkblbbcbaaDoorRCmp
namespace Go.Proofs.YtkbgcgkblbbcbaaDoor
open Go Go.RowKit

/-- What the program needs to know of the world. -/
abbrev Mx (w : World) (m : Int) : Prop := w.cell? ⟨0, 0, none⟩ = some (.int .i64 m)
theorem Mx.lt {w : World} {m : Int} (h : Mx w m) : 0 < w.heap.size := World.block_lt_of_cell? _ _ h
theorem Mx.after {w w' : World} {m : Int} (h : Mx w m) (hb : Below w.heap.size w w') : Mx w' m := (hb.cell (p := ⟨0, 0, none⟩) h.lt).trans h

theorem enc_tf : encode [tt, ff] = [2, 1, 2, 0] := by
  have h1 : mayB tt = true := may_of_valid _ (.inr (.inl ⟨rfl, .inr rfl, rfl⟩))
  have h2 : mayB ff = true := may_of_valid _ (.inr (.inl ⟨rfl, .inl rfl, rfl⟩))
  unfold encode
  simp only [List.all_cons, List.all_nil, h1, h2]
  rfl
theorem enc_nl : encode [nl] = [1] := by
  have h1 : mayB nl = true := may_of_valid _ (.inl ⟨rfl, rfl, rfl⟩)
  unfold encode
  simp only [List.all_cons, List.all_nil, h1]
  rfl
def bad : Val := ⟨0, 1, emp⟩
theorem enc_bad : encode [bad] = [] := by
  have h1 : mayB bad = false := by
    cases h : mayB bad
    · rfl
    · rcases valid_of_may _ h with ⟨_, hn, _⟩ | ⟨hk, _⟩ | ⟨hk, _⟩ | ⟨hk, _⟩
      · exact absurd hn (by decide)
      · exact absurd hk (by decide)
      · exact absurd hk (by decide)
      · exact absurd hk (by decide)
  unfold encode
  simp only [List.all_cons, h1]
  rfl
theorem chk_valid (x : Val) (r : List UInt8) (h : Valid x) : chk x r = some (x, r) := by
  unfold chk
  rw [may_of_valid x h]
  rfl
theorem dec_tf : decL [2, 1, 2, 0] = some [tt, ff] := by
  have h1 : cut1 [2, 1, 2, 0] = some (tt, [2, 0]) := chk_valid tt [2, 0] (.inr (.inl ⟨rfl, .inr rfl, rfl⟩))
  have h2 : cut1 [2, 0] = some (ff, []) := chk_valid ff [] (.inr (.inl ⟨rfl, .inl rfl, rfl⟩))
  rw [decL_some _ _ _ h1, decL_some _ _ _ h2]
  rfl
theorem dec_25 : decL [2, 5] = none := by
  refine decL_none _ (by simp) ?_
  show chk ⟨1, 5, emp⟩ [] = none
  unfold chk
  have h1 : mayB ⟨1, 5, emp⟩ = false := by
    cases h : mayB ⟨1, 5, emp⟩
    · rfl
    · rcases valid_of_may _ h with ⟨hk, _, _⟩ | ⟨_, hn, _⟩ | ⟨hk, _⟩ | ⟨hk, _⟩
      · exact absurd hk (by decide)
      · rcases hn with hn | hn <;> exact absurd hn (by decide)
      · exact absurd hk (by decide)
      · exact absurd hk (by decide)
  rw [h1]
  rfl
theorem cmpV_self (x : Val) : cmpV x x = 0 := by
  have hs : ∀ l : List UInt8, Lib.compareBytes l l = 0 := by
    intro l
    induction l with
    | nil => rfl
    | cons a l ih =>
      have h : ¬ a < a := by rw [UInt8.lt_iff_toNat_lt]; omega
      rw [Lib.compareBytes, if_neg h, if_neg h]; exact ih
  unfold cmpV
  rw [bne_self_eq_false, bne_self_eq_false]
  exact hs _
theorem cmpL_self : ∀ l : List Val, cmpL l l = 0
  | [] => rfl
  | x :: l => by rw [cmpL, cmpV_self]; exact cmpL_self l
theorem cmp_tf1 : cmpL [tt, ff] [tt] = 1 := by
  rw [cmpL, cmpV_self]; rfl
theorem Sl.new1 (w : World) (x : Val) : Sl (w.alloc (.cells #[.int .i64 x.k, .int .i64 x.n, .string x.s] 32)) (some ⟨w.heap.size, 0, none⟩) [x] := by
  have bx := Bx.new w x
  refine .inr ⟨w.heap.size, 0, rfl, by simp, fun i a ha => ?_⟩
  match i, ha with
  | 0, ha => simp at ha; subst ha; exact ⟨bx.cell0, bx.cell1, bx.cell2⟩
  | i + 1, ha => simp at ha
theorem Sl.take {w : World} {A : Option Addr} {xs : List Val} (h : Sl w A xs) (k : Nat) : Sl w A (xs.take k) := by
  rcases h with rfl | ⟨b, off, hA, hlt, h⟩
  · exact .inl (by simp)
  · refine .inr ⟨b, off, hA, hlt, fun i a ha => h i a ?_⟩
    rw [List.getElem?_take] at ha
    split at ha
    · exact ha
    · cases ha
theorem two_ok {x y : Val} (hx : x.s.size ≤ 1000) (hy : y.s.size ≤ 1000) : ∀ z ∈ [x, y], z.s.size ≤ 1000 := by
  intro z hz
  simp at hz
  rcases hz with rfl | rfl
  · exact hx
  · exact hy
theorem small_one (x : Val) (hs : x.s.size ≤ 1000) (hi : In64 x) : (∀ z ∈ [x], z.s.size ≤ 1000) ∧ ∀ z ∈ [x], In64 z := by
  refine ⟨fun z hz => ?_, fun z hz => ?_⟩
  · simp at hz; rw [hz]; exact hs
  · simp at hz; rw [hz]; exact hi
theorem small_tf : (∀ z ∈ [tt, ff], z.s.size ≤ 1000) ∧ ∀ z ∈ [tt, ff], In64 z := by
  refine ⟨two_ok (by decide) (by decide), fun z hz => ?_⟩
  simp at hz
  rcases hz with rfl | rfl <;> exact ⟨by decide, by decide⟩

set_option maxHeartbeats 4000000 in
theorem fixed_c (m : Int) (w : World) (hm : Mx w m) : Calls Tryd.prog 9 #[] w fun e w' => e = .returned (.bool true) ∧ Below w.heap.size w w' := by
  have Hm := Lib.hid hm
  clear hm
  go_enter Tryd.func9, Tryd.ntmps9
  go_wp2_with fail
  have Hsl : Hid (Sl (w.alloc (.cells (cells2 tt ff) 32)) (some ⟨w.heap.size, 0, none⟩) [tt, ff]) := Sl.new2 w tt ff
  have hb := below_one w (.cells (cells2 tt ff) 32)
  have Hm1 : Hid (Mx (w.alloc (.cells (cells2 tt ff) 32)) m) := Hm.out.after hb
  refine (encode_c (some ⟨w.heap.size, 0, none⟩) m 2 2 [tt, ff] (w.alloc (.cells (cells2 tt ff) 32)) rfl (by omega) Hsl.out small_tf.1 small_tf.2 Hm1.out).mono ?_
  generalize w.alloc (.cells (cells2 tt ff) 32) = w1 at hb Hsl Hm1 ⊢
  rintro e w2 ⟨rfl, hb2⟩
  rw [enc_tf]
  have Hsl2 : Hid (Sl w2 (some ⟨w.heap.size, 0, none⟩) [tt, ff]) := Hsl.out.after hb2
  have Hm2 : Hid (Mx w2 m) := Hm1.out.after hb2
  have hbw2 := hb.trans (hb2.mono hb.size)
  clear hb hb2 Hsl Hm1
  go_wp2_with fail
  refine (decode_c _ w2 (by show (4 : Nat) ≤ 500000; omega)).mono ?_
  rintro e w3 ⟨hb3, A, n, c, rfl, hn, _, hsl⟩
  have e1 : decL (⟨[2, 1, 2, 0].toArray⟩ : ByteArray).data.toList = some [tt, ff] := dec_tf
  rw [e1] at hn hsl ⊢
  obtain rfl : 2 = n := hn
  have Hsl3 : Hid (Sl w3 (some ⟨w.heap.size, 0, none⟩) [tt, ff]) := Hsl2.out.after hb3
  have Hm3 : Hid (Mx w3 m) := Hm2.out.after hb3
  have hbw3 := hbw2.trans (hb3.mono hbw2.size)
  have Hd3 : Hid (Sl w3 A [tt, ff]) := hsl
  clear hb3 Hsl2 Hm2 hsl e1 hbw2
  go_wp2_with fail
  refine (decode_c _ w3 (by show (2 : Nat) ≤ 500000; omega)).mono ?_
  rintro e w4 ⟨hb4, A', n', c', rfl, hn', _, hsl'⟩
  have e1 : decL (⟨#[2, 5]⟩ : ByteArray).data.toList = none := dec_25
  rw [e1] at hn' hsl' ⊢
  obtain rfl : 0 = n' := hn'
  have Hsl4 : Hid (Sl w4 (some ⟨w.heap.size, 0, none⟩) [tt, ff]) := Hsl3.out.after hb4
  have Hm4 : Hid (Mx w4 m) := Hm3.out.after hb4
  have hbw4 := hbw3.trans (hb4.mono hbw3.size)
  have Hd4 : Hid (Sl w4 A [tt, ff]) := Hd3.out.after hb4
  clear hb4 Hsl3 Hm3 hsl' e1 hbw3 Hd3
  go_wp2_with fail
  refine (encode_c (some ⟨w.heap.size, 0, none⟩) m 2 2 [tt, ff] w4 rfl (by omega) Hsl4.out small_tf.1 small_tf.2 Hm4.out).mono ?_
  rintro e w5 ⟨rfl, hb5⟩
  rw [enc_tf]
  have Hsl5 : Hid (Sl w5 (some ⟨w.heap.size, 0, none⟩) [tt, ff]) := Hsl4.out.after hb5
  have Hm5 : Hid (Mx w5 m) := Hm4.out.after hb5
  have hbw5 := hbw4.trans (hb5.mono hbw4.size)
  have Hd5 : Hid (Sl w5 A [tt, ff]) := Hd4.out.after hb5
  clear hb5 Hsl4 Hm4 hbw4 Hd4
  go_wp2_with fail
  have hbx := below_one w5 (.cells #[.int .i64 nl.k, .int .i64 nl.n, .string nl.s] 32)
  have Hnl : Hid (Sl (w5.alloc (.cells #[.int .i64 nl.k, .int .i64 nl.n, .string nl.s] 32)) (some ⟨w5.heap.size, 0, none⟩) [nl]) := Sl.new1 w5 nl
  refine (encode_c (some ⟨w5.heap.size, 0, none⟩) m 1 1 [nl] (w5.alloc (.cells #[.int .i64 nl.k, .int .i64 nl.n, .string nl.s] 32)) rfl (by omega) Hnl.out (small_one nl (by decide) ⟨by decide, by decide⟩).1 (small_one nl (by decide) ⟨by decide, by decide⟩).2 (Hm5.out.after hbx)).mono ?_
  rintro e w6 ⟨rfl, hb6⟩
  rw [enc_nl]
  have hb56 : Below w5.heap.size w5 w6 := hbx.trans (hb6.mono (by simp))
  have Hsl6 : Hid (Sl w6 (some ⟨w.heap.size, 0, none⟩) [tt, ff]) := Hsl5.out.after hb56
  have Hm6 : Hid (Mx w6 m) := Hm5.out.after hb56
  have hbw6 := hbw5.trans (hb56.mono hbw5.size)
  have Hd6 : Hid (Sl w6 A [tt, ff]) := Hd5.out.after hb56
  clear hb56 hb6 hbx Hnl Hsl5 Hm5 hbw5 Hd5
  go_wp2_with fail
  refine (same_c (some ⟨w.heap.size, 0, none⟩) A 2 2 2 c [tt, ff] [tt, ff] w6 rfl rfl (by unfold maxLen; omega) (by unfold maxLen; omega) Hsl6.out Hd6.out).mono ?_
  rintro e w7 ⟨rfl, hb7⟩
  rw [cmpL_self]
  have Hsl7 : Hid (Sl w7 (some ⟨w.heap.size, 0, none⟩) [tt, ff]) := Hsl6.out.after hb7
  have Hm7 : Hid (Mx w7 m) := Hm6.out.after hb7
  have hbw7 := hbw6.trans (hb7.mono hbw6.size)
  clear hb7 Hsl6 Hm6 hbw6 Hd6
  go_wp2_with fail
  refine (compareL_c (some ⟨w.heap.size, 0, none⟩) (some ⟨w.heap.size, 0, none⟩) 2 1 2 2 [tt, ff] [tt] w7 rfl rfl (by unfold maxLen; omega) (by unfold maxLen; omega) Hsl7.out (Hsl7.out.take 1)).mono ?_
  rintro e w8 ⟨rfl, hb8⟩
  rw [cmp_tf1]
  have Hm8 : Hid (Mx w8 m) := Hm7.out.after hb8
  have hbw8 := hbw7.trans (hb8.mono hbw7.size)
  clear hb8 Hsl7 Hm7 hbw7
  go_wp2_with fail
  have hbx := below_one w8 (.cells #[.int .i64 bad.k, .int .i64 bad.n, .string bad.s] 32)
  have Hnl : Hid (Sl (w8.alloc (.cells #[.int .i64 bad.k, .int .i64 bad.n, .string bad.s] 32)) (some ⟨w8.heap.size, 0, none⟩) [bad]) := Sl.new1 w8 bad
  refine (encode_c (some ⟨w8.heap.size, 0, none⟩) m 1 1 [bad] (w8.alloc (.cells #[.int .i64 bad.k, .int .i64 bad.n, .string bad.s] 32)) rfl (by omega) Hnl.out (small_one bad (by decide) ⟨by decide, by decide⟩).1 (small_one bad (by decide) ⟨by decide, by decide⟩).2 (Hm8.out.after hbx)).mono ?_
  rintro e w9 ⟨rfl, hb9⟩
  rw [enc_bad]
  have hb89 : Below w8.heap.size w8 w9 := hbx.trans (hb9.mono (by simp))
  have hbw9 := hbw8.trans (hb89.mono hbw8.size)
  clear hb89 hb9 hbx Hnl Hm8 hbw8
  go_wp2
  go_ret
  exact ⟨rfl, hbw9⟩
end Go.Proofs.YtkbgcgkblbbcbaaDoor
