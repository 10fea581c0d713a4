/-
  Part 3 of 11 of what the proof leans on: each part below says what it proves, and of what; no condition besides.
-/
import Derived.Test.YtbpopkgpepmlcaaGreatR01
import Derived.Test.YtbpopkgpepmlcaaGreatR02
import Derived.Deep.RegionHeld3
import Derived.Sort.Grow
set_option linter.unusedVariables false
set_option linter.unusedSimpArgs false
namespace Go.Proofs.YtbpopkgpepmlcaaGreat
open Go Go.RowKit
set_option maxRecDepth 100000
set_option maxHeartbeats 1000000 in
theorem rtextR_c (A : Option Addr) (n c : Nat) (xs : List Val) (w : World) (hn : xs.length = n) (hn1 : n ≤ 200) (hs : Sl w A xs) (hx64 : ∀ x ∈ xs, -9223372036854775808 ≤ x.n ∧ x.n ≤ 9223372036854775807) (hz : ∀ x ∈ xs, x.s.size ≤ 2000) :
 Calls Tryz.prog 33 #[.slice A n c] w fun en w' => en = .returned (.string ⟨(rowT xs).toArray⟩) ∧ Below w.heap.size w w' := by
 obtain ⟨R, hR⟩ : ∃ R, rowT xs = R := ⟨_, rfl⟩
 rw [hR]
 have HR := Lib.hid hR
 have Hs := Lib.hid hs
 have Hn := Lib.hid hn
 have H6 := Lib.hid hx64
 have Hz := Lib.hid hz
 clear hR hs hn hx64 hz
 go_enter Tryz.func33, Tryz.ntmps33
 go_wp2_with fail
 go_loopw [3, 4] (fun v i wr => ∃ (k : Nat) (l : List UInt8), k ≤ n ∧ i = .int .i64 k ∧ v = .string ⟨l.toArray⟩ ∧ l.length ≤ 1 + k * 5002 ∧ Hid (Below w.heap.size w wr) ∧ Hid (l = [40] ++ bodyL (xs.take k))) (fun _ i _ => n - (intOf i).toNat)
 case atStart => exact ⟨0, [40], Nat.zero_le _, rfl, rfl, by simp, Lib.hid (Below.refl _ _), Lib.hid rfl⟩
 case round =>
  obtain ⟨k, l, hk, rfl, rfl, hll, hb, hl⟩ := hrel
  have hsz : (⟨l.toArray⟩ : ByteArray).size = l.length := by show l.toArray.size = _; simp
  by_cases hlt : k < n
  · obtain ⟨b, off, x, rfl, hblt, hx, e0, e1, e2⟩ := Hs.out.at3 (by rw [Hn.out]; exact hlt)
    have d0 := (hb.out.cell (p := ⟨b, off + k * 3, none⟩) hblt).trans e0
    have d1 := (hb.out.cell (p := ⟨b, off + k * 3 + 1, none⟩) hblt).trans e1
    have d2 := (hb.out.cell (p := ⟨b, off + k * 3 + 2, none⟩) hblt).trans e2
    have l0 : b < wr.heap.size := Nat.lt_of_lt_of_le hblt hb.out.size
    have Hnx := Lib.hid (body_next xs k x hx)
    have h6 := H6.out x (List.mem_of_getElem? hx)
    have hz := Hz.out x (List.mem_of_getElem? hx)
    have htl := text_len x h6 hz
    have HT := Lib.hid (rtextV_c x wr h6 hz)
    obtain ⟨T, hT⟩ : ∃ T, textL x = T := ⟨_, rfl⟩
    rw [hT] at HT Hnx htl
    have hsT : (⟨T.toArray⟩ : ByteArray).size = T.length := by show T.toArray.size = _; simp
    clear e0 e1 e2 hx hblt h6 hz hT
    have hlt' : (k : Int) < n := by omega
    by_cases hk0 : k = 0
    · have hk0' : ¬ (0 : Int) < k := by omega
      have Hl2 : Hid (l ++ T = [40] ++ bodyL (xs.take (k + 1))) := Lib.hid (by rw [Hnx.out, if_pos hk0, hl.out]; simp)
      clear hl Hnx hk0
      go_wp2_with fail
      refine HT.out.mono ?_
      rintro e w1 ⟨rfl, hb1⟩
      have Hb1 := Lib.hid (hb.out.trans (hb1.mono hb.out.size))
      clear hb1 HT
      go_wp2
      go_roundw
      case rel => exact ⟨k + 1, l ++ T, by omega, by go_num, congrArg Value.string (by rw [cat_two]), by rw [List.length_append]; omega, Hb1, Hl2⟩
      case measure => simp [intOf]; omega
    · have hk0' : (0 : Int) < k := by omega
      have hs2 : (⟨#[44, 32]⟩ : ByteArray).size = 2 := rfl
      have hcs : ((⟨l.toArray⟩ : ByteArray) ++ ⟨#[44, 32]⟩).size = l.length + 2 := by rw [show (⟨#[44, 32]⟩ : ByteArray) = ⟨[44, 32].toArray⟩ from rfl, cat_two]; show (l ++ [44, 32]).toArray.size = _; simp
      have Hl2 : Hid (l ++ [44, 32] ++ T = [40] ++ bodyL (xs.take (k + 1))) := Lib.hid (by rw [Hnx.out, if_neg hk0, hl.out]; simp)
      clear hl Hnx hk0
      go_wp2_with fail
      refine HT.out.mono ?_
      rintro e w1 ⟨rfl, hb1⟩
      have Hb1 := Lib.hid (hb.out.trans (hb1.mono hb.out.size))
      clear hb1 HT
      go_wp2
      go_roundw
      case rel => exact ⟨k + 1, l ++ [44, 32] ++ T, by omega, by go_num, congrArg Value.string (by rw [show (⟨#[44, 32]⟩ : ByteArray) = ⟨[44, 32].toArray⟩ from rfl, cat_two, cat_two]), by rw [List.length_append, List.length_append]; simp only [List.length_cons, List.length_nil]; omega, Hb1, Hl2⟩
      case measure => simp [intOf]; omega
  · obtain rfl : k = n := by omega
    have Hr : Hid ((⟨l.toArray⟩ : ByteArray) ++ ⟨#[41]⟩ = ⟨R.toArray⟩) := Lib.hid (by
     rw [show (⟨#[41]⟩ : ByteArray) = ⟨[41].toArray⟩ from rfl, cat_two, ← HR.out, hl.out, show xs.take k = xs from List.take_of_length_le (by rw [Hn.out]; exact Nat.le_refl _)]
     rfl)
    have hs1 : (⟨#[41]⟩ : ByteArray).size = 1 := rfl
    clear hl HR
    go_wp2
    go_ret
    exact ⟨congrArg (fun z => Ending.returned (Value.string z)) Hr.out, hb.out⟩
set_option maxHeartbeats 4000000 in
theorem rtextB_c (A : Option Addr) (n c : Nat) (cs : List Ct) (w : World) (hB : BgIn w A n cs) (hn : n ≤ 1000) (hz : ∀ c ∈ cs, c.h.n ≤ 200 ∧ ∀ x ∈ c.h.xs, x.s.size ≤ 2000) :
 Calls Tryz.prog 16 #[.slice A n c] w fun e w' => e = .returned (.string ⟨(bagTR (pl cs)).toArray⟩) ∧ Below w.heap.size w w' := by
 obtain ⟨R, hR⟩ : ∃ R, bagTR (pl cs) = R := ⟨_, rfl⟩
 rw [hR]
 have HR := Lib.hid hR
 have HB := Lib.hid hB
 have Hz := Lib.hid hz
 clear hB hR hz
 go_enter Tryz.func16, Tryz.ntmps16
 go_wp2_with fail
 go_loopw [3, 4] (fun v i wr => ∃ (k : Nat) (l : List UInt8), k ≤ n ∧ i = .int .i64 k ∧ v = .string ⟨l.toArray⟩ ∧ l.length ≤ k * 1000600 ∧ Hid (Below w.heap.size w wr) ∧ Hid (l = bagT ((pl cs).take k)) ∧ Hid (k = 0 ∨ mayBag (pl cs) = true)) (fun _ i _ => n - (intOf i).toNat)
 case atStart => exact ⟨0, [], Nat.zero_le _, rfl, rfl, by simp, Lib.hid (Below.refl _ _), Lib.hid rfl, Lib.hid (.inl rfl)⟩
 case round =>
  obtain ⟨k, l, hk, rfl, rfl, hll, hb, hl, hm⟩ := hrel
  have hsz : (⟨l.toArray⟩ : ByteArray).size = l.length := by show l.toArray.size = _; simp
  by_cases hlt : k < n
  · have hlt' : (k : Int) < n := by omega
    have HM := Lib.hid (rmayBag_c A n c cs wr (HB.out.after hb.out))
    go_wp2_with fail
    refine HM.out.mono ?_
    rintro e w1 ⟨rfl, hb1⟩
    have Hb1 := Lib.hid (hb.out.trans (hb1.mono hb.out.size))
    clear hb1 hb HM
    cases hM : mayBag (pl cs)
    · have hk0 : k = 0 := by
       rcases hm.out with h | h
       · exact h
       · rw [hM] at h; cases h
      have Hno : Hid (l = R) := Lib.hid (by
       rw [← HR.out, hl.out, hk0]
       unfold bagTR
       rw [hM]
       rfl)
      clear hl HR hm hk0
      go_wp2
      go_ret
      exact ⟨congrArg (fun z : List UInt8 => Ending.returned (Value.string ⟨z.toArray⟩)) Hno.out, Hb1.out⟩
    · obtain ⟨b, off, x, rfl, hblt, hx, c0, c1⟩ := HB.out.sl.at2 (k := k) (by rw [HB.out.len]; exact hlt)
      have HS : Hid (∀ w' : World, Below w.heap.size w w' → w'.cell? ⟨b, off + k * 2, none⟩ = some (.slice x.h.A x.h.n x.h.c) ∧ w'.cell? ⟨b, off + k * 2 + 1, none⟩ = some (.int .i64 x.N) ∧ b < w'.heap.size) := Lib.hid fun w' hb' => ⟨(hb'.cell hblt).trans c0, (hb'.cell hblt).trans c1, Nat.lt_of_lt_of_le hblt hb'.size⟩
      have Hi := Lib.hid ((HB.out.each x (List.mem_of_getElem? hx)).after Hb1.out)
      have Hzx := Lib.hid (Hz.out x (List.mem_of_getElem? hx))
      have Hnx := Lib.hid (bagT_next (pl cs) k _ (pl_at hx))
      have HM2 := Lib.hid hM
      clear hx c0 c1 hblt hm hM
      obtain ⟨⟨xA, xn, xc, xs⟩, N⟩ := x
      obtain ⟨d0, d1, l0⟩ := HS.out _ Hb1.out
      have hT := rtextR_c xA xn xc xs w1 Hi.out.hd.len Hzx.out.1 Hi.out.hd.sl Hi.out.n64 Hzx.out.2
      have hTl := rowT_len xs Hi.out.n64 Hzx.out.2 (by rw [Hi.out.hd.len]; exact Hzx.out.1)
      have hN := Hi.out.N64
      have hgl := itoa_len N hN
      have Hnx2 : Hid (bagT ((pl cs).take (k + 1)) = l ++ ((if k = 0 then [] else [32]) ++ (rowT xs ++ cntT N))) := Lib.hid (by rw [Hnx.out, hl.out]; rfl)
      obtain ⟨T, hTe⟩ : ∃ T, rowT xs = T := ⟨_, rfl⟩
      obtain ⟨G, hGe⟩ : ∃ G, Lib.itoa N = G := ⟨_, rfl⟩
      have HSg : Hid (∀ w', Calls Tryz.prog 34 #[.int .i64 N] w' fun e w'' => e = .returned (.string ⟨G.toArray⟩) ∧ Below w'.heap.size w' w'') := Lib.hid fun w' => by rw [← hGe]; exact rsigned_c N w' hN
      unfold cntT at Hnx2
      rw [hTe] at hT hTl Hnx2
      rw [hGe] at hgl Hnx2
      have HT := Lib.hid hT
      have hsT : (⟨T.toArray⟩ : ByteArray).size = T.length := by show T.toArray.size = _; simp
      have hsG : (⟨G.toArray⟩ : ByteArray).size = G.length := by show G.toArray.size = _; simp
      have hs32 : (⟨#[32]⟩ : ByteArray).size = 1 := rfl
      have hs42 : (⟨#[42]⟩ : ByteArray).size = 1 := rfl
      have hcat : ∀ a b : List UInt8, (⟨a.toArray⟩ : ByteArray) ++ ⟨b.toArray⟩ = ⟨(a ++ b).toArray⟩ := cat_two
      have Hcat := Lib.hid hcat
      clear hT hTe hGe hl Hnx hN hcat HR
      simp only [] at d0 d1
      have hsz2 : ((⟨l.toArray⟩ : ByteArray) ++ ⟨#[32]⟩).size = l.length + 1 := by rw [show (⟨#[32]⟩ : ByteArray) = ⟨[32].toArray⟩ from rfl, cat_two]; show (l ++ [32]).toArray.size = _; simp
      have hsz3 : ((⟨l.toArray⟩ : ByteArray) ++ ⟨T.toArray⟩).size = l.length + T.length := by rw [cat_two]; show (l ++ T).toArray.size = _; simp
      have hsz4 : ((⟨l.toArray⟩ : ByteArray) ++ ⟨#[32]⟩ ++ ⟨T.toArray⟩).size = l.length + 1 + T.length := by rw [show (⟨#[32]⟩ : ByteArray) = ⟨[32].toArray⟩ from rfl, cat_two, cat_two]; show (l ++ [32] ++ T).toArray.size = _; simp; omega
      have hsz5 : ((⟨#[42]⟩ : ByteArray) ++ ⟨G.toArray⟩).size = 1 + G.length := by rw [show (⟨#[42]⟩ : ByteArray) = ⟨[42].toArray⟩ from rfl, cat_two]; show ([42] ++ G).toArray.size = _; simp; omega
      by_cases hk0 : k = 0
      · have hk0' : ¬ (0 : Int) < k := by omega
        by_cases hN1 : N = 1
        · have Hl2 : Hid (l ++ T = bagT ((pl cs).take (k + 1))) := Lib.hid (by rw [Hnx2.out, if_pos hk0, if_pos hN1]; simp)
          have hN1' : (N != 1) = false := by simpa using hN1
          clear Hnx2 hk0 hN1
          go_wp2_with fail
          refine HT.out.mono ?_
          rintro e w2 ⟨rfl, hb2⟩
          have Hb2 := Lib.hid (Hb1.out.trans (hb2.mono Hb1.out.size))
          obtain ⟨e0, e1, m0⟩ := HS.out _ Hb2.out
          clear hb2 HT
          go_wp2
          go_roundw
          case rel => exact ⟨k + 1, _, by omega, by go_num, congrArg Value.string (by rw [cat_two]), by rw [List.length_append]; omega, Hb2, Hl2, Lib.hid (.inr HM2.out)⟩
          case measure => simp [intOf]; omega
        · have Hl2 : Hid (l ++ T ++ ([42] ++ G) = bagT ((pl cs).take (k + 1))) := Lib.hid (by rw [Hnx2.out, if_pos hk0, if_neg hN1]; simp)
          have hN1' : (N != 1) = true := by simpa using hN1
          clear Hnx2 hk0 hN1
          go_wp2_with fail
          refine HT.out.mono ?_
          rintro e w2 ⟨rfl, hb2⟩
          have Hb2 := Lib.hid (Hb1.out.trans (hb2.mono Hb1.out.size))
          obtain ⟨e0, e1, m0⟩ := HS.out _ Hb2.out
          clear hb2 HT
          go_wp2_with fail
          refine (HSg.out _).mono ?_
          rintro e w3 ⟨rfl, hb3⟩
          have Hb3 := Lib.hid (Hb2.out.trans (hb3.mono Hb2.out.size))
          clear hb3 HSg
          go_wp2
          go_roundw
          case rel => exact ⟨k + 1, _, by omega, by go_num, congrArg Value.string (by rw [show (⟨#[42]⟩ : ByteArray) = ⟨[42].toArray⟩ from rfl, cat_two, cat_two, cat_two]), by simp only [List.length_append, List.length_cons, List.length_nil]; omega, Hb3, Hl2, Lib.hid (.inr HM2.out)⟩
          case measure => simp [intOf]; omega
      · have hk0' : (0 : Int) < k := by omega
        by_cases hN1 : N = 1
        · have Hl2 : Hid (l ++ [32] ++ T = bagT ((pl cs).take (k + 1))) := Lib.hid (by rw [Hnx2.out, if_neg hk0, if_pos hN1]; simp)
          have hN1' : (N != 1) = false := by simpa using hN1
          clear Hnx2 hk0 hN1
          go_wp2_with fail
          refine HT.out.mono ?_
          rintro e w2 ⟨rfl, hb2⟩
          have Hb2 := Lib.hid (Hb1.out.trans (hb2.mono Hb1.out.size))
          obtain ⟨e0, e1, m0⟩ := HS.out _ Hb2.out
          clear hb2 HT
          go_wp2
          go_roundw
          case rel => exact ⟨k + 1, _, by omega, by go_num, congrArg Value.string (by rw [show (⟨#[32]⟩ : ByteArray) = ⟨[32].toArray⟩ from rfl, cat_two, cat_two]), by simp only [List.length_append, List.length_cons, List.length_nil]; omega, Hb2, Hl2, Lib.hid (.inr HM2.out)⟩
          case measure => simp [intOf]; omega
        · have Hl2 : Hid (l ++ [32] ++ T ++ ([42] ++ G) = bagT ((pl cs).take (k + 1))) := Lib.hid (by rw [Hnx2.out, if_neg hk0, if_neg hN1]; simp)
          have hN1' : (N != 1) = true := by simpa using hN1
          clear Hnx2 hk0 hN1
          go_wp2_with fail
          refine HT.out.mono ?_
          rintro e w2 ⟨rfl, hb2⟩
          have Hb2 := Lib.hid (Hb1.out.trans (hb2.mono Hb1.out.size))
          obtain ⟨e0, e1, m0⟩ := HS.out _ Hb2.out
          clear hb2 HT
          go_wp2_with fail
          refine (HSg.out _).mono ?_
          rintro e w3 ⟨rfl, hb3⟩
          have Hb3 := Lib.hid (Hb2.out.trans (hb3.mono Hb2.out.size))
          clear hb3 HSg
          go_wp2
          go_roundw
          case rel => exact ⟨k + 1, _, by omega, by go_num, congrArg Value.string (by rw [show (⟨#[32]⟩ : ByteArray) = ⟨[32].toArray⟩ from rfl, show (⟨#[42]⟩ : ByteArray) = ⟨[42].toArray⟩ from rfl, cat_two, cat_two, cat_two, cat_two]), by simp only [List.length_append, List.length_cons, List.length_nil]; omega, Hb3, Hl2, Lib.hid (.inr HM2.out)⟩
          case measure => simp [intOf]; omega
  · obtain rfl : k = n := by omega
    have Hyes : Hid (l = R) := Lib.hid (by
     rw [← HR.out, hl.out, show (pl cs).take k = pl cs from List.take_of_length_le (by rw [pl_len, HB.out.len]; exact Nat.le_refl _)]
     unfold bagTR
     rcases hm.out with h | h
     · have : cs = [] := List.eq_nil_of_length_eq_zero (by rw [HB.out.len, h])
       rw [this]
       rfl
     · rw [h, if_pos rfl])
    clear hl HR hm
    go_wp2
    go_ret
    exact ⟨congrArg (fun z : List UInt8 => Ending.returned (Value.string ⟨z.toArray⟩)) Hyes.out, hb.out⟩
theorem all_dropG {α : Type} (p : α → Bool) (xs : List α) (k : Nat) (x : α) (hx : xs[k]? = some x) : (xs.drop k).all p = (p x && (xs.drop (k + 1)).all p) := by
 have h1 := List.drop_eq_getElem_cons (List.getElem?_eq_some_iff.1 hx).1
 rw [(List.getElem?_eq_some_iff.1 hx).2] at h1
 rw [h1, List.all_cons]
def smallB (b : Bg) : Bool := b.all (fun x => shortB x.1) && decide (b.length ≤ 60)
set_option maxHeartbeats 2000000 in
theorem smallB_c (A : Option Addr) (n c : Nat) (cs : List Ct) (w : World) (hB : BgIn w A n cs) :
 Calls Tryz.prog 4 #[.slice A n c] w fun e w' => e = .returned (.bool (smallB (pl cs))) ∧ Below w.heap.size w w' := by
 obtain ⟨R, hR⟩ : ∃ R, smallB (pl cs) = R := ⟨_, rfl⟩
 rw [hR]
 have HR := Lib.hid hR
 have HB := Lib.hid hB
 have hmx : n ≤ 9223372036854775807 := hB.max
 clear hB hR
 go_enter Tryz.func4, Tryz.ntmps4
 go_wp2_with fail
 go_loopw [3] (fun i wr => ∃ k : Nat, k ≤ n ∧ i = .int .i64 k ∧ Hid (Below w.heap.size w wr) ∧ Hid (((pl cs).drop k).all (fun x => shortB x.1) = (pl cs).all (fun x => shortB x.1))) (fun i _ => n - (intOf i).toNat)
 case atStart => exact ⟨0, Nat.zero_le _, rfl, Below.refl _ _, rfl⟩
 case round =>
  obtain ⟨k, hk, rfl, hb, hinv⟩ := hrel
  by_cases hlt : k < n
  · obtain ⟨b, off, x, rfl, hblt, hx, c0, c1⟩ := HB.out.sl.at2 (k := k) (by rw [HB.out.len]; exact hlt)
    have d0 := (hb.out.cell (p := ⟨b, off + k * 2, none⟩) hblt).trans c0
    have l1 : b < wr.heap.size := Nat.lt_of_lt_of_le hblt hb.out.size
    have Hx := Lib.hid ((HB.out.each x (List.mem_of_getElem? hx)).after hb.out)
    have Hst := Lib.hid ((all_dropG (fun x => shortB x.1) _ k _ (pl_at hx)).symm.trans hinv.out)
    clear hx c0 c1 hblt hinv
    go_wp2_with fail
    refine (short_c x.h.A x.h.n x.h.c x.h.xs wr Hx.out.hd.len Hx.out.hd.max Hx.out.hd.sl Hx.out.sz).mono ?_
    rintro e w1 ⟨rfl, hb1⟩
    have Hb1 := Lib.hid (hb.out.trans (hb1.mono hb.out.size))
    clear hb1 hb Hx d0
    cases hc : shortB x.h.xs
    · have Hst' : Hid (false = R) := by
       have := Hst.out
       simp only [hc, Bool.false_and] at this
       have h2 := HR.out
       unfold smallB at h2
       rw [← this, Bool.false_and] at h2
       exact h2
      clear Hst HR
      go_wp2
      go_ret
      exact ⟨congrArg (fun z => Ending.returned (Value.bool z)) Hst'.out, Hb1.out⟩
    · have Hst' : Hid (((pl cs).drop (k + 1)).all (fun x => shortB x.1) = (pl cs).all (fun x => shortB x.1)) := by
       have := Hst.out
       simp only [hc, Bool.true_and] at this
       exact this
      clear Hst HR
      go_wp2
      go_roundw
      case rel => exact ⟨k + 1, by omega, by go_num, Hb1, Hst'⟩
      case measure => simp [intOf]; omega
  · obtain rfl : k = n := by omega
    have Hst' : Hid (decide ((k : Int) ≤ 60) = R) := by
     have := hinv.out
     rw [List.drop_eq_nil_of_le (by rw [pl_len, HB.out.len]; omega)] at this
     have h2 := HR.out
     unfold smallB at h2
     rw [← this, pl_len, HB.out.len] at h2
     rw [← h2]
     simp only [List.all_nil, Bool.true_and]
     exact decide_eq_decide.2 (by omega)
    clear hinv HR
    go_wp2
    go_ret
    exact ⟨congrArg (fun z => Ending.returned (Value.bool z)) Hst'.out, hb.out⟩
def getB (b : Bg) (r : List Val) : Int := if mayBag b then lookB b r else 0
theorem lookB_drop (b : Bg) (r : List Val) (k : Nat) (x : List Val × Int) (h : b[k]? = some x) : lookB (b.drop k) r = (if cmpL x.1 r = 0 then x.2 else lookB (b.drop (k + 1)) r) := by
 have h1 := List.drop_eq_getElem_cons (List.getElem?_eq_some_iff.1 h).1
 rw [(List.getElem?_eq_some_iff.1 h).2] at h1
 rw [h1, lookB]
def sameB : Bg → Bg → Bool
 | [], [] => true
 | x :: a, y :: b => x.2 == y.2 && (cmpL x.1 y.1 == 0 && sameB a b)
 | _, _ => false
theorem sameB_len : ∀ (a b : Bg), a.length ≠ b.length → sameB a b = false
 | [], [], h => absurd rfl h
 | [], _ :: _, _ => rfl
 | _ :: _, [], _ => rfl
 | x :: a, y :: b, h => by rw [sameB, sameB_len a b (by simpa using h)]; simp
theorem sameB_drop (a b : Bg) (k : Nat) (x y : List Val × Int) (hx : a[k]? = some x) (hy : b[k]? = some y) : sameB (a.drop k) (b.drop k) = (x.2 == y.2 && (cmpL x.1 y.1 == 0 && sameB (a.drop (k + 1)) (b.drop (k + 1)))) := by
 have h1 := List.drop_eq_getElem_cons (List.getElem?_eq_some_iff.1 hx).1
 rw [(List.getElem?_eq_some_iff.1 hx).2] at h1
 have h2 := List.drop_eq_getElem_cons (List.getElem?_eq_some_iff.1 hy).1
 rw [(List.getElem?_eq_some_iff.1 hy).2] at h2
 rw [h1, h2, sameB]
set_option maxHeartbeats 4000000 in
theorem sameB_c (A B : Option Addr) (n m c d : Nat) (cs ds : List Ct) (w : World) (hA : BgIn w A n cs) (hB : BgIn w B m ds) :
 Calls Tryz.prog 10 #[.slice A n c, .slice B m d] w fun e w' => e = .returned (.bool (sameB (pl cs) (pl ds))) ∧ Below w.heap.size w w' := by
 obtain ⟨R, hR⟩ : ∃ R, sameB (pl cs) (pl ds) = R := ⟨_, rfl⟩
 rw [hR]
 have HR := Lib.hid hR
 have HA := Lib.hid hA
 have HB := Lib.hid hB
 have hmx : n ≤ 9223372036854775807 := hA.max
 have hmy : m ≤ 9223372036854775807 := hB.max
 clear hA hB hR
 by_cases hnm : n = m
 case neg =>
  have HRf : Hid (false = R) := by
   have := HR.out
   rw [sameB_len _ _ (by rw [pl_len, pl_len, HA.out.len, HB.out.len]; exact hnm)] at this
   exact Lib.hid this
  have hne : ((n : Int) != (m : Int)) = true := by simpa using (by omega : ¬ (n : Int) = m)
  clear HR
  go_enter Tryz.func10, Tryz.ntmps10
  go_wp2
  go_ret
  exact ⟨congrArg (fun z => Ending.returned (Value.bool z)) HRf.out, Below.refl _ _⟩
 subst hnm
 go_enter Tryz.func10, Tryz.ntmps10
 go_wp2_with fail
 go_loopw [5] (fun i wr => ∃ k : Nat, k ≤ n ∧ i = .int .i64 k ∧ Hid (Below w.heap.size w wr) ∧ Hid (sameB ((pl cs).drop k) ((pl ds).drop k) = R)) (fun i _ => n - (intOf i).toNat)
 case atStart => exact ⟨0, Nat.zero_le _, rfl, Lib.hid (Below.refl _ _), HR⟩
 case round =>
  obtain ⟨k, hk, rfl, hb, hinv⟩ := hrel
  clear HR
  by_cases hlt : k < n
  · obtain ⟨b, off, x, rfl, hblt, hx, c0, c1⟩ := HA.out.sl.at2 (k := k) (by rw [HA.out.len]; exact hlt)
    obtain ⟨b', off', y, rfl, hblt', hy, c0', c1'⟩ := HB.out.sl.at2 (k := k) (by rw [HB.out.len]; exact hlt)
    have d0 := Lib.hid ((hb.out.cell (p := ⟨b, off + k * 2, none⟩) hblt).trans c0)
    have d1 := Lib.hid ((hb.out.cell (p := ⟨b, off + k * 2 + 1, none⟩) hblt).trans c1)
    have e0 := Lib.hid ((hb.out.cell (p := ⟨b', off' + k * 2, none⟩) hblt').trans c0')
    have e1 := Lib.hid ((hb.out.cell (p := ⟨b', off' + k * 2 + 1, none⟩) hblt').trans c1')
    have l1 : b < wr.heap.size := Nat.lt_of_lt_of_le hblt hb.out.size
    have l2 : b' < wr.heap.size := Nat.lt_of_lt_of_le hblt' hb.out.size
    have Hx := Lib.hid ((HA.out.each x (List.mem_of_getElem? hx)).after hb.out)
    have Hy := Lib.hid ((HB.out.each y (List.mem_of_getElem? hy)).after hb.out)
    have Hst := Lib.hid ((sameB_drop _ _ k _ _ (pl_at hx) (pl_at hy)).symm.trans hinv.out)
    clear hinv hx hy c0 c1 c0' c1' hblt hblt'
    obtain ⟨⟨xA, xn, xc, xs⟩, N⟩ := x
    obtain ⟨⟨yA, yn, yc, ys⟩, M⟩ := y
    have hlt' : (k : Int) < n := by omega
    go_wp2_with fail
    cases hNM : N != M
    · have hE : (N == M) = true := by simpa using hNM
      cases hC : cmpL xs ys != 0
      · have hC2 : (cmpL xs ys == 0) = true := by simpa using hC
        have Hst2 : Hid (sameB ((pl cs).drop (k + 1)) ((pl ds).drop (k + 1)) = R) := by
         have := Hst.out
         simp only [hE, hC2, Bool.true_and] at this
         exact Lib.hid this
        clear Hst
        clear hE hC2
        refine Reg.wp_region_vals mixed (by kernel_rfl) [(17, .slice (some ⟨b, off, none⟩) n c), (18, .int .i64 (k : Nat)), (19, .pointer (some ⟨b, off + k * 2, none⟩)), (20, .pointer (some ⟨b, off + k * 2 + 1, none⟩)), (21, .int .i64 N), (22, .slice (some ⟨b', off', none⟩) n d), (23, .int .i64 (k : Nat)), (24, .pointer (some ⟨b', off' + k * 2, none⟩)), (25, .pointer (some ⟨b', off' + k * 2 + 1, none⟩)), (26, .int .i64 M), (27, .bool false), (28, .bool false), (29, .slice (some ⟨b, off, none⟩) n c), (30, .int .i64 (k : Nat)), (31, .pointer (some ⟨b, off + k * 2, none⟩)), (32, .pointer (some ⟨b, off + k * 2, none⟩)), (33, .slice xA xn xc), (34, .slice (some ⟨b', off', none⟩) n d), (35, .int .i64 (k : Nat)), (36, .pointer (some ⟨b', off' + k * 2, none⟩)), (37, .pointer (some ⟨b', off' + k * 2, none⟩)), (38, .slice yA yn yc), (39, .int .i64 (cmpL xs ys)), (40, .bool false), (41, .bool false)] 42 rfl (by kernel_rfl) ?_ ?_
        · intro F hF w' hB
          have j0 := (hB.cell (p := ⟨b, off + k * 2, none⟩) l1).trans d0.out
          have j1 := (hB.cell (p := ⟨b, off + k * 2 + 1, none⟩) l1).trans d1.out
          have q0 := (hB.cell (p := ⟨b', off' + k * 2, none⟩) l2).trans e0.out
          have q1 := (hB.cell (p := ⟨b', off' + k * 2 + 1, none⟩) l2).trans e1.out
          have ix := Hx.out.after hB
          have iy := Hy.out.after hB
          refine ⟨?_, ?_, ?_, ?_, ?_, ?_, ?_, ?_, ?_, ?_, ?_, ?_, ?_, ?_, ?_, ?_, ?_, ?_, ?_, ?_, ?_, ?_, ?_, ?_, ?_, trivial⟩
          · exact Reg.doesV_val (ev_move rfl) (by rw [hF]; kernel_rfl) (by rw [hF]; kernel_rfl)
          · exact Reg.doesV_val (ev_move rfl) (by rw [hF]; kernel_rfl) (by rw [hF]; kernel_rfl)
          · exact Reg.doesV_val (ev_idxC (b := b) (off := off) (n := n) (c := c) (k := k) hlt rfl (by rw [hF]; kernel_rfl) (by rw [hF]; kernel_rfl)) (by rw [hF]; kernel_rfl) (by rw [hF]; kernel_rfl)
          · exact Reg.doesV_val (ev_c1 (b := b) (off := off + k * 2) rfl (by rw [hF]; kernel_rfl)) (by rw [hF]; kernel_rfl) (by rw [hF]; kernel_rfl)
          · exact Reg.doesV_val (ev_ldI (k := N) j1 rfl (by rw [hF]; kernel_rfl)) (by rw [hF]; kernel_rfl) (by rw [hF]; kernel_rfl)
          · exact Reg.doesV_val (ev_move rfl) (by rw [hF]; kernel_rfl) (by rw [hF]; kernel_rfl)
          · exact Reg.doesV_val (ev_move rfl) (by rw [hF]; kernel_rfl) (by rw [hF]; kernel_rfl)
          · exact Reg.doesV_val (ev_idxC (b := b') (off := off') (n := n) (c := d) (k := k) hlt rfl (by rw [hF]; kernel_rfl) (by rw [hF]; kernel_rfl)) (by rw [hF]; kernel_rfl) (by rw [hF]; kernel_rfl)
          · exact Reg.doesV_val (ev_c1 (b := b') (off := off' + k * 2) rfl (by rw [hF]; kernel_rfl)) (by rw [hF]; kernel_rfl) (by rw [hF]; kernel_rfl)
          · exact Reg.doesV_val (ev_ldI (k := M) q1 rfl (by rw [hF]; kernel_rfl)) (by rw [hF]; kernel_rfl) (by rw [hF]; kernel_rfl)
          · exact Reg.doesV_val (by rw [ev_neT5 N M rfl (by rw [hF]; kernel_rfl) (by rw [hF]; kernel_rfl), hNM]) (by rw [hF]; kernel_rfl) (by rw [hF]; kernel_rfl)
          · exact Reg.doesV_val (ev_move rfl) (by rw [hF]; kernel_rfl) (by rw [hF]; kernel_rfl)
          · exact Reg.doesV_val (ev_move rfl) (by rw [hF]; kernel_rfl) (by rw [hF]; kernel_rfl)
          · exact Reg.doesV_val (ev_move rfl) (by rw [hF]; kernel_rfl) (by rw [hF]; kernel_rfl)
          · exact Reg.doesV_val (ev_idxC (b := b) (off := off) (n := n) (c := c) (k := k) hlt rfl (by rw [hF]; kernel_rfl) (by rw [hF]; kernel_rfl)) (by rw [hF]; kernel_rfl) (by rw [hF]; kernel_rfl)
          · exact Reg.doesV_val (ev_c0 (b := b) (off := off + k * 2) rfl (by rw [hF]; kernel_rfl)) (by rw [hF]; kernel_rfl) (by rw [hF]; kernel_rfl)
          · exact Reg.doesV_val (ev_ldR (A := xA) (n := xn) (c := xc) j0 rfl (by rw [hF]; kernel_rfl)) (by rw [hF]; kernel_rfl) (by rw [hF]; kernel_rfl)
          · exact Reg.doesV_val (ev_move rfl) (by rw [hF]; kernel_rfl) (by rw [hF]; kernel_rfl)
          · exact Reg.doesV_val (ev_move rfl) (by rw [hF]; kernel_rfl) (by rw [hF]; kernel_rfl)
          · exact Reg.doesV_val (ev_idxC (b := b') (off := off') (n := n) (c := d) (k := k) hlt rfl (by rw [hF]; kernel_rfl) (by rw [hF]; kernel_rfl)) (by rw [hF]; kernel_rfl) (by rw [hF]; kernel_rfl)
          · exact Reg.doesV_val (ev_c0 (b := b') (off := off' + k * 2) rfl (by rw [hF]; kernel_rfl)) (by rw [hF]; kernel_rfl) (by rw [hF]; kernel_rfl)
          · exact Reg.doesV_val (ev_ldR (A := yA) (n := yn) (c := yc) q0 rfl (by rw [hF]; kernel_rfl)) (by rw [hF]; kernel_rfl) (by rw [hF]; kernel_rfl)
          · exact Reg.doesV_call (rcompareL_c xA yA xn yn xc yc xs ys w' ix.hd.len iy.hd.len ix.hd.max iy.hd.max ix.hd.sl iy.hd.sl) (ev_call enRCompareL rfl (by rw [hF]; kernel_rfl)) (by rw [hF]; kernel_rfl) (by rw [hF]; kernel_rfl)
          · exact Reg.doesV_val (by rw [ev_neIC (cmpL xs ys) 0 rfl (by rw [hF]; kernel_rfl), hC]) (by rw [hF]; kernel_rfl) (by rw [hF]; kernel_rfl)
          · exact Reg.doesV_val (ev_pick false rfl (by rw [hF]; kernel_rfl)) (by rw [hF]; kernel_rfl) (by rw [hF]; kernel_rfl)
        · intro w8 hB
          simp only [Reg.putAll, Act.put, List.setIfInBounds_toArray, List.set_cons_zero, List.set_cons_succ]
          have Hb2 := Lib.hid (hb.out.trans (hB.mono hb.out.size))
          clear hB
          go_wp2
          go_roundw
          case rel => exact ⟨k + 1, by omega, by go_num, Hb2, Hst2⟩
          case measure => simp [intOf]; omega
      · have hC2 : (cmpL xs ys == 0) = false := by simpa using hC
        have Hst2 : Hid (false = R) := by
         have := Hst.out
         simp only [hE, hC2, Bool.true_and, Bool.false_and] at this
         exact Lib.hid this
        clear Hst
        clear hE hC2
        refine Reg.wp_region_vals mixed (by kernel_rfl) [(17, .slice (some ⟨b, off, none⟩) n c), (18, .int .i64 (k : Nat)), (19, .pointer (some ⟨b, off + k * 2, none⟩)), (20, .pointer (some ⟨b, off + k * 2 + 1, none⟩)), (21, .int .i64 N), (22, .slice (some ⟨b', off', none⟩) n d), (23, .int .i64 (k : Nat)), (24, .pointer (some ⟨b', off' + k * 2, none⟩)), (25, .pointer (some ⟨b', off' + k * 2 + 1, none⟩)), (26, .int .i64 M), (27, .bool false), (28, .bool false), (29, .slice (some ⟨b, off, none⟩) n c), (30, .int .i64 (k : Nat)), (31, .pointer (some ⟨b, off + k * 2, none⟩)), (32, .pointer (some ⟨b, off + k * 2, none⟩)), (33, .slice xA xn xc), (34, .slice (some ⟨b', off', none⟩) n d), (35, .int .i64 (k : Nat)), (36, .pointer (some ⟨b', off' + k * 2, none⟩)), (37, .pointer (some ⟨b', off' + k * 2, none⟩)), (38, .slice yA yn yc), (39, .int .i64 (cmpL xs ys)), (40, .bool true), (41, .bool true)] 42 rfl (by kernel_rfl) ?_ ?_
        · intro F hF w' hB
          have j0 := (hB.cell (p := ⟨b, off + k * 2, none⟩) l1).trans d0.out
          have j1 := (hB.cell (p := ⟨b, off + k * 2 + 1, none⟩) l1).trans d1.out
          have q0 := (hB.cell (p := ⟨b', off' + k * 2, none⟩) l2).trans e0.out
          have q1 := (hB.cell (p := ⟨b', off' + k * 2 + 1, none⟩) l2).trans e1.out
          have ix := Hx.out.after hB
          have iy := Hy.out.after hB
          refine ⟨?_, ?_, ?_, ?_, ?_, ?_, ?_, ?_, ?_, ?_, ?_, ?_, ?_, ?_, ?_, ?_, ?_, ?_, ?_, ?_, ?_, ?_, ?_, ?_, ?_, trivial⟩
          · exact Reg.doesV_val (ev_move rfl) (by rw [hF]; kernel_rfl) (by rw [hF]; kernel_rfl)
          · exact Reg.doesV_val (ev_move rfl) (by rw [hF]; kernel_rfl) (by rw [hF]; kernel_rfl)
          · exact Reg.doesV_val (ev_idxC (b := b) (off := off) (n := n) (c := c) (k := k) hlt rfl (by rw [hF]; kernel_rfl) (by rw [hF]; kernel_rfl)) (by rw [hF]; kernel_rfl) (by rw [hF]; kernel_rfl)
          · exact Reg.doesV_val (ev_c1 (b := b) (off := off + k * 2) rfl (by rw [hF]; kernel_rfl)) (by rw [hF]; kernel_rfl) (by rw [hF]; kernel_rfl)
          · exact Reg.doesV_val (ev_ldI (k := N) j1 rfl (by rw [hF]; kernel_rfl)) (by rw [hF]; kernel_rfl) (by rw [hF]; kernel_rfl)
          · exact Reg.doesV_val (ev_move rfl) (by rw [hF]; kernel_rfl) (by rw [hF]; kernel_rfl)
          · exact Reg.doesV_val (ev_move rfl) (by rw [hF]; kernel_rfl) (by rw [hF]; kernel_rfl)
          · exact Reg.doesV_val (ev_idxC (b := b') (off := off') (n := n) (c := d) (k := k) hlt rfl (by rw [hF]; kernel_rfl) (by rw [hF]; kernel_rfl)) (by rw [hF]; kernel_rfl) (by rw [hF]; kernel_rfl)
          · exact Reg.doesV_val (ev_c1 (b := b') (off := off' + k * 2) rfl (by rw [hF]; kernel_rfl)) (by rw [hF]; kernel_rfl) (by rw [hF]; kernel_rfl)
          · exact Reg.doesV_val (ev_ldI (k := M) q1 rfl (by rw [hF]; kernel_rfl)) (by rw [hF]; kernel_rfl) (by rw [hF]; kernel_rfl)
          · exact Reg.doesV_val (by rw [ev_neT5 N M rfl (by rw [hF]; kernel_rfl) (by rw [hF]; kernel_rfl), hNM]) (by rw [hF]; kernel_rfl) (by rw [hF]; kernel_rfl)
          · exact Reg.doesV_val (ev_move rfl) (by rw [hF]; kernel_rfl) (by rw [hF]; kernel_rfl)
          · exact Reg.doesV_val (ev_move rfl) (by rw [hF]; kernel_rfl) (by rw [hF]; kernel_rfl)
          · exact Reg.doesV_val (ev_move rfl) (by rw [hF]; kernel_rfl) (by rw [hF]; kernel_rfl)
          · exact Reg.doesV_val (ev_idxC (b := b) (off := off) (n := n) (c := c) (k := k) hlt rfl (by rw [hF]; kernel_rfl) (by rw [hF]; kernel_rfl)) (by rw [hF]; kernel_rfl) (by rw [hF]; kernel_rfl)
          · exact Reg.doesV_val (ev_c0 (b := b) (off := off + k * 2) rfl (by rw [hF]; kernel_rfl)) (by rw [hF]; kernel_rfl) (by rw [hF]; kernel_rfl)
          · exact Reg.doesV_val (ev_ldR (A := xA) (n := xn) (c := xc) j0 rfl (by rw [hF]; kernel_rfl)) (by rw [hF]; kernel_rfl) (by rw [hF]; kernel_rfl)
          · exact Reg.doesV_val (ev_move rfl) (by rw [hF]; kernel_rfl) (by rw [hF]; kernel_rfl)
          · exact Reg.doesV_val (ev_move rfl) (by rw [hF]; kernel_rfl) (by rw [hF]; kernel_rfl)
          · exact Reg.doesV_val (ev_idxC (b := b') (off := off') (n := n) (c := d) (k := k) hlt rfl (by rw [hF]; kernel_rfl) (by rw [hF]; kernel_rfl)) (by rw [hF]; kernel_rfl) (by rw [hF]; kernel_rfl)
          · exact Reg.doesV_val (ev_c0 (b := b') (off := off' + k * 2) rfl (by rw [hF]; kernel_rfl)) (by rw [hF]; kernel_rfl) (by rw [hF]; kernel_rfl)
          · exact Reg.doesV_val (ev_ldR (A := yA) (n := yn) (c := yc) q0 rfl (by rw [hF]; kernel_rfl)) (by rw [hF]; kernel_rfl) (by rw [hF]; kernel_rfl)
          · exact Reg.doesV_call (rcompareL_c xA yA xn yn xc yc xs ys w' ix.hd.len iy.hd.len ix.hd.max iy.hd.max ix.hd.sl iy.hd.sl) (ev_call enRCompareL rfl (by rw [hF]; kernel_rfl)) (by rw [hF]; kernel_rfl) (by rw [hF]; kernel_rfl)
          · exact Reg.doesV_val (by rw [ev_neIC (cmpL xs ys) 0 rfl (by rw [hF]; kernel_rfl), hC]) (by rw [hF]; kernel_rfl) (by rw [hF]; kernel_rfl)
          · exact Reg.doesV_val (ev_pick false rfl (by rw [hF]; kernel_rfl)) (by rw [hF]; kernel_rfl) (by rw [hF]; kernel_rfl)
        · intro w8 hB
          simp only [Reg.putAll, Act.put, List.setIfInBounds_toArray, List.set_cons_zero, List.set_cons_succ]
          have Hb2 := Lib.hid (hb.out.trans (hB.mono hb.out.size))
          clear hB
          go_wp2
          go_ret
          exact ⟨congrArg (fun z => Ending.returned (Value.bool z)) Hst2.out, Hb2.out⟩
    · have hE : (N == M) = false := by simpa using hNM
      have Hst2 : Hid (false = R) := by
       have := Hst.out
       simp only [hE, Bool.false_and] at this
       exact Lib.hid this
      clear Hst
      clear hE
      refine Reg.wp_region_vals mixed (by kernel_rfl) [(17, .slice (some ⟨b, off, none⟩) n c), (18, .int .i64 (k : Nat)), (19, .pointer (some ⟨b, off + k * 2, none⟩)), (20, .pointer (some ⟨b, off + k * 2 + 1, none⟩)), (21, .int .i64 N), (22, .slice (some ⟨b', off', none⟩) n d), (23, .int .i64 (k : Nat)), (24, .pointer (some ⟨b', off' + k * 2, none⟩)), (25, .pointer (some ⟨b', off' + k * 2 + 1, none⟩)), (26, .int .i64 M), (27, .bool true), (28, .bool true), (29, undef), (30, undef), (31, undef), (32, undef), (33, undef), (34, undef), (35, undef), (36, undef), (37, undef), (38, undef), (39, undef), (40, undef), (41, .bool true)] 42 rfl (by kernel_rfl) ?_ ?_
      · intro F hF w' hB
        have j0 := (hB.cell (p := ⟨b, off + k * 2, none⟩) l1).trans d0.out
        have j1 := (hB.cell (p := ⟨b, off + k * 2 + 1, none⟩) l1).trans d1.out
        have q0 := (hB.cell (p := ⟨b', off' + k * 2, none⟩) l2).trans e0.out
        have q1 := (hB.cell (p := ⟨b', off' + k * 2 + 1, none⟩) l2).trans e1.out
        have ix := Hx.out.after hB
        have iy := Hy.out.after hB
        refine ⟨?_, ?_, ?_, ?_, ?_, ?_, ?_, ?_, ?_, ?_, ?_, ?_, ?_, ?_, ?_, ?_, ?_, ?_, ?_, ?_, ?_, ?_, ?_, ?_, ?_, trivial⟩
        · exact Reg.doesV_val (ev_move rfl) (by rw [hF]; kernel_rfl) (by rw [hF]; kernel_rfl)
        · exact Reg.doesV_val (ev_move rfl) (by rw [hF]; kernel_rfl) (by rw [hF]; kernel_rfl)
        · exact Reg.doesV_val (ev_idxC (b := b) (off := off) (n := n) (c := c) (k := k) hlt rfl (by rw [hF]; kernel_rfl) (by rw [hF]; kernel_rfl)) (by rw [hF]; kernel_rfl) (by rw [hF]; kernel_rfl)
        · exact Reg.doesV_val (ev_c1 (b := b) (off := off + k * 2) rfl (by rw [hF]; kernel_rfl)) (by rw [hF]; kernel_rfl) (by rw [hF]; kernel_rfl)
        · exact Reg.doesV_val (ev_ldI (k := N) j1 rfl (by rw [hF]; kernel_rfl)) (by rw [hF]; kernel_rfl) (by rw [hF]; kernel_rfl)
        · exact Reg.doesV_val (ev_move rfl) (by rw [hF]; kernel_rfl) (by rw [hF]; kernel_rfl)
        · exact Reg.doesV_val (ev_move rfl) (by rw [hF]; kernel_rfl) (by rw [hF]; kernel_rfl)
        · exact Reg.doesV_val (ev_idxC (b := b') (off := off') (n := n) (c := d) (k := k) hlt rfl (by rw [hF]; kernel_rfl) (by rw [hF]; kernel_rfl)) (by rw [hF]; kernel_rfl) (by rw [hF]; kernel_rfl)
        · exact Reg.doesV_val (ev_c1 (b := b') (off := off' + k * 2) rfl (by rw [hF]; kernel_rfl)) (by rw [hF]; kernel_rfl) (by rw [hF]; kernel_rfl)
        · exact Reg.doesV_val (ev_ldI (k := M) q1 rfl (by rw [hF]; kernel_rfl)) (by rw [hF]; kernel_rfl) (by rw [hF]; kernel_rfl)
        · exact Reg.doesV_val (by rw [ev_neT5 N M rfl (by rw [hF]; kernel_rfl) (by rw [hF]; kernel_rfl), hNM]) (by rw [hF]; kernel_rfl) (by rw [hF]; kernel_rfl)
        · exact Reg.doesV_val (ev_move rfl) (by rw [hF]; kernel_rfl) (by rw [hF]; kernel_rfl)
        · exact Reg.doesV_skip (by rw [hF]; kernel_rfl) (by rw [hF]; kernel_rfl)
        · exact Reg.doesV_skip (by rw [hF]; kernel_rfl) (by rw [hF]; kernel_rfl)
        · exact Reg.doesV_skip (by rw [hF]; kernel_rfl) (by rw [hF]; kernel_rfl)
        · exact Reg.doesV_skip (by rw [hF]; kernel_rfl) (by rw [hF]; kernel_rfl)
        · exact Reg.doesV_skip (by rw [hF]; kernel_rfl) (by rw [hF]; kernel_rfl)
        · exact Reg.doesV_skip (by rw [hF]; kernel_rfl) (by rw [hF]; kernel_rfl)
        · exact Reg.doesV_skip (by rw [hF]; kernel_rfl) (by rw [hF]; kernel_rfl)
        · exact Reg.doesV_skip (by rw [hF]; kernel_rfl) (by rw [hF]; kernel_rfl)
        · exact Reg.doesV_skip (by rw [hF]; kernel_rfl) (by rw [hF]; kernel_rfl)
        · exact Reg.doesV_skip (by rw [hF]; kernel_rfl) (by rw [hF]; kernel_rfl)
        · exact Reg.doesV_skip (by rw [hF]; kernel_rfl) (by rw [hF]; kernel_rfl)
        · exact Reg.doesV_skip (by rw [hF]; kernel_rfl) (by rw [hF]; kernel_rfl)
        · exact Reg.doesV_val (ev_pick true rfl (by rw [hF]; kernel_rfl)) (by rw [hF]; kernel_rfl) (by rw [hF]; kernel_rfl)
      · intro w8 hB
        simp only [Reg.putAll, Act.put, List.setIfInBounds_toArray, List.set_cons_zero, List.set_cons_succ]
        have Hb2 := Lib.hid (hb.out.trans (hB.mono hb.out.size))
        clear hB
        go_wp2
        go_ret
        exact ⟨congrArg (fun z => Ending.returned (Value.bool z)) Hst2.out, Hb2.out⟩
  · obtain rfl : k = n := by omega
    have Hst' : Hid (true = R) := by
     have := hinv.out
     rw [show (pl cs).drop k = [] from List.drop_eq_nil_of_le (by rw [pl_len, HA.out.len]; omega), show (pl ds).drop k = [] from List.drop_eq_nil_of_le (by rw [pl_len, HB.out.len]; omega)] at this
     exact Lib.hid this
    clear hinv
    go_wp2
    go_ret
    exact ⟨congrArg (fun z => Ending.returned (Value.bool z)) Hst'.out, hb.out⟩
theorem pl_app (a b : List Ct) : pl (a ++ b) = pl a ++ pl b := by unfold pl; rw [List.map_append]
theorem pl_one (c : Ct) : pl [c] = [(c.h.xs, c.N)] := rfl
structure AddSt (w : World) (cs : List Ct) (r : Hd) (n0 : Int) (k : Nat) (L : Bool) (ol : List Ct) : Prop where
 eq : addB (pl cs) r.xs n0 = pl ol ++ (if L then (pl cs).drop k else addB ((pl cs).drop k) r.xs n0)
 up : L = true → ∀ x ∈ (pl cs).drop k, cmpL r.xs x.1 = -1
 len : ol.length ≤ k + (if L then 1 else 0)
 each : ∀ c ∈ ol, Ct.In w c
theorem AddSt.start (w : World) (cs : List Ct) (r : Hd) (n0 : Int) : AddSt w cs r n0 0 false [] := ⟨rfl, nofun, Nat.zero_le _, nofun⟩
theorem each_snoc {w : World} {ol : List Ct} {x : Ct} (h : ∀ c ∈ ol, Ct.In w c) (hx : Ct.In w x) : ∀ c ∈ ol ++ [x], Ct.In w c := by
 intro c hc
 rcases List.mem_append.1 hc with h1 | h1
 · exact h c h1
 · cases List.mem_singleton.1 h1
   exact hx
theorem pl_drop {cs : List Ct} {k : Nat} {x : Ct} (h : cs[k]? = some x) : (pl cs).drop k = (x.h.xs, x.N) :: (pl cs).drop (k + 1) := by
 have h0 := pl_at h
 have h1 := List.drop_eq_getElem_cons (List.getElem?_eq_some_iff.1 h0).1
 rw [(List.getElem?_eq_some_iff.1 h0).2] at h1
 exact h1
theorem asc_drop {b : Bg} (h : Asc b) (k : Nat) : Asc (b.drop k) := List.Pairwise.sublist (List.drop_sublist k b) h
theorem cmpL_one' {a b : List Val} (h : cmpL a b = 1) : cmpL b a = -1 := by rw [cmpL_neg a b, h]
theorem AddSt.lt {w : World} {cs : List Ct} {r : Hd} {n0 : Int} {k : Nat} {ol : List Ct} {x : Ct} (h : AddSt w cs r n0 k false ol) (hx : cs[k]? = some x) (hc : cmpL x.h.xs r.xs = -1) (hi : Ct.In w x) : AddSt w cs r n0 (k + 1) false (ol ++ [x]) := by
 refine ⟨?_, nofun, by have := h.len; simp at this ⊢; omega, each_snoc h.each hi⟩
 rw [h.eq, if_neg (by decide), if_neg (by decide), pl_drop hx, addB, if_pos hc, pl_app, pl_one, List.append_assoc]
 rfl
theorem up_of {cs : List Ct} {r : Hd} {k : Nat} {x : Ct} (ha : Asc (pl cs)) (hx : cs[k]? = some x) (hc : cmpL x.h.xs r.xs ≠ -1) : ∀ y ∈ (pl cs).drop (k + 1), cmpL r.xs y.1 = -1 := by
 intro y hy
 have h1 := asc_drop ha k
 rw [pl_drop hx] at h1
 have h2 := asc_head h1 y hy
 rcases cmpL_range x.h.xs r.xs with e | e | e
 · exact absurd e hc
 · rw [← cmpL_iff.1 e]
   exact h2
 · exact cmpL_trans (cmpL_one' e) h2
theorem AddSt.eq0 {w : World} {cs : List Ct} {r : Hd} {n0 : Int} {k : Nat} {ol : List Ct} {x : Ct} (h : AddSt w cs r n0 k false ol) (ha : Asc (pl cs)) (hx : cs[k]? = some x) (hc : cmpL x.h.xs r.xs = 0) (hn : n0 + x.N = 0) : AddSt w cs r n0 (k + 1) true ol := by
 refine ⟨?_, fun _ => up_of ha hx (by rw [hc]; decide), by have := h.len; simp at this ⊢; omega, h.each⟩
 rw [h.eq, if_neg (by decide), if_pos rfl, pl_drop hx, addB, if_neg (by rw [hc]; decide), if_pos hc, if_pos hn]
theorem AddSt.eq1 {w : World} {cs : List Ct} {r : Hd} {n0 : Int} {k : Nat} {ol : List Ct} {x : Ct} (h : AddSt w cs r n0 k false ol) (ha : Asc (pl cs)) (hx : cs[k]? = some x) (hc : cmpL x.h.xs r.xs = 0) (hn : n0 + x.N ≠ 0) (hi : Ct.In w ⟨r, n0 + x.N⟩) : AddSt w cs r n0 (k + 1) true (ol ++ [⟨r, n0 + x.N⟩]) := by
 refine ⟨?_, fun _ => up_of ha hx (by rw [hc]; decide), by have := h.len; simp at this ⊢; omega, each_snoc h.each hi⟩
 rw [h.eq, if_neg (by decide), if_pos rfl, pl_drop hx, addB, if_neg (by rw [hc]; decide), if_pos hc, if_neg hn, pl_app, pl_one, List.append_assoc]
 rfl
theorem AddSt.gt0 {w : World} {cs : List Ct} {r : Hd} {n0 : Int} {k : Nat} {ol : List Ct} {x : Ct} (h : AddSt w cs r n0 k false ol) (ha : Asc (pl cs)) (hx : cs[k]? = some x) (hc : cmpL x.h.xs r.xs = 1) (hn : n0 = 0) (hi : Ct.In w x) : AddSt w cs r n0 (k + 1) true (ol ++ [x]) := by
 refine ⟨?_, fun _ => up_of ha hx (by rw [hc]; decide), by have := h.len; simp at this ⊢; omega, each_snoc h.each hi⟩
 rw [h.eq, if_neg (by decide), if_pos rfl, pl_drop hx, addB, if_neg (by rw [hc]; decide), if_neg (by rw [hc]; decide), if_pos hn, pl_app, pl_one, List.append_assoc]
 rfl
theorem AddSt.gt1 {w : World} {cs : List Ct} {r : Hd} {n0 : Int} {k : Nat} {ol : List Ct} {x : Ct} (h : AddSt w cs r n0 k false ol) (ha : Asc (pl cs)) (hx : cs[k]? = some x) (hc : cmpL x.h.xs r.xs = 1) (hn : n0 ≠ 0) (hr : Ct.In w ⟨r, n0⟩) (hi : Ct.In w x) : AddSt w cs r n0 (k + 1) true ((ol ++ [⟨r, n0⟩]) ++ [x]) := by
 refine ⟨?_, fun _ => up_of ha hx (by rw [hc]; decide), by have := h.len; simp at this ⊢; omega, each_snoc (each_snoc h.each hr) hi⟩
 rw [h.eq, if_neg (by decide), if_pos rfl, pl_drop hx, addB, if_neg (by rw [hc]; decide), if_neg (by rw [hc]; decide), if_neg hn, pl_app, pl_app, pl_one, pl_one, List.append_assoc, List.append_assoc]
 rfl
theorem AddSt.laid {w : World} {cs : List Ct} {r : Hd} {n0 : Int} {k : Nat} {ol : List Ct} {x : Ct} (h : AddSt w cs r n0 k true ol) (hx : cs[k]? = some x) (hi : Ct.In w x) : AddSt w cs r n0 (k + 1) true (ol ++ [x]) := by
 refine ⟨?_, fun _ y hy => h.up rfl y (by rw [pl_drop hx]; exact List.mem_cons_of_mem _ hy), by have := h.len; simp at this ⊢; omega, each_snoc h.each hi⟩
 rw [h.eq, if_pos rfl, if_pos rfl, pl_drop hx, pl_app, pl_one, List.append_assoc]
 rfl
theorem AddSt.cmp {w : World} {cs : List Ct} {r : Hd} {n0 : Int} {k : Nat} {ol : List Ct} {x : Ct} (h : AddSt w cs r n0 k true ol) (hx : cs[k]? = some x) : cmpL x.h.xs r.xs = 1 := by
 have := h.up rfl (x.h.xs, x.N) (by rw [pl_drop hx]; exact List.mem_cons_self)
 rw [cmpL_neg r.xs x.h.xs, this]
 rfl
theorem AddSt.done {w : World} {cs : List Ct} {r : Hd} {n0 : Int} {k : Nat} {ol : List Ct} (h : AddSt w cs r n0 k true ol) (hk : cs.length ≤ k) : pl ol = addB (pl cs) r.xs n0 := by
 rw [h.eq, if_pos rfl, List.drop_eq_nil_of_le (by rw [pl_len]; exact hk), List.append_nil]
theorem AddSt.done0 {w : World} {cs : List Ct} {r : Hd} {n0 : Int} {k : Nat} {ol : List Ct} (h : AddSt w cs r n0 k false ol) (hk : cs.length ≤ k) (hn : n0 = 0) : pl ol = addB (pl cs) r.xs n0 := by
 rw [h.eq, if_neg (by decide), List.drop_eq_nil_of_le (by rw [pl_len]; exact hk), addB, if_pos hn, List.append_nil]
theorem AddSt.done1 {w : World} {cs : List Ct} {r : Hd} {n0 : Int} {k : Nat} {ol : List Ct} (h : AddSt w cs r n0 k false ol) (hk : cs.length ≤ k) (hn : n0 ≠ 0) : pl (ol ++ [⟨r, n0⟩]) = addB (pl cs) r.xs n0 := by
 rw [h.eq, if_neg (by decide), List.drop_eq_nil_of_le (by rw [pl_len]; exact hk), addB, if_neg hn, pl_app, pl_one]
set_option maxHeartbeats 4000000 in
theorem radd_c (A : Option Addr) (n c : Nat) (cs : List Ct) (r : Hd) (n0 : Int) (w : World) (hB : BgIn w A n cs) (hr : Ct.In w ⟨r, n0⟩) (ha : Asc (pl cs)) (hn : n ≤ 100000) (h64 : ∀ x ∈ cs, -9223372036854775808 ≤ n0 + x.N ∧ n0 + x.N ≤ 9223372036854775807) :
 Calls Tryz.prog 25 #[.slice A n c, .slice r.A r.n r.c, .int .i64 n0] w fun e w' => ∃ A' n' c' cs', e = .returned (.slice A' n' c') ∧ Below w.heap.size w w' ∧ BgIn w' A' n' cs' ∧ pl cs' = addB (pl cs) r.xs n0 := by
 have HB := Lib.hid hB
 have Hr := Lib.hid hr
 have Ha := Lib.hid ha
 have H64 := Lib.hid h64
 have n64 := hr.N64
 simp only [] at n64
 clear hB hr ha h64
 go_enter Tryz.func25, Tryz.ntmps25
 go_wp2_with fail
 go_loopw [7, 8, 9] (fun v l i wr => ∃ (k : Nat) (L : Bool) (ol : List Ct), k ≤ n ∧ i = .int .i64 k ∧ l = .bool L ∧ Hid (Below w.heap.size w wr) ∧ Hid (OwnG wr w.heap.size 44 2 rdC v ol) ∧ Hid (AddSt w cs r n0 k L ol)) (fun _ _ i _ => n - (intOf i).toNat)
 case atStart => exact ⟨0, false, [], Nat.zero_le _, rfl, rfl, Lib.hid (below_one _ _), Lib.hid (OwnG.made w w.heap.size _ #[] 0 (Nat.le_refl _) (Nat.zero_le _) rfl), Lib.hid (AddSt.start w cs r n0)⟩
 case round =>
  obtain ⟨k, L, ol, hk, rfl, rfl, hb, ho, hst⟩ := hrel
  by_cases hlt : k < n
  · have HL : Hid (ol.length ≤ 100000) := Lib.hid (by have := hst.out.len; split at this <;> omega)
    obtain ⟨b, off, x, rfl, hblt, hx, c0, c1⟩ := HB.out.sl.at2 (k := k) (by rw [HB.out.len]; exact hlt)
    have d0 := (hb.out.cell (p := ⟨b, off + k * 2, none⟩) hblt).trans c0
    have d1 := (hb.out.cell (p := ⟨b, off + k * 2 + 1, none⟩) hblt).trans c1
    have l0 : b < wr.heap.size := Nat.lt_of_lt_of_le hblt hb.out.size
    have Hi := Lib.hid (HB.out.each x (List.mem_of_getElem? hx))
    have s64 := H64.out x (List.mem_of_getElem? hx)
    have Hx := Lib.hid hx
    have HS : Hid (∀ w' : World, Below w.heap.size w w' → w'.cell? ⟨b, off + k * 2, none⟩ = some (.slice x.h.A x.h.n x.h.c) ∧ w'.cell? ⟨b, off + k * 2 + 1, none⟩ = some (.int .i64 x.N) ∧ b < w'.heap.size) := Lib.hid fun w' hb' => ⟨(hb'.cell hblt).trans c0, (hb'.cell hblt).trans c1, Nat.lt_of_lt_of_le hblt hb'.size⟩
    clear hx c0 c1 hblt
    obtain ⟨⟨xA, xn, xc, xs⟩, N⟩ := x
    simp only [] at s64
    have hw : IntKind.i64.wrap (n0 + N) = n0 + N := by rw [IntKind.wrap_i64]; omega
    have hi2 := (Hi.out.after hb.out).hd
    have hr2 := (Hr.out.after hb.out).hd
    have HC := Lib.hid (rcompareL_c xA r.A xn r.n xc r.c xs r.xs wr hi2.len hr2.len hi2.max hr2.max hi2.sl hr2.sl)
    clear hi2 hr2
    go_wp2_with fail
    refine HC.out.mono ?_
    rintro e w1 ⟨rfl, hb1⟩
    have d0 := (hb1.cell (p := ⟨b, off + k * 2, none⟩) l0).trans d0
    have d1 := (hb1.cell (p := ⟨b, off + k * 2 + 1, none⟩) l0).trans d1
    have l0 : b < w1.heap.size := Nat.lt_of_lt_of_le l0 hb1.size
    have Ho1 := Lib.hid (ho.out.after hb1)
    have Hb1 := Lib.hid (hb.out.trans (hb1.mono hb.out.size))
    have HRx := Lib.hid (Ct.In.mk (w := w) (c := ⟨r, n0 + N⟩) Hr.out.hd Hr.out.sz Hr.out.n64 s64 Hr.out.room)
    clear hb1 hb ho HC s64
    rcases cmpL_range xs r.xs with hc | hc | hc
    · obtain rfl : L = false := by
       cases L with
       | false => rfl
       | true => have := hst.out.cmp Hx.out; simp only [hc] at this; cases this
      rw [hc]
      go_wp2_with (at_builtin; go_must (first
       | (refine wpList_appG cOk rfl (.tmp 52) (.tmp 57) rfl w.heap.size _ ol [⟨⟨xA, xn, xc, xs⟩, N⟩] (some ⟨w1.heap.size, 0, none⟩) 1 1 rfl (Ho1.out.alloc _) rfl rfl (SlG.new cOk.len [⟨⟨xA, xn, xc, xs⟩, N⟩] rfl) (by have := HL.out; simp [maxLen]; omega) (by have := HL.out; simp; omega) (by have := Hb1.out.size; simp; omega) ?_
          intro v2 w2 hv hg
          have Hv2 := Lib.hid hv
          have Hb2 := Lib.hid ((Hb1.out.alloc Hb1.out.size _).grown hg (by have := Hb1.out.size; simp; omega) (fun k hk => (Ho1.out.lt k hk).1))
          clear hv hg)))
      go_roundw
      case rel => exact ⟨k + 1, false, _, by omega, by go_num, rfl, Hb2, Hv2, Lib.hid (hst.out.lt Hx.out hc Hi.out)⟩
      case measure => simp [intOf]; omega
    · obtain rfl : L = false := by
       cases L with
       | false => rfl
       | true => have := hst.out.cmp Hx.out; simp only [hc] at this; cases this
      rw [hc]
      cases hs : n0 + N != 0
      · have hs0 : n0 + N = 0 := by simpa using hs
        have Hs0 := Lib.hid hs0
        clear hs0
        go_wp2
        go_roundw
        case rel => exact ⟨k + 1, true, ol, by omega, by go_num, rfl, Hb1, Ho1, Lib.hid (hst.out.eq0 Ha.out Hx.out hc Hs0.out)⟩
        case measure => simp [intOf]; omega
      · have Hs1 : Hid (n0 + N ≠ 0) := Lib.hid (by simpa using hs)
        go_wp2_with (at_builtin; go_must (first
         | (refine wpList_appG cOk rfl (.tmp 44) (.tmp 48) rfl w.heap.size _ ol [⟨r, n0 + N⟩] (some ⟨w1.heap.size, 0, none⟩) 1 1 rfl (Ho1.out.alloc _) rfl rfl (SlG.new cOk.len [⟨r, n0 + N⟩] rfl) (by have := HL.out; simp [maxLen]; omega) (by have := HL.out; simp; omega) (by have := Hb1.out.size; simp; omega) ?_
            intro v2 w2 hv hg
            have Hv2 := Lib.hid hv
            have Hb2 := Lib.hid ((Hb1.out.alloc Hb1.out.size _).grown hg (by have := Hb1.out.size; simp; omega) (fun k hk => (Ho1.out.lt k hk).1))
            clear hv hg)))
        go_roundw
        case rel => exact ⟨k + 1, true, _, by omega, by go_num, rfl, Hb2, Hv2, Lib.hid (hst.out.eq1 Ha.out Hx.out hc Hs1.out HRx.out)⟩
        case measure => simp [intOf]; omega
    · rw [hc]
      cases L with
      | true =>
        go_wp2_with (at_builtin; go_must (first
         | (refine wpList_appG cOk rfl (.tmp 52) (.tmp 57) rfl w.heap.size _ ol [⟨⟨xA, xn, xc, xs⟩, N⟩] (some ⟨w1.heap.size, 0, none⟩) 1 1 rfl (Ho1.out.alloc _) rfl rfl (SlG.new cOk.len [⟨⟨xA, xn, xc, xs⟩, N⟩] rfl) (by have := HL.out; simp [maxLen]; omega) (by have := HL.out; simp; omega) (by have := Hb1.out.size; simp; omega) ?_
            intro v2 w2 hv hg
            have Hv2 := Lib.hid hv
            have Hb2 := Lib.hid ((Hb1.out.alloc Hb1.out.size _).grown hg (by have := Hb1.out.size; simp; omega) (fun k hk => (Ho1.out.lt k hk).1))
            clear hv hg)))
        go_roundw
        case rel => exact ⟨k + 1, true, _, by omega, by go_num, rfl, Hb2, Hv2, Lib.hid (hst.out.laid Hx.out Hi.out)⟩
        case measure => simp [intOf]; omega
      | false =>
        cases hs : n0 != 0
        · have Hs0 : Hid (n0 = 0) := Lib.hid (by simpa using hs)
          go_wp2_with (at_builtin; go_must (first
           | (refine wpList_appG cOk rfl (.tmp 52) (.tmp 57) rfl w.heap.size _ ol [⟨⟨xA, xn, xc, xs⟩, N⟩] (some ⟨w1.heap.size, 0, none⟩) 1 1 rfl (Ho1.out.alloc _) rfl rfl (SlG.new cOk.len [⟨⟨xA, xn, xc, xs⟩, N⟩] rfl) (by have := HL.out; simp [maxLen]; omega) (by have := HL.out; simp; omega) (by have := Hb1.out.size; simp; omega) ?_
              intro v2 w2 hv hg
              have Hv2 := Lib.hid hv
              have Hb2 := Lib.hid ((Hb1.out.alloc Hb1.out.size _).grown hg (by have := Hb1.out.size; simp; omega) (fun k hk => (Ho1.out.lt k hk).1))
              clear hv hg)))
          go_roundw
          case rel => exact ⟨k + 1, true, _, by omega, by go_num, rfl, Hb2, Hv2, Lib.hid (hst.out.gt0 Ha.out Hx.out hc Hs0.out Hi.out)⟩
          case measure => simp [intOf]; omega
        · have Hs1 : Hid (n0 ≠ 0) := Lib.hid (by simpa using hs)
          go_wp2_with (at_builtin; go_must (first
           | (refine wpList_appG cOk rfl (.tmp 44) (.tmp 48) rfl w.heap.size _ ol [⟨r, n0⟩] (some ⟨w1.heap.size, 0, none⟩) 1 1 rfl (Ho1.out.alloc _) rfl rfl (SlG.new cOk.len [⟨r, n0⟩] rfl) (by have := HL.out; simp [maxLen]; omega) (by have := HL.out; simp; omega) (by have := Hb1.out.size; simp; omega) ?_
              intro v2 w2 hv hg
              have Hv2 := Lib.hid hv
              have Hb2 := Lib.hid ((Hb1.out.alloc Hb1.out.size _).grown hg (by have := Hb1.out.size; simp; omega) (fun k hk => (Ho1.out.lt k hk).1))
              have e0 := (HS.out w2 Hb2.out).1
              have e1 := (HS.out w2 Hb2.out).2.1
              have l2 := (HS.out w2 Hb2.out).2.2
              clear hv hg)
           | (refine wpList_appG cOk rfl (.tmp 52) (.tmp 57) rfl w.heap.size _ (ol ++ [⟨r, n0⟩]) [⟨⟨xA, xn, xc, xs⟩, N⟩] (some ⟨w2.heap.size, 0, none⟩) 1 1 rfl (Hv2.out.alloc _) rfl rfl (SlG.new cOk.len [⟨⟨xA, xn, xc, xs⟩, N⟩] rfl) (by have := HL.out; simp [maxLen]; omega) (by have := HL.out; simp; omega) (by have := Hb2.out.size; simp; omega) ?_
              intro v3 w3 hv hg
              have Hv3 := Lib.hid hv
              have Hb3 := Lib.hid ((Hb2.out.alloc Hb2.out.size _).grown hg (by have := Hb2.out.size; simp; omega) (fun k hk => (Hv2.out.lt k hk).1))
              clear hv hg)))
          go_roundw
          case rel => exact ⟨k + 1, true, _, by omega, by go_num, rfl, Hb3, Hv3, Lib.hid (hst.out.gt1 Ha.out Hx.out hc Hs1.out Hr.out Hi.out)⟩
          case measure => simp [intOf]; omega
  · obtain rfl : k = n := by omega
    have HL : Hid (ol.length ≤ 100001) := Lib.hid (by have := hst.out.len; split at this <;> omega)
    have Hnk := Lib.hid (Nat.le_of_eq HB.out.len)
    cases L with
    | true =>
      obtain ⟨A3, c3, rfl, _, _, hs3⟩ := ho.out.sl cOk.len
      have Hs3 := Lib.hid hs3
      have Hm3 : Hid (ol.length ≤ maxLen) := Lib.hid (by have := HL.out; unfold maxLen; omega)
      clear hs3
      obtain ⟨m3, hm3⟩ : ∃ m, ol.length = m := ⟨_, rfl⟩
      rw [hm3]
      have HM := Lib.hid hm3
      clear hm3
      go_wp2
      go_ret
      exact ⟨A3, m3, c3, ol, rfl, hb.out, ⟨HM.out, by rw [← HM.out]; exact Hm3.out, Hs3.out, fun c hc => (hst.out.each c hc).after hb.out⟩, hst.out.done Hnk.out⟩
    | false =>
      cases hs : n0 != 0
      · have Hs0 : Hid (n0 = 0) := Lib.hid (by simpa using hs)
        obtain ⟨A3, c3, rfl, _, _, hs3⟩ := ho.out.sl cOk.len
        have Hs3 := Lib.hid hs3
        have Hm3 : Hid (ol.length ≤ maxLen) := Lib.hid (by have := HL.out; unfold maxLen; omega)
        clear hs3
        obtain ⟨m3, hm3⟩ : ∃ m, ol.length = m := ⟨_, rfl⟩
        rw [hm3]
        have HM := Lib.hid hm3
        clear hm3
        go_wp2
        go_ret
        exact ⟨A3, m3, c3, ol, rfl, hb.out, ⟨HM.out, by rw [← HM.out]; exact Hm3.out, Hs3.out, fun c hc => (hst.out.each c hc).after hb.out⟩, hst.out.done0 Hnk.out Hs0.out⟩
      · have Hs1 : Hid (n0 ≠ 0) := Lib.hid (by simpa using hs)
        go_wp2_with (at_builtin; go_must (first
         | (refine wpList_appG cOk rfl (.tmp 65) (.tmp 69) rfl w.heap.size _ ol [⟨r, n0⟩] (some ⟨wr.heap.size, 0, none⟩) 1 1 rfl (ho.out.alloc _) rfl rfl (SlG.new cOk.len [⟨r, n0⟩] rfl) (by have := HL.out; simp [maxLen]; omega) (by have := HL.out; simp; omega) (by have := hb.out.size; simp; omega) ?_
            intro v2 w2 hv hg
            have Hv2 := Lib.hid hv
            have Hb2 := Lib.hid ((hb.out.alloc hb.out.size _).grown hg (by have := hb.out.size; simp; omega) (fun k hk => (ho.out.lt k hk).1))
            obtain ⟨A3, c3, hv3, _, hm3, hs3⟩ := hv.sl cOk.len
            obtain ⟨m3, hl3⟩ : ∃ m, (ol ++ [(⟨r, n0⟩ : Ct)]).length = m := ⟨_, rfl⟩
            rw [hl3] at hv3
            subst hv3
            have Hs3 := Lib.hid hs3
            have HM := Lib.hid hl3
            clear hv hg hs3 hl3 Hv2)))
        go_ret
        exact ⟨A3, m3, c3, _, rfl, Hb2.out, ⟨HM.out, by rw [← HM.out]; have := HL.out; simp [maxLen]; omega, Hs3.out, fun c hc => (each_snoc hst.out.each Hr.out c hc).after Hb2.out⟩, hst.out.done1 Hnk.out Hs1.out⟩
def Bd (P : Int) (b : Bg) : Prop := ∀ x ∈ b, -P ≤ x.2 ∧ x.2 ≤ P
theorem bd_add : ∀ (b : Bg) (r : List Val) (n P Q : Int), Bd P b → 0 ≤ P → -Q ≤ n → n ≤ Q → Bd (P + Q) (addB b r n)
 | [], r, n, P, Q, _, h0, h1, h2 => by
   rw [addB]
   split
   · nofun
   · intro x hx
     cases List.mem_singleton.1 hx
     exact ⟨by show -(P + Q) ≤ n; omega, by show n ≤ P + Q; omega⟩
 | y :: b, r, n, P, Q, hb, h0, h1, h2 => by
   have hy := hb y List.mem_cons_self
   have ht : Bd P b := fun x hx => hb x (List.mem_cons_of_mem _ hx)
   have hw : ∀ x ∈ b, -(P + Q) ≤ x.2 ∧ x.2 ≤ P + Q := fun x hx => by have := ht x hx; omega
   have hy' : -(P + Q) ≤ y.2 ∧ y.2 ≤ P + Q := by omega
   rw [addB]
   split
   · intro x hx
     rcases List.mem_cons.1 hx with rfl | hx
     · exact hy'
     · exact bd_add b r n P Q ht h0 h1 h2 x hx
   · split
     · split
       · exact hw
       · intro x hx
         rcases List.mem_cons.1 hx with rfl | hx
         · exact ⟨by show -(P + Q) ≤ n + y.2; omega, by show n + y.2 ≤ P + Q; omega⟩
         · exact hw x hx
     · split
       · intro x hx
         rcases List.mem_cons.1 hx with rfl | hx
         · exact hy'
         · exact hw x hx
       · intro x hx
         rcases List.mem_cons.1 hx with rfl | hx
         · exact ⟨by show -(P + Q) ≤ n; omega, by show n ≤ P + Q; omega⟩
         · rcases List.mem_cons.1 hx with rfl | hx
           · exact hy'
           · exact hw x hx
theorem len_add : ∀ (b : Bg) (r : List Val) (n : Int), (addB b r n).length ≤ b.length + 1
 | [], r, n => by rw [addB]; split <;> simp
 | y :: b, r, n => by
   have := len_add b r n
   rw [addB]
   split
   · simp; omega
   · split <;> split <;> simp <;> omega
theorem both_take (a l : Bg) (k : Nat) (x : List Val × Int) (h : l[k]? = some x) : bothB a (l.take (k + 1)) = addB (bothB a (l.take k)) x.1 x.2 := by
 unfold bothB
 rw [List.take_add_one, h, List.foldl_append]
 rfl
theorem pl_mem {cs : List Ct} {x : Ct} (h : x ∈ cs) : (x.h.xs, x.N) ∈ pl cs := List.mem_map.2 ⟨x, h, rfl⟩
def joinR (hs : List Hd) : List Val := hs.flatMap (·.xs)
theorem joinR_take (hs : List Hd) (k : Nat) (h : Hd) (hk : hs[k]? = some h) : joinR (hs.take (k + 1)) = joinR (hs.take k) ++ h.xs := by
 unfold joinR
 rw [List.take_add_one, hk]
 simp
theorem joinR_le (hs : List Hd) (k : Nat) : (joinR (hs.take k)).length ≤ (joinR hs).length := by
 have : joinR hs = joinR (hs.take k) ++ joinR (hs.drop k) := by
  unfold joinR
  rw [← List.flatMap_append, List.take_append_drop]
 rw [this, List.length_append]
 omega
set_option maxHeartbeats 1000000 in
theorem join_c (A : Option Addr) (n c : Nat) (hs : List Hd) (w : World) (hn : hs.length = n) (hn1 : n ≤ maxLen) (hsl : SlG w A 1 rdH hs) (hin : ∀ h ∈ hs, Hd.In w h) (htot : (joinR hs).length ≤ 100000) :
 Calls Tryz.prog 27 #[.slice A n c] w fun en w' => ∃ v, en = .returned v ∧ Below w.heap.size w w' ∧ OwnV w' w.heap.size v (joinR hs) := by
 unfold maxLen at hn1
 have Hs := Lib.hid hsl
 have Hn := Lib.hid hn
 have Hi := Lib.hid hin
 have Ht := Lib.hid htot
 clear hsl hn hin htot
 go_enter Tryz.func27, Tryz.ntmps27
 go_wp2_with fail
 go_loopw [3, 8] (fun v i wr => ∃ k : Nat, k ≤ n ∧ i = .int .i64 k ∧ Hid (Below w.heap.size w wr) ∧ Hid (OwnV wr w.heap.size v (joinR (hs.take k)))) (fun _ i _ => n - (intOf i).toNat)
 case atStart => exact ⟨0, Nat.zero_le _, rfl, Below.refl _ _, OwnG.nil _ _ _⟩
 case round =>
  obtain ⟨k, hk, rfl, hb, ho⟩ := hrel
  obtain ⟨A2, c2, hv⟩ := ho.out.isSlice
  obtain ⟨L, hL⟩ : ∃ L, (joinR (hs.take k)).length = L := ⟨_, rfl⟩
  rw [hL] at hv
  subst hv
  have HL := Lib.hid hL
  clear hL
  by_cases hlt : k < n
  · obtain ⟨b, off, h, rfl, hblt, hh, c0⟩ := Hs.out.at1 (by rw [Hn.out]; exact hlt)
    have d0 := (hb.out.cell (p := ⟨b, off + k, none⟩) hblt).trans (c0 _ rfl)
    have l0 : b < wr.heap.size := Nat.lt_of_lt_of_le hblt hb.out.size
    have hin2 := (Hi.out h (List.mem_of_getElem? hh)).after hb.out
    have hj := joinR_take hs k h hh
    have hle := joinR_le hs (k + 1)
    have hle2 := Ht.out
    rw [hj, List.length_append, HL.out] at hle
    obtain ⟨hA, hn', hc', hxs⟩ := h
    simp only [] at hle hj
    have e1 := hin2.len
    have e2 := hin2.sl
    simp only [] at e1 e2
    have HLL := Lib.hid (show L + hxs.length ≤ 100000 by omega)
    have Hj := Lib.hid hj
    have E1 := Lib.hid e1
    have E2 := Lib.hid e2
    clear hin2 hj hle hle2 c0 hh e1 e2 hblt
    go_wp2_with (at_builtin; go_must (
     refine wpList_appG vOk rfl (.tmp 12) (.tmp 13) rfl w.heap.size _ (joinR (hs.take k)) hxs hA hn' hc' rfl ho.out rfl E1.out (Sl.slG E2.out) (by have := HLL.out; rw [HL.out]; unfold maxLen; omega) (by have := HLL.out; rw [HL.out]; omega) hb.out.size ?_
     intro v3 w3 hv3 hg3
     rw [← Hj.out] at hv3
     have Hv3 := Lib.hid hv3
     have Hb3 := Lib.hid (hb.out.grown hg3 hb.out.size (fun k hk => (ho.out.lt k hk).1))
     clear hv3 hg3))
    go_roundw
    case rel => exact ⟨k + 1, by omega, by go_num, Hb3, Hv3⟩
    case measure => simp [intOf]; omega
  · obtain rfl : k = n := by omega
    have ho2 := ho.out
    rw [show hs.take k = hs from List.take_of_length_le (by rw [Hn.out]; omega)] at ho2
    have Ho2 := Lib.hid ho2
    clear ho2
    go_wp2_with fail
    go_ret
    exact ⟨_, rfl, hb.out, Ho2.out⟩
def Gr (w w' : World) : Prop := ∃ q os, w' = Sort.grow (w.drewN q) os
theorem Gr.refl (w : World) : Gr w w := ⟨0, #[], by simp [Sort.grow, World.drewN]⟩
theorem Gr.trans {a b c : World} (h : Gr a b) (k : Gr b c) : Gr a c := by
 obtain ⟨q, os, rfl⟩ := h
 obtain ⟨q', os', rfl⟩ := k
 exact ⟨q + q', os ++ os', by simp [Sort.grow, World.drewN, Array.append_assoc, Nat.add_assoc]⟩
theorem gr_one (w : World) (o : Obj) : Gr w (w.alloc o) := ⟨0, #[o], by
 unfold World.alloc Sort.grow World.drewN
 simp⟩
theorem Gr.alloc {a b : World} (h : Gr a b) (o : Obj) : Gr a (b.alloc o) := h.trans (gr_one b o)
theorem gr_two (w : World) (o o' : Obj) : Gr w ((w.alloc o).alloc o') := (gr_one w o).alloc o'
theorem Gr.below {w w' : World} (h : Gr w w') : Below w.heap.size w w' := by
 obtain ⟨q, os, rfl⟩ := h
 exact ⟨rfl, rfl, rfl, by show w.heap.size ≤ (w.heap ++ os).size; simp, fun i hi => by
  show (w.heap ++ os)[i]? = w.heap[i]?
  rw [Array.getElem?_append_left hi]⟩
set_option maxHeartbeats 400000 in
theorem compare_g (x y : Val) (w : World) : Calls Tryz.prog 55 #[x.v, y.v] w fun e w' => e = .returned (.int .i64 (cmpV x y)) ∧ Gr w w' := by
 cases h1 : x.k != y.k
 · cases h2 : x.n != y.n
   · have e : cmpV x y = Lib.compareBytes x.s.data.toList y.s.data.toList := by simp [cmpV, h1, h2]
     rw [e]
     clear e
     go_enter Tryz.func55, Tryz.ntmps55
     go_wp2_with fail
     refine (Tryz.strings_Compare _ _ _).mono ?_
     rintro e w1 ⟨rfl, rfl⟩
     go_wp2
     go_ret
     exact ⟨rfl, gr_two _ _ _⟩
   · have e : cmpV x y = Lib.compareInt x.n y.n := by simp [cmpV, h1, h2]
     rw [e]
     clear e
     go_enter Tryz.func55, Tryz.ntmps55
     go_wp2_with fail
     refine (Tryz.cmp_Compare_int _ _ _).mono ?_
     rintro e w1 ⟨rfl, rfl⟩
     go_wp2
     go_ret
     exact ⟨rfl, gr_two _ _ _⟩
 · have e : cmpV x y = Lib.compareInt x.k y.k := by simp [cmpV, h1]
   rw [e]
   clear e
   go_enter Tryz.func55, Tryz.ntmps55
   go_wp2_with fail
   refine (Tryz.cmp_Compare_int _ _ _).mono ?_
   rintro e w1 ⟨rfl, rfl⟩
   go_wp2
   go_ret
   exact ⟨rfl, gr_two _ _ _⟩
set_option maxHeartbeats 2000000 in
theorem cmpFunc_g (A B : Option Addr) (n m c d : Nat) (xs ys : List Val) (w : World) (hn : xs.length = n) (hm : ys.length = m) (hn1 : n ≤ maxLen) (hm1 : m ≤ maxLen) (hs : Sl w A xs) (ht : Sl w B ys) :
 Calls Tryz.prog 54 #[.slice A n c, .slice B m d, .func (.func 55) #[] #[]] w fun e w' => e = .returned (.int .i64 (cmpL xs ys)) ∧ Gr w w' := by
 unfold maxLen at hn1 hm1
 have Hn := Lib.hid hn
 have Hm := Lib.hid hm
 have Hs := Lib.hid hs
 have Ht := Lib.hid ht
 clear hn hm hs ht
 go_enter Tryz.func54, Tryz.ntmps54
 go_wp2_with fail
 go_loopw [13] (fun i wr => ∃ k : Nat, k ≤ n ∧ k ≤ m ∧ i = .int .i64 k ∧ Gr w wr ∧ Hid (cmpL (xs.drop k) (ys.drop k) = cmpL xs ys)) (fun i _ => n - (intOf i).toNat)
 case atStart => exact ⟨0, Nat.zero_le _, Nat.zero_le _, rfl, Gr.refl _, rfl⟩
 case round =>
  obtain ⟨k, hk, hkm, rfl, hb, hinv⟩ := hrel
  by_cases hlt : k < n
  · obtain ⟨b, off, x, rfl, hblt, hx, c0, c1, c2⟩ := Hs.out.at (by rw [Hn.out]; exact hlt)
    have d0 := (hb.below.cell (p := ⟨b, off + k * 3, none⟩) hblt).trans c0
    have d1 := (hb.below.cell (p := ⟨b, off + k * 3 + 1, none⟩) hblt).trans c1
    have d2 := (hb.below.cell (p := ⟨b, off + k * 3 + 2, none⟩) hblt).trans c2
    have Hx := Lib.hid hx
    clear c0 c1 c2 hx
    have l1 := hb.below.size
    by_cases hlt2 : k < m
    · obtain ⟨b', off', y, rfl, hblt', hy, c0, c1, c2⟩ := Ht.out.at (by rw [Hm.out]; exact hlt2)
      have d3 := (hb.below.cell (p := ⟨b', off' + k * 3, none⟩) hblt').trans c0
      have d4 := (hb.below.cell (p := ⟨b', off' + k * 3 + 1, none⟩) hblt').trans c1
      have d5 := (hb.below.cell (p := ⟨b', off' + k * 3 + 2, none⟩) hblt').trans c2
      have Hy := Lib.hid hy
      clear c0 c1 c2 hy
      have l2 : b' < wr.heap.size := by omega
      have hstep := cmpL_drop xs ys k x y Hx.out Hy.out
      have Hst := Lib.hid (hstep.symm.trans hinv.out)
      clear hstep hinv
      cases hc : cmpV x y != 0
      · have Hst' : Hid (cmpL (xs.drop (k + 1)) (ys.drop (k + 1)) = cmpL xs ys) := by have := Hst.out; rw [hc] at this; exact this
        clear Hst
        go_wp2_with fail
        refine (compare_g x y _).mono ?_
        rintro e w1 ⟨rfl, hb1⟩
        go_wp2
        go_roundw
        case rel => exact ⟨k + 1, by omega, by omega, by go_num, (hb.alloc _).trans ((gr_one _ _).trans hb1), Hst'.out⟩
        case measure => simp [intOf]; omega
      · have Hst' : Hid (cmpV x y = cmpL xs ys) := by have := Hst.out; rw [hc] at this; exact this
        clear Hst
        go_wp2_with fail
        refine (compare_g x y _).mono ?_
        rintro e w1 ⟨rfl, hb1⟩
        go_wp2
        go_ret
        exact ⟨congrArg (fun z => Ending.returned (Value.int .i64 z)) Hst'.out, (hb.alloc _).trans ((gr_one _ _).trans hb1)⟩
    · obtain rfl : k = m := by omega
      have Hst : Hid (1 = cmpL xs ys) := by
       have := hinv.out
       rw [show ys.drop k = [] from List.drop_eq_nil_of_le (by rw [Hm.out]; omega), cmpL_nil_right, if_neg (by rw [List.length_drop, Hn.out]; omega)] at this
       exact this
      clear hinv
      go_wp2
      go_ret
      exact ⟨congrArg (fun z => Ending.returned (Value.int .i64 z)) Hst.out, hb.alloc _⟩
  · obtain rfl : k = n := by omega
    by_cases hlt2 : k < m
    · have Hst : Hid (-1 = cmpL xs ys) := by
       have := hinv.out
       rw [show xs.drop k = [] from List.drop_eq_nil_of_le (by rw [Hn.out]; omega), cmpL_nil_left, if_neg (by rw [List.length_drop, Hm.out]; omega)] at this
       exact this
      clear hinv
      go_wp2
      go_ret
      exact ⟨congrArg (fun z => Ending.returned (Value.int .i64 z)) Hst.out, hb⟩
    · have Hst : Hid (0 = cmpL xs ys) := by
       have := hinv.out
       rw [show xs.drop k = [] from List.drop_eq_nil_of_le (by rw [Hn.out]; omega), cmpL_nil_left, if_pos (by rw [List.length_drop, Hm.out]; omega)] at this
       exact this
      clear hinv
      go_wp2
      go_ret
      exact ⟨congrArg (fun z => Ending.returned (Value.int .i64 z)) Hst.out, hb⟩
set_option maxHeartbeats 400000 in
theorem compareL_g (A B : Option Addr) (n m c d : Nat) (xs ys : List Val) (w : World) (hn : xs.length = n) (hm : ys.length = m) (hn1 : n ≤ maxLen) (hm1 : m ≤ maxLen) (hs : Sl w A xs) (ht : Sl w B ys) :
 Calls Tryz.prog 37 #[.slice A n c, .slice B m d] w fun e w' => e = .returned (.int .i64 (cmpL xs ys)) ∧ Gr w w' := by
 have Hn := Lib.hid hn
 have Hm := Lib.hid hm
 have Hs := Lib.hid hs
 have Ht := Lib.hid ht
 clear hn hm hs ht
 go_enter Tryz.func37, Tryz.ntmps37
 go_wp2_with fail
 refine (cmpFunc_g A B n m c d xs ys w Hn.out Hm.out hn1 hm1 Hs.out Ht.out).mono ?_
 rintro e w1 ⟨rfl, hb1⟩
 go_wp2
 go_ret
 exact ⟨rfl, hb1⟩
namespace RegT
open Reg
section
variable {P : Program} {ops : Array Oper} {Q : Exit → Act → World → Prop} {see deps olds : Nat → List Nat} {fact : Nat → List Value → World → Prop}
structure Inv (ops : Array Oper) (see : Nat → List Nat) (fact : Nat → List Value → World → Prop) (J : Bool → World → Prop) (i0 : Nat) (a0 : Act) (listed : Array Bool) (a : Act) (w : World) : Prop where
 defers : a.defers = a0.defers
 size : a.tmps.size = a0.tmps.size
 old : ∀ t, (∀ k o, ops[k]? = some o → o.dst = some t → listed.getD k true = false) → slot a t = slot a0 t
 below : J (listed.getD i0 true) w
 down : ∀ i o, ops[i]? = some o → listed.getD i true = true → ∀ j ∈ direct o, listed.getD j true = true
 facts : ∀ i, i < ops.size → listed.getD i true = true → At see fact i a w
def StepOk (P : Program) (ops : Array Oper) (Q : Exit → Act → World → Prop) (see deps olds : Nat → List Nat) (fact : Nat → List Value → World → Prop) (J : Bool → World → Prop) (i0 : Nat) (a0 : Act) (i : Nat) (o : Oper) : Prop :=
 ∀ (a : Act) (w : World) (ph : Bool), a.tmps.size = a0.tmps.size → (∀ t, t ∉ dsts ops → slot a t = slot a0 t) → (∀ t ∈ olds i, slot a t = slot a0 t) → (i = i0 → ph = false) → J ph w → (∀ j ∈ deps i, At see fact j a w) →
  wpOp P ops Q i (fun a' w' => ∃ v, a' = a.put o.dst v ∧ At see fact i a' w' ∧ J (decide (i = i0) || ph) w' ∧ ∀ j, j ≠ i → j < ops.size → At see fact j a w → At see fact j a w') a w
theorem Inv.rest {J : Bool → World → Prop} {i0 : Nat} {a0 : Act} {listed : Array Bool} {a : Act} {w : World} (h : Inv ops see fact J i0 a0 listed a w) (t : Tmp) (ht : t ∉ dsts ops) : slot a t = slot a0 t :=
 h.old t fun _ _ hk hd => absurd hd (no_writer ht hk)
theorem wpAny_inv (hok : ok ops see deps olds = true) {J : Bool → World → Prop} {i0 : Nat} {a0 : Act} (hi0 : i0 < ops.size)
 (hstep : ∀ i o, ops[i]? = some o → StepOk P ops Q see deps olds fact J i0 a0 i o)
 (hend : ∀ a w, a.defers = a0.defers → a.tmps.size = a0.tmps.size → (∀ t, t ∉ dsts ops → slot a t = slot a0 t) → J true w → (∀ i, i < ops.size → At see fact i a w) → Q .normal a w) :
 ∀ (fuel : Nat) (listed : Array Bool) (a : Act) (w : World), listed.size = ops.size → (listed.toList.countP fun b => !b) ≤ fuel → Inv ops see fact J i0 a0 listed a w → wpAny P .any ops Q fuel listed a w := by
 have final : ∀ (listed : Array Bool) (a : Act) (w : World), listed.size = ops.size → Inv ops see fact J i0 a0 listed a w → Region.ready .any ops listed = [] → Q .normal a w := by
  intro listed a w hsz hI hr
  have all : ∀ (n i : Nat), i < n → i < ops.size → listed.getD i true = true := by
   intro n
   induction n with
   | zero => intro i hi; omega
   | succ n ih =>
     intro i hi ho
     cases hl : listed.getD i true with
     | true => rfl
     | false =>
       have hmem : i ∈ Region.ready .any ops listed := by
        refine mem_ready.2 ⟨hl, ops[i], Array.getElem?_eq_getElem ho, fun e he hb => ?_⟩
        have hdir : e.on ∈ direct ops[i] := List.mem_map.2 ⟨e, List.mem_filter.2 ⟨by simpa using he, hb⟩, rfl⟩
        have h := ok_spec hok (Array.getElem?_eq_getElem ho)
        simp only [okAt, Bool.and_eq_true, List.all_eq_true, decide_eq_true_eq] at h
        have hlt := h.1.1.2 _ hdir
        have := ih e.on (by omega) (by omega)
        have hs : e.on < listed.size := by omega
        simp [hs] at this ⊢
        exact this
       rw [hr] at hmem; cases hmem
  exact hend a w hI.defers hI.size hI.rest (by have h := hI.below; rw [all (i0 + 1) i0 (by omega) hi0] at h; exact h) fun i hi => hI.facts i hi (all (i + 1) i (by omega) hi)
 intro fuel
 induction fuel with
 | zero =>
   intro listed a w hsz hc hI
   have hnil : Region.ready .any ops listed = [] := by
    rcases hr : Region.ready .any ops listed with _ | ⟨x, xs⟩
    · rfl
    · exfalso
      have hx : x ∈ Region.ready .any ops listed := by rw [hr]; simp
      have h0 := (mem_ready.1 hx).1
      have hlt := listed_lt h0
      have : false ∈ listed.toList := by
       have : listed[x] = false := by simpa [hlt] using h0
       exact this ▸ (by simp : listed[x] ∈ listed.toList)
      have hp : 0 < listed.toList.countP fun b => !b := List.countP_pos_iff.2 ⟨false, this, rfl⟩
      omega
   exact ⟨hnil, final listed a w hsz hI hnil⟩
 | succ fuel ih =>
   intro listed a w hsz hc hI
   refine ⟨final listed a w hsz hI, fun i hi => ?_⟩
   obtain ⟨h0, o, ho, hall⟩ := mem_ready.1 hi
   have hilt : i < ops.size := (Array.getElem?_eq_some_iff.1 ho).1
   have hdir : ∀ j ∈ direct o, listed.getD j true = true := by
    intro j hj
    obtain ⟨e, he, rfl⟩ := List.mem_map.1 hj
    obtain ⟨he1, he2⟩ := List.mem_filter.1 he
    have := hall e (by simpa using he1) he2
    rcases Nat.lt_or_ge e.on listed.size with h' | h'
    · simp [h'] at this ⊢; exact this
    · simp [Array.getElem?_eq_none h'] at this
   have hdeps := deps_listed hok hI.down i i o (Nat.le_refl _) ho hdir
   have hdepslt : ∀ j ∈ deps i, j < ops.size := by
    intro j hj
    -- every dep is before i
    have key : ∀ (n i : Nat) (o : Oper), i ≤ n → ops[i]? = some o → ∀ j ∈ deps i, j < i := by
     intro n
     induction n with
     | zero =>
       intro i o hi ho j hj
       have h := ok_spec hok ho
       simp only [okAt, Bool.and_eq_true, List.all_eq_true, List.any_eq_true, decide_eq_true_eq] at h
       obtain ⟨k, hk, _⟩ := h.1.2 j hj
       have := h.1.1.2 k hk
       omega
     | succ n ihn =>
       intro i o hi ho j hj
       have h := ok_spec hok ho
       simp only [okAt, Bool.and_eq_true, List.all_eq_true, List.any_eq_true, decide_eq_true_eq] at h
       obtain ⟨k, hk, hjk⟩ := h.1.2 j hj
       have hki := h.1.1.2 k hk
       rcases Bool.or_eq_true _ _ ▸ hjk with e | e
       · have : j = k := by simpa using e
         omega
       · have hko : k < ops.size := by have := (Array.getElem?_eq_some_iff.1 ho).1; omega
         have := ihn k ops[k] (by omega) (Array.getElem?_eq_getElem hko) j (by simpa using e)
         omega
    have := key i i o (Nat.le_refl _) ho j hj
    omega
   have hOld : ∀ t ∈ olds i, slot a t = slot a0 t := by
    intro t ht
    refine hI.old t fun k ok hk hd => ?_
    have h := ok_spec hok ho
    simp only [okAt, Bool.and_eq_true, List.all_eq_true] at h
    have hkk := h.1.1.1 t ht k (List.mem_range.2 (Array.getElem?_eq_some_iff.1 hk).1)
    simp only [hk, hd, bne_self_eq_false, Bool.false_or, List.contains_iff_mem] at hkk
    cases hl : listed.getD k true with
    | false => rfl
    | true =>
      have := hI.down k ok hk hl i hkk
      rw [this] at h0; cases h0
   refine wpOp_mono ?_ (hstep i o ho a w (listed.getD i0 true) hI.size hI.rest hOld (fun e => by rw [← e]; exact h0) hI.below fun j hj => hI.facts j (hdepslt j hj) (hdeps j hj))
   rintro a' w' ⟨v, rfl, hfi, hbw, hkeep⟩
   have hnl : ∀ j, j < ops.size → listed.getD j true = true → i ∉ deps j := by
    intro j hj hlj hmem
    have := deps_listed hok hI.down j j ops[j] (Nat.le_refl _) (Array.getElem?_eq_getElem hj) (hI.down j ops[j] (Array.getElem?_eq_getElem hj) hlj) i hmem
    rw [this] at h0; cases h0
   refine ih _ _ _ (by simpa using hsz) ?_ ⟨?_, ?_, ?_, ?_, ?_, ?_⟩
   · -- the count goes down
     have hls : i < listed.size := listed_lt h0
     have hv : listed[i] = false := by simpa [hls] using h0
     have hset : (listed.setIfInBounds i true).toList = listed.toList.set i true := by simp
     rw [hset, List.countP_set (by simpa using hls)]
     have h1 : listed.toList[i] = false := by simpa using hv
     simp only [h1, Bool.not_false, if_true, Bool.not_true, Bool.false_eq_true, if_false]
     omega
   · rw [defers_put]; exact hI.defers
   · rw [size_put]; exact hI.size
   · intro t ht
     have hne : o.dst ≠ some t := fun hd => by
      have := ht i o ho hd
      have hls : i < listed.size := listed_lt h0
      simp [hls] at this
     rw [slot_put_ne _ _ _ _ hne]
     refine hI.old t fun k ok hk hd => ?_
     have := ht k ok hk hd
     by_cases e : i = k
     · subst e; exact h0
     · rwa [getD_set_ne true e] at this
   · by_cases e : i = i0
     · subst e
       have hls : i < listed.size := listed_lt h0
       have h1 : (listed.setIfInBounds i true).getD i true = true := by simp [hls]
       rw [h1]; simpa using hbw
     · rw [getD_set_ne true e]; simpa [e] using hbw
   · intro j oj hoj hlj k hk
     rcases getD_set hlj with rfl | hl
     · rw [ho] at hoj; cases hoj
       have hki : k ≠ j := by
        have h := ok_spec hok ho
        simp only [okAt, Bool.and_eq_true, List.all_eq_true, decide_eq_true_eq] at h
        have := h.1.1.2 k hk
        omega
       rw [getD_set_ne true (Ne.symm hki)]; exact hdir k hk
     · have := hI.down j oj hoj hl k hk
       by_cases e : i = k
       · subst e; rw [this] at h0; cases h0
       · rw [getD_set_ne true e]; exact this
   · intro j hj hlj
     rcases getD_set hlj with rfl | hl
     · exact hfi
     · have hji : j ≠ i := by rintro rfl; rw [hl] at h0; cases h0
       have hfj := hkeep j hji hj (hI.facts j hj hl)
       refine at_put (fun d hd hmem => ?_) hfj
       have h := ok_spec hok (Array.getElem?_eq_getElem hj)
       simp only [okAt, Bool.and_eq_true, List.all_eq_true] at h
       have := h.2 i (List.mem_range.2 hilt)
       simp only [ho, Option.bind_some, hd] at this
       simp only [Bool.or_eq_true, Bool.not_eq_true', beq_iff_eq, List.contains_iff_mem] at this
       rcases this with (h1 | h1) | h1
       · simp [hmem] at h1
       · exact hji h1.symm
       · exact hnl j hj hl h1
theorem wp_region_facts {id : Nat} {a : Act} {w : World} (hm : P.follows .mixedOrders = true) (see deps olds : Nat → List Nat) (fact : Nat → List Value → World → Prop) (hok : ok ops see deps olds = true)
 (J : Bool → World → Prop) (i0 : Nat) (hi0 : i0 < ops.size) (hJ : J false w.drew) (hstep : ∀ i o, ops[i]? = some o → StepOk P ops Q see deps olds fact J i0 a i o)
 (hend : ∀ a' w', a'.defers = a.defers → a'.tmps.size = a.tmps.size → (∀ t, t ∉ dsts ops → slot a' t = slot a t) → J true w' → (∀ i, i < ops.size → At see fact i a' w') → Q .normal a' w') :
 (Code.region id ops true).wp P Q a w := by
 refine wp_region_any hm ?_
 refine wpAny_inv hok (J := J) (i0 := i0) (a0 := a) hi0 hstep hend ops.size _ a _ (by simp) ?_ ⟨rfl, rfl, fun _ _ => rfl, (by simpa [hi0] using hJ), ?_, ?_⟩
 · refine Nat.le_trans List.countP_le_length ?_
   simp
 · intro i o hi hl
   have hlt : i < ops.size := (Array.getElem?_eq_some_iff.1 hi).1
   simp [hlt] at hl
 · intro i hi hl
   simp [hi] at hl
end
section
variable {P : Program} {ops : Array Oper} {Q : Exit → Act → World → Prop}
def Does (P : Program) (ops : Array Oper) (vals : List (Tmp × Value)) (sf : Nat → List Tmp) (p : Nat → List Value → World → Prop) (J : Bool → World → Prop) (i0 : Nat) (ph : Bool) (F : Act) (i : Nat) (o : Oper) (w : World) : Prop :=
 if Region.wanted o (yielded ops F.tmps) = true then
  Oper.wp P o F w (fun a' w' => ∃ v, a' = F.put o.dst v ∧ (∀ d u, o.dst = some d → (d, u) ∈ vals → v = u) ∧ p i ((sf i).map (slot a')) w' ∧ J (decide (i = i0) || ph) w' ∧
   ∀ j, j ≠ i → j < ops.size → p j ((sf j).map (slot F)) w → p j ((sf j).map (slot F)) w') (fun _ _ _ => False)
 else ((∀ d u, o.dst = some d → (d, u) ∈ vals → undef = u) ∧ p i ((sf i).map (slot (F.put o.dst undef))) w) ∧ i ≠ i0
theorem wp_region_run {id : Nat} {a : Act} {w : World} (hm : P.follows .mixedOrders = true) (hs : Region.noSelect ops = true)
 (vals late : List (Tmp × Value)) (free : List Tmp) (sf : Nat → List Tmp) (early : Nat → Bool) (p : Nat → List Value → World → Prop) (n : Nat) (hn : a.tmps.size = n) (hok : plan ops n vals late free sf early = true)
 (J : Bool → World → Prop) (i0 : Nat) (hi0 : i0 < ops.size) (hJ : J false w.drew) (hstep : ∀ i o, ops[i]? = some o → ∀ (g : Tmp → Value) (w' : World) (ph : Bool), (i = i0 → ph = false) → J ph w' → (∀ j ∈ direct o, p j ((sf j).map (slot (fr a vals late free early i g))) w') → Does P ops (vals ++ late) sf p J i0 ph (fr a vals late free early i g) i o w')
 (hend : ∀ (g : Tmp → Value) (w' : World), J true w' → (∀ i, i < ops.size → p i ((sf i).map (slot (fin a (vals ++ late) free g))) w') → Q .normal (fin a (vals ++ late) free g) w') :
 (Code.region id ops true).wp P Q a w := by
 have hok' := hok
 simp only [plan, Bool.and_eq_true, List.all_eq_true, decide_eq_true_eq, List.contains_iff_mem] at hok
 obtain ⟨⟨⟨⟨hk1, hk2⟩, hnod⟩, hdn⟩, hop⟩ := hok
 have hkeys : ∀ (l : List (Tmp × Value)) (g : Tmp → Value), (l ++ free.map fun t => (t, g t)).map (·.1) = l.map (·.1) ++ free := fun l g => by simp [List.map_map, Function.comp_def]
 have hopi : ∀ i o, ops[i]? = some o → (∀ j ∈ direct o, j < i) ∧ (∀ t ∈ o.looksAt ops, t ∈ dsts ops → t ∈ oldsOf ops late early i ∨ ∃ j ∈ direct o, (ops[j]?).bind (·.dst) = some t) ∧ (∀ t ∈ sf i, t ∈ free ∧ (o.dst = some t ∨ ∃ j ∈ direct o, (ops[j]?).bind (·.dst) = some t)) := by
  intro i o hi
  have := hop i (List.mem_range.2 (Array.getElem?_eq_some_iff.1 hi).1)
  simp only [hi, Bool.and_eq_true, List.all_eq_true, decide_eq_true_eq, Bool.or_eq_true, Bool.not_eq_true', List.any_eq_true, beq_iff_eq] at this
  refine ⟨this.1.1.1, fun t ht hd => ?_, fun t ht => ⟨by simpa using (this.2 t ht).1, (this.2 t ht).2⟩⟩
  rcases this.1.2 t ht with (h | h) | h
  · simp [hd] at h
  · exact .inl (by simpa using h)
  · exact .inr h
 -- the facts of the law
 have hnod1 : (vals.map (·.1) ++ free).Nodup := by
  have h := hnod
  simp only [List.map_append, List.append_assoc] at h
  have h1 := List.nodup_append.1 h
  have h2 := List.nodup_append.1 h1.2.1
  exact List.nodup_append.2 ⟨h1.1, h2.2.1, fun x hx y hy => h1.2.2 x hx y (List.mem_append_right _ hy)⟩
 have hlatefree : ∀ t, t ∈ late.map (·.1) → t ∉ vals.map (·.1) ++ free := by
  intro t ht hm
  have h := hnod
  simp only [List.map_append, List.append_assoc] at h
  have h1 := List.nodup_append.1 h
  have h2 := List.nodup_append.1 h1.2.1
  rcases List.mem_append.1 hm with hv | hf
  · exact h1.2.2 t hv t (List.mem_append_left _ ht) rfl
  · exact h2.2.2 t ht t hf rfl
 -- what slot t holds in the frame of operation i
 have hslot : ∀ (i : Nat) (a' : Act), a'.tmps.size = a.tmps.size → (∀ t, t ∉ dsts ops → slot a' t = slot a t) → ∀ t, (t ∉ dsts ops ∨ t ∈ free ∨ (∃ v, (t, v) ∈ vals ∧ slot a' t = v) ∨ (early i = false ∧ ∃ v, (t, v) ∈ late ∧ slot a' t = v) ∨ (early i = true ∧ t ∈ late.map (·.1) ∧ slot a' t = slot a t)) → slot a' t = slot (fr a vals late free early i (slot a')) t := by
  intro i a' hsz hrest t ht
  have hfree' : t ∈ free → ∀ l, (l.map (·.1) ++ free).Nodup → slot (fin a l free (slot a')) t = slot a' t := by
   intro hf l hl
   rw [fin, putAll_at _ t (slot a' t) a (by rw [hn]; exact (hk1 t (List.mem_append_right _ hf)).1) (by rw [hkeys]; exact hl) (List.mem_append_right _ (List.mem_map.2 ⟨t, hf, rfl⟩))]
  have hval' : ∀ v, (t, v) ∈ vals ++ late → ∀ l, (t, v) ∈ l → (l.map (·.1) ++ free).Nodup → slot (fin a l free (slot a')) t = v := by
   intro v hv l hl hnn
   rw [fin, putAll_at _ t v a (by rw [hn]; exact (hk1 t (List.mem_append_left _ (List.mem_map.2 ⟨_, hv, rfl⟩))).1) (by rw [hkeys]; exact hnn) (List.mem_append_left _ hl)]
  unfold fr
  rcases ht with ht | ht | ⟨v, hv, hs⟩ | ⟨he, v, hv, hs⟩ | ⟨he, ht, hs⟩
  · have no : t ∉ (vals ++ late).map (·.1) ++ free := fun hm => ht (hk1 t hm).2
    have no1 : t ∉ vals.map (·.1) ++ free := fun hm => no (by
     simp only [List.map_append, List.append_assoc]
     rcases List.mem_append.1 hm with h | h
     · exact List.mem_append_left _ h
     · exact List.mem_append_right _ (List.mem_append_right _ h))
    split
    · rw [hrest t ht, fin, putAll_other _ _ _ (by rw [hkeys]; exact no1)]
    · rw [hrest t ht, fin, putAll_other _ _ _ (by rw [hkeys]; exact no)]
  · split
    · exact (hfree' ht _ hnod1).symm
    · exact (hfree' ht _ hnod).symm
  · split
    · rw [hval' v (List.mem_append_left _ hv) vals hv hnod1, hs]
    · rw [hval' v (List.mem_append_left _ hv) _ (List.mem_append_left _ hv) hnod, hs]
  · rw [if_neg (by rw [he]; exact Bool.false_ne_true), hval' v (List.mem_append_right _ hv) _ (List.mem_append_right _ hv) hnod, hs]
  · rw [if_pos he, hs, fin, putAll_other _ _ _ (by rw [hkeys]; exact hlatefree t ht)]
 have hslotE : ∀ (a' : Act), a'.tmps.size = a.tmps.size → (∀ t, t ∉ dsts ops → slot a' t = slot a t) → ∀ t, (t ∉ dsts ops ∨ t ∈ free ∨ ∃ v, (t, v) ∈ vals ++ late ∧ slot a' t = v) → slot a' t = slot (fin a (vals ++ late) free (slot a')) t := by
  intro a' hsz hrest t ht
  rcases ht with ht | ht | ⟨v, hv, hs⟩
  · rw [hrest t ht, fin, putAll_other]
    rw [hkeys]
    intro hm
    exact ht (hk1 t hm).2
  · rw [fin, putAll_at _ t (slot a' t) a (by rw [hn]; exact (hk1 t (List.mem_append_right _ ht)).1) (by rw [hkeys]; exact hnod) (List.mem_append_right _ (List.mem_map.2 ⟨t, ht, rfl⟩))]
  · rw [hs, fin, putAll_at _ t v a (by rw [hn]; exact (hk1 t (List.mem_append_left _ (List.mem_map.2 ⟨_, hv, rfl⟩))).1) (by rw [hkeys]; exact hnod) (List.mem_append_left _ hv)]
 have hallOk : ok ops (seeOf ops sf) (depsOf ops) (oldsOf ops late early) = true := by
  refine List.all_eq_true.2 fun i hi => ?_
  have hlt := List.mem_range.1 hi
  rw [Array.getElem?_eq_getElem hlt]
  obtain ⟨h1, h2, h3⟩ := hopi i ops[i] (Array.getElem?_eq_getElem hlt)
  simp only [okAt, Bool.and_eq_true, List.all_eq_true, decide_eq_true_eq, List.any_eq_true, Bool.or_eq_true, beq_iff_eq]
  have hold : ∀ t ∈ oldsOf ops late early i, ∀ k ∈ List.range ops.size, (match ops[k]? with | some ok => ok.dst != some t || (direct ok).contains i | none => true) = true := by
   have := hop i (List.mem_range.2 hlt)
   rw [Array.getElem?_eq_getElem hlt] at this
   simp only [Bool.and_eq_true, List.all_eq_true] at this
   exact this.1.1.2
  refine ⟨⟨⟨hold, h1⟩, fun j hj => ⟨j, by simpa [depsOf, hlt] using hj, .inl rfl⟩⟩, fun k hk => ?_⟩
  have hklt := List.mem_range.1 hk
  rw [Array.getElem?_eq_getElem hklt]
  cases hd : ops[k].dst with
  | none => simp [hd]
  | some d =>
    simp only [Option.bind_some, hd, Bool.or_eq_true, Bool.not_eq_true', beq_iff_eq, List.contains_iff_mem]
    by_cases hm : d ∈ seeOf ops sf i
    · -- who writes d
      have uniq : ∀ j, (ops[j]?).bind (·.dst) = some d → j = k := by
       intro j hj
       cases hoj : ops[j]? with
       | none => rw [hoj] at hj; cases hj
       | some oj =>
         rw [hoj] at hj
         have hjlt : j < ops.size := (Array.getElem?_eq_some_iff.1 hoj).1
         -- dsts has no doubles
         have key : ∀ (l : List Oper) (x y : Nat) (ox oy : Oper), (l.filterMap (·.dst)).Nodup → l[x]? = some ox → l[y]? = some oy → ox.dst = some d → oy.dst = some d → x = y := by
          intro l
          induction l with
          | nil => intro x y ox oy _ hx; simp at hx
          | cons z l ih =>
            intro x y ox oy hnn hx hy hdx hdy
            have hl : (l.filterMap (·.dst)).Nodup := by
             cases hz : z.dst with
             | none => simpa [List.filterMap_cons, hz] using hnn
             | some dz => rw [List.filterMap_cons_some (h := hz)] at hnn; exact (List.nodup_cons.1 hnn).2
            have hz0 : z.dst = some d → d ∉ l.filterMap (·.dst) := fun hz => by
             rw [List.filterMap_cons_some (h := hz)] at hnn; exact (List.nodup_cons.1 hnn).1
            cases x with
            | zero =>
              cases y with
              | zero => rfl
              | succ y =>
                simp at hx hy; subst hx
                exact absurd (List.mem_filterMap.2 ⟨oy, List.mem_of_getElem? hy, hdy⟩) (hz0 hdx)
            | succ x =>
              cases y with
              | zero =>
                simp at hx hy; subst hy
                exact absurd (List.mem_filterMap.2 ⟨ox, List.mem_of_getElem? hx, hdx⟩) (hz0 hdy)
              | succ y =>
                simp at hx hy
                rw [ih x y ox oy hl hx hy hdx hdy]
         exact key ops.toList j k oj ops[k] hdn (by simpa using hoj) (by simp [hklt]) (by simpa using hj) hd
      unfold seeOf at hm
      rw [Array.getElem?_eq_getElem hlt] at hm
      rcases List.mem_append.1 hm with hm | hm
      · left; right
        have : ops[i].dst = some d := by simpa using hm
        exact (uniq i (by rw [Array.getElem?_eq_getElem hlt]; simpa using this)).symm
      · rcases (h3 d hm).2 with h | ⟨j, hj, hjd⟩
        · left; right
          exact (uniq i (by rw [Array.getElem?_eq_getElem hlt]; simpa using h)).symm
        · right
          have := uniq j hjd
          subst this
          simpa [depsOf, hlt] using hj
    · left; left; simpa using hm
 have hfree : ∀ (d : Tmp) (v : Value), (d, v) ∈ vals ++ late → d ∉ free := by
  intro d v hv hf
  have := (List.nodup_append.1 hnod).2.2 d (List.mem_map.2 ⟨_, hv, rfl⟩) d hf
  exact this rfl
 refine wp_region_facts hm (seeOf ops sf) (depsOf ops) (oldsOf ops late early) (factOf ops (vals ++ late) p) hallOk J i0 hi0 hJ ?_ ?_
 · intro i o hi a' w' ph hsz hrest hold hph hB hdeps
   obtain ⟨h1, h2, h3⟩ := hopi i o hi
   have hilt : i < ops.size := (Array.getElem?_eq_some_iff.1 hi).1
   have hdepsi : depsOf ops i = direct o := by simp [depsOf, hi]
   -- what j's fact says, of j's own p
   have toP : ∀ j, At (seeOf ops sf) (factOf ops (vals ++ late) p) j a' w' → p j ((sf j).map (slot a')) w' := by
    intro j hj
    unfold At factOf seeOf at hj
    cases hd : (ops[j]?).bind (·.dst) with
    | none => simpa [hd] using hj
    | some d => simp only [hd] at hj; simpa using hj.2
   have exact_of : ∀ j ∈ direct o, ∀ t v, (ops[j]?).bind (·.dst) = some t → (t, v) ∈ vals ++ late → slot a' t = v := by
    intro j hj t v hd hv
    have := hdeps j (by rw [hdepsi]; exact hj)
    unfold At factOf seeOf at this
    simp only [hd] at this
    simpa using this.1 v hv
   have agree : ∀ t ∈ o.looksAt ops, slot a' t = slot (fr a vals late free early i (slot a')) t := by
    intro t ht
    refine hslot i a' hsz hrest t ?_
    by_cases hd : t ∈ dsts ops
    · right
      rcases h2 t ht hd with ho | ⟨j, hj, hjd⟩
      · -- it is read as it was
        right; right; right
        have hs := hold t ho
        unfold oldsOf at ho
        rw [hi] at ho
        simp only at ho
        cases he : early i with
        | false => rw [he] at ho; simp at ho
        | true =>
          rw [he] at ho
          simp only [if_true, List.mem_filter, List.contains_iff_mem] at ho
          exact ⟨rfl, ho.2, hs⟩
      · have hmem : t ∈ (vals ++ late).map (·.1) ++ free := hk2 t hd
        rcases List.mem_append.1 hmem with hv | hf
        · obtain ⟨⟨t', v⟩, hv2, rfl⟩ := List.mem_map.1 hv
          have hs := exact_of j hj _ v hjd hv2
          rcases List.mem_append.1 hv2 with h | h
          · exact .inr (.inl ⟨v, h, hs⟩)
          · -- a late slot, already written: this operation is not early
            cases he : early i with
            | false => exact .inr (.inr (.inl ⟨rfl, v, h, hs⟩))
            | true =>
              exfalso
              -- then it is among the olds, and its writer waits for i: but the writer stands before i
              have hol : t' ∈ oldsOf ops late early i := by
               unfold oldsOf
               rw [hi]
               simp only [he, if_true, List.mem_filter, List.contains_iff_mem]
               exact ⟨ht, List.mem_map.2 ⟨_, h, rfl⟩⟩
              have hjlt : j < ops.size := by have := h1 j hj; omega
              have := hop i (List.mem_range.2 hilt)
              rw [hi] at this
              simp only [Bool.and_eq_true, List.all_eq_true] at this
              have hw := this.1.1.2 t' hol j (List.mem_range.2 hjlt)
              rw [Array.getElem?_eq_getElem hjlt] at hw hjd
              simp only [Option.bind_some] at hjd
              simp only [hjd, bne_self_eq_false, Bool.false_or, List.contains_iff_mem] at hw
              have a1 := (hopi j ops[j] (Array.getElem?_eq_getElem hjlt)).1 i hw
              have a2 := h1 j hj
              omega
        · exact .inl hf
    · exact .inl hd
   have agreeF : ∀ j, (sf j).map (slot (fr a vals late free early i (slot a'))) = (sf j).map (slot a') ∨ j ≥ ops.size := by
    intro j
    rcases Nat.lt_or_ge j ops.size with hj | hj
    · left
      refine List.map_congr_left fun t ht => ?_
      obtain ⟨_, _, h3⟩ := hopi j ops[j] (Array.getElem?_eq_getElem hj)
      exact (hslot i a' hsz hrest t (.inr (.inl (h3 t ht).1))).symm
    · exact .inr hj
   have agreeL : ∀ j, j < ops.size → (sf j).map (slot (fr a vals late free early i (slot a'))) = (sf j).map (slot a') := fun j hj => (agreeF j).resolve_right (by omega)
   have hD := hstep i o hi (slot a') w' ph hph hB (fun j hj => by
    have hjlt : j < ops.size := by have := h1 j hj; omega
    rw [agreeL j hjlt]
    exact toP j (hdeps j (by rw [hdepsi]; exact hj)))
   have finish : ∀ (v : Value) (w'' : World), (∀ d u, o.dst = some d → (d, u) ∈ vals ++ late → v = u) → p i ((sf i).map (slot ((fr a vals late free early i (slot a')).put o.dst v))) w'' → J (decide (i = i0) || ph) w'' →
    (∀ j, j ≠ i → j < ops.size → p j ((sf j).map (slot (fr a vals late free early i (slot a')))) w' → p j ((sf j).map (slot (fr a vals late free early i (slot a')))) w'') →
    ∃ v', a'.put o.dst v = a'.put o.dst v' ∧ At (seeOf ops sf) (factOf ops (vals ++ late) p) i (a'.put o.dst v) w'' ∧ J (decide (i = i0) || ph) w'' ∧ ∀ j, j ≠ i → j < ops.size → At (seeOf ops sf) (factOf ops (vals ++ late) p) j a' w' → At (seeOf ops sf) (factOf ops (vals ++ late) p) j a' w'' := by
    intro v w'' hex hp hb hkeep
    have hput : (sf i).map (slot (a'.put o.dst v)) = (sf i).map (slot ((fr a vals late free early i (slot a')).put o.dst v)) := by
     refine List.map_congr_left fun t ht => ?_
     by_cases hd : o.dst = some t
     · have htlt : t < n := (hk1 t (List.mem_append_right _ (h3 t ht).1)).1
       rw [hd, slot_put_same _ _ _ (by rw [hsz, hn]; exact htlt), slot_put_same _ _ _ (by rw [fr_size, hn]; exact htlt)]
     · rw [slot_put_ne _ _ _ _ hd, slot_put_ne _ _ _ _ hd]
       exact hslot i a' hsz hrest t (.inr (.inl (h3 t ht).1))
    refine ⟨v, rfl, ?_, hb, fun j hji hj hat => ?_⟩
    · unfold At factOf seeOf
      simp only [hi, Option.bind_some]
      cases hd : o.dst with
      | none => rw [hd] at hp hput; simp only [Option.toList_none, List.nil_append]; rw [hput]; exact hp
      | some d =>
        rw [hd] at hp hput
        simp only [Option.toList_some, List.cons_append, List.nil_append, List.map_cons, List.head?_cons, List.tail_cons]
        refine ⟨fun u hu => ?_, by rw [hput]; exact hp⟩
        have hdlt : d < n := (hk1 d (List.mem_append_left _ (List.mem_map.2 ⟨_, hu, rfl⟩))).1
        rw [slot_put_same _ _ _ (by rw [hsz, hn]; exact hdlt), hex d u hd hu]
    · have hpj := toP j hat
      have hnew := hkeep j hji hj (by rw [agreeL j hj]; exact hpj)
      rw [agreeL j hj] at hnew
      unfold At factOf seeOf at hat ⊢
      cases hd : (ops[j]?).bind (·.dst) with
      | none => simp only [hd, Option.toList_none, List.nil_append] at hat ⊢; exact hnew
      | some d =>
        simp only [hd] at hat ⊢
        exact ⟨hat.1, by simpa using hnew⟩
   have hsel : ∀ cs b, o.op ≠ .select cs b := fun cs b => Region.noSelect_spec hs i o cs b hi
   unfold wpOp
   simp only [hi]
   unfold Does at hD
   rw [← wanted_congr o a' (fr a vals late free early i (slot a')) (by rw [fr_size, hsz]) agree] at hD
   split
   · rename_i hw
     rw [if_pos hw] at hD
     left
     unfold Oper.wp at hD ⊢
     rw [← exec_congr o hsel a' _ agree] at hD
     refine upon_congr (F := fr a vals late free early i (slot a')) ?_ ?_ hD
     · rintro v w'' ⟨v', he, hex, hp, hb, hkeep⟩
       -- v and v' put the same
       cases hd : o.dst with
       | none =>
         rw [hd] at he hp hex
         have := finish v w'' (by rw [hd]; exact fun d u h => by cases h) (by rw [hd]; exact hp) hb hkeep
         rw [hd] at this
         exact this
       | some d =>
         rw [hd] at he hp
         have hdlt : d < n := (hk1 d (hk2 d (List.mem_filterMap.2 ⟨o, by have := Array.mem_of_getElem? hi; simpa using this, hd⟩))).1
         have hvv : v = v' := by
          have h1 : slot ((fr a vals late free early i (slot a')).put (some d) v) d = slot ((fr a vals late free early i (slot a')).put (some d) v') d := congrArg (fun x => slot x d) he
          rwa [slot_put_same _ _ _ (by rw [fr_size, hn]; exact hdlt), slot_put_same _ _ _ (by rw [fr_size, hn]; exact hdlt)] at h1
         subst hvv
         have := finish v w'' hex (by rw [hd]; exact hp) hb hkeep
         rw [hd] at this
         exact this
     · rintro d w'' ⟨v, he, _⟩
       have h1 := congrArg (fun x => x.defers.length) he
       simp only [defers_put, List.length_cons] at h1
       omega
   · rename_i hw
     rw [if_neg (by simpa using hw)] at hD
     exact finish undef w' hD.1.1 hD.1.2 (by simpa [hD.2] using hB) (fun _ _ _ h => h)
 · intro a' w' hdf hsz hrest hB hall
   have hfin : a' = fin a (vals ++ late) free (slot a') := by
    have ht : a'.tmps = (fin a (vals ++ late) free (slot a')).tmps := by
     refine Array.ext (by rw [fin, putAll_size, hsz]) fun t h1 h2 => ?_
     have hs := hslotE a' hsz hrest t (by
      by_cases hd : t ∈ dsts ops
      · right
        have hmem : t ∈ (vals ++ late).map (·.1) ++ free := hk2 t hd
        rcases List.mem_append.1 hmem with hv | hf
        · right
          obtain ⟨⟨t', v⟩, hv2, rfl⟩ := List.mem_map.1 hv
          obtain ⟨o, ho, hod⟩ := List.mem_filterMap.1 hd
          obtain ⟨i, hi, hoi⟩ := List.mem_iff_getElem.1 ho
          have hi' : i < ops.size := by simpa using hi
          have := hall i hi'
          unfold At factOf seeOf at this
          have hio : ops[i]? = some o := by rw [Array.getElem?_eq_getElem hi']; simpa using hoi
          simp only [hio, Option.bind_some, hod] at this
          exact ⟨v, hv2, by simpa using this.1 v hv2⟩
        · exact .inl hf
      · exact .inl hd)
     simpa [slot, h1, h2] using hs
    have hd : a'.defers = (fin a (vals ++ late) free (slot a')).defers := by rw [hdf, fin, putAll_defers]
    obtain ⟨x, y⟩ := a'
    simp only at ht hd
    cases hF : fin a (vals ++ late) free (slot ⟨x, y⟩) with
    | mk x' y' => rw [hF] at ht hd; simp only at ht hd; rw [ht, hd]
   have hq := hend (slot a') w' hB (fun i hi => by
    have := hall i hi
    rw [← hfin]
    unfold At factOf seeOf at this
    cases hd : (ops[i]?).bind (·.dst) with
    | none => simpa [hd] using this
    | some d => simp only [hd] at this; simpa using this.2)
   rw [← hfin] at hq
   exact hq
def DoesT (P : Program) (ops : Array Oper) (J : Bool → World → Prop) (i0 : Nat) (ph : Bool) (F : Act) (i : Nat) (o : Oper) (w : World) : Prop :=
 if Region.wanted o (yielded ops F.tmps) = true then Oper.wp P o F w (fun a' w' => ∃ v, a' = F.put o.dst v ∧ F.put o.dst v = F ∧ J (decide (i = i0) || ph) w') (fun _ _ _ => False)
 else F.put o.dst undef = F ∧ i ≠ i0
theorem wp_region_two {id : Nat} {a : Act} {w : World} (hm : P.follows .mixedOrders = true) (hs : Region.noSelect ops = true) (J : Bool → World → Prop) (i0 : Nat) (hi0 : i0 < ops.size) (hJ : J false w.drew)
 (vals : List (Tmp × Value)) (n : Nat) (hn : a.tmps.size = n) (hok : plan ops n vals [] [] (fun _ => []) (fun _ => false) = true)
 (hstep : ∀ F : Act, F = putAll a vals → ∀ w' ph, J ph w' → Each (fun i o => (i = i0 → ph = false) → DoesT P ops J i0 ph F i o w') 0 ops.toList)
 (hend : ∀ w', J true w' → Q .normal (putAll a vals) w') :
 (Code.region id ops true).wp P Q a w := by
 have hfin : ∀ g l, fin a l [] g = putAll a l := fun g l => by simp [fin]
 have hok' := hok
 simp only [plan, Bool.and_eq_true, List.all_eq_true, decide_eq_true_eq, List.contains_iff_mem, List.append_nil] at hok
 obtain ⟨⟨⟨⟨hk1, hk2⟩, hnod⟩, hdn⟩, hop⟩ := hok
 refine wp_region_run hm hs vals [] [] (fun _ => []) (fun _ => false) (fun _ _ _ => True) n hn hok' J i0 hi0 hJ ?_ ?_
 · intro i o hi g w' ph hph hB _
   have hD := each_at ops.toList 0 i o (hstep _ rfl w' ph hB) (by simpa using hi)
   have hfr : fr a vals [] [] (fun _ => false) i g = putAll a vals := by
    unfold fr
    rw [if_neg (by simp), hfin, List.append_nil]
   rw [hfr]
   rw [Nat.zero_add] at hD
   replace hD := hD hph
   have hex : ∀ (v : Value), (putAll a vals).put o.dst v = putAll a vals → ∀ d u, o.dst = some d → (d, u) ∈ vals ++ [] → v = u := by
    intro v hv d u hd hu
    rw [List.append_nil] at hu
    have hdlt : d < n := (hk1 d (List.mem_map.2 ⟨_, hu, rfl⟩)).1
    rw [hd] at hv
    have h1 := put_slot _ d v (by rw [putAll_size, hn]; exact hdlt) hv
    rw [← h1, putAll_at vals d u a (by rw [hn]; exact hdlt) hnod hu]
   generalize putAll a vals = E at hD hex ⊢
   unfold DoesT at hD
   unfold Does
   split
   · rename_i hw
     rw [if_pos hw] at hD
     unfold Oper.wp at hD ⊢
     refine upon_congr (F := E) ?_ ?_ hD
     · rintro v w'' ⟨v', he, hF, hb⟩
       exact ⟨v', he, hex v' hF, trivial, hb, fun _ _ _ _ => trivial⟩
     · rintro d w'' ⟨v, he, _⟩
       have h1 := congrArg (fun x => x.defers.length) he
       simp only [defers_put, List.length_cons] at h1
       omega
   · rename_i hw
     rw [if_neg hw] at hD
     exact ⟨⟨hex undef hD.1, trivial⟩, hD.2⟩
 · intro g w' hB hall
   rw [hfin, List.append_nil]
   exact hend w' hB
theorem doesT_val {J : Bool → World → Prop} {i0 i : Nat} {ph : Bool} {F : Act} {o : Oper} {w : World} {v : Value} (hi : i ≠ i0) (hJ : J ph w) (hr : (execOp F.eval o).run P w = .ok (.value v) w) (hw : Region.wanted o (yielded ops F.tmps) = true) (hF : F.put o.dst v = F) : DoesT P ops J i0 ph F i o w := by
 unfold DoesT
 rw [if_pos hw]
 unfold Oper.wp
 rw [hr]
 exact ⟨v, rfl, hF, by simpa [hi] using hJ⟩
theorem doesT_call {J : Bool → World → Prop} {i0 i : Nat} {ph : Bool} {F : Act} {o : Oper} {w : World} {v : Value} {f : FuncId} {args : Array Value} (hi : i ≠ i0) (hJ : ∀ w', Below w.heap.size w w' → J ph w') (hc : Calls P f args w fun e w' => e = .returned v ∧ Below w.heap.size w w')
 (hr : (execOp F.eval o).run P w = .ok (.enter f args) w) (hw : Region.wanted o (yielded ops F.tmps) = true) (hF : F.put o.dst v = F) : DoesT P ops J i0 ph F i o w := by
 unfold DoesT
 rw [if_pos hw]
 unfold Oper.wp
 rw [hr]
 refine Calls.mono hc ?_
 rintro e w' ⟨rfl, hb⟩
 exact ⟨v, rfl, hF, by simpa [hi] using hJ _ hb⟩
theorem doesT_main {J : Bool → World → Prop} {i0 : Nat} {ph : Bool} {F : Act} {o : Oper} {w : World} {v : Value} {f : FuncId} {args : Array Value} (hc : Calls P f args w fun e w' => e = .returned v ∧ J true w')
 (hr : (execOp F.eval o).run P w = .ok (.enter f args) w) (hw : Region.wanted o (yielded ops F.tmps) = true) (hF : F.put o.dst v = F) : DoesT P ops J i0 ph F i0 o w := by
 unfold DoesT
 rw [if_pos hw]
 unfold Oper.wp
 rw [hr]
 refine Calls.mono hc ?_
 rintro e w' ⟨rfl, hb⟩
 exact ⟨v, rfl, hF, by simpa using hb⟩
end
end RegT
end Go.Proofs.YtbpopkgpepmlcaaGreat
namespace Go.Proofs.YtbpopkgpepmlcaaGreat
open Go Go.RowKit
namespace RegJ
open Reg
section
variable {P : Program} {ops : Array Oper} {Q : Exit → Act → World → Prop} {see deps olds : Nat → List Nat} {fact : Nat → List Value → World → Prop}
structure Inv (ops : Array Oper) (see : Nat → List Nat) (fact : Nat → List Value → World → Prop) (J : World → Prop) (a0 : Act) (listed : Array Bool) (a : Act) (w : World) : Prop where
 defers : a.defers = a0.defers
 size : a.tmps.size = a0.tmps.size
 old : ∀ t, (∀ k o, ops[k]? = some o → o.dst = some t → listed.getD k true = false) → slot a t = slot a0 t
 below : J w
 down : ∀ i o, ops[i]? = some o → listed.getD i true = true → ∀ j ∈ direct o, listed.getD j true = true
 facts : ∀ i, i < ops.size → listed.getD i true = true → At see fact i a w
def StepOk (P : Program) (ops : Array Oper) (Q : Exit → Act → World → Prop) (see deps olds : Nat → List Nat) (fact : Nat → List Value → World → Prop) (J : World → Prop) (a0 : Act) (i : Nat) (o : Oper) : Prop :=
 ∀ (a : Act) (w : World), a.tmps.size = a0.tmps.size → (∀ t, t ∉ dsts ops → slot a t = slot a0 t) → (∀ t ∈ olds i, slot a t = slot a0 t) → J w → (∀ j ∈ deps i, At see fact j a w) →
  wpOp P ops Q i (fun a' w' => ∃ v, a' = a.put o.dst v ∧ At see fact i a' w' ∧ J w' ∧ ∀ j, j ≠ i → j < ops.size → At see fact j a w → At see fact j a w') a w
theorem Inv.rest {J : World → Prop} {a0 : Act} {listed : Array Bool} {a : Act} {w : World} (h : Inv ops see fact J a0 listed a w) (t : Tmp) (ht : t ∉ dsts ops) : slot a t = slot a0 t :=
 h.old t fun _ _ hk hd => absurd hd (no_writer ht hk)
theorem wpAny_inv (hok : ok ops see deps olds = true) {J : World → Prop} {a0 : Act}
 (hstep : ∀ i o, ops[i]? = some o → StepOk P ops Q see deps olds fact J a0 i o)
 (hend : ∀ a w, a.defers = a0.defers → a.tmps.size = a0.tmps.size → (∀ t, t ∉ dsts ops → slot a t = slot a0 t) → J w → (∀ i, i < ops.size → At see fact i a w) → Q .normal a w) :
 ∀ (fuel : Nat) (listed : Array Bool) (a : Act) (w : World), listed.size = ops.size → (listed.toList.countP fun b => !b) ≤ fuel → Inv ops see fact J a0 listed a w → wpAny P .any ops Q fuel listed a w := by
 have final : ∀ (listed : Array Bool) (a : Act) (w : World), listed.size = ops.size → Inv ops see fact J a0 listed a w → Region.ready .any ops listed = [] → Q .normal a w := by
  intro listed a w hsz hI hr
  have all : ∀ (n i : Nat), i < n → i < ops.size → listed.getD i true = true := by
   intro n
   induction n with
   | zero => intro i hi; omega
   | succ n ih =>
     intro i hi ho
     cases hl : listed.getD i true with
     | true => rfl
     | false =>
       have hmem : i ∈ Region.ready .any ops listed := by
        refine mem_ready.2 ⟨hl, ops[i], Array.getElem?_eq_getElem ho, fun e he hb => ?_⟩
        have hdir : e.on ∈ direct ops[i] := List.mem_map.2 ⟨e, List.mem_filter.2 ⟨by simpa using he, hb⟩, rfl⟩
        have h := ok_spec hok (Array.getElem?_eq_getElem ho)
        simp only [okAt, Bool.and_eq_true, List.all_eq_true, decide_eq_true_eq] at h
        have hlt := h.1.1.2 _ hdir
        have := ih e.on (by omega) (by omega)
        have hs : e.on < listed.size := by omega
        simp [hs] at this ⊢
        exact this
       rw [hr] at hmem; cases hmem
  exact hend a w hI.defers hI.size hI.rest hI.below fun i hi => hI.facts i hi (all (i + 1) i (by omega) hi)
 intro fuel
 induction fuel with
 | zero =>
   intro listed a w hsz hc hI
   have hnil : Region.ready .any ops listed = [] := by
    rcases hr : Region.ready .any ops listed with _ | ⟨x, xs⟩
    · rfl
    · exfalso
      have hx : x ∈ Region.ready .any ops listed := by rw [hr]; simp
      have h0 := (mem_ready.1 hx).1
      have hlt := listed_lt h0
      have : false ∈ listed.toList := by
       have : listed[x] = false := by simpa [hlt] using h0
       exact this ▸ (by simp : listed[x] ∈ listed.toList)
      have hp : 0 < listed.toList.countP fun b => !b := List.countP_pos_iff.2 ⟨false, this, rfl⟩
      omega
   exact ⟨hnil, final listed a w hsz hI hnil⟩
 | succ fuel ih =>
   intro listed a w hsz hc hI
   refine ⟨final listed a w hsz hI, fun i hi => ?_⟩
   obtain ⟨h0, o, ho, hall⟩ := mem_ready.1 hi
   have hilt : i < ops.size := (Array.getElem?_eq_some_iff.1 ho).1
   have hdir : ∀ j ∈ direct o, listed.getD j true = true := by
    intro j hj
    obtain ⟨e, he, rfl⟩ := List.mem_map.1 hj
    obtain ⟨he1, he2⟩ := List.mem_filter.1 he
    have := hall e (by simpa using he1) he2
    rcases Nat.lt_or_ge e.on listed.size with h' | h'
    · simp [h'] at this ⊢; exact this
    · simp [Array.getElem?_eq_none h'] at this
   have hdeps := deps_listed hok hI.down i i o (Nat.le_refl _) ho hdir
   have hdepslt : ∀ j ∈ deps i, j < ops.size := by
    intro j hj
    -- every dep is before i
    have key : ∀ (n i : Nat) (o : Oper), i ≤ n → ops[i]? = some o → ∀ j ∈ deps i, j < i := by
     intro n
     induction n with
     | zero =>
       intro i o hi ho j hj
       have h := ok_spec hok ho
       simp only [okAt, Bool.and_eq_true, List.all_eq_true, List.any_eq_true, decide_eq_true_eq] at h
       obtain ⟨k, hk, _⟩ := h.1.2 j hj
       have := h.1.1.2 k hk
       omega
     | succ n ihn =>
       intro i o hi ho j hj
       have h := ok_spec hok ho
       simp only [okAt, Bool.and_eq_true, List.all_eq_true, List.any_eq_true, decide_eq_true_eq] at h
       obtain ⟨k, hk, hjk⟩ := h.1.2 j hj
       have hki := h.1.1.2 k hk
       rcases Bool.or_eq_true _ _ ▸ hjk with e | e
       · have : j = k := by simpa using e
         omega
       · have hko : k < ops.size := by have := (Array.getElem?_eq_some_iff.1 ho).1; omega
         have := ihn k ops[k] (by omega) (Array.getElem?_eq_getElem hko) j (by simpa using e)
         omega
    have := key i i o (Nat.le_refl _) ho j hj
    omega
   have hOld : ∀ t ∈ olds i, slot a t = slot a0 t := by
    intro t ht
    refine hI.old t fun k ok hk hd => ?_
    have h := ok_spec hok ho
    simp only [okAt, Bool.and_eq_true, List.all_eq_true] at h
    have hkk := h.1.1.1 t ht k (List.mem_range.2 (Array.getElem?_eq_some_iff.1 hk).1)
    simp only [hk, hd, bne_self_eq_false, Bool.false_or, List.contains_iff_mem] at hkk
    cases hl : listed.getD k true with
    | false => rfl
    | true =>
      have := hI.down k ok hk hl i hkk
      rw [this] at h0; cases h0
   refine wpOp_mono ?_ (hstep i o ho a w hI.size hI.rest hOld hI.below fun j hj => hI.facts j (hdepslt j hj) (hdeps j hj))
   rintro a' w' ⟨v, rfl, hfi, hbw, hkeep⟩
   have hnl : ∀ j, j < ops.size → listed.getD j true = true → i ∉ deps j := by
    intro j hj hlj hmem
    have := deps_listed hok hI.down j j ops[j] (Nat.le_refl _) (Array.getElem?_eq_getElem hj) (hI.down j ops[j] (Array.getElem?_eq_getElem hj) hlj) i hmem
    rw [this] at h0; cases h0
   refine ih _ _ _ (by simpa using hsz) ?_ ⟨?_, ?_, ?_, ?_, ?_, ?_⟩
   · -- the count goes down
     have hls : i < listed.size := listed_lt h0
     have hv : listed[i] = false := by simpa [hls] using h0
     have hset : (listed.setIfInBounds i true).toList = listed.toList.set i true := by simp
     rw [hset, List.countP_set (by simpa using hls)]
     have h1 : listed.toList[i] = false := by simpa using hv
     simp only [h1, Bool.not_false, if_true, Bool.not_true, Bool.false_eq_true, if_false]
     omega
   · rw [defers_put]; exact hI.defers
   · rw [size_put]; exact hI.size
   · intro t ht
     have hne : o.dst ≠ some t := fun hd => by
      have := ht i o ho hd
      have hls : i < listed.size := listed_lt h0
      simp [hls] at this
     rw [slot_put_ne _ _ _ _ hne]
     refine hI.old t fun k ok hk hd => ?_
     have := ht k ok hk hd
     by_cases e : i = k
     · subst e; exact h0
     · rwa [getD_set_ne true e] at this
   · exact hbw
   · intro j oj hoj hlj k hk
     rcases getD_set hlj with rfl | hl
     · rw [ho] at hoj; cases hoj
       have hki : k ≠ j := by
        have h := ok_spec hok ho
        simp only [okAt, Bool.and_eq_true, List.all_eq_true, decide_eq_true_eq] at h
        have := h.1.1.2 k hk
        omega
       rw [getD_set_ne true (Ne.symm hki)]; exact hdir k hk
     · have := hI.down j oj hoj hl k hk
       by_cases e : i = k
       · subst e; rw [this] at h0; cases h0
       · rw [getD_set_ne true e]; exact this
   · intro j hj hlj
     rcases getD_set hlj with rfl | hl
     · exact hfi
     · have hji : j ≠ i := by rintro rfl; rw [hl] at h0; cases h0
       have hfj := hkeep j hji hj (hI.facts j hj hl)
       refine at_put (fun d hd hmem => ?_) hfj
       have h := ok_spec hok (Array.getElem?_eq_getElem hj)
       simp only [okAt, Bool.and_eq_true, List.all_eq_true] at h
       have := h.2 i (List.mem_range.2 hilt)
       simp only [ho, Option.bind_some, hd] at this
       simp only [Bool.or_eq_true, Bool.not_eq_true', beq_iff_eq, List.contains_iff_mem] at this
       rcases this with (h1 | h1) | h1
       · simp [hmem] at h1
       · exact hji h1.symm
       · exact hnl j hj hl h1
theorem wp_region_facts {id : Nat} {a : Act} {w : World} (hm : P.follows .mixedOrders = true) (see deps olds : Nat → List Nat) (fact : Nat → List Value → World → Prop) (hok : ok ops see deps olds = true)
 (J : World → Prop) (hJ : J w.drew) (hstep : ∀ i o, ops[i]? = some o → StepOk P ops Q see deps olds fact J a i o)
 (hend : ∀ a' w', a'.defers = a.defers → a'.tmps.size = a.tmps.size → (∀ t, t ∉ dsts ops → slot a' t = slot a t) → J w' → (∀ i, i < ops.size → At see fact i a' w') → Q .normal a' w') :
 (Code.region id ops true).wp P Q a w := by
 refine wp_region_any hm ?_
 refine wpAny_inv hok (J := J) (a0 := a) hstep hend ops.size _ a _ (by simp) ?_ ⟨rfl, rfl, fun _ _ => rfl, hJ, ?_, ?_⟩
 · refine Nat.le_trans List.countP_le_length ?_
   simp
 · intro i o hi hl
   have hlt : i < ops.size := (Array.getElem?_eq_some_iff.1 hi).1
   simp [hlt] at hl
 · intro i hi hl
   simp [hi] at hl
end
section
variable {P : Program} {ops : Array Oper} {Q : Exit → Act → World → Prop}
def Does (P : Program) (ops : Array Oper) (vals : List (Tmp × Value)) (sf : Nat → List Tmp) (p : Nat → List Value → World → Prop) (J : World → Prop) (F : Act) (i : Nat) (o : Oper) (w : World) : Prop :=
 if Region.wanted o (yielded ops F.tmps) = true then
  Oper.wp P o F w (fun a' w' => ∃ v, a' = F.put o.dst v ∧ (∀ d u, o.dst = some d → (d, u) ∈ vals → v = u) ∧ p i ((sf i).map (slot a')) w' ∧ J w' ∧
   ∀ j, j ≠ i → j < ops.size → p j ((sf j).map (slot F)) w → p j ((sf j).map (slot F)) w') (fun _ _ _ => False)
 else (∀ d u, o.dst = some d → (d, u) ∈ vals → undef = u) ∧ p i ((sf i).map (slot (F.put o.dst undef))) w
theorem wp_region_run {id : Nat} {a : Act} {w : World} (hm : P.follows .mixedOrders = true) (hs : Region.noSelect ops = true)
 (vals late : List (Tmp × Value)) (free : List Tmp) (sf : Nat → List Tmp) (early : Nat → Bool) (p : Nat → List Value → World → Prop) (n : Nat) (hn : a.tmps.size = n) (hok : plan ops n vals late free sf early = true)
 (J : World → Prop) (hJ : J w.drew) (hstep : ∀ i o, ops[i]? = some o → ∀ (g : Tmp → Value) (w' : World), J w' → (∀ j ∈ direct o, p j ((sf j).map (slot (fr a vals late free early i g))) w') → Does P ops (vals ++ late) sf p J (fr a vals late free early i g) i o w')
 (hend : ∀ (g : Tmp → Value) (w' : World), J w' → (∀ i, i < ops.size → p i ((sf i).map (slot (fin a (vals ++ late) free g))) w') → Q .normal (fin a (vals ++ late) free g) w') :
 (Code.region id ops true).wp P Q a w := by
 have hok' := hok
 simp only [plan, Bool.and_eq_true, List.all_eq_true, decide_eq_true_eq, List.contains_iff_mem] at hok
 obtain ⟨⟨⟨⟨hk1, hk2⟩, hnod⟩, hdn⟩, hop⟩ := hok
 have hkeys : ∀ (l : List (Tmp × Value)) (g : Tmp → Value), (l ++ free.map fun t => (t, g t)).map (·.1) = l.map (·.1) ++ free := fun l g => by simp [List.map_map, Function.comp_def]
 have hopi : ∀ i o, ops[i]? = some o → (∀ j ∈ direct o, j < i) ∧ (∀ t ∈ o.looksAt ops, t ∈ dsts ops → t ∈ oldsOf ops late early i ∨ ∃ j ∈ direct o, (ops[j]?).bind (·.dst) = some t) ∧ (∀ t ∈ sf i, t ∈ free ∧ (o.dst = some t ∨ ∃ j ∈ direct o, (ops[j]?).bind (·.dst) = some t)) := by
  intro i o hi
  have := hop i (List.mem_range.2 (Array.getElem?_eq_some_iff.1 hi).1)
  simp only [hi, Bool.and_eq_true, List.all_eq_true, decide_eq_true_eq, Bool.or_eq_true, Bool.not_eq_true', List.any_eq_true, beq_iff_eq] at this
  refine ⟨this.1.1.1, fun t ht hd => ?_, fun t ht => ⟨by simpa using (this.2 t ht).1, (this.2 t ht).2⟩⟩
  rcases this.1.2 t ht with (h | h) | h
  · simp [hd] at h
  · exact .inl (by simpa using h)
  · exact .inr h
 -- the facts of the law
 have hnod1 : (vals.map (·.1) ++ free).Nodup := by
  have h := hnod
  simp only [List.map_append, List.append_assoc] at h
  have h1 := List.nodup_append.1 h
  have h2 := List.nodup_append.1 h1.2.1
  exact List.nodup_append.2 ⟨h1.1, h2.2.1, fun x hx y hy => h1.2.2 x hx y (List.mem_append_right _ hy)⟩
 have hlatefree : ∀ t, t ∈ late.map (·.1) → t ∉ vals.map (·.1) ++ free := by
  intro t ht hm
  have h := hnod
  simp only [List.map_append, List.append_assoc] at h
  have h1 := List.nodup_append.1 h
  have h2 := List.nodup_append.1 h1.2.1
  rcases List.mem_append.1 hm with hv | hf
  · exact h1.2.2 t hv t (List.mem_append_left _ ht) rfl
  · exact h2.2.2 t ht t hf rfl
 -- what slot t holds in the frame of operation i
 have hslot : ∀ (i : Nat) (a' : Act), a'.tmps.size = a.tmps.size → (∀ t, t ∉ dsts ops → slot a' t = slot a t) → ∀ t, (t ∉ dsts ops ∨ t ∈ free ∨ (∃ v, (t, v) ∈ vals ∧ slot a' t = v) ∨ (early i = false ∧ ∃ v, (t, v) ∈ late ∧ slot a' t = v) ∨ (early i = true ∧ t ∈ late.map (·.1) ∧ slot a' t = slot a t)) → slot a' t = slot (fr a vals late free early i (slot a')) t := by
  intro i a' hsz hrest t ht
  have hfree' : t ∈ free → ∀ l, (l.map (·.1) ++ free).Nodup → slot (fin a l free (slot a')) t = slot a' t := by
   intro hf l hl
   rw [fin, putAll_at _ t (slot a' t) a (by rw [hn]; exact (hk1 t (List.mem_append_right _ hf)).1) (by rw [hkeys]; exact hl) (List.mem_append_right _ (List.mem_map.2 ⟨t, hf, rfl⟩))]
  have hval' : ∀ v, (t, v) ∈ vals ++ late → ∀ l, (t, v) ∈ l → (l.map (·.1) ++ free).Nodup → slot (fin a l free (slot a')) t = v := by
   intro v hv l hl hnn
   rw [fin, putAll_at _ t v a (by rw [hn]; exact (hk1 t (List.mem_append_left _ (List.mem_map.2 ⟨_, hv, rfl⟩))).1) (by rw [hkeys]; exact hnn) (List.mem_append_left _ hl)]
  unfold fr
  rcases ht with ht | ht | ⟨v, hv, hs⟩ | ⟨he, v, hv, hs⟩ | ⟨he, ht, hs⟩
  · have no : t ∉ (vals ++ late).map (·.1) ++ free := fun hm => ht (hk1 t hm).2
    have no1 : t ∉ vals.map (·.1) ++ free := fun hm => no (by
     simp only [List.map_append, List.append_assoc]
     rcases List.mem_append.1 hm with h | h
     · exact List.mem_append_left _ h
     · exact List.mem_append_right _ (List.mem_append_right _ h))
    split
    · rw [hrest t ht, fin, putAll_other _ _ _ (by rw [hkeys]; exact no1)]
    · rw [hrest t ht, fin, putAll_other _ _ _ (by rw [hkeys]; exact no)]
  · split
    · exact (hfree' ht _ hnod1).symm
    · exact (hfree' ht _ hnod).symm
  · split
    · rw [hval' v (List.mem_append_left _ hv) vals hv hnod1, hs]
    · rw [hval' v (List.mem_append_left _ hv) _ (List.mem_append_left _ hv) hnod, hs]
  · rw [if_neg (by rw [he]; exact Bool.false_ne_true), hval' v (List.mem_append_right _ hv) _ (List.mem_append_right _ hv) hnod, hs]
  · rw [if_pos he, hs, fin, putAll_other _ _ _ (by rw [hkeys]; exact hlatefree t ht)]
 have hslotE : ∀ (a' : Act), a'.tmps.size = a.tmps.size → (∀ t, t ∉ dsts ops → slot a' t = slot a t) → ∀ t, (t ∉ dsts ops ∨ t ∈ free ∨ ∃ v, (t, v) ∈ vals ++ late ∧ slot a' t = v) → slot a' t = slot (fin a (vals ++ late) free (slot a')) t := by
  intro a' hsz hrest t ht
  rcases ht with ht | ht | ⟨v, hv, hs⟩
  · rw [hrest t ht, fin, putAll_other]
    rw [hkeys]
    intro hm
    exact ht (hk1 t hm).2
  · rw [fin, putAll_at _ t (slot a' t) a (by rw [hn]; exact (hk1 t (List.mem_append_right _ ht)).1) (by rw [hkeys]; exact hnod) (List.mem_append_right _ (List.mem_map.2 ⟨t, ht, rfl⟩))]
  · rw [hs, fin, putAll_at _ t v a (by rw [hn]; exact (hk1 t (List.mem_append_left _ (List.mem_map.2 ⟨_, hv, rfl⟩))).1) (by rw [hkeys]; exact hnod) (List.mem_append_left _ hv)]
 have hallOk : ok ops (seeOf ops sf) (depsOf ops) (oldsOf ops late early) = true := by
  refine List.all_eq_true.2 fun i hi => ?_
  have hlt := List.mem_range.1 hi
  rw [Array.getElem?_eq_getElem hlt]
  obtain ⟨h1, h2, h3⟩ := hopi i ops[i] (Array.getElem?_eq_getElem hlt)
  simp only [okAt, Bool.and_eq_true, List.all_eq_true, decide_eq_true_eq, List.any_eq_true, Bool.or_eq_true, beq_iff_eq]
  have hold : ∀ t ∈ oldsOf ops late early i, ∀ k ∈ List.range ops.size, (match ops[k]? with | some ok => ok.dst != some t || (direct ok).contains i | none => true) = true := by
   have := hop i (List.mem_range.2 hlt)
   rw [Array.getElem?_eq_getElem hlt] at this
   simp only [Bool.and_eq_true, List.all_eq_true] at this
   exact this.1.1.2
  refine ⟨⟨⟨hold, h1⟩, fun j hj => ⟨j, by simpa [depsOf, hlt] using hj, .inl rfl⟩⟩, fun k hk => ?_⟩
  have hklt := List.mem_range.1 hk
  rw [Array.getElem?_eq_getElem hklt]
  cases hd : ops[k].dst with
  | none => simp [hd]
  | some d =>
    simp only [Option.bind_some, hd, Bool.or_eq_true, Bool.not_eq_true', beq_iff_eq, List.contains_iff_mem]
    by_cases hm : d ∈ seeOf ops sf i
    · -- who writes d
      have uniq : ∀ j, (ops[j]?).bind (·.dst) = some d → j = k := by
       intro j hj
       cases hoj : ops[j]? with
       | none => rw [hoj] at hj; cases hj
       | some oj =>
         rw [hoj] at hj
         have hjlt : j < ops.size := (Array.getElem?_eq_some_iff.1 hoj).1
         -- dsts has no doubles
         have key : ∀ (l : List Oper) (x y : Nat) (ox oy : Oper), (l.filterMap (·.dst)).Nodup → l[x]? = some ox → l[y]? = some oy → ox.dst = some d → oy.dst = some d → x = y := by
          intro l
          induction l with
          | nil => intro x y ox oy _ hx; simp at hx
          | cons z l ih =>
            intro x y ox oy hnn hx hy hdx hdy
            have hl : (l.filterMap (·.dst)).Nodup := by
             cases hz : z.dst with
             | none => simpa [List.filterMap_cons, hz] using hnn
             | some dz => rw [List.filterMap_cons_some (h := hz)] at hnn; exact (List.nodup_cons.1 hnn).2
            have hz0 : z.dst = some d → d ∉ l.filterMap (·.dst) := fun hz => by
             rw [List.filterMap_cons_some (h := hz)] at hnn; exact (List.nodup_cons.1 hnn).1
            cases x with
            | zero =>
              cases y with
              | zero => rfl
              | succ y =>
                simp at hx hy; subst hx
                exact absurd (List.mem_filterMap.2 ⟨oy, List.mem_of_getElem? hy, hdy⟩) (hz0 hdx)
            | succ x =>
              cases y with
              | zero =>
                simp at hx hy; subst hy
                exact absurd (List.mem_filterMap.2 ⟨ox, List.mem_of_getElem? hx, hdx⟩) (hz0 hdy)
              | succ y =>
                simp at hx hy
                rw [ih x y ox oy hl hx hy hdx hdy]
         exact key ops.toList j k oj ops[k] hdn (by simpa using hoj) (by simp [hklt]) (by simpa using hj) hd
      unfold seeOf at hm
      rw [Array.getElem?_eq_getElem hlt] at hm
      rcases List.mem_append.1 hm with hm | hm
      · left; right
        have : ops[i].dst = some d := by simpa using hm
        exact (uniq i (by rw [Array.getElem?_eq_getElem hlt]; simpa using this)).symm
      · rcases (h3 d hm).2 with h | ⟨j, hj, hjd⟩
        · left; right
          exact (uniq i (by rw [Array.getElem?_eq_getElem hlt]; simpa using h)).symm
        · right
          have := uniq j hjd
          subst this
          simpa [depsOf, hlt] using hj
    · left; left; simpa using hm
 have hfree : ∀ (d : Tmp) (v : Value), (d, v) ∈ vals ++ late → d ∉ free := by
  intro d v hv hf
  have := (List.nodup_append.1 hnod).2.2 d (List.mem_map.2 ⟨_, hv, rfl⟩) d hf
  exact this rfl
 refine wp_region_facts hm (seeOf ops sf) (depsOf ops) (oldsOf ops late early) (factOf ops (vals ++ late) p) hallOk J hJ ?_ ?_
 · intro i o hi a' w' hsz hrest hold hB hdeps
   obtain ⟨h1, h2, h3⟩ := hopi i o hi
   have hilt : i < ops.size := (Array.getElem?_eq_some_iff.1 hi).1
   have hdepsi : depsOf ops i = direct o := by simp [depsOf, hi]
   -- what j's fact says, of j's own p
   have toP : ∀ j, At (seeOf ops sf) (factOf ops (vals ++ late) p) j a' w' → p j ((sf j).map (slot a')) w' := by
    intro j hj
    unfold At factOf seeOf at hj
    cases hd : (ops[j]?).bind (·.dst) with
    | none => simpa [hd] using hj
    | some d => simp only [hd] at hj; simpa using hj.2
   have exact_of : ∀ j ∈ direct o, ∀ t v, (ops[j]?).bind (·.dst) = some t → (t, v) ∈ vals ++ late → slot a' t = v := by
    intro j hj t v hd hv
    have := hdeps j (by rw [hdepsi]; exact hj)
    unfold At factOf seeOf at this
    simp only [hd] at this
    simpa using this.1 v hv
   have agree : ∀ t ∈ o.looksAt ops, slot a' t = slot (fr a vals late free early i (slot a')) t := by
    intro t ht
    refine hslot i a' hsz hrest t ?_
    by_cases hd : t ∈ dsts ops
    · right
      rcases h2 t ht hd with ho | ⟨j, hj, hjd⟩
      · -- it is read as it was
        right; right; right
        have hs := hold t ho
        unfold oldsOf at ho
        rw [hi] at ho
        simp only at ho
        cases he : early i with
        | false => rw [he] at ho; simp at ho
        | true =>
          rw [he] at ho
          simp only [if_true, List.mem_filter, List.contains_iff_mem] at ho
          exact ⟨rfl, ho.2, hs⟩
      · have hmem : t ∈ (vals ++ late).map (·.1) ++ free := hk2 t hd
        rcases List.mem_append.1 hmem with hv | hf
        · obtain ⟨⟨t', v⟩, hv2, rfl⟩ := List.mem_map.1 hv
          have hs := exact_of j hj _ v hjd hv2
          rcases List.mem_append.1 hv2 with h | h
          · exact .inr (.inl ⟨v, h, hs⟩)
          · -- a late slot, already written: this operation is not early
            cases he : early i with
            | false => exact .inr (.inr (.inl ⟨rfl, v, h, hs⟩))
            | true =>
              exfalso
              -- then it is among the olds, and its writer waits for i: but the writer stands before i
              have hol : t' ∈ oldsOf ops late early i := by
               unfold oldsOf
               rw [hi]
               simp only [he, if_true, List.mem_filter, List.contains_iff_mem]
               exact ⟨ht, List.mem_map.2 ⟨_, h, rfl⟩⟩
              have hjlt : j < ops.size := by have := h1 j hj; omega
              have := hop i (List.mem_range.2 hilt)
              rw [hi] at this
              simp only [Bool.and_eq_true, List.all_eq_true] at this
              have hw := this.1.1.2 t' hol j (List.mem_range.2 hjlt)
              rw [Array.getElem?_eq_getElem hjlt] at hw hjd
              simp only [Option.bind_some] at hjd
              simp only [hjd, bne_self_eq_false, Bool.false_or, List.contains_iff_mem] at hw
              have a1 := (hopi j ops[j] (Array.getElem?_eq_getElem hjlt)).1 i hw
              have a2 := h1 j hj
              omega
        · exact .inl hf
    · exact .inl hd
   have agreeF : ∀ j, (sf j).map (slot (fr a vals late free early i (slot a'))) = (sf j).map (slot a') ∨ j ≥ ops.size := by
    intro j
    rcases Nat.lt_or_ge j ops.size with hj | hj
    · left
      refine List.map_congr_left fun t ht => ?_
      obtain ⟨_, _, h3⟩ := hopi j ops[j] (Array.getElem?_eq_getElem hj)
      exact (hslot i a' hsz hrest t (.inr (.inl (h3 t ht).1))).symm
    · exact .inr hj
   have agreeL : ∀ j, j < ops.size → (sf j).map (slot (fr a vals late free early i (slot a'))) = (sf j).map (slot a') := fun j hj => (agreeF j).resolve_right (by omega)
   have hD := hstep i o hi (slot a') w' hB (fun j hj => by
    have hjlt : j < ops.size := by have := h1 j hj; omega
    rw [agreeL j hjlt]
    exact toP j (hdeps j (by rw [hdepsi]; exact hj)))
   have finish : ∀ (v : Value) (w'' : World), (∀ d u, o.dst = some d → (d, u) ∈ vals ++ late → v = u) → p i ((sf i).map (slot ((fr a vals late free early i (slot a')).put o.dst v))) w'' → J w'' →
    (∀ j, j ≠ i → j < ops.size → p j ((sf j).map (slot (fr a vals late free early i (slot a')))) w' → p j ((sf j).map (slot (fr a vals late free early i (slot a')))) w'') →
    ∃ v', a'.put o.dst v = a'.put o.dst v' ∧ At (seeOf ops sf) (factOf ops (vals ++ late) p) i (a'.put o.dst v) w'' ∧ J w'' ∧ ∀ j, j ≠ i → j < ops.size → At (seeOf ops sf) (factOf ops (vals ++ late) p) j a' w' → At (seeOf ops sf) (factOf ops (vals ++ late) p) j a' w'' := by
    intro v w'' hex hp hb hkeep
    have hput : (sf i).map (slot (a'.put o.dst v)) = (sf i).map (slot ((fr a vals late free early i (slot a')).put o.dst v)) := by
     refine List.map_congr_left fun t ht => ?_
     by_cases hd : o.dst = some t
     · have htlt : t < n := (hk1 t (List.mem_append_right _ (h3 t ht).1)).1
       rw [hd, slot_put_same _ _ _ (by rw [hsz, hn]; exact htlt), slot_put_same _ _ _ (by rw [fr_size, hn]; exact htlt)]
     · rw [slot_put_ne _ _ _ _ hd, slot_put_ne _ _ _ _ hd]
       exact hslot i a' hsz hrest t (.inr (.inl (h3 t ht).1))
    refine ⟨v, rfl, ?_, hb, fun j hji hj hat => ?_⟩
    · unfold At factOf seeOf
      simp only [hi, Option.bind_some]
      cases hd : o.dst with
      | none => rw [hd] at hp hput; simp only [Option.toList_none, List.nil_append]; rw [hput]; exact hp
      | some d =>
        rw [hd] at hp hput
        simp only [Option.toList_some, List.cons_append, List.nil_append, List.map_cons, List.head?_cons, List.tail_cons]
        refine ⟨fun u hu => ?_, by rw [hput]; exact hp⟩
        have hdlt : d < n := (hk1 d (List.mem_append_left _ (List.mem_map.2 ⟨_, hu, rfl⟩))).1
        rw [slot_put_same _ _ _ (by rw [hsz, hn]; exact hdlt), hex d u hd hu]
    · have hpj := toP j hat
      have hnew := hkeep j hji hj (by rw [agreeL j hj]; exact hpj)
      rw [agreeL j hj] at hnew
      unfold At factOf seeOf at hat ⊢
      cases hd : (ops[j]?).bind (·.dst) with
      | none => simp only [hd, Option.toList_none, List.nil_append] at hat ⊢; exact hnew
      | some d =>
        simp only [hd] at hat ⊢
        exact ⟨hat.1, by simpa using hnew⟩
   have hsel : ∀ cs b, o.op ≠ .select cs b := fun cs b => Region.noSelect_spec hs i o cs b hi
   unfold wpOp
   simp only [hi]
   unfold Does at hD
   rw [← wanted_congr o a' (fr a vals late free early i (slot a')) (by rw [fr_size, hsz]) agree] at hD
   split
   · rename_i hw
     rw [if_pos hw] at hD
     left
     unfold Oper.wp at hD ⊢
     rw [← exec_congr o hsel a' _ agree] at hD
     refine upon_congr (F := fr a vals late free early i (slot a')) ?_ ?_ hD
     · rintro v w'' ⟨v', he, hex, hp, hb, hkeep⟩
       -- v and v' put the same
       cases hd : o.dst with
       | none =>
         rw [hd] at he hp hex
         have := finish v w'' (by rw [hd]; exact fun d u h => by cases h) (by rw [hd]; exact hp) hb hkeep
         rw [hd] at this
         exact this
       | some d =>
         rw [hd] at he hp
         have hdlt : d < n := (hk1 d (hk2 d (List.mem_filterMap.2 ⟨o, by have := Array.mem_of_getElem? hi; simpa using this, hd⟩))).1
         have hvv : v = v' := by
          have h1 : slot ((fr a vals late free early i (slot a')).put (some d) v) d = slot ((fr a vals late free early i (slot a')).put (some d) v') d := congrArg (fun x => slot x d) he
          rwa [slot_put_same _ _ _ (by rw [fr_size, hn]; exact hdlt), slot_put_same _ _ _ (by rw [fr_size, hn]; exact hdlt)] at h1
         subst hvv
         have := finish v w'' hex (by rw [hd]; exact hp) hb hkeep
         rw [hd] at this
         exact this
     · rintro d w'' ⟨v, he, _⟩
       have h1 := congrArg (fun x => x.defers.length) he
       simp only [defers_put, List.length_cons] at h1
       omega
   · rename_i hw
     rw [if_neg (by simpa using hw)] at hD
     exact finish undef w' hD.1 hD.2 hB (fun _ _ _ h => h)
 · intro a' w' hdf hsz hrest hB hall
   have hfin : a' = fin a (vals ++ late) free (slot a') := by
    have ht : a'.tmps = (fin a (vals ++ late) free (slot a')).tmps := by
     refine Array.ext (by rw [fin, putAll_size, hsz]) fun t h1 h2 => ?_
     have hs := hslotE a' hsz hrest t (by
      by_cases hd : t ∈ dsts ops
      · right
        have hmem : t ∈ (vals ++ late).map (·.1) ++ free := hk2 t hd
        rcases List.mem_append.1 hmem with hv | hf
        · right
          obtain ⟨⟨t', v⟩, hv2, rfl⟩ := List.mem_map.1 hv
          obtain ⟨o, ho, hod⟩ := List.mem_filterMap.1 hd
          obtain ⟨i, hi, hoi⟩ := List.mem_iff_getElem.1 ho
          have hi' : i < ops.size := by simpa using hi
          have := hall i hi'
          unfold At factOf seeOf at this
          have hio : ops[i]? = some o := by rw [Array.getElem?_eq_getElem hi']; simpa using hoi
          simp only [hio, Option.bind_some, hod] at this
          exact ⟨v, hv2, by simpa using this.1 v hv2⟩
        · exact .inl hf
      · exact .inl hd)
     simpa [slot, h1, h2] using hs
    have hd : a'.defers = (fin a (vals ++ late) free (slot a')).defers := by rw [hdf, fin, putAll_defers]
    obtain ⟨x, y⟩ := a'
    simp only at ht hd
    cases hF : fin a (vals ++ late) free (slot ⟨x, y⟩) with
    | mk x' y' => rw [hF] at ht hd; simp only at ht hd; rw [ht, hd]
   have hq := hend (slot a') w' hB (fun i hi => by
    have := hall i hi
    rw [← hfin]
    unfold At factOf seeOf at this
    cases hd : (ops[i]?).bind (·.dst) with
    | none => simpa [hd] using this
    | some d => simp only [hd] at this; simpa using this.2)
   rw [← hfin] at hq
   exact hq
def DoesP (P : Program) (ops : Array Oper) (J R : World → Prop) (i0 : Nat) (F : Act) (i : Nat) (o : Oper) (w : World) : Prop :=
 if Region.wanted o (yielded ops F.tmps) = true then Oper.wp P o F w (fun a' w' => ∃ v, a' = F.put o.dst v ∧ F.put o.dst v = F ∧ J w' ∧ (i = i0 → R w') ∧ (i ≠ i0 → R w → R w')) (fun _ _ _ => False)
 else F.put o.dst undef = F ∧ i ≠ i0
theorem wp_region_keep {id : Nat} {a : Act} {w : World} (hm : P.follows .mixedOrders = true) (hs : Region.noSelect ops = true) (J R : World → Prop) (i0 : Nat) (hi0 : i0 < ops.size) (hJ : J w.drew)
 (vals : List (Tmp × Value)) (n : Nat) (hn : a.tmps.size = n) (hok : plan ops n vals [] [] (fun _ => []) (fun _ => false) = true)
 (hstep : ∀ F : Act, F = putAll a vals → ∀ w', J w' → Each (fun i o => DoesP P ops J R i0 F i o w') 0 ops.toList)
 (hend : ∀ w', J w' → R w' → Q .normal (putAll a vals) w') :
 (Code.region id ops true).wp P Q a w := by
 have hfin : ∀ g l, fin a l [] g = putAll a l := fun g l => by simp [fin]
 have hok' := hok
 simp only [plan, Bool.and_eq_true, List.all_eq_true, decide_eq_true_eq, List.contains_iff_mem, List.append_nil] at hok
 obtain ⟨⟨⟨⟨hk1, hk2⟩, hnod⟩, hdn⟩, hop⟩ := hok
 refine wp_region_run hm hs vals [] [] (fun _ => []) (fun _ => false) (fun i _ w => i = i0 → R w) n hn hok' J hJ ?_ ?_
 · intro i o hi g w' hB _
   have hD := each_at ops.toList 0 i o (hstep _ rfl w' hB) (by simpa using hi)
   have hfr : fr a vals [] [] (fun _ => false) i g = putAll a vals := by
    unfold fr
    rw [if_neg (by simp), hfin, List.append_nil]
   rw [hfr]
   rw [Nat.zero_add] at hD
   have hex : ∀ (v : Value), (putAll a vals).put o.dst v = putAll a vals → ∀ d u, o.dst = some d → (d, u) ∈ vals ++ [] → v = u := by
    intro v hv d u hd hu
    rw [List.append_nil] at hu
    have hdlt : d < n := (hk1 d (List.mem_map.2 ⟨_, hu, rfl⟩)).1
    rw [hd] at hv
    have h1 := put_slot _ d v (by rw [putAll_size, hn]; exact hdlt) hv
    rw [← h1, putAll_at vals d u a (by rw [hn]; exact hdlt) hnod hu]
   generalize putAll a vals = E at hD hex ⊢
   unfold DoesP at hD
   unfold Does
   split
   · rename_i hw
     rw [if_pos hw] at hD
     unfold Oper.wp at hD ⊢
     refine upon_congr (F := E) ?_ ?_ hD
     · rintro v w'' ⟨v', he, hF, hb, h1, h2⟩
       refine ⟨v', he, hex v' hF, h1, hb, fun j hj _ hp hji => ?_⟩
       exact h2 (fun e => hj (hji.trans e.symm)) (hp hji)
     · rintro d w'' ⟨v, he, _⟩
       have h1 := congrArg (fun x => x.defers.length) he
       simp only [defers_put, List.length_cons] at h1
       omega
   · rename_i hw
     rw [if_neg hw] at hD
     exact ⟨hex undef hD.1, fun e => absurd e hD.2⟩
 · intro g w' hB hall
   rw [hfin, List.append_nil]
   exact hend w' hB (hall i0 hi0 rfl)
theorem doesP_val {J R : World → Prop} {i0 i : Nat} {F : Act} {o : Oper} {w : World} {v : Value} (hi : i ≠ i0) (hJ : J w) (hr : (execOp F.eval o).run P w = .ok (.value v) w) (hw : Region.wanted o (yielded ops F.tmps) = true) (hF : F.put o.dst v = F) : DoesP P ops J R i0 F i o w := by
 unfold DoesP
 rw [if_pos hw]
 unfold Oper.wp
 rw [hr]
 exact ⟨v, rfl, hF, hJ, fun e => absurd e hi, fun _ h => h⟩
theorem doesP_call {J R : World → Prop} {i0 i : Nat} {F : Act} {o : Oper} {w : World} {v : Value} {f : FuncId} {args : Array Value} (hi : i ≠ i0) (hJ : ∀ w', Below w.heap.size w w' → J w') (hR : ∀ w', Below w.heap.size w w' → R w → R w') (hc : Calls P f args w fun e w' => e = .returned v ∧ Below w.heap.size w w')
 (hr : (execOp F.eval o).run P w = .ok (.enter f args) w) (hw : Region.wanted o (yielded ops F.tmps) = true) (hF : F.put o.dst v = F) : DoesP P ops J R i0 F i o w := by
 unfold DoesP
 rw [if_pos hw]
 unfold Oper.wp
 rw [hr]
 refine Calls.mono hc ?_
 rintro e w' ⟨rfl, hb⟩
 exact ⟨v, rfl, hF, hJ _ hb, fun e => absurd e hi, fun _ h => hR _ hb h⟩
theorem doesP_store {J R : World → Prop} {i0 : Nat} {F : Act} {o : Oper} {w w' : World} (hJ : J w') (hR : R w') (hr : (execOp F.eval o).run P w = .ok .skip w') (hd : o.dst = none) (hw : Region.wanted o (yielded ops F.tmps) = true) : DoesP P ops J R i0 F i0 o w := by
 unfold DoesP
 rw [if_pos hw]
 unfold Oper.wp
 rw [hr]
 exact ⟨undef, rfl, by rw [hd]; rfl, hJ, fun _ => hR, fun h => absurd rfl h⟩
end
end RegJ
end Go.Proofs.YtbpopkgpepmlcaaGreat
