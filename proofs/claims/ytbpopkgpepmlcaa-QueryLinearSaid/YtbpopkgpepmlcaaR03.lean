/-
  Part 3 of 6 of what the proof leans on: each part below says what it proves, and of what; no condition besides.
-/
import Derived.Test.YtbpopkgpepmlcaaR02
import Derived.Sort.Grow
set_option linter.unusedVariables false
set_option linter.unusedSimpArgs false
namespace Go.Proofs.Ytbpopkgpepmlcaa
open Go
def cntT (n : Int) : List UInt8 := if n = 1 then [] else 42 :: Lib.itoa n
def entT (x : List Val × Int) : List UInt8 := rowT x.1 ++ cntT x.2
def bagT (b : Bg) : List UInt8 := Lib.join (b.map entT) [32]
end Go.Proofs.Ytbpopkgpepmlcaa
namespace Go.Proofs.Ytbpopkgpepmlcaa
open Go Go.RowKit
set_option maxRecDepth 100000
theorem join_snoc (sep x : List UInt8) : ∀ l : List (List UInt8), l ≠ [] → Lib.join (l ++ [x]) sep = Lib.join l sep ++ (sep ++ x)
 | [], h => absurd rfl h
 | a :: l, _ => by
   rw [List.cons_append, Lib.join_cons, Lib.join_cons]
   simp [Lib.joinTail]
theorem body_next (xs : List Val) (k : Nat) (x : Val) (hx : xs[k]? = some x) : bodyL (xs.take (k + 1)) = bodyL (xs.take k) ++ ((if k = 0 then [] else [44, 32]) ++ textL x) := by
 unfold bodyL
 rw [List.take_add_one, hx, List.map_append]
 by_cases h : k = 0
 · subst h
   simp [Lib.join_one, Lib.join_nil]
 · rw [if_neg h]
   have hk : k < xs.length := (List.getElem?_eq_some_iff.1 hx).1
   exact join_snoc _ _ _ (fun e => by
    have := congrArg List.length e
    rw [List.length_map, List.length_take, List.length_nil] at this
    omega)
theorem body_len5 (xs : List Val) (h6 : ∀ x ∈ xs, -9223372036854775808 ≤ x.n ∧ x.n ≤ 9223372036854775807) (hz : ∀ x ∈ xs, x.s.size ≤ 2000) : ∀ k, k ≤ xs.length → (bodyL (xs.take k)).length ≤ k * 5002
 | 0, _ => by simp [bodyL, Lib.join_nil]
 | k + 1, hk => by
   have ih := body_len5 xs h6 hz k (by omega)
   have hx : xs[k]? = some (xs[k]'(by omega)) := List.getElem?_eq_getElem _
   have hm := List.mem_of_getElem? hx
   have ht := text_len _ (h6 _ hm) (hz _ hm)
   rw [body_next xs k _ hx, List.length_append, List.length_append]
   have : (if k = 0 then ([] : List UInt8) else [44, 32]).length ≤ 2 := by split <;> simp
   omega
theorem rowT_len (xs : List Val) (h6 : ∀ x ∈ xs, -9223372036854775808 ≤ x.n ∧ x.n ≤ 9223372036854775807) (hz : ∀ x ∈ xs, x.s.size ≤ 2000) (hn : xs.length ≤ 200) : (rowT xs).length ≤ 1000500 := by
 have h := body_len5 xs h6 hz xs.length (Nat.le_refl _)
 rw [List.take_of_length_le (Nat.le_refl _)] at h
 unfold rowT
 rw [List.length_append, List.length_append]
 simp only [List.length_cons, List.length_nil]
 omega
theorem bagT_next (b : Bg) (k : Nat) (x : List Val × Int) (hx : b[k]? = some x) : bagT (b.take (k + 1)) = bagT (b.take k) ++ ((if k = 0 then [] else [32]) ++ entT x) := by
 unfold bagT
 rw [List.take_add_one, hx, List.map_append]
 by_cases h : k = 0
 · subst h
   simp [Lib.join_one, Lib.join_nil]
 · rw [if_neg h]
   have hk : k < b.length := (List.getElem?_eq_some_iff.1 hx).1
   exact join_snoc _ _ _ (fun e => by
    have := congrArg List.length e
    rw [List.length_map, List.length_take, List.length_nil] at this
    omega)
def bagTR (b : Bg) : List UInt8 := if mayBag b then bagT b else []
set_option maxHeartbeats 1000000 in
theorem rtextR_c (A : Option Addr) (n c : Nat) (xs : List Val) (w : World) (hn : xs.length = n) (hn1 : n ≤ 200) (hs : Sl w A xs) (hx64 : ∀ x ∈ xs, -9223372036854775808 ≤ x.n ∧ x.n ≤ 9223372036854775807) (hz : ∀ x ∈ xs, x.s.size ≤ 2000) :
 Calls Try.prog 35 #[.slice A n c] w fun en w' => en = .returned (.string ⟨(rowT xs).toArray⟩) ∧ Below w.heap.size w w' := by
 obtain ⟨R, hR⟩ : ∃ R, rowT xs = R := ⟨_, rfl⟩
 rw [hR]
 have HR := Lib.hid hR
 have Hs := Lib.hid hs
 have Hn := Lib.hid hn
 have H6 := Lib.hid hx64
 have Hz := Lib.hid hz
 clear hR hs hn hx64 hz
 go_enter Try.func35, Try.ntmps35
 go_wp2_with fail
 go_loopw [3, 4] (fun v i wr => ∃ (k : Nat) (l : List UInt8), k ≤ n ∧ i = .int .i64 k ∧ v = .string ⟨l.toArray⟩ ∧ l.length ≤ 1 + k * 5002 ∧ Hid (Below w.heap.size w wr) ∧ Hid (l = [40] ++ bodyL (xs.take k))) (fun _ i _ => n - (intOf i).toNat)
 case atStart => exact ⟨0, [40], Nat.zero_le _, rfl, rfl, by simp, Lib.hid (Below.refl _ _), Lib.hid rfl⟩
 case round =>
  obtain ⟨k, l, hk, rfl, rfl, hll, hb, hl⟩ := hrel
  have hsz : (⟨l.toArray⟩ : ByteArray).size = l.length := by show l.toArray.size = _; simp
  by_cases hlt : k < n
  · obtain ⟨b, off, x, rfl, hblt, hx, e0, e1, e2⟩ := Hs.out.at3 (by rw [Hn.out]; exact hlt)
    have d0 := (hb.out.cell (p := ⟨b, off + k * 3, none⟩) hblt).trans e0
    have d1 := (hb.out.cell (p := ⟨b, off + k * 3 + 1, none⟩) hblt).trans e1
    have d2 := (hb.out.cell (p := ⟨b, off + k * 3 + 2, none⟩) hblt).trans e2
    have l0 : b < wr.heap.size := Nat.lt_of_lt_of_le hblt hb.out.size
    have Hnx := Lib.hid (body_next xs k x hx)
    have h6 := H6.out x (List.mem_of_getElem? hx)
    have hz := Hz.out x (List.mem_of_getElem? hx)
    have htl := text_len x h6 hz
    have HT := Lib.hid (rtextV_c x wr h6 hz)
    obtain ⟨T, hT⟩ : ∃ T, textL x = T := ⟨_, rfl⟩
    rw [hT] at HT Hnx htl
    have hsT : (⟨T.toArray⟩ : ByteArray).size = T.length := by show T.toArray.size = _; simp
    clear e0 e1 e2 hx hblt h6 hz hT
    have hlt' : (k : Int) < n := by omega
    by_cases hk0 : k = 0
    · have hk0' : ¬ (0 : Int) < k := by omega
      have Hl2 : Hid (l ++ T = [40] ++ bodyL (xs.take (k + 1))) := Lib.hid (by rw [Hnx.out, if_pos hk0, hl.out]; simp)
      clear hl Hnx hk0
      go_wp2_with fail
      refine HT.out.mono ?_
      rintro e w1 ⟨rfl, hb1⟩
      have Hb1 := Lib.hid (hb.out.trans (hb1.mono hb.out.size))
      clear hb1 HT
      go_wp2
      go_roundw
      case rel => exact ⟨k + 1, l ++ T, by omega, by go_num, congrArg Value.string (by rw [cat_two]), by rw [List.length_append]; omega, Hb1, Hl2⟩
      case measure => simp [intOf]; omega
    · have hk0' : (0 : Int) < k := by omega
      have hs2 : (⟨#[44, 32]⟩ : ByteArray).size = 2 := rfl
      have hcs : ((⟨l.toArray⟩ : ByteArray) ++ ⟨#[44, 32]⟩).size = l.length + 2 := by rw [show (⟨#[44, 32]⟩ : ByteArray) = ⟨[44, 32].toArray⟩ from rfl, cat_two]; show (l ++ [44, 32]).toArray.size = _; simp
      have Hl2 : Hid (l ++ [44, 32] ++ T = [40] ++ bodyL (xs.take (k + 1))) := Lib.hid (by rw [Hnx.out, if_neg hk0, hl.out]; simp)
      clear hl Hnx hk0
      go_wp2_with fail
      refine HT.out.mono ?_
      rintro e w1 ⟨rfl, hb1⟩
      have Hb1 := Lib.hid (hb.out.trans (hb1.mono hb.out.size))
      clear hb1 HT
      go_wp2
      go_roundw
      case rel => exact ⟨k + 1, l ++ [44, 32] ++ T, by omega, by go_num, congrArg Value.string (by rw [show (⟨#[44, 32]⟩ : ByteArray) = ⟨[44, 32].toArray⟩ from rfl, cat_two, cat_two]), by rw [List.length_append, List.length_append]; simp only [List.length_cons, List.length_nil]; omega, Hb1, Hl2⟩
      case measure => simp [intOf]; omega
  · obtain rfl : k = n := by omega
    have Hr : Hid ((⟨l.toArray⟩ : ByteArray) ++ ⟨#[41]⟩ = ⟨R.toArray⟩) := Lib.hid (by
     rw [show (⟨#[41]⟩ : ByteArray) = ⟨[41].toArray⟩ from rfl, cat_two, ← HR.out, hl.out, show xs.take k = xs from List.take_of_length_le (by rw [Hn.out]; exact Nat.le_refl _)]
     rfl)
    have hs1 : (⟨#[41]⟩ : ByteArray).size = 1 := rfl
    clear hl HR
    go_wp2
    go_ret
    exact ⟨congrArg (fun z => Ending.returned (Value.string z)) Hr.out, hb.out⟩
set_option maxHeartbeats 4000000 in
theorem rtextB_c (A : Option Addr) (n c : Nat) (cs : List Ct) (w : World) (hB : BgIn w A n cs) (hn : n ≤ 1000) (hz : ∀ c ∈ cs, c.h.n ≤ 200 ∧ ∀ x ∈ c.h.xs, x.s.size ≤ 2000) :
 Calls Try.prog 21 #[.slice A n c] w fun e w' => e = .returned (.string ⟨(bagTR (pl cs)).toArray⟩) ∧ Below w.heap.size w w' := by
 obtain ⟨R, hR⟩ : ∃ R, bagTR (pl cs) = R := ⟨_, rfl⟩
 rw [hR]
 have HR := Lib.hid hR
 have HB := Lib.hid hB
 have Hz := Lib.hid hz
 clear hB hR hz
 go_enter Try.func21, Try.ntmps21
 go_wp2_with fail
 go_loopw [3, 4] (fun v i wr => ∃ (k : Nat) (l : List UInt8), k ≤ n ∧ i = .int .i64 k ∧ v = .string ⟨l.toArray⟩ ∧ l.length ≤ k * 1000600 ∧ Hid (Below w.heap.size w wr) ∧ Hid (l = bagT ((pl cs).take k)) ∧ Hid (k = 0 ∨ mayBag (pl cs) = true)) (fun _ i _ => n - (intOf i).toNat)
 case atStart => exact ⟨0, [], Nat.zero_le _, rfl, rfl, by simp, Lib.hid (Below.refl _ _), Lib.hid rfl, Lib.hid (.inl rfl)⟩
 case round =>
  obtain ⟨k, l, hk, rfl, rfl, hll, hb, hl, hm⟩ := hrel
  have hsz : (⟨l.toArray⟩ : ByteArray).size = l.length := by show l.toArray.size = _; simp
  by_cases hlt : k < n
  · have hlt' : (k : Int) < n := by omega
    have HM := Lib.hid (rmayBag_c A n c cs wr (HB.out.after hb.out))
    go_wp2_with fail
    refine HM.out.mono ?_
    rintro e w1 ⟨rfl, hb1⟩
    have Hb1 := Lib.hid (hb.out.trans (hb1.mono hb.out.size))
    clear hb1 hb HM
    cases hM : mayBag (pl cs)
    · have hk0 : k = 0 := by
       rcases hm.out with h | h
       · exact h
       · rw [hM] at h; cases h
      have Hno : Hid (l = R) := Lib.hid (by
       rw [← HR.out, hl.out, hk0]
       unfold bagTR
       rw [hM]
       rfl)
      clear hl HR hm hk0
      go_wp2
      go_ret
      exact ⟨congrArg (fun z : List UInt8 => Ending.returned (Value.string ⟨z.toArray⟩)) Hno.out, Hb1.out⟩
    · obtain ⟨b, off, x, rfl, hblt, hx, c0, c1⟩ := HB.out.sl.at2 (k := k) (by rw [HB.out.len]; exact hlt)
      have HS : Hid (∀ w' : World, Below w.heap.size w w' → w'.cell? ⟨b, off + k * 2, none⟩ = some (.slice x.h.A x.h.n x.h.c) ∧ w'.cell? ⟨b, off + k * 2 + 1, none⟩ = some (.int .i64 x.N) ∧ b < w'.heap.size) := Lib.hid fun w' hb' => ⟨(hb'.cell hblt).trans c0, (hb'.cell hblt).trans c1, Nat.lt_of_lt_of_le hblt hb'.size⟩
      have Hi := Lib.hid ((HB.out.each x (List.mem_of_getElem? hx)).after Hb1.out)
      have Hzx := Lib.hid (Hz.out x (List.mem_of_getElem? hx))
      have Hnx := Lib.hid (bagT_next (pl cs) k _ (pl_at hx))
      have HM2 := Lib.hid hM
      clear hx c0 c1 hblt hm hM
      obtain ⟨⟨xA, xn, xc, xs⟩, N⟩ := x
      obtain ⟨d0, d1, l0⟩ := HS.out _ Hb1.out
      have hT := rtextR_c xA xn xc xs w1 Hi.out.hd.len Hzx.out.1 Hi.out.hd.sl Hi.out.n64 Hzx.out.2
      have hTl := rowT_len xs Hi.out.n64 Hzx.out.2 (by rw [Hi.out.hd.len]; exact Hzx.out.1)
      have hN := Hi.out.N64
      have hgl := itoa_len N hN
      have Hnx2 : Hid (bagT ((pl cs).take (k + 1)) = l ++ ((if k = 0 then [] else [32]) ++ (rowT xs ++ cntT N))) := Lib.hid (by rw [Hnx.out, hl.out]; rfl)
      obtain ⟨T, hTe⟩ : ∃ T, rowT xs = T := ⟨_, rfl⟩
      obtain ⟨G, hGe⟩ : ∃ G, Lib.itoa N = G := ⟨_, rfl⟩
      have HSg : Hid (∀ w', Calls Try.prog 36 #[.int .i64 N] w' fun e w'' => e = .returned (.string ⟨G.toArray⟩) ∧ Below w'.heap.size w' w'') := Lib.hid fun w' => by rw [← hGe]; exact rsigned_c N w' hN
      unfold cntT at Hnx2
      rw [hTe] at hT hTl Hnx2
      rw [hGe] at hgl Hnx2
      have HT := Lib.hid hT
      have hsT : (⟨T.toArray⟩ : ByteArray).size = T.length := by show T.toArray.size = _; simp
      have hsG : (⟨G.toArray⟩ : ByteArray).size = G.length := by show G.toArray.size = _; simp
      have hs32 : (⟨#[32]⟩ : ByteArray).size = 1 := rfl
      have hs42 : (⟨#[42]⟩ : ByteArray).size = 1 := rfl
      have hcat : ∀ a b : List UInt8, (⟨a.toArray⟩ : ByteArray) ++ ⟨b.toArray⟩ = ⟨(a ++ b).toArray⟩ := cat_two
      have Hcat := Lib.hid hcat
      clear hT hTe hGe hl Hnx hN hcat HR
      simp only [] at d0 d1
      have hsz2 : ((⟨l.toArray⟩ : ByteArray) ++ ⟨#[32]⟩).size = l.length + 1 := by rw [show (⟨#[32]⟩ : ByteArray) = ⟨[32].toArray⟩ from rfl, cat_two]; show (l ++ [32]).toArray.size = _; simp
      have hsz3 : ((⟨l.toArray⟩ : ByteArray) ++ ⟨T.toArray⟩).size = l.length + T.length := by rw [cat_two]; show (l ++ T).toArray.size = _; simp
      have hsz4 : ((⟨l.toArray⟩ : ByteArray) ++ ⟨#[32]⟩ ++ ⟨T.toArray⟩).size = l.length + 1 + T.length := by rw [show (⟨#[32]⟩ : ByteArray) = ⟨[32].toArray⟩ from rfl, cat_two, cat_two]; show (l ++ [32] ++ T).toArray.size = _; simp; omega
      have hsz5 : ((⟨#[42]⟩ : ByteArray) ++ ⟨G.toArray⟩).size = 1 + G.length := by rw [show (⟨#[42]⟩ : ByteArray) = ⟨[42].toArray⟩ from rfl, cat_two]; show ([42] ++ G).toArray.size = _; simp; omega
      by_cases hk0 : k = 0
      · have hk0' : ¬ (0 : Int) < k := by omega
        by_cases hN1 : N = 1
        · have Hl2 : Hid (l ++ T = bagT ((pl cs).take (k + 1))) := Lib.hid (by rw [Hnx2.out, if_pos hk0, if_pos hN1]; simp)
          have hN1' : (N != 1) = false := by simpa using hN1
          clear Hnx2 hk0 hN1
          go_wp2_with fail
          refine HT.out.mono ?_
          rintro e w2 ⟨rfl, hb2⟩
          have Hb2 := Lib.hid (Hb1.out.trans (hb2.mono Hb1.out.size))
          obtain ⟨e0, e1, m0⟩ := HS.out _ Hb2.out
          clear hb2 HT
          go_wp2
          go_roundw
          case rel => exact ⟨k + 1, _, by omega, by go_num, congrArg Value.string (by rw [cat_two]), by rw [List.length_append]; omega, Hb2, Hl2, Lib.hid (.inr HM2.out)⟩
          case measure => simp [intOf]; omega
        · have Hl2 : Hid (l ++ T ++ ([42] ++ G) = bagT ((pl cs).take (k + 1))) := Lib.hid (by rw [Hnx2.out, if_pos hk0, if_neg hN1]; simp)
          have hN1' : (N != 1) = true := by simpa using hN1
          clear Hnx2 hk0 hN1
          go_wp2_with fail
          refine HT.out.mono ?_
          rintro e w2 ⟨rfl, hb2⟩
          have Hb2 := Lib.hid (Hb1.out.trans (hb2.mono Hb1.out.size))
          obtain ⟨e0, e1, m0⟩ := HS.out _ Hb2.out
          clear hb2 HT
          go_wp2_with fail
          refine (HSg.out _).mono ?_
          rintro e w3 ⟨rfl, hb3⟩
          have Hb3 := Lib.hid (Hb2.out.trans (hb3.mono Hb2.out.size))
          clear hb3 HSg
          go_wp2
          go_roundw
          case rel => exact ⟨k + 1, _, by omega, by go_num, congrArg Value.string (by rw [show (⟨#[42]⟩ : ByteArray) = ⟨[42].toArray⟩ from rfl, cat_two, cat_two, cat_two]), by simp only [List.length_append, List.length_cons, List.length_nil]; omega, Hb3, Hl2, Lib.hid (.inr HM2.out)⟩
          case measure => simp [intOf]; omega
      · have hk0' : (0 : Int) < k := by omega
        by_cases hN1 : N = 1
        · have Hl2 : Hid (l ++ [32] ++ T = bagT ((pl cs).take (k + 1))) := Lib.hid (by rw [Hnx2.out, if_neg hk0, if_pos hN1]; simp)
          have hN1' : (N != 1) = false := by simpa using hN1
          clear Hnx2 hk0 hN1
          go_wp2_with fail
          refine HT.out.mono ?_
          rintro e w2 ⟨rfl, hb2⟩
          have Hb2 := Lib.hid (Hb1.out.trans (hb2.mono Hb1.out.size))
          obtain ⟨e0, e1, m0⟩ := HS.out _ Hb2.out
          clear hb2 HT
          go_wp2
          go_roundw
          case rel => exact ⟨k + 1, _, by omega, by go_num, congrArg Value.string (by rw [show (⟨#[32]⟩ : ByteArray) = ⟨[32].toArray⟩ from rfl, cat_two, cat_two]), by simp only [List.length_append, List.length_cons, List.length_nil]; omega, Hb2, Hl2, Lib.hid (.inr HM2.out)⟩
          case measure => simp [intOf]; omega
        · have Hl2 : Hid (l ++ [32] ++ T ++ ([42] ++ G) = bagT ((pl cs).take (k + 1))) := Lib.hid (by rw [Hnx2.out, if_neg hk0, if_neg hN1]; simp)
          have hN1' : (N != 1) = true := by simpa using hN1
          clear Hnx2 hk0 hN1
          go_wp2_with fail
          refine HT.out.mono ?_
          rintro e w2 ⟨rfl, hb2⟩
          have Hb2 := Lib.hid (Hb1.out.trans (hb2.mono Hb1.out.size))
          obtain ⟨e0, e1, m0⟩ := HS.out _ Hb2.out
          clear hb2 HT
          go_wp2_with fail
          refine (HSg.out _).mono ?_
          rintro e w3 ⟨rfl, hb3⟩
          have Hb3 := Lib.hid (Hb2.out.trans (hb3.mono Hb2.out.size))
          clear hb3 HSg
          go_wp2
          go_roundw
          case rel => exact ⟨k + 1, _, by omega, by go_num, congrArg Value.string (by rw [show (⟨#[32]⟩ : ByteArray) = ⟨[32].toArray⟩ from rfl, show (⟨#[42]⟩ : ByteArray) = ⟨[42].toArray⟩ from rfl, cat_two, cat_two, cat_two, cat_two]), by simp only [List.length_append, List.length_cons, List.length_nil]; omega, Hb3, Hl2, Lib.hid (.inr HM2.out)⟩
          case measure => simp [intOf]; omega
  · obtain rfl : k = n := by omega
    have Hyes : Hid (l = R) := Lib.hid (by
     rw [← HR.out, hl.out, show (pl cs).take k = pl cs from List.take_of_length_le (by rw [pl_len, HB.out.len]; exact Nat.le_refl _)]
     unfold bagTR
     rcases hm.out with h | h
     · have : cs = [] := List.eq_nil_of_length_eq_zero (by rw [HB.out.len, h])
       rw [this]
       rfl
     · rw [h, if_pos rfl])
    clear hl HR hm
    go_wp2
    go_ret
    exact ⟨congrArg (fun z : List UInt8 => Ending.returned (Value.string ⟨z.toArray⟩)) Hyes.out, hb.out⟩
set_option maxHeartbeats 4000000 in
theorem rboth_c (A B : Option Addr) (n m c d : Nat) (cs ds : List Ct) (P : Int) (w : World) (hA : BgIn w A n cs) (hB : BgIn w B m ds) (ha : Asc (pl cs)) (hn : n + m ≤ 100000) (h0 : 0 ≤ P) (hP : Bd P (pl cs)) (hQ : Bd 1000000000 (pl ds)) (hs : P + m * 1000000000 ≤ 9000000000000000000) :
 Calls Try.prog 11 #[.slice A n c, .slice B m d] w fun e w' => ∃ A' n' c' cs', e = .returned (.slice A' n' c') ∧ Below w.heap.size w w' ∧ BgIn w' A' n' cs' ∧ pl cs' = bothB (pl cs) (pl ds) ∧ Bd (P + m * 1000000000) (pl cs') ∧ n' ≤ n + m := by
 have HA := Lib.hid hA
 have HB := Lib.hid hB
 have Ha := Lib.hid ha
 have HP := Lib.hid hP
 have HQ := Lib.hid hQ
 have Hs := Lib.hid hs
 have H0 := Lib.hid h0
 clear hA hB ha hP hQ hs h0
 go_enter Try.func11, Try.ntmps11
 go_wp2_with fail
 go_loopw [0, 5] (fun v i wr => ∃ (k : Nat) (A' : Option Addr) (n' c' : Nat) (cs' : List Ct), k ≤ m ∧ i = .int .i64 k ∧ v = .slice A' n' c' ∧ Hid (Below w.heap.size w wr) ∧ Hid (BgIn wr A' n' cs') ∧ Hid (pl cs' = bothB (pl cs) ((pl ds).take k)) ∧ Hid (Bd (P + k * 1000000000) (pl cs')) ∧ Hid (n' ≤ n + k)) (fun _ i _ => m - (intOf i).toNat)
 case atStart => exact ⟨0, A, n, c, cs, Nat.zero_le _, rfl, rfl, Lib.hid (Below.refl _ _), HA, Lib.hid rfl, Lib.hid (by simpa using HP.out), Lib.hid (Nat.le_refl _)⟩
 case round =>
  obtain ⟨k, A', n', c', cs', hk, rfl, rfl, hb, hI, he, hd, hl⟩ := hrel
  by_cases hlt : k < m
  · obtain ⟨b, off, x, rfl, hblt, hx, c0, c1⟩ := HB.out.sl.at2 (k := k) (by rw [HB.out.len]; exact hlt)
    have d0 := (hb.out.cell (p := ⟨b, off + k * 2, none⟩) hblt).trans c0
    have d1 := (hb.out.cell (p := ⟨b, off + k * 2 + 1, none⟩) hblt).trans c1
    have l0 : b < wr.heap.size := Nat.lt_of_lt_of_le hblt hb.out.size
    have Hi := Lib.hid ((HB.out.each x (List.mem_of_getElem? hx)).after hb.out)
    have hq := HQ.out _ (pl_mem (List.mem_of_getElem? hx))
    simp only [] at hq
    have Hq := Lib.hid hq
    have Hx := Lib.hid (pl_at hx)
    have Has : Hid (Asc (pl cs')) := Lib.hid (by rw [he.out]; exact asc_both _ _ Ha.out)
    have H64 : Hid (∀ y ∈ cs', -9223372036854775808 ≤ x.N + y.N ∧ x.N + y.N ≤ 9223372036854775807) := Lib.hid fun y hy => by
     have h1 := hd.out _ (pl_mem hy)
     have h2 := Hs.out
     simp only [] at h1
     omega
    have Hn' : Hid (n' ≤ 100000) := Lib.hid (by have := hl.out; omega)
    have HS : Hid (∀ w' : World, Below w.heap.size w w' → w'.cell? ⟨b, off + k * 2, none⟩ = some (.slice x.h.A x.h.n x.h.c) ∧ w'.cell? ⟨b, off + k * 2 + 1, none⟩ = some (.int .i64 x.N)) := Lib.hid fun w' hb' => ⟨(hb'.cell hblt).trans c0, (hb'.cell hblt).trans c1⟩
    clear hx c0 c1 hblt hq
    obtain ⟨⟨xA, xn, xc, xs⟩, N⟩ := x
    simp only [] at d0 d1
    have hlt' : (k : Int) < m := by omega
    go_wp2_with fail
    go_region_held3 (fun w' => w'.cell? ⟨b, off + k * 2, none⟩ = some (.slice xA xn xc) ∧ w'.cell? ⟨b, off + k * 2 + 1, none⟩ = some (.int .i64 N)) (first | exact HS.out _ Hb2.out | go_keep)
     (first
       | (go_at_call 25
          refine (radd_c A' n' c' cs' ⟨xA, xn, xc, xs⟩ N _ (hI.out.after (Below.refl _ _).drew) (Hi.out.after (Below.refl _ _).drew) Has.out Hn'.out H64.out).mono ?_
          rintro en w2 ⟨A2, n2, c2, cs2, rfl, hb2, hI2, he2⟩
          have Hb2 := Lib.hid (hb.out.trans ((below_via (Below.refl _ _).drew hb2).mono hb.out.size))
          have HI2 := Lib.hid hI2
          have He2 := Lib.hid he2
          clear hb2 hI2 he2))
    go_wp2
    go_roundw
    case rel =>
     refine ⟨k + 1, A2, n2, c2, cs2, by omega, by go_num, rfl, Hb2, HI2, Lib.hid ?_, Lib.hid ?_, Lib.hid ?_⟩
     · rw [He2.out, he.out, both_take _ _ k _ Hx.out]
     · rw [He2.out]
       have h1 := bd_add (pl cs') xs N (P + k * 1000000000) 1000000000 hd.out (by have := H0.out; omega) Hq.out.1 Hq.out.2
       rw [show P + ((k + 1 : Nat) : Int) * 1000000000 = P + k * 1000000000 + 1000000000 by omega]
       exact h1
     · have h1 := len_add (pl cs') xs N
       rw [← He2.out, pl_len, pl_len, HI2.out.len, hI.out.len] at h1
       have := hl.out
       omega
    case measure => simp [intOf]; omega
  · obtain rfl : k = m := by omega
    have He : Hid (pl cs' = bothB (pl cs) (pl ds)) := Lib.hid (by
     have := he.out
     rw [List.take_of_length_le (by rw [pl_len, HB.out.len]; exact Nat.le_refl _)] at this
     exact this)
    clear he
    go_wp2
    go_ret
    exact ⟨A', n', c', cs', rfl, hb.out, hI.out, He.out, hd.out, hl.out⟩
def Gr (w w' : World) : Prop := ∃ q os, w' = Sort.grow (w.drewN q) os
theorem Gr.refl (w : World) : Gr w w := ⟨0, #[], by simp [Sort.grow, World.drewN]⟩
theorem Gr.trans {a b c : World} (h : Gr a b) (k : Gr b c) : Gr a c := by
 obtain ⟨q, os, rfl⟩ := h
 obtain ⟨q', os', rfl⟩ := k
 exact ⟨q + q', os ++ os', by simp [Sort.grow, World.drewN, Array.append_assoc, Nat.add_assoc]⟩
theorem gr_one (w : World) (o : Obj) : Gr w (w.alloc o) := ⟨0, #[o], by
 unfold World.alloc Sort.grow World.drewN
 simp⟩
theorem Gr.alloc {a b : World} (h : Gr a b) (o : Obj) : Gr a (b.alloc o) := h.trans (gr_one b o)
theorem gr_two (w : World) (o o' : Obj) : Gr w ((w.alloc o).alloc o') := (gr_one w o).alloc o'
theorem Gr.below {w w' : World} (h : Gr w w') : Below w.heap.size w w' := by
 obtain ⟨q, os, rfl⟩ := h
 exact ⟨rfl, rfl, rfl, by show w.heap.size ≤ (w.heap ++ os).size; simp, fun i hi => by
  show (w.heap ++ os)[i]? = w.heap[i]?
  rw [Array.getElem?_append_left hi]⟩
set_option maxHeartbeats 400000 in
theorem compare_g (x y : Val) (w : World) : Calls Try.prog 55 #[x.v, y.v] w fun e w' => e = .returned (.int .i64 (cmpV x y)) ∧ Gr w w' := by
 cases h1 : x.k != y.k
 · cases h2 : x.n != y.n
   · have e : cmpV x y = Lib.compareBytes x.s.data.toList y.s.data.toList := by simp [cmpV, h1, h2]
     rw [e]
     clear e
     go_enter Try.func55, Try.ntmps55
     go_wp2_with fail
     refine (Try.strings_Compare _ _ _).mono ?_
     rintro e w1 ⟨rfl, rfl⟩
     go_wp2
     go_ret
     exact ⟨rfl, gr_two _ _ _⟩
   · have e : cmpV x y = Lib.compareInt x.n y.n := by simp [cmpV, h1, h2]
     rw [e]
     clear e
     go_enter Try.func55, Try.ntmps55
     go_wp2_with fail
     refine (Try.cmp_Compare_int _ _ _).mono ?_
     rintro e w1 ⟨rfl, rfl⟩
     go_wp2
     go_ret
     exact ⟨rfl, gr_two _ _ _⟩
 · have e : cmpV x y = Lib.compareInt x.k y.k := by simp [cmpV, h1]
   rw [e]
   clear e
   go_enter Try.func55, Try.ntmps55
   go_wp2_with fail
   refine (Try.cmp_Compare_int _ _ _).mono ?_
   rintro e w1 ⟨rfl, rfl⟩
   go_wp2
   go_ret
   exact ⟨rfl, gr_two _ _ _⟩
set_option maxHeartbeats 2000000 in
theorem cmpFunc_g (A B : Option Addr) (n m c d : Nat) (xs ys : List Val) (w : World) (hn : xs.length = n) (hm : ys.length = m) (hn1 : n ≤ maxLen) (hm1 : m ≤ maxLen) (hs : Sl w A xs) (ht : Sl w B ys) :
 Calls Try.prog 54 #[.slice A n c, .slice B m d, .func (.func 55) #[] #[]] w fun e w' => e = .returned (.int .i64 (cmpL xs ys)) ∧ Gr w w' := by
 unfold maxLen at hn1 hm1
 have Hn := Lib.hid hn
 have Hm := Lib.hid hm
 have Hs := Lib.hid hs
 have Ht := Lib.hid ht
 clear hn hm hs ht
 go_enter Try.func54, Try.ntmps54
 go_wp2_with fail
 go_loopw [13] (fun i wr => ∃ k : Nat, k ≤ n ∧ k ≤ m ∧ i = .int .i64 k ∧ Gr w wr ∧ Hid (cmpL (xs.drop k) (ys.drop k) = cmpL xs ys)) (fun i _ => n - (intOf i).toNat)
 case atStart => exact ⟨0, Nat.zero_le _, Nat.zero_le _, rfl, Gr.refl _, rfl⟩
 case round =>
  obtain ⟨k, hk, hkm, rfl, hb, hinv⟩ := hrel
  by_cases hlt : k < n
  · obtain ⟨b, off, x, rfl, hblt, hx, c0, c1, c2⟩ := Hs.out.at (by rw [Hn.out]; exact hlt)
    have d0 := (hb.below.cell (p := ⟨b, off + k * 3, none⟩) hblt).trans c0
    have d1 := (hb.below.cell (p := ⟨b, off + k * 3 + 1, none⟩) hblt).trans c1
    have d2 := (hb.below.cell (p := ⟨b, off + k * 3 + 2, none⟩) hblt).trans c2
    have Hx := Lib.hid hx
    clear c0 c1 c2 hx
    have l1 := hb.below.size
    by_cases hlt2 : k < m
    · obtain ⟨b', off', y, rfl, hblt', hy, c0, c1, c2⟩ := Ht.out.at (by rw [Hm.out]; exact hlt2)
      have d3 := (hb.below.cell (p := ⟨b', off' + k * 3, none⟩) hblt').trans c0
      have d4 := (hb.below.cell (p := ⟨b', off' + k * 3 + 1, none⟩) hblt').trans c1
      have d5 := (hb.below.cell (p := ⟨b', off' + k * 3 + 2, none⟩) hblt').trans c2
      have Hy := Lib.hid hy
      clear c0 c1 c2 hy
      have l2 : b' < wr.heap.size := by omega
      have hstep := cmpL_drop xs ys k x y Hx.out Hy.out
      have Hst := Lib.hid (hstep.symm.trans hinv.out)
      clear hstep hinv
      cases hc : cmpV x y != 0
      · have Hst' : Hid (cmpL (xs.drop (k + 1)) (ys.drop (k + 1)) = cmpL xs ys) := by have := Hst.out; rw [hc] at this; exact this
        clear Hst
        go_wp2_with fail
        refine (compare_g x y _).mono ?_
        rintro e w1 ⟨rfl, hb1⟩
        go_wp2
        go_roundw
        case rel => exact ⟨k + 1, by omega, by omega, by go_num, (hb.alloc _).trans ((gr_one _ _).trans hb1), Hst'.out⟩
        case measure => simp [intOf]; omega
      · have Hst' : Hid (cmpV x y = cmpL xs ys) := by have := Hst.out; rw [hc] at this; exact this
        clear Hst
        go_wp2_with fail
        refine (compare_g x y _).mono ?_
        rintro e w1 ⟨rfl, hb1⟩
        go_wp2
        go_ret
        exact ⟨congrArg (fun z => Ending.returned (Value.int .i64 z)) Hst'.out, (hb.alloc _).trans ((gr_one _ _).trans hb1)⟩
    · obtain rfl : k = m := by omega
      have Hst : Hid (1 = cmpL xs ys) := by
       have := hinv.out
       rw [show ys.drop k = [] from List.drop_eq_nil_of_le (by rw [Hm.out]; omega), cmpL_nil_right, if_neg (by rw [List.length_drop, Hn.out]; omega)] at this
       exact this
      clear hinv
      go_wp2
      go_ret
      exact ⟨congrArg (fun z => Ending.returned (Value.int .i64 z)) Hst.out, hb.alloc _⟩
  · obtain rfl : k = n := by omega
    by_cases hlt2 : k < m
    · have Hst : Hid (-1 = cmpL xs ys) := by
       have := hinv.out
       rw [show xs.drop k = [] from List.drop_eq_nil_of_le (by rw [Hn.out]; omega), cmpL_nil_left, if_neg (by rw [List.length_drop, Hm.out]; omega)] at this
       exact this
      clear hinv
      go_wp2
      go_ret
      exact ⟨congrArg (fun z => Ending.returned (Value.int .i64 z)) Hst.out, hb⟩
    · have Hst : Hid (0 = cmpL xs ys) := by
       have := hinv.out
       rw [show xs.drop k = [] from List.drop_eq_nil_of_le (by rw [Hn.out]; omega), cmpL_nil_left, if_pos (by rw [List.length_drop, Hm.out]; omega)] at this
       exact this
      clear hinv
      go_wp2
      go_ret
      exact ⟨congrArg (fun z => Ending.returned (Value.int .i64 z)) Hst.out, hb⟩
set_option maxHeartbeats 400000 in
theorem compareL_g (A B : Option Addr) (n m c d : Nat) (xs ys : List Val) (w : World) (hn : xs.length = n) (hm : ys.length = m) (hn1 : n ≤ maxLen) (hm1 : m ≤ maxLen) (hs : Sl w A xs) (ht : Sl w B ys) :
 Calls Try.prog 41 #[.slice A n c, .slice B m d] w fun e w' => e = .returned (.int .i64 (cmpL xs ys)) ∧ Gr w w' := by
 have Hn := Lib.hid hn
 have Hm := Lib.hid hm
 have Hs := Lib.hid hs
 have Ht := Lib.hid ht
 clear hn hm hs ht
 go_enter Try.func41, Try.ntmps41
 go_wp2_with fail
 refine (cmpFunc_g A B n m c d xs ys w Hn.out Hm.out hn1 hm1 Hs.out Ht.out).mono ?_
 rintro e w1 ⟨rfl, hb1⟩
 go_wp2
 go_ret
 exact ⟨rfl, hb1⟩
namespace RegT
open Reg
section
variable {P : Program} {ops : Array Oper} {Q : Exit → Act → World → Prop} {see deps olds : Nat → List Nat} {fact : Nat → List Value → World → Prop}
structure Inv (ops : Array Oper) (see : Nat → List Nat) (fact : Nat → List Value → World → Prop) (J : Bool → World → Prop) (i0 : Nat) (a0 : Act) (listed : Array Bool) (a : Act) (w : World) : Prop where
 defers : a.defers = a0.defers
 size : a.tmps.size = a0.tmps.size
 old : ∀ t, (∀ k o, ops[k]? = some o → o.dst = some t → listed.getD k true = false) → slot a t = slot a0 t
 below : J (listed.getD i0 true) w
 down : ∀ i o, ops[i]? = some o → listed.getD i true = true → ∀ j ∈ direct o, listed.getD j true = true
 facts : ∀ i, i < ops.size → listed.getD i true = true → At see fact i a w
def StepOk (P : Program) (ops : Array Oper) (Q : Exit → Act → World → Prop) (see deps olds : Nat → List Nat) (fact : Nat → List Value → World → Prop) (J : Bool → World → Prop) (i0 : Nat) (a0 : Act) (i : Nat) (o : Oper) : Prop :=
 ∀ (a : Act) (w : World) (ph : Bool), a.tmps.size = a0.tmps.size → (∀ t, t ∉ dsts ops → slot a t = slot a0 t) → (∀ t ∈ olds i, slot a t = slot a0 t) → (i = i0 → ph = false) → J ph w → (∀ j ∈ deps i, At see fact j a w) →
  wpOp P ops Q i (fun a' w' => ∃ v, a' = a.put o.dst v ∧ At see fact i a' w' ∧ J (decide (i = i0) || ph) w' ∧ ∀ j, j ≠ i → j < ops.size → At see fact j a w → At see fact j a w') a w
theorem Inv.rest {J : Bool → World → Prop} {i0 : Nat} {a0 : Act} {listed : Array Bool} {a : Act} {w : World} (h : Inv ops see fact J i0 a0 listed a w) (t : Tmp) (ht : t ∉ dsts ops) : slot a t = slot a0 t :=
 h.old t fun _ _ hk hd => absurd hd (no_writer ht hk)
theorem wpAny_inv (hok : ok ops see deps olds = true) {J : Bool → World → Prop} {i0 : Nat} {a0 : Act} (hi0 : i0 < ops.size)
 (hstep : ∀ i o, ops[i]? = some o → StepOk P ops Q see deps olds fact J i0 a0 i o)
 (hend : ∀ a w, a.defers = a0.defers → a.tmps.size = a0.tmps.size → (∀ t, t ∉ dsts ops → slot a t = slot a0 t) → J true w → (∀ i, i < ops.size → At see fact i a w) → Q .normal a w) :
 ∀ (fuel : Nat) (listed : Array Bool) (a : Act) (w : World), listed.size = ops.size → (listed.toList.countP fun b => !b) ≤ fuel → Inv ops see fact J i0 a0 listed a w → wpAny P .any ops Q fuel listed a w := by
 have final : ∀ (listed : Array Bool) (a : Act) (w : World), listed.size = ops.size → Inv ops see fact J i0 a0 listed a w → Region.ready .any ops listed = [] → Q .normal a w := by
  intro listed a w hsz hI hr
  have all : ∀ (n i : Nat), i < n → i < ops.size → listed.getD i true = true := by
   intro n
   induction n with
   | zero => intro i hi; omega
   | succ n ih =>
     intro i hi ho
     cases hl : listed.getD i true with
     | true => rfl
     | false =>
       have hmem : i ∈ Region.ready .any ops listed := by
        refine mem_ready.2 ⟨hl, ops[i], Array.getElem?_eq_getElem ho, fun e he hb => ?_⟩
        have hdir : e.on ∈ direct ops[i] := List.mem_map.2 ⟨e, List.mem_filter.2 ⟨by simpa using he, hb⟩, rfl⟩
        have h := ok_spec hok (Array.getElem?_eq_getElem ho)
        simp only [okAt, Bool.and_eq_true, List.all_eq_true, decide_eq_true_eq] at h
        have hlt := h.1.1.2 _ hdir
        have := ih e.on (by omega) (by omega)
        have hs : e.on < listed.size := by omega
        simp [hs] at this ⊢
        exact this
       rw [hr] at hmem; cases hmem
  exact hend a w hI.defers hI.size hI.rest (by have h := hI.below; rw [all (i0 + 1) i0 (by omega) hi0] at h; exact h) fun i hi => hI.facts i hi (all (i + 1) i (by omega) hi)
 intro fuel
 induction fuel with
 | zero =>
   intro listed a w hsz hc hI
   have hnil : Region.ready .any ops listed = [] := by
    rcases hr : Region.ready .any ops listed with _ | ⟨x, xs⟩
    · rfl
    · exfalso
      have hx : x ∈ Region.ready .any ops listed := by rw [hr]; simp
      have h0 := (mem_ready.1 hx).1
      have hlt := listed_lt h0
      have : false ∈ listed.toList := by
       have : listed[x] = false := by simpa [hlt] using h0
       exact this ▸ (by simp : listed[x] ∈ listed.toList)
      have hp : 0 < listed.toList.countP fun b => !b := List.countP_pos_iff.2 ⟨false, this, rfl⟩
      omega
   exact ⟨hnil, final listed a w hsz hI hnil⟩
 | succ fuel ih =>
   intro listed a w hsz hc hI
   refine ⟨final listed a w hsz hI, fun i hi => ?_⟩
   obtain ⟨h0, o, ho, hall⟩ := mem_ready.1 hi
   have hilt : i < ops.size := (Array.getElem?_eq_some_iff.1 ho).1
   have hdir : ∀ j ∈ direct o, listed.getD j true = true := by
    intro j hj
    obtain ⟨e, he, rfl⟩ := List.mem_map.1 hj
    obtain ⟨he1, he2⟩ := List.mem_filter.1 he
    have := hall e (by simpa using he1) he2
    rcases Nat.lt_or_ge e.on listed.size with h' | h'
    · simp [h'] at this ⊢; exact this
    · simp [Array.getElem?_eq_none h'] at this
   have hdeps := deps_listed hok hI.down i i o (Nat.le_refl _) ho hdir
   have hdepslt : ∀ j ∈ deps i, j < ops.size := by
    intro j hj
    -- every dep is before i
    have key : ∀ (n i : Nat) (o : Oper), i ≤ n → ops[i]? = some o → ∀ j ∈ deps i, j < i := by
     intro n
     induction n with
     | zero =>
       intro i o hi ho j hj
       have h := ok_spec hok ho
       simp only [okAt, Bool.and_eq_true, List.all_eq_true, List.any_eq_true, decide_eq_true_eq] at h
       obtain ⟨k, hk, _⟩ := h.1.2 j hj
       have := h.1.1.2 k hk
       omega
     | succ n ihn =>
       intro i o hi ho j hj
       have h := ok_spec hok ho
       simp only [okAt, Bool.and_eq_true, List.all_eq_true, List.any_eq_true, decide_eq_true_eq] at h
       obtain ⟨k, hk, hjk⟩ := h.1.2 j hj
       have hki := h.1.1.2 k hk
       rcases Bool.or_eq_true _ _ ▸ hjk with e | e
       · have : j = k := by simpa using e
         omega
       · have hko : k < ops.size := by have := (Array.getElem?_eq_some_iff.1 ho).1; omega
         have := ihn k ops[k] (by omega) (Array.getElem?_eq_getElem hko) j (by simpa using e)
         omega
    have := key i i o (Nat.le_refl _) ho j hj
    omega
   have hOld : ∀ t ∈ olds i, slot a t = slot a0 t := by
    intro t ht
    refine hI.old t fun k ok hk hd => ?_
    have h := ok_spec hok ho
    simp only [okAt, Bool.and_eq_true, List.all_eq_true] at h
    have hkk := h.1.1.1 t ht k (List.mem_range.2 (Array.getElem?_eq_some_iff.1 hk).1)
    simp only [hk, hd, bne_self_eq_false, Bool.false_or, List.contains_iff_mem] at hkk
    cases hl : listed.getD k true with
    | false => rfl
    | true =>
      have := hI.down k ok hk hl i hkk
      rw [this] at h0; cases h0
   refine wpOp_mono ?_ (hstep i o ho a w (listed.getD i0 true) hI.size hI.rest hOld (fun e => by rw [← e]; exact h0) hI.below fun j hj => hI.facts j (hdepslt j hj) (hdeps j hj))
   rintro a' w' ⟨v, rfl, hfi, hbw, hkeep⟩
   have hnl : ∀ j, j < ops.size → listed.getD j true = true → i ∉ deps j := by
    intro j hj hlj hmem
    have := deps_listed hok hI.down j j ops[j] (Nat.le_refl _) (Array.getElem?_eq_getElem hj) (hI.down j ops[j] (Array.getElem?_eq_getElem hj) hlj) i hmem
    rw [this] at h0; cases h0
   refine ih _ _ _ (by simpa using hsz) ?_ ⟨?_, ?_, ?_, ?_, ?_, ?_⟩
   · -- the count goes down
     have hls : i < listed.size := listed_lt h0
     have hv : listed[i] = false := by simpa [hls] using h0
     have hset : (listed.setIfInBounds i true).toList = listed.toList.set i true := by simp
     rw [hset, List.countP_set (by simpa using hls)]
     have h1 : listed.toList[i] = false := by simpa using hv
     simp only [h1, Bool.not_false, if_true, Bool.not_true, Bool.false_eq_true, if_false]
     omega
   · rw [defers_put]; exact hI.defers
   · rw [size_put]; exact hI.size
   · intro t ht
     have hne : o.dst ≠ some t := fun hd => by
      have := ht i o ho hd
      have hls : i < listed.size := listed_lt h0
      simp [hls] at this
     rw [slot_put_ne _ _ _ _ hne]
     refine hI.old t fun k ok hk hd => ?_
     have := ht k ok hk hd
     by_cases e : i = k
     · subst e; exact h0
     · rwa [getD_set_ne true e] at this
   · by_cases e : i = i0
     · subst e
       have hls : i < listed.size := listed_lt h0
       have h1 : (listed.setIfInBounds i true).getD i true = true := by simp [hls]
       rw [h1]; simpa using hbw
     · rw [getD_set_ne true e]; simpa [e] using hbw
   · intro j oj hoj hlj k hk
     rcases getD_set hlj with rfl | hl
     · rw [ho] at hoj; cases hoj
       have hki : k ≠ j := by
        have h := ok_spec hok ho
        simp only [okAt, Bool.and_eq_true, List.all_eq_true, decide_eq_true_eq] at h
        have := h.1.1.2 k hk
        omega
       rw [getD_set_ne true (Ne.symm hki)]; exact hdir k hk
     · have := hI.down j oj hoj hl k hk
       by_cases e : i = k
       · subst e; rw [this] at h0; cases h0
       · rw [getD_set_ne true e]; exact this
   · intro j hj hlj
     rcases getD_set hlj with rfl | hl
     · exact hfi
     · have hji : j ≠ i := by rintro rfl; rw [hl] at h0; cases h0
       have hfj := hkeep j hji hj (hI.facts j hj hl)
       refine at_put (fun d hd hmem => ?_) hfj
       have h := ok_spec hok (Array.getElem?_eq_getElem hj)
       simp only [okAt, Bool.and_eq_true, List.all_eq_true] at h
       have := h.2 i (List.mem_range.2 hilt)
       simp only [ho, Option.bind_some, hd] at this
       simp only [Bool.or_eq_true, Bool.not_eq_true', beq_iff_eq, List.contains_iff_mem] at this
       rcases this with (h1 | h1) | h1
       · simp [hmem] at h1
       · exact hji h1.symm
       · exact hnl j hj hl h1
theorem wp_region_facts {id : Nat} {a : Act} {w : World} (hm : P.follows .mixedOrders = true) (see deps olds : Nat → List Nat) (fact : Nat → List Value → World → Prop) (hok : ok ops see deps olds = true)
 (J : Bool → World → Prop) (i0 : Nat) (hi0 : i0 < ops.size) (hJ : J false w.drew) (hstep : ∀ i o, ops[i]? = some o → StepOk P ops Q see deps olds fact J i0 a i o)
 (hend : ∀ a' w', a'.defers = a.defers → a'.tmps.size = a.tmps.size → (∀ t, t ∉ dsts ops → slot a' t = slot a t) → J true w' → (∀ i, i < ops.size → At see fact i a' w') → Q .normal a' w') :
 (Code.region id ops true).wp P Q a w := by
 refine wp_region_any hm ?_
 refine wpAny_inv hok (J := J) (i0 := i0) (a0 := a) hi0 hstep hend ops.size _ a _ (by simp) ?_ ⟨rfl, rfl, fun _ _ => rfl, (by simpa [hi0] using hJ), ?_, ?_⟩
 · refine Nat.le_trans List.countP_le_length ?_
   simp
 · intro i o hi hl
   have hlt : i < ops.size := (Array.getElem?_eq_some_iff.1 hi).1
   simp [hlt] at hl
 · intro i hi hl
   simp [hi] at hl
end
section
variable {P : Program} {ops : Array Oper} {Q : Exit → Act → World → Prop}
def Does (P : Program) (ops : Array Oper) (vals : List (Tmp × Value)) (sf : Nat → List Tmp) (p : Nat → List Value → World → Prop) (J : Bool → World → Prop) (i0 : Nat) (ph : Bool) (F : Act) (i : Nat) (o : Oper) (w : World) : Prop :=
 if Region.wanted o (yielded ops F.tmps) = true then
  Oper.wp P o F w (fun a' w' => ∃ v, a' = F.put o.dst v ∧ (∀ d u, o.dst = some d → (d, u) ∈ vals → v = u) ∧ p i ((sf i).map (slot a')) w' ∧ J (decide (i = i0) || ph) w' ∧
   ∀ j, j ≠ i → j < ops.size → p j ((sf j).map (slot F)) w → p j ((sf j).map (slot F)) w') (fun _ _ _ => False)
 else ((∀ d u, o.dst = some d → (d, u) ∈ vals → undef = u) ∧ p i ((sf i).map (slot (F.put o.dst undef))) w) ∧ i ≠ i0
theorem wp_region_run {id : Nat} {a : Act} {w : World} (hm : P.follows .mixedOrders = true) (hs : Region.noSelect ops = true)
 (vals late : List (Tmp × Value)) (free : List Tmp) (sf : Nat → List Tmp) (early : Nat → Bool) (p : Nat → List Value → World → Prop) (n : Nat) (hn : a.tmps.size = n) (hok : plan ops n vals late free sf early = true)
 (J : Bool → World → Prop) (i0 : Nat) (hi0 : i0 < ops.size) (hJ : J false w.drew) (hstep : ∀ i o, ops[i]? = some o → ∀ (g : Tmp → Value) (w' : World) (ph : Bool), (i = i0 → ph = false) → J ph w' → (∀ j ∈ direct o, p j ((sf j).map (slot (fr a vals late free early i g))) w') → Does P ops (vals ++ late) sf p J i0 ph (fr a vals late free early i g) i o w')
 (hend : ∀ (g : Tmp → Value) (w' : World), J true w' → (∀ i, i < ops.size → p i ((sf i).map (slot (fin a (vals ++ late) free g))) w') → Q .normal (fin a (vals ++ late) free g) w') :
 (Code.region id ops true).wp P Q a w := by
 have hok' := hok
 simp only [plan, Bool.and_eq_true, List.all_eq_true, decide_eq_true_eq, List.contains_iff_mem] at hok
 obtain ⟨⟨⟨⟨hk1, hk2⟩, hnod⟩, hdn⟩, hop⟩ := hok
 have hkeys : ∀ (l : List (Tmp × Value)) (g : Tmp → Value), (l ++ free.map fun t => (t, g t)).map (·.1) = l.map (·.1) ++ free := fun l g => by simp [List.map_map, Function.comp_def]
 have hopi : ∀ i o, ops[i]? = some o → (∀ j ∈ direct o, j < i) ∧ (∀ t ∈ o.looksAt ops, t ∈ dsts ops → t ∈ oldsOf ops late early i ∨ ∃ j ∈ direct o, (ops[j]?).bind (·.dst) = some t) ∧ (∀ t ∈ sf i, t ∈ free ∧ (o.dst = some t ∨ ∃ j ∈ direct o, (ops[j]?).bind (·.dst) = some t)) := by
  intro i o hi
  have := hop i (List.mem_range.2 (Array.getElem?_eq_some_iff.1 hi).1)
  simp only [hi, Bool.and_eq_true, List.all_eq_true, decide_eq_true_eq, Bool.or_eq_true, Bool.not_eq_true', List.any_eq_true, beq_iff_eq] at this
  refine ⟨this.1.1.1, fun t ht hd => ?_, fun t ht => ⟨by simpa using (this.2 t ht).1, (this.2 t ht).2⟩⟩
  rcases this.1.2 t ht with (h | h) | h
  · simp [hd] at h
  · exact .inl (by simpa using h)
  · exact .inr h
 -- the facts of the law
 have hnod1 : (vals.map (·.1) ++ free).Nodup := by
  have h := hnod
  simp only [List.map_append, List.append_assoc] at h
  have h1 := List.nodup_append.1 h
  have h2 := List.nodup_append.1 h1.2.1
  exact List.nodup_append.2 ⟨h1.1, h2.2.1, fun x hx y hy => h1.2.2 x hx y (List.mem_append_right _ hy)⟩
 have hlatefree : ∀ t, t ∈ late.map (·.1) → t ∉ vals.map (·.1) ++ free := by
  intro t ht hm
  have h := hnod
  simp only [List.map_append, List.append_assoc] at h
  have h1 := List.nodup_append.1 h
  have h2 := List.nodup_append.1 h1.2.1
  rcases List.mem_append.1 hm with hv | hf
  · exact h1.2.2 t hv t (List.mem_append_left _ ht) rfl
  · exact h2.2.2 t ht t hf rfl
 -- what slot t holds in the frame of operation i
 have hslot : ∀ (i : Nat) (a' : Act), a'.tmps.size = a.tmps.size → (∀ t, t ∉ dsts ops → slot a' t = slot a t) → ∀ t, (t ∉ dsts ops ∨ t ∈ free ∨ (∃ v, (t, v) ∈ vals ∧ slot a' t = v) ∨ (early i = false ∧ ∃ v, (t, v) ∈ late ∧ slot a' t = v) ∨ (early i = true ∧ t ∈ late.map (·.1) ∧ slot a' t = slot a t)) → slot a' t = slot (fr a vals late free early i (slot a')) t := by
  intro i a' hsz hrest t ht
  have hfree' : t ∈ free → ∀ l, (l.map (·.1) ++ free).Nodup → slot (fin a l free (slot a')) t = slot a' t := by
   intro hf l hl
   rw [fin, putAll_at _ t (slot a' t) a (by rw [hn]; exact (hk1 t (List.mem_append_right _ hf)).1) (by rw [hkeys]; exact hl) (List.mem_append_right _ (List.mem_map.2 ⟨t, hf, rfl⟩))]
  have hval' : ∀ v, (t, v) ∈ vals ++ late → ∀ l, (t, v) ∈ l → (l.map (·.1) ++ free).Nodup → slot (fin a l free (slot a')) t = v := by
   intro v hv l hl hnn
   rw [fin, putAll_at _ t v a (by rw [hn]; exact (hk1 t (List.mem_append_left _ (List.mem_map.2 ⟨_, hv, rfl⟩))).1) (by rw [hkeys]; exact hnn) (List.mem_append_left _ hl)]
  unfold fr
  rcases ht with ht | ht | ⟨v, hv, hs⟩ | ⟨he, v, hv, hs⟩ | ⟨he, ht, hs⟩
  · have no : t ∉ (vals ++ late).map (·.1) ++ free := fun hm => ht (hk1 t hm).2
    have no1 : t ∉ vals.map (·.1) ++ free := fun hm => no (by
     simp only [List.map_append, List.append_assoc]
     rcases List.mem_append.1 hm with h | h
     · exact List.mem_append_left _ h
     · exact List.mem_append_right _ (List.mem_append_right _ h))
    split
    · rw [hrest t ht, fin, putAll_other _ _ _ (by rw [hkeys]; exact no1)]
    · rw [hrest t ht, fin, putAll_other _ _ _ (by rw [hkeys]; exact no)]
  · split
    · exact (hfree' ht _ hnod1).symm
    · exact (hfree' ht _ hnod).symm
  · split
    · rw [hval' v (List.mem_append_left _ hv) vals hv hnod1, hs]
    · rw [hval' v (List.mem_append_left _ hv) _ (List.mem_append_left _ hv) hnod, hs]
  · rw [if_neg (by rw [he]; exact Bool.false_ne_true), hval' v (List.mem_append_right _ hv) _ (List.mem_append_right _ hv) hnod, hs]
  · rw [if_pos he, hs, fin, putAll_other _ _ _ (by rw [hkeys]; exact hlatefree t ht)]
 have hslotE : ∀ (a' : Act), a'.tmps.size = a.tmps.size → (∀ t, t ∉ dsts ops → slot a' t = slot a t) → ∀ t, (t ∉ dsts ops ∨ t ∈ free ∨ ∃ v, (t, v) ∈ vals ++ late ∧ slot a' t = v) → slot a' t = slot (fin a (vals ++ late) free (slot a')) t := by
  intro a' hsz hrest t ht
  rcases ht with ht | ht | ⟨v, hv, hs⟩
  · rw [hrest t ht, fin, putAll_other]
    rw [hkeys]
    intro hm
    exact ht (hk1 t hm).2
  · rw [fin, putAll_at _ t (slot a' t) a (by rw [hn]; exact (hk1 t (List.mem_append_right _ ht)).1) (by rw [hkeys]; exact hnod) (List.mem_append_right _ (List.mem_map.2 ⟨t, ht, rfl⟩))]
  · rw [hs, fin, putAll_at _ t v a (by rw [hn]; exact (hk1 t (List.mem_append_left _ (List.mem_map.2 ⟨_, hv, rfl⟩))).1) (by rw [hkeys]; exact hnod) (List.mem_append_left _ hv)]
 have hallOk : ok ops (seeOf ops sf) (depsOf ops) (oldsOf ops late early) = true := by
  refine List.all_eq_true.2 fun i hi => ?_
  have hlt := List.mem_range.1 hi
  rw [Array.getElem?_eq_getElem hlt]
  obtain ⟨h1, h2, h3⟩ := hopi i ops[i] (Array.getElem?_eq_getElem hlt)
  simp only [okAt, Bool.and_eq_true, List.all_eq_true, decide_eq_true_eq, List.any_eq_true, Bool.or_eq_true, beq_iff_eq]
  have hold : ∀ t ∈ oldsOf ops late early i, ∀ k ∈ List.range ops.size, (match ops[k]? with | some ok => ok.dst != some t || (direct ok).contains i | none => true) = true := by
   have := hop i (List.mem_range.2 hlt)
   rw [Array.getElem?_eq_getElem hlt] at this
   simp only [Bool.and_eq_true, List.all_eq_true] at this
   exact this.1.1.2
  refine ⟨⟨⟨hold, h1⟩, fun j hj => ⟨j, by simpa [depsOf, hlt] using hj, .inl rfl⟩⟩, fun k hk => ?_⟩
  have hklt := List.mem_range.1 hk
  rw [Array.getElem?_eq_getElem hklt]
  cases hd : ops[k].dst with
  | none => simp [hd]
  | some d =>
    simp only [Option.bind_some, hd, Bool.or_eq_true, Bool.not_eq_true', beq_iff_eq, List.contains_iff_mem]
    by_cases hm : d ∈ seeOf ops sf i
    · -- who writes d
      have uniq : ∀ j, (ops[j]?).bind (·.dst) = some d → j = k := by
       intro j hj
       cases hoj : ops[j]? with
       | none => rw [hoj] at hj; cases hj
       | some oj =>
         rw [hoj] at hj
         have hjlt : j < ops.size := (Array.getElem?_eq_some_iff.1 hoj).1
         -- dsts has no doubles
         have key : ∀ (l : List Oper) (x y : Nat) (ox oy : Oper), (l.filterMap (·.dst)).Nodup → l[x]? = some ox → l[y]? = some oy → ox.dst = some d → oy.dst = some d → x = y := by
          intro l
          induction l with
          | nil => intro x y ox oy _ hx; simp at hx
          | cons z l ih =>
            intro x y ox oy hnn hx hy hdx hdy
            have hl : (l.filterMap (·.dst)).Nodup := by
             cases hz : z.dst with
             | none => simpa [List.filterMap_cons, hz] using hnn
             | some dz => rw [List.filterMap_cons_some (h := hz)] at hnn; exact (List.nodup_cons.1 hnn).2
            have hz0 : z.dst = some d → d ∉ l.filterMap (·.dst) := fun hz => by
             rw [List.filterMap_cons_some (h := hz)] at hnn; exact (List.nodup_cons.1 hnn).1
            cases x with
            | zero =>
              cases y with
              | zero => rfl
              | succ y =>
                simp at hx hy; subst hx
                exact absurd (List.mem_filterMap.2 ⟨oy, List.mem_of_getElem? hy, hdy⟩) (hz0 hdx)
            | succ x =>
              cases y with
              | zero =>
                simp at hx hy; subst hy
                exact absurd (List.mem_filterMap.2 ⟨ox, List.mem_of_getElem? hx, hdx⟩) (hz0 hdy)
              | succ y =>
                simp at hx hy
                rw [ih x y ox oy hl hx hy hdx hdy]
         exact key ops.toList j k oj ops[k] hdn (by simpa using hoj) (by simp [hklt]) (by simpa using hj) hd
      unfold seeOf at hm
      rw [Array.getElem?_eq_getElem hlt] at hm
      rcases List.mem_append.1 hm with hm | hm
      · left; right
        have : ops[i].dst = some d := by simpa using hm
        exact (uniq i (by rw [Array.getElem?_eq_getElem hlt]; simpa using this)).symm
      · rcases (h3 d hm).2 with h | ⟨j, hj, hjd⟩
        · left; right
          exact (uniq i (by rw [Array.getElem?_eq_getElem hlt]; simpa using h)).symm
        · right
          have := uniq j hjd
          subst this
          simpa [depsOf, hlt] using hj
    · left; left; simpa using hm
 have hfree : ∀ (d : Tmp) (v : Value), (d, v) ∈ vals ++ late → d ∉ free := by
  intro d v hv hf
  have := (List.nodup_append.1 hnod).2.2 d (List.mem_map.2 ⟨_, hv, rfl⟩) d hf
  exact this rfl
 refine wp_region_facts hm (seeOf ops sf) (depsOf ops) (oldsOf ops late early) (factOf ops (vals ++ late) p) hallOk J i0 hi0 hJ ?_ ?_
 · intro i o hi a' w' ph hsz hrest hold hph hB hdeps
   obtain ⟨h1, h2, h3⟩ := hopi i o hi
   have hilt : i < ops.size := (Array.getElem?_eq_some_iff.1 hi).1
   have hdepsi : depsOf ops i = direct o := by simp [depsOf, hi]
   -- what j's fact says, of j's own p
   have toP : ∀ j, At (seeOf ops sf) (factOf ops (vals ++ late) p) j a' w' → p j ((sf j).map (slot a')) w' := by
    intro j hj
    unfold At factOf seeOf at hj
    cases hd : (ops[j]?).bind (·.dst) with
    | none => simpa [hd] using hj
    | some d => simp only [hd] at hj; simpa using hj.2
   have exact_of : ∀ j ∈ direct o, ∀ t v, (ops[j]?).bind (·.dst) = some t → (t, v) ∈ vals ++ late → slot a' t = v := by
    intro j hj t v hd hv
    have := hdeps j (by rw [hdepsi]; exact hj)
    unfold At factOf seeOf at this
    simp only [hd] at this
    simpa using this.1 v hv
   have agree : ∀ t ∈ o.looksAt ops, slot a' t = slot (fr a vals late free early i (slot a')) t := by
    intro t ht
    refine hslot i a' hsz hrest t ?_
    by_cases hd : t ∈ dsts ops
    · right
      rcases h2 t ht hd with ho | ⟨j, hj, hjd⟩
      · -- it is read as it was
        right; right; right
        have hs := hold t ho
        unfold oldsOf at ho
        rw [hi] at ho
        simp only at ho
        cases he : early i with
        | false => rw [he] at ho; simp at ho
        | true =>
          rw [he] at ho
          simp only [if_true, List.mem_filter, List.contains_iff_mem] at ho
          exact ⟨rfl, ho.2, hs⟩
      · have hmem : t ∈ (vals ++ late).map (·.1) ++ free := hk2 t hd
        rcases List.mem_append.1 hmem with hv | hf
        · obtain ⟨⟨t', v⟩, hv2, rfl⟩ := List.mem_map.1 hv
          have hs := exact_of j hj _ v hjd hv2
          rcases List.mem_append.1 hv2 with h | h
          · exact .inr (.inl ⟨v, h, hs⟩)
          · -- a late slot, already written: this operation is not early
            cases he : early i with
            | false => exact .inr (.inr (.inl ⟨rfl, v, h, hs⟩))
            | true =>
              exfalso
              -- then it is among the olds, and its writer waits for i: but the writer stands before i
              have hol : t' ∈ oldsOf ops late early i := by
               unfold oldsOf
               rw [hi]
               simp only [he, if_true, List.mem_filter, List.contains_iff_mem]
               exact ⟨ht, List.mem_map.2 ⟨_, h, rfl⟩⟩
              have hjlt : j < ops.size := by have := h1 j hj; omega
              have := hop i (List.mem_range.2 hilt)
              rw [hi] at this
              simp only [Bool.and_eq_true, List.all_eq_true] at this
              have hw := this.1.1.2 t' hol j (List.mem_range.2 hjlt)
              rw [Array.getElem?_eq_getElem hjlt] at hw hjd
              simp only [Option.bind_some] at hjd
              simp only [hjd, bne_self_eq_false, Bool.false_or, List.contains_iff_mem] at hw
              have a1 := (hopi j ops[j] (Array.getElem?_eq_getElem hjlt)).1 i hw
              have a2 := h1 j hj
              omega
        · exact .inl hf
    · exact .inl hd
   have agreeF : ∀ j, (sf j).map (slot (fr a vals late free early i (slot a'))) = (sf j).map (slot a') ∨ j ≥ ops.size := by
    intro j
    rcases Nat.lt_or_ge j ops.size with hj | hj
    · left
      refine List.map_congr_left fun t ht => ?_
      obtain ⟨_, _, h3⟩ := hopi j ops[j] (Array.getElem?_eq_getElem hj)
      exact (hslot i a' hsz hrest t (.inr (.inl (h3 t ht).1))).symm
    · exact .inr hj
   have agreeL : ∀ j, j < ops.size → (sf j).map (slot (fr a vals late free early i (slot a'))) = (sf j).map (slot a') := fun j hj => (agreeF j).resolve_right (by omega)
   have hD := hstep i o hi (slot a') w' ph hph hB (fun j hj => by
    have hjlt : j < ops.size := by have := h1 j hj; omega
    rw [agreeL j hjlt]
    exact toP j (hdeps j (by rw [hdepsi]; exact hj)))
   have finish : ∀ (v : Value) (w'' : World), (∀ d u, o.dst = some d → (d, u) ∈ vals ++ late → v = u) → p i ((sf i).map (slot ((fr a vals late free early i (slot a')).put o.dst v))) w'' → J (decide (i = i0) || ph) w'' →
    (∀ j, j ≠ i → j < ops.size → p j ((sf j).map (slot (fr a vals late free early i (slot a')))) w' → p j ((sf j).map (slot (fr a vals late free early i (slot a')))) w'') →
    ∃ v', a'.put o.dst v = a'.put o.dst v' ∧ At (seeOf ops sf) (factOf ops (vals ++ late) p) i (a'.put o.dst v) w'' ∧ J (decide (i = i0) || ph) w'' ∧ ∀ j, j ≠ i → j < ops.size → At (seeOf ops sf) (factOf ops (vals ++ late) p) j a' w' → At (seeOf ops sf) (factOf ops (vals ++ late) p) j a' w'' := by
    intro v w'' hex hp hb hkeep
    have hput : (sf i).map (slot (a'.put o.dst v)) = (sf i).map (slot ((fr a vals late free early i (slot a')).put o.dst v)) := by
     refine List.map_congr_left fun t ht => ?_
     by_cases hd : o.dst = some t
     · have htlt : t < n := (hk1 t (List.mem_append_right _ (h3 t ht).1)).1
       rw [hd, slot_put_same _ _ _ (by rw [hsz, hn]; exact htlt), slot_put_same _ _ _ (by rw [fr_size, hn]; exact htlt)]
     · rw [slot_put_ne _ _ _ _ hd, slot_put_ne _ _ _ _ hd]
       exact hslot i a' hsz hrest t (.inr (.inl (h3 t ht).1))
    refine ⟨v, rfl, ?_, hb, fun j hji hj hat => ?_⟩
    · unfold At factOf seeOf
      simp only [hi, Option.bind_some]
      cases hd : o.dst with
      | none => rw [hd] at hp hput; simp only [Option.toList_none, List.nil_append]; rw [hput]; exact hp
      | some d =>
        rw [hd] at hp hput
        simp only [Option.toList_some, List.cons_append, List.nil_append, List.map_cons, List.head?_cons, List.tail_cons]
        refine ⟨fun u hu => ?_, by rw [hput]; exact hp⟩
        have hdlt : d < n := (hk1 d (List.mem_append_left _ (List.mem_map.2 ⟨_, hu, rfl⟩))).1
        rw [slot_put_same _ _ _ (by rw [hsz, hn]; exact hdlt), hex d u hd hu]
    · have hpj := toP j hat
      have hnew := hkeep j hji hj (by rw [agreeL j hj]; exact hpj)
      rw [agreeL j hj] at hnew
      unfold At factOf seeOf at hat ⊢
      cases hd : (ops[j]?).bind (·.dst) with
      | none => simp only [hd, Option.toList_none, List.nil_append] at hat ⊢; exact hnew
      | some d =>
        simp only [hd] at hat ⊢
        exact ⟨hat.1, by simpa using hnew⟩
   have hsel : ∀ cs b, o.op ≠ .select cs b := fun cs b => Region.noSelect_spec hs i o cs b hi
   unfold wpOp
   simp only [hi]
   unfold Does at hD
   rw [← wanted_congr o a' (fr a vals late free early i (slot a')) (by rw [fr_size, hsz]) agree] at hD
   split
   · rename_i hw
     rw [if_pos hw] at hD
     left
     unfold Oper.wp at hD ⊢
     rw [← exec_congr o hsel a' _ agree] at hD
     refine upon_congr (F := fr a vals late free early i (slot a')) ?_ ?_ hD
     · rintro v w'' ⟨v', he, hex, hp, hb, hkeep⟩
       -- v and v' put the same
       cases hd : o.dst with
       | none =>
         rw [hd] at he hp hex
         have := finish v w'' (by rw [hd]; exact fun d u h => by cases h) (by rw [hd]; exact hp) hb hkeep
         rw [hd] at this
         exact this
       | some d =>
         rw [hd] at he hp
         have hdlt : d < n := (hk1 d (hk2 d (List.mem_filterMap.2 ⟨o, by have := Array.mem_of_getElem? hi; simpa using this, hd⟩))).1
         have hvv : v = v' := by
          have h1 : slot ((fr a vals late free early i (slot a')).put (some d) v) d = slot ((fr a vals late free early i (slot a')).put (some d) v') d := congrArg (fun x => slot x d) he
          rwa [slot_put_same _ _ _ (by rw [fr_size, hn]; exact hdlt), slot_put_same _ _ _ (by rw [fr_size, hn]; exact hdlt)] at h1
         subst hvv
         have := finish v w'' hex (by rw [hd]; exact hp) hb hkeep
         rw [hd] at this
         exact this
     · rintro d w'' ⟨v, he, _⟩
       have h1 := congrArg (fun x => x.defers.length) he
       simp only [defers_put, List.length_cons] at h1
       omega
   · rename_i hw
     rw [if_neg (by simpa using hw)] at hD
     exact finish undef w' hD.1.1 hD.1.2 (by simpa [hD.2] using hB) (fun _ _ _ h => h)
 · intro a' w' hdf hsz hrest hB hall
   have hfin : a' = fin a (vals ++ late) free (slot a') := by
    have ht : a'.tmps = (fin a (vals ++ late) free (slot a')).tmps := by
     refine Array.ext (by rw [fin, putAll_size, hsz]) fun t h1 h2 => ?_
     have hs := hslotE a' hsz hrest t (by
      by_cases hd : t ∈ dsts ops
      · right
        have hmem : t ∈ (vals ++ late).map (·.1) ++ free := hk2 t hd
        rcases List.mem_append.1 hmem with hv | hf
        · right
          obtain ⟨⟨t', v⟩, hv2, rfl⟩ := List.mem_map.1 hv
          obtain ⟨o, ho, hod⟩ := List.mem_filterMap.1 hd
          obtain ⟨i, hi, hoi⟩ := List.mem_iff_getElem.1 ho
          have hi' : i < ops.size := by simpa using hi
          have := hall i hi'
          unfold At factOf seeOf at this
          have hio : ops[i]? = some o := by rw [Array.getElem?_eq_getElem hi']; simpa using hoi
          simp only [hio, Option.bind_some, hod] at this
          exact ⟨v, hv2, by simpa using this.1 v hv2⟩
        · exact .inl hf
      · exact .inl hd)
     simpa [slot, h1, h2] using hs
    have hd : a'.defers = (fin a (vals ++ late) free (slot a')).defers := by rw [hdf, fin, putAll_defers]
    obtain ⟨x, y⟩ := a'
    simp only at ht hd
    cases hF : fin a (vals ++ late) free (slot ⟨x, y⟩) with
    | mk x' y' => rw [hF] at ht hd; simp only at ht hd; rw [ht, hd]
   have hq := hend (slot a') w' hB (fun i hi => by
    have := hall i hi
    rw [← hfin]
    unfold At factOf seeOf at this
    cases hd : (ops[i]?).bind (·.dst) with
    | none => simpa [hd] using this
    | some d => simp only [hd] at this; simpa using this.2)
   rw [← hfin] at hq
   exact hq
def DoesT (P : Program) (ops : Array Oper) (J : Bool → World → Prop) (i0 : Nat) (ph : Bool) (F : Act) (i : Nat) (o : Oper) (w : World) : Prop :=
 if Region.wanted o (yielded ops F.tmps) = true then Oper.wp P o F w (fun a' w' => ∃ v, a' = F.put o.dst v ∧ F.put o.dst v = F ∧ J (decide (i = i0) || ph) w') (fun _ _ _ => False)
 else F.put o.dst undef = F ∧ i ≠ i0
theorem wp_region_two {id : Nat} {a : Act} {w : World} (hm : P.follows .mixedOrders = true) (hs : Region.noSelect ops = true) (J : Bool → World → Prop) (i0 : Nat) (hi0 : i0 < ops.size) (hJ : J false w.drew)
 (vals : List (Tmp × Value)) (n : Nat) (hn : a.tmps.size = n) (hok : plan ops n vals [] [] (fun _ => []) (fun _ => false) = true)
 (hstep : ∀ F : Act, F = putAll a vals → ∀ w' ph, J ph w' → Each (fun i o => (i = i0 → ph = false) → DoesT P ops J i0 ph F i o w') 0 ops.toList)
 (hend : ∀ w', J true w' → Q .normal (putAll a vals) w') :
 (Code.region id ops true).wp P Q a w := by
 have hfin : ∀ g l, fin a l [] g = putAll a l := fun g l => by simp [fin]
 have hok' := hok
 simp only [plan, Bool.and_eq_true, List.all_eq_true, decide_eq_true_eq, List.contains_iff_mem, List.append_nil] at hok
 obtain ⟨⟨⟨⟨hk1, hk2⟩, hnod⟩, hdn⟩, hop⟩ := hok
 refine wp_region_run hm hs vals [] [] (fun _ => []) (fun _ => false) (fun _ _ _ => True) n hn hok' J i0 hi0 hJ ?_ ?_
 · intro i o hi g w' ph hph hB _
   have hD := each_at ops.toList 0 i o (hstep _ rfl w' ph hB) (by simpa using hi)
   have hfr : fr a vals [] [] (fun _ => false) i g = putAll a vals := by
    unfold fr
    rw [if_neg (by simp), hfin, List.append_nil]
   rw [hfr]
   rw [Nat.zero_add] at hD
   replace hD := hD hph
   have hex : ∀ (v : Value), (putAll a vals).put o.dst v = putAll a vals → ∀ d u, o.dst = some d → (d, u) ∈ vals ++ [] → v = u := by
    intro v hv d u hd hu
    rw [List.append_nil] at hu
    have hdlt : d < n := (hk1 d (List.mem_map.2 ⟨_, hu, rfl⟩)).1
    rw [hd] at hv
    have h1 := put_slot _ d v (by rw [putAll_size, hn]; exact hdlt) hv
    rw [← h1, putAll_at vals d u a (by rw [hn]; exact hdlt) hnod hu]
   generalize putAll a vals = E at hD hex ⊢
   unfold DoesT at hD
   unfold Does
   split
   · rename_i hw
     rw [if_pos hw] at hD
     unfold Oper.wp at hD ⊢
     refine upon_congr (F := E) ?_ ?_ hD
     · rintro v w'' ⟨v', he, hF, hb⟩
       exact ⟨v', he, hex v' hF, trivial, hb, fun _ _ _ _ => trivial⟩
     · rintro d w'' ⟨v, he, _⟩
       have h1 := congrArg (fun x => x.defers.length) he
       simp only [defers_put, List.length_cons] at h1
       omega
   · rename_i hw
     rw [if_neg hw] at hD
     exact ⟨⟨hex undef hD.1, trivial⟩, hD.2⟩
 · intro g w' hB hall
   rw [hfin, List.append_nil]
   exact hend w' hB
theorem doesT_val {J : Bool → World → Prop} {i0 i : Nat} {ph : Bool} {F : Act} {o : Oper} {w : World} {v : Value} (hi : i ≠ i0) (hJ : J ph w) (hr : (execOp F.eval o).run P w = .ok (.value v) w) (hw : Region.wanted o (yielded ops F.tmps) = true) (hF : F.put o.dst v = F) : DoesT P ops J i0 ph F i o w := by
 unfold DoesT
 rw [if_pos hw]
 unfold Oper.wp
 rw [hr]
 exact ⟨v, rfl, hF, by simpa [hi] using hJ⟩
theorem doesT_call {J : Bool → World → Prop} {i0 i : Nat} {ph : Bool} {F : Act} {o : Oper} {w : World} {v : Value} {f : FuncId} {args : Array Value} (hi : i ≠ i0) (hJ : ∀ w', Below w.heap.size w w' → J ph w') (hc : Calls P f args w fun e w' => e = .returned v ∧ Below w.heap.size w w')
 (hr : (execOp F.eval o).run P w = .ok (.enter f args) w) (hw : Region.wanted o (yielded ops F.tmps) = true) (hF : F.put o.dst v = F) : DoesT P ops J i0 ph F i o w := by
 unfold DoesT
 rw [if_pos hw]
 unfold Oper.wp
 rw [hr]
 refine Calls.mono hc ?_
 rintro e w' ⟨rfl, hb⟩
 exact ⟨v, rfl, hF, by simpa [hi] using hJ _ hb⟩
theorem doesT_main {J : Bool → World → Prop} {i0 : Nat} {ph : Bool} {F : Act} {o : Oper} {w : World} {v : Value} {f : FuncId} {args : Array Value} (hc : Calls P f args w fun e w' => e = .returned v ∧ J true w')
 (hr : (execOp F.eval o).run P w = .ok (.enter f args) w) (hw : Region.wanted o (yielded ops F.tmps) = true) (hF : F.put o.dst v = F) : DoesT P ops J i0 ph F i0 o w := by
 unfold DoesT
 rw [if_pos hw]
 unfold Oper.wp
 rw [hr]
 refine Calls.mono hc ?_
 rintro e w' ⟨rfl, hb⟩
 exact ⟨v, rfl, hF, by simpa using hb⟩
end
end RegT
end Go.Proofs.Ytbpopkgpepmlcaa
namespace Go.Proofs.Ytbpopkgpepmlcaa
open Go Go.RowKit
namespace RegJ
open Reg
section
variable {P : Program} {ops : Array Oper} {Q : Exit → Act → World → Prop} {see deps olds : Nat → List Nat} {fact : Nat → List Value → World → Prop}
structure Inv (ops : Array Oper) (see : Nat → List Nat) (fact : Nat → List Value → World → Prop) (J : World → Prop) (a0 : Act) (listed : Array Bool) (a : Act) (w : World) : Prop where
 defers : a.defers = a0.defers
 size : a.tmps.size = a0.tmps.size
 old : ∀ t, (∀ k o, ops[k]? = some o → o.dst = some t → listed.getD k true = false) → slot a t = slot a0 t
 below : J w
 down : ∀ i o, ops[i]? = some o → listed.getD i true = true → ∀ j ∈ direct o, listed.getD j true = true
 facts : ∀ i, i < ops.size → listed.getD i true = true → At see fact i a w
def StepOk (P : Program) (ops : Array Oper) (Q : Exit → Act → World → Prop) (see deps olds : Nat → List Nat) (fact : Nat → List Value → World → Prop) (J : World → Prop) (a0 : Act) (i : Nat) (o : Oper) : Prop :=
 ∀ (a : Act) (w : World), a.tmps.size = a0.tmps.size → (∀ t, t ∉ dsts ops → slot a t = slot a0 t) → (∀ t ∈ olds i, slot a t = slot a0 t) → J w → (∀ j ∈ deps i, At see fact j a w) →
  wpOp P ops Q i (fun a' w' => ∃ v, a' = a.put o.dst v ∧ At see fact i a' w' ∧ J w' ∧ ∀ j, j ≠ i → j < ops.size → At see fact j a w → At see fact j a w') a w
theorem Inv.rest {J : World → Prop} {a0 : Act} {listed : Array Bool} {a : Act} {w : World} (h : Inv ops see fact J a0 listed a w) (t : Tmp) (ht : t ∉ dsts ops) : slot a t = slot a0 t :=
 h.old t fun _ _ hk hd => absurd hd (no_writer ht hk)
theorem wpAny_inv (hok : ok ops see deps olds = true) {J : World → Prop} {a0 : Act}
 (hstep : ∀ i o, ops[i]? = some o → StepOk P ops Q see deps olds fact J a0 i o)
 (hend : ∀ a w, a.defers = a0.defers → a.tmps.size = a0.tmps.size → (∀ t, t ∉ dsts ops → slot a t = slot a0 t) → J w → (∀ i, i < ops.size → At see fact i a w) → Q .normal a w) :
 ∀ (fuel : Nat) (listed : Array Bool) (a : Act) (w : World), listed.size = ops.size → (listed.toList.countP fun b => !b) ≤ fuel → Inv ops see fact J a0 listed a w → wpAny P .any ops Q fuel listed a w := by
 have final : ∀ (listed : Array Bool) (a : Act) (w : World), listed.size = ops.size → Inv ops see fact J a0 listed a w → Region.ready .any ops listed = [] → Q .normal a w := by
  intro listed a w hsz hI hr
  have all : ∀ (n i : Nat), i < n → i < ops.size → listed.getD i true = true := by
   intro n
   induction n with
   | zero => intro i hi; omega
   | succ n ih =>
     intro i hi ho
     cases hl : listed.getD i true with
     | true => rfl
     | false =>
       have hmem : i ∈ Region.ready .any ops listed := by
        refine mem_ready.2 ⟨hl, ops[i], Array.getElem?_eq_getElem ho, fun e he hb => ?_⟩
        have hdir : e.on ∈ direct ops[i] := List.mem_map.2 ⟨e, List.mem_filter.2 ⟨by simpa using he, hb⟩, rfl⟩
        have h := ok_spec hok (Array.getElem?_eq_getElem ho)
        simp only [okAt, Bool.and_eq_true, List.all_eq_true, decide_eq_true_eq] at h
        have hlt := h.1.1.2 _ hdir
        have := ih e.on (by omega) (by omega)
        have hs : e.on < listed.size := by omega
        simp [hs] at this ⊢
        exact this
       rw [hr] at hmem; cases hmem
  exact hend a w hI.defers hI.size hI.rest hI.below fun i hi => hI.facts i hi (all (i + 1) i (by omega) hi)
 intro fuel
 induction fuel with
 | zero =>
   intro listed a w hsz hc hI
   have hnil : Region.ready .any ops listed = [] := by
    rcases hr : Region.ready .any ops listed with _ | ⟨x, xs⟩
    · rfl
    · exfalso
      have hx : x ∈ Region.ready .any ops listed := by rw [hr]; simp
      have h0 := (mem_ready.1 hx).1
      have hlt := listed_lt h0
      have : false ∈ listed.toList := by
       have : listed[x] = false := by simpa [hlt] using h0
       exact this ▸ (by simp : listed[x] ∈ listed.toList)
      have hp : 0 < listed.toList.countP fun b => !b := List.countP_pos_iff.2 ⟨false, this, rfl⟩
      omega
   exact ⟨hnil, final listed a w hsz hI hnil⟩
 | succ fuel ih =>
   intro listed a w hsz hc hI
   refine ⟨final listed a w hsz hI, fun i hi => ?_⟩
   obtain ⟨h0, o, ho, hall⟩ := mem_ready.1 hi
   have hilt : i < ops.size := (Array.getElem?_eq_some_iff.1 ho).1
   have hdir : ∀ j ∈ direct o, listed.getD j true = true := by
    intro j hj
    obtain ⟨e, he, rfl⟩ := List.mem_map.1 hj
    obtain ⟨he1, he2⟩ := List.mem_filter.1 he
    have := hall e (by simpa using he1) he2
    rcases Nat.lt_or_ge e.on listed.size with h' | h'
    · simp [h'] at this ⊢; exact this
    · simp [Array.getElem?_eq_none h'] at this
   have hdeps := deps_listed hok hI.down i i o (Nat.le_refl _) ho hdir
   have hdepslt : ∀ j ∈ deps i, j < ops.size := by
    intro j hj
    -- every dep is before i
    have key : ∀ (n i : Nat) (o : Oper), i ≤ n → ops[i]? = some o → ∀ j ∈ deps i, j < i := by
     intro n
     induction n with
     | zero =>
       intro i o hi ho j hj
       have h := ok_spec hok ho
       simp only [okAt, Bool.and_eq_true, List.all_eq_true, List.any_eq_true, decide_eq_true_eq] at h
       obtain ⟨k, hk, _⟩ := h.1.2 j hj
       have := h.1.1.2 k hk
       omega
     | succ n ihn =>
       intro i o hi ho j hj
       have h := ok_spec hok ho
       simp only [okAt, Bool.and_eq_true, List.all_eq_true, List.any_eq_true, decide_eq_true_eq] at h
       obtain ⟨k, hk, hjk⟩ := h.1.2 j hj
       have hki := h.1.1.2 k hk
       rcases Bool.or_eq_true _ _ ▸ hjk with e | e
       · have : j = k := by simpa using e
         omega
       · have hko : k < ops.size := by have := (Array.getElem?_eq_some_iff.1 ho).1; omega
         have := ihn k ops[k] (by omega) (Array.getElem?_eq_getElem hko) j (by simpa using e)
         omega
    have := key i i o (Nat.le_refl _) ho j hj
    omega
   have hOld : ∀ t ∈ olds i, slot a t = slot a0 t := by
    intro t ht
    refine hI.old t fun k ok hk hd => ?_
    have h := ok_spec hok ho
    simp only [okAt, Bool.and_eq_true, List.all_eq_true] at h
    have hkk := h.1.1.1 t ht k (List.mem_range.2 (Array.getElem?_eq_some_iff.1 hk).1)
    simp only [hk, hd, bne_self_eq_false, Bool.false_or, List.contains_iff_mem] at hkk
    cases hl : listed.getD k true with
    | false => rfl
    | true =>
      have := hI.down k ok hk hl i hkk
      rw [this] at h0; cases h0
   refine wpOp_mono ?_ (hstep i o ho a w hI.size hI.rest hOld hI.below fun j hj => hI.facts j (hdepslt j hj) (hdeps j hj))
   rintro a' w' ⟨v, rfl, hfi, hbw, hkeep⟩
   have hnl : ∀ j, j < ops.size → listed.getD j true = true → i ∉ deps j := by
    intro j hj hlj hmem
    have := deps_listed hok hI.down j j ops[j] (Nat.le_refl _) (Array.getElem?_eq_getElem hj) (hI.down j ops[j] (Array.getElem?_eq_getElem hj) hlj) i hmem
    rw [this] at h0; cases h0
   refine ih _ _ _ (by simpa using hsz) ?_ ⟨?_, ?_, ?_, ?_, ?_, ?_⟩
   · -- the count goes down
     have hls : i < listed.size := listed_lt h0
     have hv : listed[i] = false := by simpa [hls] using h0
     have hset : (listed.setIfInBounds i true).toList = listed.toList.set i true := by simp
     rw [hset, List.countP_set (by simpa using hls)]
     have h1 : listed.toList[i] = false := by simpa using hv
     simp only [h1, Bool.not_false, if_true, Bool.not_true, Bool.false_eq_true, if_false]
     omega
   · rw [defers_put]; exact hI.defers
   · rw [size_put]; exact hI.size
   · intro t ht
     have hne : o.dst ≠ some t := fun hd => by
      have := ht i o ho hd
      have hls : i < listed.size := listed_lt h0
      simp [hls] at this
     rw [slot_put_ne _ _ _ _ hne]
     refine hI.old t fun k ok hk hd => ?_
     have := ht k ok hk hd
     by_cases e : i = k
     · subst e; exact h0
     · rwa [getD_set_ne true e] at this
   · exact hbw
   · intro j oj hoj hlj k hk
     rcases getD_set hlj with rfl | hl
     · rw [ho] at hoj; cases hoj
       have hki : k ≠ j := by
        have h := ok_spec hok ho
        simp only [okAt, Bool.and_eq_true, List.all_eq_true, decide_eq_true_eq] at h
        have := h.1.1.2 k hk
        omega
       rw [getD_set_ne true (Ne.symm hki)]; exact hdir k hk
     · have := hI.down j oj hoj hl k hk
       by_cases e : i = k
       · subst e; rw [this] at h0; cases h0
       · rw [getD_set_ne true e]; exact this
   · intro j hj hlj
     rcases getD_set hlj with rfl | hl
     · exact hfi
     · have hji : j ≠ i := by rintro rfl; rw [hl] at h0; cases h0
       have hfj := hkeep j hji hj (hI.facts j hj hl)
       refine at_put (fun d hd hmem => ?_) hfj
       have h := ok_spec hok (Array.getElem?_eq_getElem hj)
       simp only [okAt, Bool.and_eq_true, List.all_eq_true] at h
       have := h.2 i (List.mem_range.2 hilt)
       simp only [ho, Option.bind_some, hd] at this
       simp only [Bool.or_eq_true, Bool.not_eq_true', beq_iff_eq, List.contains_iff_mem] at this
       rcases this with (h1 | h1) | h1
       · simp [hmem] at h1
       · exact hji h1.symm
       · exact hnl j hj hl h1
theorem wp_region_facts {id : Nat} {a : Act} {w : World} (hm : P.follows .mixedOrders = true) (see deps olds : Nat → List Nat) (fact : Nat → List Value → World → Prop) (hok : ok ops see deps olds = true)
 (J : World → Prop) (hJ : J w.drew) (hstep : ∀ i o, ops[i]? = some o → StepOk P ops Q see deps olds fact J a i o)
 (hend : ∀ a' w', a'.defers = a.defers → a'.tmps.size = a.tmps.size → (∀ t, t ∉ dsts ops → slot a' t = slot a t) → J w' → (∀ i, i < ops.size → At see fact i a' w') → Q .normal a' w') :
 (Code.region id ops true).wp P Q a w := by
 refine wp_region_any hm ?_
 refine wpAny_inv hok (J := J) (a0 := a) hstep hend ops.size _ a _ (by simp) ?_ ⟨rfl, rfl, fun _ _ => rfl, hJ, ?_, ?_⟩
 · refine Nat.le_trans List.countP_le_length ?_
   simp
 · intro i o hi hl
   have hlt : i < ops.size := (Array.getElem?_eq_some_iff.1 hi).1
   simp [hlt] at hl
 · intro i hi hl
   simp [hi] at hl
end
section
variable {P : Program} {ops : Array Oper} {Q : Exit → Act → World → Prop}
def Does (P : Program) (ops : Array Oper) (vals : List (Tmp × Value)) (sf : Nat → List Tmp) (p : Nat → List Value → World → Prop) (J : World → Prop) (F : Act) (i : Nat) (o : Oper) (w : World) : Prop :=
 if Region.wanted o (yielded ops F.tmps) = true then
  Oper.wp P o F w (fun a' w' => ∃ v, a' = F.put o.dst v ∧ (∀ d u, o.dst = some d → (d, u) ∈ vals → v = u) ∧ p i ((sf i).map (slot a')) w' ∧ J w' ∧
   ∀ j, j ≠ i → j < ops.size → p j ((sf j).map (slot F)) w → p j ((sf j).map (slot F)) w') (fun _ _ _ => False)
 else (∀ d u, o.dst = some d → (d, u) ∈ vals → undef = u) ∧ p i ((sf i).map (slot (F.put o.dst undef))) w
theorem wp_region_run {id : Nat} {a : Act} {w : World} (hm : P.follows .mixedOrders = true) (hs : Region.noSelect ops = true)
 (vals late : List (Tmp × Value)) (free : List Tmp) (sf : Nat → List Tmp) (early : Nat → Bool) (p : Nat → List Value → World → Prop) (n : Nat) (hn : a.tmps.size = n) (hok : plan ops n vals late free sf early = true)
 (J : World → Prop) (hJ : J w.drew) (hstep : ∀ i o, ops[i]? = some o → ∀ (g : Tmp → Value) (w' : World), J w' → (∀ j ∈ direct o, p j ((sf j).map (slot (fr a vals late free early i g))) w') → Does P ops (vals ++ late) sf p J (fr a vals late free early i g) i o w')
 (hend : ∀ (g : Tmp → Value) (w' : World), J w' → (∀ i, i < ops.size → p i ((sf i).map (slot (fin a (vals ++ late) free g))) w') → Q .normal (fin a (vals ++ late) free g) w') :
 (Code.region id ops true).wp P Q a w := by
 have hok' := hok
 simp only [plan, Bool.and_eq_true, List.all_eq_true, decide_eq_true_eq, List.contains_iff_mem] at hok
 obtain ⟨⟨⟨⟨hk1, hk2⟩, hnod⟩, hdn⟩, hop⟩ := hok
 have hkeys : ∀ (l : List (Tmp × Value)) (g : Tmp → Value), (l ++ free.map fun t => (t, g t)).map (·.1) = l.map (·.1) ++ free := fun l g => by simp [List.map_map, Function.comp_def]
 have hopi : ∀ i o, ops[i]? = some o → (∀ j ∈ direct o, j < i) ∧ (∀ t ∈ o.looksAt ops, t ∈ dsts ops → t ∈ oldsOf ops late early i ∨ ∃ j ∈ direct o, (ops[j]?).bind (·.dst) = some t) ∧ (∀ t ∈ sf i, t ∈ free ∧ (o.dst = some t ∨ ∃ j ∈ direct o, (ops[j]?).bind (·.dst) = some t)) := by
  intro i o hi
  have := hop i (List.mem_range.2 (Array.getElem?_eq_some_iff.1 hi).1)
  simp only [hi, Bool.and_eq_true, List.all_eq_true, decide_eq_true_eq, Bool.or_eq_true, Bool.not_eq_true', List.any_eq_true, beq_iff_eq] at this
  refine ⟨this.1.1.1, fun t ht hd => ?_, fun t ht => ⟨by simpa using (this.2 t ht).1, (this.2 t ht).2⟩⟩
  rcases this.1.2 t ht with (h | h) | h
  · simp [hd] at h
  · exact .inl (by simpa using h)
  · exact .inr h
 -- the facts of the law
 have hnod1 : (vals.map (·.1) ++ free).Nodup := by
  have h := hnod
  simp only [List.map_append, List.append_assoc] at h
  have h1 := List.nodup_append.1 h
  have h2 := List.nodup_append.1 h1.2.1
  exact List.nodup_append.2 ⟨h1.1, h2.2.1, fun x hx y hy => h1.2.2 x hx y (List.mem_append_right _ hy)⟩
 have hlatefree : ∀ t, t ∈ late.map (·.1) → t ∉ vals.map (·.1) ++ free := by
  intro t ht hm
  have h := hnod
  simp only [List.map_append, List.append_assoc] at h
  have h1 := List.nodup_append.1 h
  have h2 := List.nodup_append.1 h1.2.1
  rcases List.mem_append.1 hm with hv | hf
  · exact h1.2.2 t hv t (List.mem_append_left _ ht) rfl
  · exact h2.2.2 t ht t hf rfl
 -- what slot t holds in the frame of operation i
 have hslot : ∀ (i : Nat) (a' : Act), a'.tmps.size = a.tmps.size → (∀ t, t ∉ dsts ops → slot a' t = slot a t) → ∀ t, (t ∉ dsts ops ∨ t ∈ free ∨ (∃ v, (t, v) ∈ vals ∧ slot a' t = v) ∨ (early i = false ∧ ∃ v, (t, v) ∈ late ∧ slot a' t = v) ∨ (early i = true ∧ t ∈ late.map (·.1) ∧ slot a' t = slot a t)) → slot a' t = slot (fr a vals late free early i (slot a')) t := by
  intro i a' hsz hrest t ht
  have hfree' : t ∈ free → ∀ l, (l.map (·.1) ++ free).Nodup → slot (fin a l free (slot a')) t = slot a' t := by
   intro hf l hl
   rw [fin, putAll_at _ t (slot a' t) a (by rw [hn]; exact (hk1 t (List.mem_append_right _ hf)).1) (by rw [hkeys]; exact hl) (List.mem_append_right _ (List.mem_map.2 ⟨t, hf, rfl⟩))]
  have hval' : ∀ v, (t, v) ∈ vals ++ late → ∀ l, (t, v) ∈ l → (l.map (·.1) ++ free).Nodup → slot (fin a l free (slot a')) t = v := by
   intro v hv l hl hnn
   rw [fin, putAll_at _ t v a (by rw [hn]; exact (hk1 t (List.mem_append_left _ (List.mem_map.2 ⟨_, hv, rfl⟩))).1) (by rw [hkeys]; exact hnn) (List.mem_append_left _ hl)]
  unfold fr
  rcases ht with ht | ht | ⟨v, hv, hs⟩ | ⟨he, v, hv, hs⟩ | ⟨he, ht, hs⟩
  · have no : t ∉ (vals ++ late).map (·.1) ++ free := fun hm => ht (hk1 t hm).2
    have no1 : t ∉ vals.map (·.1) ++ free := fun hm => no (by
     simp only [List.map_append, List.append_assoc]
     rcases List.mem_append.1 hm with h | h
     · exact List.mem_append_left _ h
     · exact List.mem_append_right _ (List.mem_append_right _ h))
    split
    · rw [hrest t ht, fin, putAll_other _ _ _ (by rw [hkeys]; exact no1)]
    · rw [hrest t ht, fin, putAll_other _ _ _ (by rw [hkeys]; exact no)]
  · split
    · exact (hfree' ht _ hnod1).symm
    · exact (hfree' ht _ hnod).symm
  · split
    · rw [hval' v (List.mem_append_left _ hv) vals hv hnod1, hs]
    · rw [hval' v (List.mem_append_left _ hv) _ (List.mem_append_left _ hv) hnod, hs]
  · rw [if_neg (by rw [he]; exact Bool.false_ne_true), hval' v (List.mem_append_right _ hv) _ (List.mem_append_right _ hv) hnod, hs]
  · rw [if_pos he, hs, fin, putAll_other _ _ _ (by rw [hkeys]; exact hlatefree t ht)]
 have hslotE : ∀ (a' : Act), a'.tmps.size = a.tmps.size → (∀ t, t ∉ dsts ops → slot a' t = slot a t) → ∀ t, (t ∉ dsts ops ∨ t ∈ free ∨ ∃ v, (t, v) ∈ vals ++ late ∧ slot a' t = v) → slot a' t = slot (fin a (vals ++ late) free (slot a')) t := by
  intro a' hsz hrest t ht
  rcases ht with ht | ht | ⟨v, hv, hs⟩
  · rw [hrest t ht, fin, putAll_other]
    rw [hkeys]
    intro hm
    exact ht (hk1 t hm).2
  · rw [fin, putAll_at _ t (slot a' t) a (by rw [hn]; exact (hk1 t (List.mem_append_right _ ht)).1) (by rw [hkeys]; exact hnod) (List.mem_append_right _ (List.mem_map.2 ⟨t, ht, rfl⟩))]
  · rw [hs, fin, putAll_at _ t v a (by rw [hn]; exact (hk1 t (List.mem_append_left _ (List.mem_map.2 ⟨_, hv, rfl⟩))).1) (by rw [hkeys]; exact hnod) (List.mem_append_left _ hv)]
 have hallOk : ok ops (seeOf ops sf) (depsOf ops) (oldsOf ops late early) = true := by
  refine List.all_eq_true.2 fun i hi => ?_
  have hlt := List.mem_range.1 hi
  rw [Array.getElem?_eq_getElem hlt]
  obtain ⟨h1, h2, h3⟩ := hopi i ops[i] (Array.getElem?_eq_getElem hlt)
  simp only [okAt, Bool.and_eq_true, List.all_eq_true, decide_eq_true_eq, List.any_eq_true, Bool.or_eq_true, beq_iff_eq]
  have hold : ∀ t ∈ oldsOf ops late early i, ∀ k ∈ List.range ops.size, (match ops[k]? with | some ok => ok.dst != some t || (direct ok).contains i | none => true) = true := by
   have := hop i (List.mem_range.2 hlt)
   rw [Array.getElem?_eq_getElem hlt] at this
   simp only [Bool.and_eq_true, List.all_eq_true] at this
   exact this.1.1.2
  refine ⟨⟨⟨hold, h1⟩, fun j hj => ⟨j, by simpa [depsOf, hlt] using hj, .inl rfl⟩⟩, fun k hk => ?_⟩
  have hklt := List.mem_range.1 hk
  rw [Array.getElem?_eq_getElem hklt]
  cases hd : ops[k].dst with
  | none => simp [hd]
  | some d =>
    simp only [Option.bind_some, hd, Bool.or_eq_true, Bool.not_eq_true', beq_iff_eq, List.contains_iff_mem]
    by_cases hm : d ∈ seeOf ops sf i
    · -- who writes d
      have uniq : ∀ j, (ops[j]?).bind (·.dst) = some d → j = k := by
       intro j hj
       cases hoj : ops[j]? with
       | none => rw [hoj] at hj; cases hj
       | some oj =>
         rw [hoj] at hj
         have hjlt : j < ops.size := (Array.getElem?_eq_some_iff.1 hoj).1
         -- dsts has no doubles
         have key : ∀ (l : List Oper) (x y : Nat) (ox oy : Oper), (l.filterMap (·.dst)).Nodup → l[x]? = some ox → l[y]? = some oy → ox.dst = some d → oy.dst = some d → x = y := by
          intro l
          induction l with
          | nil => intro x y ox oy _ hx; simp at hx
          | cons z l ih =>
            intro x y ox oy hnn hx hy hdx hdy
            have hl : (l.filterMap (·.dst)).Nodup := by
             cases hz : z.dst with
             | none => simpa [List.filterMap_cons, hz] using hnn
             | some dz => rw [List.filterMap_cons_some (h := hz)] at hnn; exact (List.nodup_cons.1 hnn).2
            have hz0 : z.dst = some d → d ∉ l.filterMap (·.dst) := fun hz => by
             rw [List.filterMap_cons_some (h := hz)] at hnn; exact (List.nodup_cons.1 hnn).1
            cases x with
            | zero =>
              cases y with
              | zero => rfl
              | succ y =>
                simp at hx hy; subst hx
                exact absurd (List.mem_filterMap.2 ⟨oy, List.mem_of_getElem? hy, hdy⟩) (hz0 hdx)
            | succ x =>
              cases y with
              | zero =>
                simp at hx hy; subst hy
                exact absurd (List.mem_filterMap.2 ⟨ox, List.mem_of_getElem? hx, hdx⟩) (hz0 hdy)
              | succ y =>
                simp at hx hy
                rw [ih x y ox oy hl hx hy hdx hdy]
         exact key ops.toList j k oj ops[k] hdn (by simpa using hoj) (by simp [hklt]) (by simpa using hj) hd
      unfold seeOf at hm
      rw [Array.getElem?_eq_getElem hlt] at hm
      rcases List.mem_append.1 hm with hm | hm
      · left; right
        have : ops[i].dst = some d := by simpa using hm
        exact (uniq i (by rw [Array.getElem?_eq_getElem hlt]; simpa using this)).symm
      · rcases (h3 d hm).2 with h | ⟨j, hj, hjd⟩
        · left; right
          exact (uniq i (by rw [Array.getElem?_eq_getElem hlt]; simpa using h)).symm
        · right
          have := uniq j hjd
          subst this
          simpa [depsOf, hlt] using hj
    · left; left; simpa using hm
 have hfree : ∀ (d : Tmp) (v : Value), (d, v) ∈ vals ++ late → d ∉ free := by
  intro d v hv hf
  have := (List.nodup_append.1 hnod).2.2 d (List.mem_map.2 ⟨_, hv, rfl⟩) d hf
  exact this rfl
 refine wp_region_facts hm (seeOf ops sf) (depsOf ops) (oldsOf ops late early) (factOf ops (vals ++ late) p) hallOk J hJ ?_ ?_
 · intro i o hi a' w' hsz hrest hold hB hdeps
   obtain ⟨h1, h2, h3⟩ := hopi i o hi
   have hilt : i < ops.size := (Array.getElem?_eq_some_iff.1 hi).1
   have hdepsi : depsOf ops i = direct o := by simp [depsOf, hi]
   -- what j's fact says, of j's own p
   have toP : ∀ j, At (seeOf ops sf) (factOf ops (vals ++ late) p) j a' w' → p j ((sf j).map (slot a')) w' := by
    intro j hj
    unfold At factOf seeOf at hj
    cases hd : (ops[j]?).bind (·.dst) with
    | none => simpa [hd] using hj
    | some d => simp only [hd] at hj; simpa using hj.2
   have exact_of : ∀ j ∈ direct o, ∀ t v, (ops[j]?).bind (·.dst) = some t → (t, v) ∈ vals ++ late → slot a' t = v := by
    intro j hj t v hd hv
    have := hdeps j (by rw [hdepsi]; exact hj)
    unfold At factOf seeOf at this
    simp only [hd] at this
    simpa using this.1 v hv
   have agree : ∀ t ∈ o.looksAt ops, slot a' t = slot (fr a vals late free early i (slot a')) t := by
    intro t ht
    refine hslot i a' hsz hrest t ?_
    by_cases hd : t ∈ dsts ops
    · right
      rcases h2 t ht hd with ho | ⟨j, hj, hjd⟩
      · -- it is read as it was
        right; right; right
        have hs := hold t ho
        unfold oldsOf at ho
        rw [hi] at ho
        simp only at ho
        cases he : early i with
        | false => rw [he] at ho; simp at ho
        | true =>
          rw [he] at ho
          simp only [if_true, List.mem_filter, List.contains_iff_mem] at ho
          exact ⟨rfl, ho.2, hs⟩
      · have hmem : t ∈ (vals ++ late).map (·.1) ++ free := hk2 t hd
        rcases List.mem_append.1 hmem with hv | hf
        · obtain ⟨⟨t', v⟩, hv2, rfl⟩ := List.mem_map.1 hv
          have hs := exact_of j hj _ v hjd hv2
          rcases List.mem_append.1 hv2 with h | h
          · exact .inr (.inl ⟨v, h, hs⟩)
          · -- a late slot, already written: this operation is not early
            cases he : early i with
            | false => exact .inr (.inr (.inl ⟨rfl, v, h, hs⟩))
            | true =>
              exfalso
              -- then it is among the olds, and its writer waits for i: but the writer stands before i
              have hol : t' ∈ oldsOf ops late early i := by
               unfold oldsOf
               rw [hi]
               simp only [he, if_true, List.mem_filter, List.contains_iff_mem]
               exact ⟨ht, List.mem_map.2 ⟨_, h, rfl⟩⟩
              have hjlt : j < ops.size := by have := h1 j hj; omega
              have := hop i (List.mem_range.2 hilt)
              rw [hi] at this
              simp only [Bool.and_eq_true, List.all_eq_true] at this
              have hw := this.1.1.2 t' hol j (List.mem_range.2 hjlt)
              rw [Array.getElem?_eq_getElem hjlt] at hw hjd
              simp only [Option.bind_some] at hjd
              simp only [hjd, bne_self_eq_false, Bool.false_or, List.contains_iff_mem] at hw
              have a1 := (hopi j ops[j] (Array.getElem?_eq_getElem hjlt)).1 i hw
              have a2 := h1 j hj
              omega
        · exact .inl hf
    · exact .inl hd
   have agreeF : ∀ j, (sf j).map (slot (fr a vals late free early i (slot a'))) = (sf j).map (slot a') ∨ j ≥ ops.size := by
    intro j
    rcases Nat.lt_or_ge j ops.size with hj | hj
    · left
      refine List.map_congr_left fun t ht => ?_
      obtain ⟨_, _, h3⟩ := hopi j ops[j] (Array.getElem?_eq_getElem hj)
      exact (hslot i a' hsz hrest t (.inr (.inl (h3 t ht).1))).symm
    · exact .inr hj
   have agreeL : ∀ j, j < ops.size → (sf j).map (slot (fr a vals late free early i (slot a'))) = (sf j).map (slot a') := fun j hj => (agreeF j).resolve_right (by omega)
   have hD := hstep i o hi (slot a') w' hB (fun j hj => by
    have hjlt : j < ops.size := by have := h1 j hj; omega
    rw [agreeL j hjlt]
    exact toP j (hdeps j (by rw [hdepsi]; exact hj)))
   have finish : ∀ (v : Value) (w'' : World), (∀ d u, o.dst = some d → (d, u) ∈ vals ++ late → v = u) → p i ((sf i).map (slot ((fr a vals late free early i (slot a')).put o.dst v))) w'' → J w'' →
    (∀ j, j ≠ i → j < ops.size → p j ((sf j).map (slot (fr a vals late free early i (slot a')))) w' → p j ((sf j).map (slot (fr a vals late free early i (slot a')))) w'') →
    ∃ v', a'.put o.dst v = a'.put o.dst v' ∧ At (seeOf ops sf) (factOf ops (vals ++ late) p) i (a'.put o.dst v) w'' ∧ J w'' ∧ ∀ j, j ≠ i → j < ops.size → At (seeOf ops sf) (factOf ops (vals ++ late) p) j a' w' → At (seeOf ops sf) (factOf ops (vals ++ late) p) j a' w'' := by
    intro v w'' hex hp hb hkeep
    have hput : (sf i).map (slot (a'.put o.dst v)) = (sf i).map (slot ((fr a vals late free early i (slot a')).put o.dst v)) := by
     refine List.map_congr_left fun t ht => ?_
     by_cases hd : o.dst = some t
     · have htlt : t < n := (hk1 t (List.mem_append_right _ (h3 t ht).1)).1
       rw [hd, slot_put_same _ _ _ (by rw [hsz, hn]; exact htlt), slot_put_same _ _ _ (by rw [fr_size, hn]; exact htlt)]
     · rw [slot_put_ne _ _ _ _ hd, slot_put_ne _ _ _ _ hd]
       exact hslot i a' hsz hrest t (.inr (.inl (h3 t ht).1))
    refine ⟨v, rfl, ?_, hb, fun j hji hj hat => ?_⟩
    · unfold At factOf seeOf
      simp only [hi, Option.bind_some]
      cases hd : o.dst with
      | none => rw [hd] at hp hput; simp only [Option.toList_none, List.nil_append]; rw [hput]; exact hp
      | some d =>
        rw [hd] at hp hput
        simp only [Option.toList_some, List.cons_append, List.nil_append, List.map_cons, List.head?_cons, List.tail_cons]
        refine ⟨fun u hu => ?_, by rw [hput]; exact hp⟩
        have hdlt : d < n := (hk1 d (List.mem_append_left _ (List.mem_map.2 ⟨_, hu, rfl⟩))).1
        rw [slot_put_same _ _ _ (by rw [hsz, hn]; exact hdlt), hex d u hd hu]
    · have hpj := toP j hat
      have hnew := hkeep j hji hj (by rw [agreeL j hj]; exact hpj)
      rw [agreeL j hj] at hnew
      unfold At factOf seeOf at hat ⊢
      cases hd : (ops[j]?).bind (·.dst) with
      | none => simp only [hd, Option.toList_none, List.nil_append] at hat ⊢; exact hnew
      | some d =>
        simp only [hd] at hat ⊢
        exact ⟨hat.1, by simpa using hnew⟩
   have hsel : ∀ cs b, o.op ≠ .select cs b := fun cs b => Region.noSelect_spec hs i o cs b hi
   unfold wpOp
   simp only [hi]
   unfold Does at hD
   rw [← wanted_congr o a' (fr a vals late free early i (slot a')) (by rw [fr_size, hsz]) agree] at hD
   split
   · rename_i hw
     rw [if_pos hw] at hD
     left
     unfold Oper.wp at hD ⊢
     rw [← exec_congr o hsel a' _ agree] at hD
     refine upon_congr (F := fr a vals late free early i (slot a')) ?_ ?_ hD
     · rintro v w'' ⟨v', he, hex, hp, hb, hkeep⟩
       -- v and v' put the same
       cases hd : o.dst with
       | none =>
         rw [hd] at he hp hex
         have := finish v w'' (by rw [hd]; exact fun d u h => by cases h) (by rw [hd]; exact hp) hb hkeep
         rw [hd] at this
         exact this
       | some d =>
         rw [hd] at he hp
         have hdlt : d < n := (hk1 d (hk2 d (List.mem_filterMap.2 ⟨o, by have := Array.mem_of_getElem? hi; simpa using this, hd⟩))).1
         have hvv : v = v' := by
          have h1 : slot ((fr a vals late free early i (slot a')).put (some d) v) d = slot ((fr a vals late free early i (slot a')).put (some d) v') d := congrArg (fun x => slot x d) he
          rwa [slot_put_same _ _ _ (by rw [fr_size, hn]; exact hdlt), slot_put_same _ _ _ (by rw [fr_size, hn]; exact hdlt)] at h1
         subst hvv
         have := finish v w'' hex (by rw [hd]; exact hp) hb hkeep
         rw [hd] at this
         exact this
     · rintro d w'' ⟨v, he, _⟩
       have h1 := congrArg (fun x => x.defers.length) he
       simp only [defers_put, List.length_cons] at h1
       omega
   · rename_i hw
     rw [if_neg (by simpa using hw)] at hD
     exact finish undef w' hD.1 hD.2 hB (fun _ _ _ h => h)
 · intro a' w' hdf hsz hrest hB hall
   have hfin : a' = fin a (vals ++ late) free (slot a') := by
    have ht : a'.tmps = (fin a (vals ++ late) free (slot a')).tmps := by
     refine Array.ext (by rw [fin, putAll_size, hsz]) fun t h1 h2 => ?_
     have hs := hslotE a' hsz hrest t (by
      by_cases hd : t ∈ dsts ops
      · right
        have hmem : t ∈ (vals ++ late).map (·.1) ++ free := hk2 t hd
        rcases List.mem_append.1 hmem with hv | hf
        · right
          obtain ⟨⟨t', v⟩, hv2, rfl⟩ := List.mem_map.1 hv
          obtain ⟨o, ho, hod⟩ := List.mem_filterMap.1 hd
          obtain ⟨i, hi, hoi⟩ := List.mem_iff_getElem.1 ho
          have hi' : i < ops.size := by simpa using hi
          have := hall i hi'
          unfold At factOf seeOf at this
          have hio : ops[i]? = some o := by rw [Array.getElem?_eq_getElem hi']; simpa using hoi
          simp only [hio, Option.bind_some, hod] at this
          exact ⟨v, hv2, by simpa using this.1 v hv2⟩
        · exact .inl hf
      · exact .inl hd)
     simpa [slot, h1, h2] using hs
    have hd : a'.defers = (fin a (vals ++ late) free (slot a')).defers := by rw [hdf, fin, putAll_defers]
    obtain ⟨x, y⟩ := a'
    simp only at ht hd
    cases hF : fin a (vals ++ late) free (slot ⟨x, y⟩) with
    | mk x' y' => rw [hF] at ht hd; simp only at ht hd; rw [ht, hd]
   have hq := hend (slot a') w' hB (fun i hi => by
    have := hall i hi
    rw [← hfin]
    unfold At factOf seeOf at this
    cases hd : (ops[i]?).bind (·.dst) with
    | none => simpa [hd] using this
    | some d => simp only [hd] at this; simpa using this.2)
   rw [← hfin] at hq
   exact hq
def DoesP (P : Program) (ops : Array Oper) (J R : World → Prop) (i0 : Nat) (F : Act) (i : Nat) (o : Oper) (w : World) : Prop :=
 if Region.wanted o (yielded ops F.tmps) = true then Oper.wp P o F w (fun a' w' => ∃ v, a' = F.put o.dst v ∧ F.put o.dst v = F ∧ J w' ∧ (i = i0 → R w') ∧ (i ≠ i0 → R w → R w')) (fun _ _ _ => False)
 else F.put o.dst undef = F ∧ i ≠ i0
theorem wp_region_keep {id : Nat} {a : Act} {w : World} (hm : P.follows .mixedOrders = true) (hs : Region.noSelect ops = true) (J R : World → Prop) (i0 : Nat) (hi0 : i0 < ops.size) (hJ : J w.drew)
 (vals : List (Tmp × Value)) (n : Nat) (hn : a.tmps.size = n) (hok : plan ops n vals [] [] (fun _ => []) (fun _ => false) = true)
 (hstep : ∀ F : Act, F = putAll a vals → ∀ w', J w' → Each (fun i o => DoesP P ops J R i0 F i o w') 0 ops.toList)
 (hend : ∀ w', J w' → R w' → Q .normal (putAll a vals) w') :
 (Code.region id ops true).wp P Q a w := by
 have hfin : ∀ g l, fin a l [] g = putAll a l := fun g l => by simp [fin]
 have hok' := hok
 simp only [plan, Bool.and_eq_true, List.all_eq_true, decide_eq_true_eq, List.contains_iff_mem, List.append_nil] at hok
 obtain ⟨⟨⟨⟨hk1, hk2⟩, hnod⟩, hdn⟩, hop⟩ := hok
 refine wp_region_run hm hs vals [] [] (fun _ => []) (fun _ => false) (fun i _ w => i = i0 → R w) n hn hok' J hJ ?_ ?_
 · intro i o hi g w' hB _
   have hD := each_at ops.toList 0 i o (hstep _ rfl w' hB) (by simpa using hi)
   have hfr : fr a vals [] [] (fun _ => false) i g = putAll a vals := by
    unfold fr
    rw [if_neg (by simp), hfin, List.append_nil]
   rw [hfr]
   rw [Nat.zero_add] at hD
   have hex : ∀ (v : Value), (putAll a vals).put o.dst v = putAll a vals → ∀ d u, o.dst = some d → (d, u) ∈ vals ++ [] → v = u := by
    intro v hv d u hd hu
    rw [List.append_nil] at hu
    have hdlt : d < n := (hk1 d (List.mem_map.2 ⟨_, hu, rfl⟩)).1
    rw [hd] at hv
    have h1 := put_slot _ d v (by rw [putAll_size, hn]; exact hdlt) hv
    rw [← h1, putAll_at vals d u a (by rw [hn]; exact hdlt) hnod hu]
   generalize putAll a vals = E at hD hex ⊢
   unfold DoesP at hD
   unfold Does
   split
   · rename_i hw
     rw [if_pos hw] at hD
     unfold Oper.wp at hD ⊢
     refine upon_congr (F := E) ?_ ?_ hD
     · rintro v w'' ⟨v', he, hF, hb, h1, h2⟩
       refine ⟨v', he, hex v' hF, h1, hb, fun j hj _ hp hji => ?_⟩
       exact h2 (fun e => hj (hji.trans e.symm)) (hp hji)
     · rintro d w'' ⟨v, he, _⟩
       have h1 := congrArg (fun x => x.defers.length) he
       simp only [defers_put, List.length_cons] at h1
       omega
   · rename_i hw
     rw [if_neg hw] at hD
     exact ⟨hex undef hD.1, fun e => absurd e hD.2⟩
 · intro g w' hB hall
   rw [hfin, List.append_nil]
   exact hend w' hB (hall i0 hi0 rfl)
theorem doesP_val {J R : World → Prop} {i0 i : Nat} {F : Act} {o : Oper} {w : World} {v : Value} (hi : i ≠ i0) (hJ : J w) (hr : (execOp F.eval o).run P w = .ok (.value v) w) (hw : Region.wanted o (yielded ops F.tmps) = true) (hF : F.put o.dst v = F) : DoesP P ops J R i0 F i o w := by
 unfold DoesP
 rw [if_pos hw]
 unfold Oper.wp
 rw [hr]
 exact ⟨v, rfl, hF, hJ, fun e => absurd e hi, fun _ h => h⟩
theorem doesP_call {J R : World → Prop} {i0 i : Nat} {F : Act} {o : Oper} {w : World} {v : Value} {f : FuncId} {args : Array Value} (hi : i ≠ i0) (hJ : ∀ w', Below w.heap.size w w' → J w') (hR : ∀ w', Below w.heap.size w w' → R w → R w') (hc : Calls P f args w fun e w' => e = .returned v ∧ Below w.heap.size w w')
 (hr : (execOp F.eval o).run P w = .ok (.enter f args) w) (hw : Region.wanted o (yielded ops F.tmps) = true) (hF : F.put o.dst v = F) : DoesP P ops J R i0 F i o w := by
 unfold DoesP
 rw [if_pos hw]
 unfold Oper.wp
 rw [hr]
 refine Calls.mono hc ?_
 rintro e w' ⟨rfl, hb⟩
 exact ⟨v, rfl, hF, hJ _ hb, fun e => absurd e hi, fun _ h => hR _ hb h⟩
theorem doesP_store {J R : World → Prop} {i0 : Nat} {F : Act} {o : Oper} {w w' : World} (hJ : J w') (hR : R w') (hr : (execOp F.eval o).run P w = .ok .skip w') (hd : o.dst = none) (hw : Region.wanted o (yielded ops F.tmps) = true) : DoesP P ops J R i0 F i0 o w := by
 unfold DoesP
 rw [if_pos hw]
 unfold Oper.wp
 rw [hr]
 exact ⟨undef, rfl, by rw [hd]; rfl, hJ, fun _ => hR, fun h => absurd rfl h⟩
end
end RegJ
end Go.Proofs.Ytbpopkgpepmlcaa
