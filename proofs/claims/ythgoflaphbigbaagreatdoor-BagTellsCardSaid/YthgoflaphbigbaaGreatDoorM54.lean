/-
  Texts of numbers, values, rows and bags, as the document has them; each part says what it proves, and of what.
-/
import Derived.Test.YthgoflaphbigbaaGreatDoorTextQ
import Derived.Test.YthgoflaphbigbaaGreatDoorHd
import Derived.Test.YthgoflaphbigbaaGreatDoorTextD5
import Derived.Test.YthgoflaphbigbaaGreatDoorCt
/-
  A natural's digits, and a whole number's numeral, as the document has it. Of all of 64 bits.
-/
namespace Go.Proofs.YthgoflaphbigbaaGreatDoor
open Go Go.RowKit
set_option maxRecDepth 100000

theorem dig_one : ∀ d : Nat, d < 10 → (⟨#[48, 49, 50, 51, 52, 53, 54, 55, 56, 57]⟩ : ByteArray).extract d (d + 1) = ⟨#[48 + UInt8.ofNat d]⟩
  | 0, _ => rfl
  | 1, _ => rfl
  | 2, _ => rfl
  | 3, _ => rfl
  | 4, _ => rfl
  | 5, _ => rfl
  | 6, _ => rfl
  | 7, _ => rfl
  | 8, _ => rfl
  | 9, _ => rfl
  | n + 10, h => absurd h (by omega)
theorem dec_small {u : Nat} (h : u < 10) : Lib.decDigits u = [48 + UInt8.ofNat u] := by rw [Lib.decDigits, dif_pos h, UInt8.ofNat_add]; rfl
theorem dec_big {u : Nat} (h : ¬ u < 10) : Lib.decDigits u = Lib.decDigits (u / 10) ++ [48 + UInt8.ofNat (u % 10)] := by rw [Lib.decDigits, dif_neg h, UInt8.ofNat_add]; rfl
theorem cat_one (a : UInt8) (l : List UInt8) : (⟨#[a]⟩ : ByteArray) ++ ⟨l.toArray⟩ = ⟨(a :: l).toArray⟩ := by
  apply ByteArray.ext
  simp
theorem dec_64 (u : Nat) (h : u < 18446744073709551616) : (Lib.decDigits u).length ≤ 20 := dec_len u 19 (by omega)
set_option maxHeartbeats 1000000 in
theorem rdigits_c (u : Nat) (w : World) (hu : u < 18446744073709551616) :
    Calls Tryz.prog 61 #[.int .u64 u] w fun e w' => e = .returned (.string ⟨(Lib.decDigits u).toArray⟩) ∧ Below w.heap.size w w' := by
  obtain ⟨R, hR⟩ : ∃ R, Lib.decDigits u = R := ⟨_, rfl⟩
  rw [hR]
  have HR := Lib.hid hR
  have HRl : Hid (R.length ≤ 20) := Lib.hid (by rw [← hR]; exact dec_64 u hu)
  clear hR
  go_enter Tryz.func61, Tryz.ntmps61
  go_wp2_with fail
  go_loopw [0, 3] (fun v s wr => ∃ (m : Nat) (l : List UInt8), m ≤ u ∧ v = .int .u64 m ∧ s = .string ⟨l.toArray⟩ ∧ Hid (Below w.heap.size w wr) ∧ Hid (Lib.decDigits m ++ l = R)) (fun v _ _ => (intOf v).toNat)
  case atStart => exact ⟨u, [], Nat.le_refl _, rfl, rfl, Lib.hid (Below.refl _ _), Lib.hid (by rw [List.append_nil]; exact HR.out)⟩
  case round =>
    obtain ⟨m, l, hm, rfl, rfl, hb, hinv⟩ := hrel
    have hl : l.length ≤ 20 := by
      have h1 := HRl.out
      rw [← hinv.out, List.length_append] at h1
      omega
    have hsz : (⟨l.toArray⟩ : ByteArray).size = l.length := by show l.toArray.size = _; simp
    clear HR HRl
    by_cases hlt : m < 10
    · have hlt' : ¬ (9 : Int) < m := by omega
      have hd := dig_one m hlt
      have Hr : Hid ((⟨#[48 + UInt8.ofNat m]⟩ : ByteArray) ++ ⟨l.toArray⟩ = ⟨R.toArray⟩) := Lib.hid (by
        rw [cat_one, ← hinv.out, dec_small hlt]
        rfl)
      have hs1 : (⟨#[48 + UInt8.ofNat m]⟩ : ByteArray).size = 1 := rfl
      clear hinv
      go_wp2
      go_ret
      exact ⟨congrArg (fun z => Ending.returned (Value.string z)) Hr.out, hb.out⟩
    · have hlt' : (9 : Int) < m := by omega
      have Hbig := Lib.hid (dec_big hlt)
      have Hlt := Lib.hid hlt
      obtain ⟨d, hdd⟩ : ∃ d, m % 10 = d := ⟨_, rfl⟩
      obtain ⟨q, hqq⟩ : ∃ q, m / 10 = q := ⟨_, rfl⟩
      have hd10 : d < 10 := by omega
      have hmd : (m : Int) % 10 = (d : Nat) := by omega
      have hmq : (m : Int) / 10 = (q : Nat) := by omega
      have hd := dig_one d hd10
      have hs1 : (⟨#[48 + UInt8.ofNat d]⟩ : ByteArray).size = 1 := rfl
      have hbig := Hbig.out
      rw [hdd, hqq] at hbig
      have Hi2 : Hid (Lib.decDigits q ++ ((48 + UInt8.ofNat d) :: l) = R) := Lib.hid (by
        rw [← hinv.out, hbig, List.append_assoc]
        rfl)
      have Hqm : Hid (q < m) := Lib.hid (by omega)
      clear hbig Hbig hinv hlt hdd hqq
      go_wp2
      go_roundw
      case rel => exact ⟨q, _, by have := Hqm.out; omega, rfl, by rw [cat_one], hb, Hi2⟩
      case measure => have := Hqm.out; simp [intOf]; omega
set_option maxHeartbeats 1000000 in
theorem rsigned_c (n : Int) (w : World) (hn : -9223372036854775808 ≤ n ∧ n ≤ 9223372036854775807) :
    Calls Tryz.prog 43 #[.int .i64 n] w fun e w' => e = .returned (.string ⟨(Lib.itoa n).toArray⟩) ∧ Below w.heap.size w w' := by
  by_cases h0 : n < 0
  · obtain ⟨k, rfl⟩ : ∃ k : Nat, n = -(k : Int) - 1 := ⟨(-n - 1).toNat, by omega⟩
    obtain ⟨R, hR⟩ : ∃ R, Lib.itoa (-(k : Int) - 1) = R := ⟨_, rfl⟩
    rw [hR]
    have hk : k < 9223372036854775808 := by omega
    have hD := rdigits_c (k + 1) w (by omega)
    obtain ⟨D, hd⟩ : ∃ D, Lib.decDigits (k + 1) = D := ⟨_, rfl⟩
    have HRd : Hid ((⟨#[45]⟩ : ByteArray) ++ ⟨D.toArray⟩ = ⟨R.toArray⟩) := Lib.hid (by
      rw [cat_one, ← hR]
      unfold Lib.itoa
      rw [if_pos (by omega), show (-(k : Int) - 1).natAbs = k + 1 by omega, hd])
    have hDl : D.length ≤ 20 := by rw [← hd]; exact dec_64 _ (by omega)
    have hsz : (⟨D.toArray⟩ : ByteArray).size = D.length := by show D.toArray.size = _; simp
    rw [hd, show ((k + 1 : Nat) : Int) = (k : Int) + 1 by omega] at hD
    have HD := Lib.hid hD
    have hs1 : (⟨#[45]⟩ : ByteArray).size = 1 := rfl
    have hw0 : IntKind.i64.wrap (-(k : Int) - 1 + 1) = -(k : Int) := by rw [IntKind.wrap_i64]; omega
    have hw1 : IntKind.i64.wrap (-(k : Int)) = -(k : Int) := by rw [IntKind.wrap_i64]; omega
    have hw2 : IntKind.i64.wrap (k : Int) = k := by rw [IntKind.wrap_i64]; omega
    have hw3 : IntKind.u64.wrap (k : Int) = k := by rw [IntKind.wrap_u64]; omega
    have hw4 : IntKind.u64.wrap ((k : Int) + 1) = (k : Int) + 1 := by rw [IntKind.wrap_u64]; omega
    clear hR hD hd
    go_enter Tryz.func43, Tryz.ntmps43
    go_wp2_with fail
    refine HD.out.mono ?_
    rintro e w1 ⟨rfl, hb1⟩
    have Hb1 := Lib.hid hb1
    clear hb1 HD
    go_wp2
    go_ret
    exact ⟨congrArg (fun z => Ending.returned (Value.string z)) HRd.out, Hb1.out⟩
  · obtain ⟨k, rfl⟩ : ∃ k : Nat, n = k := ⟨n.toNat, by omega⟩
    have he : Lib.itoa (k : Int) = Lib.decDigits k := by
      unfold Lib.itoa
      rw [if_neg h0, Int.toNat_natCast]
    rw [he]
    have HD := Lib.hid (rdigits_c k w (by omega))
    obtain ⟨D, hd⟩ : ∃ D, Lib.decDigits k = D := ⟨_, rfl⟩
    rw [hd] at HD ⊢
    have hw3 : IntKind.u64.wrap (k : Int) = k := by rw [IntKind.wrap_u64]; omega
    clear he hd
    go_enter Tryz.func43, Tryz.ntmps43
    go_wp2_with fail
    refine HD.out.mono ?_
    rintro e w1 ⟨rfl, hb1⟩
    have Hb1 := Lib.hid hb1
    clear hb1 HD
    go_wp2
    go_ret
    exact ⟨rfl, Hb1.out⟩
end Go.Proofs.YthgoflaphbigbaaGreatDoor
/-
  A value's text, as the document has it: of texts of at most 2000 bytes.
-/
namespace Go.Proofs.YthgoflaphbigbaaGreatDoor
open Go Go.RowKit
set_option maxRecDepth 100000

set_option maxHeartbeats 400000 in
theorem rtext_null (x : Val) (w : World) (h : (x.k == 0) = true) : Calls Tryz.prog 60 #[x.v] w fun e w' => e = .returned (.string ⟨#[110, 117, 108, 108]⟩) ∧ Below w.heap.size w w' := by
  go_enter Tryz.func60, Tryz.ntmps60
  go_wp2
  go_ret
  exact ⟨rfl, below_one _ _⟩
set_option maxHeartbeats 400000 in
theorem rtext_false (x : Val) (w : World) (h0 : (x.k == 0) = false) (h : (x.k == 1) = true) (hn : (x.n == 0) = true) : Calls Tryz.prog 60 #[x.v] w fun e w' => e = .returned (.string ⟨#[102, 97, 108, 115, 101]⟩) ∧ Below w.heap.size w w' := by
  go_enter Tryz.func60, Tryz.ntmps60
  go_wp2
  go_ret
  exact ⟨rfl, below_one _ _⟩
set_option maxHeartbeats 400000 in
theorem rtext_true (x : Val) (w : World) (h0 : (x.k == 0) = false) (h : (x.k == 1) = true) (hn : (x.n == 0) = false) : Calls Tryz.prog 60 #[x.v] w fun e w' => e = .returned (.string ⟨#[116, 114, 117, 101]⟩) ∧ Below w.heap.size w w' := by
  go_enter Tryz.func60, Tryz.ntmps60
  go_wp2
  go_ret
  exact ⟨rfl, below_one _ _⟩
set_option maxHeartbeats 400000 in
theorem rtext_other (x : Val) (w : World) (h0 : (x.k == 0) = false) (h1 : (x.k == 1) = false) (h2 : (x.k == 2) = false) (h3 : (x.k == 3) = false) : Calls Tryz.prog 60 #[x.v] w fun e w' => e = .returned (.string ⟨#[63]⟩) ∧ Below w.heap.size w w' := by
  go_enter Tryz.func60, Tryz.ntmps60
  go_wp2
  go_ret
  exact ⟨rfl, below_one _ _⟩
set_option maxHeartbeats 400000 in
theorem rtext_int (x : Val) (w : World) (h0 : (x.k == 0) = false) (h1 : (x.k == 1) = false) (h : (x.k == 2) = true) (hn : -9223372036854775808 ≤ x.n ∧ x.n ≤ 9223372036854775807) :
    Calls Tryz.prog 60 #[x.v] w fun e w' => e = .returned (.string ⟨(Lib.itoa x.n).toArray⟩) ∧ Below w.heap.size w w' := by
  have Hn := Lib.hid hn
  clear hn
  go_enter Tryz.func60, Tryz.ntmps60
  go_wp2_with fail
  refine (rsigned_c x.n _ Hn.out).mono ?_
  rintro e w1 ⟨rfl, hb1⟩
  have hb := below_via (below_one w _) hb1
  clear hb1
  go_wp2
  go_ret
  exact ⟨rfl, hb⟩
theorem sub1_snoc (c : UInt8) (r : List UInt8) : ∀ (l : List UInt8) (b : UInt8), sub1 c r (l ++ [b]) = sub1 c r l ++ (if b = c then r else [b])
  | [], b => by
    rw [List.nil_append, sub1, sub1]
    split <;> simp [sub1]
  | a :: l, b => by
    rw [List.cons_append, sub1, sub1, sub1_snoc c r l b]
    split <;> simp
theorem cat_two (a b : List UInt8) : (⟨a.toArray⟩ : ByteArray) ++ ⟨b.toArray⟩ = ⟨(a ++ b).toArray⟩ := by
  apply ByteArray.ext
  simp
theorem drop_at5 (s : ByteArray) (a : Nat) (h : a < s.size) : s.data.toList.drop a = s[a] :: s.data.toList.drop (a + 1) := List.drop_eq_getElem_cons h
theorem extract_one5 (s : ByteArray) (k : Nat) (h : k < s.size) : s.extract k (k + 1) = ⟨[s[k]].toArray⟩ := by
  have e : (s.data.toList.drop k).take (k + 1 - k) = [s[k]] := by
    rw [show k + 1 - k = 1 by omega, drop_at5 s k h]
    rfl
  rw [Lib.extract_eq, e]
theorem take_at5 (s : ByteArray) (k : Nat) (h : k < s.size) : s.data.toList.take (k + 1) = s.data.toList.take k ++ [s[k]] := by
  rw [List.take_add_one, List.getElem?_eq_getElem (show k < s.data.toList.length from h)]
  rfl
set_option maxHeartbeats 2000000 in
theorem rtext_text (x : Val) (w : World) (h0 : (x.k == 0) = false) (h1 : (x.k == 1) = false) (h2 : (x.k == 2) = false) (h3 : (x.k == 3) = true) (hs : x.s.size ≤ 2000) :
    Calls Tryz.prog 60 #[x.v] w fun e w' => e = .returned (.string ⟨([39] ++ sub1 39 [39, 39] x.s.data.toList ++ [39]).toArray⟩) ∧ Below w.heap.size w w' := by
  obtain ⟨xk, xn, s⟩ := x
  simp only [] at h0 h1 h2 h3 hs ⊢
  obtain ⟨R, hR⟩ : ∃ R, [39] ++ sub1 39 [39, 39] s.data.toList ++ [39] = R := ⟨_, rfl⟩
  rw [hR]
  have HR := Lib.hid hR
  clear hR
  go_enter Tryz.func60, Tryz.ntmps60
  go_wp2_with fail
  have Hb1 := Lib.hid (below_one w (.cells #[.int .i64 xk, .int .i64 xn, .string s] 63))
  have Hc2 : Hid ((w.alloc (.cells #[.int .i64 xk, .int .i64 xn, .string s] 63)).cell? ⟨w.heap.size, 2, none⟩ = some (.string s)) := Lib.hid (Bx.new w ⟨xk, xn, s⟩).cell2
  obtain ⟨g, hg⟩ : ∃ g, w.heap.size = g := ⟨_, rfl⟩
  obtain ⟨W, hW⟩ : ∃ W, w.alloc (.cells #[.int .i64 xk, .int .i64 xn, .string s] 63) = W := ⟨_, rfl⟩
  rw [hW] at Hb1 Hc2 ⊢
  have hg2 : Hid (Below w.heap.size w W) := Hb1
  rw [hg] at Hc2 ⊢
  clear hW Hb1
  go_loopw [3, 4] (fun v i wr => ∃ (k : Nat) (l : List UInt8), k ≤ s.size ∧ i = .int .i64 k ∧ v = .string ⟨l.toArray⟩ ∧ W = wr ∧ Hid (l = [39] ++ sub1 39 [39, 39] (s.data.toList.take k))) (fun _ i _ => s.size - (intOf i).toNat)
  case atStart => exact ⟨0, [39], Nat.zero_le _, rfl, rfl, rfl, Lib.hid rfl⟩
  case round =>
    obtain ⟨k, l, hk, rfl, rfl, rfl, hl⟩ := hrel
    have d2 := Hc2.out
    have hll : l.length ≤ 5000 := by
      have h1 := sub1_le 39 (s.data.toList.take k)
      rw [hl.out, List.length_append]
      have h2 : (s.data.toList.take k).length ≤ k := List.length_take_le _ _
      simp only [List.length_cons, List.length_nil]
      omega
    have hsz : (⟨l.toArray⟩ : ByteArray).size = l.length := by show l.toArray.size = _; simp
    by_cases hlt : k < s.size
    · have hlt' : (k : Int) < s.size := by omega
      have hx := extract_one5 s k hlt
      have Hta := Lib.hid (take_at5 s k hlt)
      by_cases hc : s[k] = 39
      · have hc' : (s[k].toNat : Int) = 39 := by rw [hc]; rfl
        have Hl2 : Hid (l ++ [39] ++ [39] = [39] ++ sub1 39 [39, 39] (s.data.toList.take (k + 1))) := Lib.hid (by
          rw [Hta.out, sub1_snoc, if_pos hc, hl.out]
          simp)
        go_wp2
        go_roundw
        case rel => exact ⟨k + 1, _, by omega, by go_num, congrArg Value.string (by rw [show (⟨#[39]⟩ : ByteArray) = ⟨[39].toArray⟩ from rfl, cat_two, cat_two]), trivial, Hl2⟩
        case measure => simp [intOf]; omega
      · have hc' : ¬ (s[k].toNat : Int) = 39 := fun h => hc (UInt8.toNat_inj.1 (by have : (39 : UInt8).toNat = 39 := rfl; omega))
        have Hl2 : Hid (l ++ [s[k]] = [39] ++ sub1 39 [39, 39] (s.data.toList.take (k + 1))) := Lib.hid (by
          rw [Hta.out, sub1_snoc, if_neg hc, hl.out]
          simp)
        go_wp2
        go_roundw
        case rel => exact ⟨k + 1, _, by omega, by go_num, congrArg Value.string (by rw [show (⟨#[s[k]]⟩ : ByteArray) = ⟨[s[k]].toArray⟩ from rfl, cat_two]), trivial, Hl2⟩
        case measure => simp [intOf]; omega
    · obtain rfl : k = s.size := by omega
      have Hr : Hid ((⟨l.toArray⟩ : ByteArray) ++ ⟨#[39]⟩ = ⟨R.toArray⟩) := Lib.hid (by
        rw [show (⟨#[39]⟩ : ByteArray) = ⟨[39].toArray⟩ from rfl, cat_two, ← HR.out, hl.out, show s.data.toList.take s.size = s.data.toList from List.take_of_length_le (Nat.le_refl _)])
      clear hl HR
      go_wp2
      go_ret
      exact ⟨congrArg (fun z => Ending.returned (Value.string z)) Hr.out, hg2.out⟩
/-- A value's text. -/
theorem rtextV_c (x : Val) (w : World) (hn : -9223372036854775808 ≤ x.n ∧ x.n ≤ 9223372036854775807) (hs : x.s.size ≤ 2000) :
    Calls Tryz.prog 60 #[x.v] w fun e w' => e = .returned (.string ⟨(textL x).toArray⟩) ∧ Below w.heap.size w w' := by
  unfold textL
  cases h0 : x.k == 0
  · cases h1 : x.k == 1
    · cases h2 : x.k == 2
      · cases h3 : x.k == 3
        · exact rtext_other x w h0 h1 h2 h3
        · exact rtext_text x w h0 h1 h2 h3 hs
      · exact rtext_int x w h0 h1 h2 hn
    · cases hz : x.n == 0
      · exact rtext_true x w h0 h1 hz
      · exact rtext_false x w h0 h1 hz
  · exact rtext_null x w h0
end Go.Proofs.YthgoflaphbigbaaGreatDoor
/-
  A row's text, and a bag's, as the document has it: of rows of at most 200 values of short texts, and bags of at most 1000 rows.
-/
namespace Go.Proofs.YthgoflaphbigbaaGreatDoor
open Go Go.RowKit
set_option maxRecDepth 100000

set_option maxHeartbeats 1000000 in
theorem rtextR_c (A : Option Addr) (n c : Nat) (xs : List Val) (w : World) (hn : xs.length = n) (hn1 : n ≤ 200) (hs : Sl w A xs) (hx64 : ∀ x ∈ xs, -9223372036854775808 ≤ x.n ∧ x.n ≤ 9223372036854775807) (hz : ∀ x ∈ xs, x.s.size ≤ 2000) :
    Calls Tryz.prog 42 #[.slice A n c] w fun en w' => en = .returned (.string ⟨(rowT xs).toArray⟩) ∧ Below w.heap.size w w' := by
  obtain ⟨R, hR⟩ : ∃ R, rowT xs = R := ⟨_, rfl⟩
  rw [hR]
  have HR := Lib.hid hR
  have Hs := Lib.hid hs
  have Hn := Lib.hid hn
  have H6 := Lib.hid hx64
  have Hz := Lib.hid hz
  clear hR hs hn hx64 hz
  go_enter Tryz.func42, Tryz.ntmps42
  go_wp2_with fail
  go_loopw [3, 4] (fun v i wr => ∃ (k : Nat) (l : List UInt8), k ≤ n ∧ i = .int .i64 k ∧ v = .string ⟨l.toArray⟩ ∧ l.length ≤ 1 + k * 5002 ∧ Hid (Below w.heap.size w wr) ∧ Hid (l = [40] ++ bodyL (xs.take k))) (fun _ i _ => n - (intOf i).toNat)
  case atStart => exact ⟨0, [40], Nat.zero_le _, rfl, rfl, by simp, Lib.hid (Below.refl _ _), Lib.hid rfl⟩
  case round =>
    obtain ⟨k, l, hk, rfl, rfl, hll, hb, hl⟩ := hrel
    have hsz : (⟨l.toArray⟩ : ByteArray).size = l.length := by show l.toArray.size = _; simp
    by_cases hlt : k < n
    · obtain ⟨b, off, x, rfl, hblt, hx, e0, e1, e2⟩ := Hs.out.at3 (by rw [Hn.out]; exact hlt)
      have d0 := (hb.out.cell (p := ⟨b, off + k * 3, none⟩) hblt).trans e0
      have d1 := (hb.out.cell (p := ⟨b, off + k * 3 + 1, none⟩) hblt).trans e1
      have d2 := (hb.out.cell (p := ⟨b, off + k * 3 + 2, none⟩) hblt).trans e2
      have l0 : b < wr.heap.size := Nat.lt_of_lt_of_le hblt hb.out.size
      have Hnx := Lib.hid (body_next xs k x hx)
      have h6 := H6.out x (List.mem_of_getElem? hx)
      have hz := Hz.out x (List.mem_of_getElem? hx)
      have htl := text_len x h6 hz
      have HT := Lib.hid (rtextV_c x wr h6 hz)
      obtain ⟨T, hT⟩ : ∃ T, textL x = T := ⟨_, rfl⟩
      rw [hT] at HT Hnx htl
      have hsT : (⟨T.toArray⟩ : ByteArray).size = T.length := by show T.toArray.size = _; simp
      clear e0 e1 e2 hx hblt h6 hz hT
      have hlt' : (k : Int) < n := by omega
      by_cases hk0 : k = 0
      · have hk0' : ¬ (0 : Int) < k := by omega
        have Hl2 : Hid (l ++ T = [40] ++ bodyL (xs.take (k + 1))) := Lib.hid (by rw [Hnx.out, if_pos hk0, hl.out]; simp)
        clear hl Hnx hk0
        go_wp2_with fail
        refine HT.out.mono ?_
        rintro e w1 ⟨rfl, hb1⟩
        have Hb1 := Lib.hid (hb.out.trans (hb1.mono hb.out.size))
        clear hb1 HT
        go_wp2
        go_roundw
        case rel => exact ⟨k + 1, l ++ T, by omega, by go_num, congrArg Value.string (by rw [cat_two]), by rw [List.length_append]; omega, Hb1, Hl2⟩
        case measure => simp [intOf]; omega
      · have hk0' : (0 : Int) < k := by omega
        have hs2 : (⟨#[44, 32]⟩ : ByteArray).size = 2 := rfl
        have hcs : ((⟨l.toArray⟩ : ByteArray) ++ ⟨#[44, 32]⟩).size = l.length + 2 := by rw [show (⟨#[44, 32]⟩ : ByteArray) = ⟨[44, 32].toArray⟩ from rfl, cat_two]; show (l ++ [44, 32]).toArray.size = _; simp
        have Hl2 : Hid (l ++ [44, 32] ++ T = [40] ++ bodyL (xs.take (k + 1))) := Lib.hid (by rw [Hnx.out, if_neg hk0, hl.out]; simp)
        clear hl Hnx hk0
        go_wp2_with fail
        refine HT.out.mono ?_
        rintro e w1 ⟨rfl, hb1⟩
        have Hb1 := Lib.hid (hb.out.trans (hb1.mono hb.out.size))
        clear hb1 HT
        go_wp2
        go_roundw
        case rel => exact ⟨k + 1, l ++ [44, 32] ++ T, by omega, by go_num, congrArg Value.string (by rw [show (⟨#[44, 32]⟩ : ByteArray) = ⟨[44, 32].toArray⟩ from rfl, cat_two, cat_two]), by rw [List.length_append, List.length_append]; simp only [List.length_cons, List.length_nil]; omega, Hb1, Hl2⟩
        case measure => simp [intOf]; omega
    · obtain rfl : k = n := by omega
      have Hr : Hid ((⟨l.toArray⟩ : ByteArray) ++ ⟨#[41]⟩ = ⟨R.toArray⟩) := Lib.hid (by
        rw [show (⟨#[41]⟩ : ByteArray) = ⟨[41].toArray⟩ from rfl, cat_two, ← HR.out, hl.out, show xs.take k = xs from List.take_of_length_le (by rw [Hn.out]; exact Nat.le_refl _)]
        rfl)
      have hs1 : (⟨#[41]⟩ : ByteArray).size = 1 := rfl
      clear hl HR
      go_wp2
      go_ret
      exact ⟨congrArg (fun z => Ending.returned (Value.string z)) Hr.out, hb.out⟩
end Go.Proofs.YthgoflaphbigbaaGreatDoor
/-
  A bag's text, as the document has it: of bags of at most 1000 rows, of at most 200 values of short texts.
-/
namespace Go.Proofs.YthgoflaphbigbaaGreatDoor
open Go Go.RowKit
set_option maxRecDepth 100000

set_option maxHeartbeats 4000000 in
theorem rtextB_c (A : Option Addr) (n c : Nat) (cs : List Ct) (w : World) (hB : BgIn w A n cs) (hn : n ≤ 1000) (hz : ∀ c ∈ cs, c.h.n ≤ 200 ∧ ∀ x ∈ c.h.xs, x.s.size ≤ 2000) :
    Calls Tryz.prog 17 #[.slice A n c] w fun e w' => e = .returned (.string ⟨(bagTR (pl cs)).toArray⟩) ∧ Below w.heap.size w w' := by
  obtain ⟨R, hR⟩ : ∃ R, bagTR (pl cs) = R := ⟨_, rfl⟩
  rw [hR]
  have HR := Lib.hid hR
  have HB := Lib.hid hB
  have Hz := Lib.hid hz
  clear hB hR hz
  go_enter Tryz.func17, Tryz.ntmps17
  go_wp2_with fail
  go_loopw [3, 4] (fun v i wr => ∃ (k : Nat) (l : List UInt8), k ≤ n ∧ i = .int .i64 k ∧ v = .string ⟨l.toArray⟩ ∧ l.length ≤ k * 1000600 ∧ Hid (Below w.heap.size w wr) ∧ Hid (l = bagT ((pl cs).take k)) ∧ Hid (k = 0 ∨ mayBag (pl cs) = true)) (fun _ i _ => n - (intOf i).toNat)
  case atStart => exact ⟨0, [], Nat.zero_le _, rfl, rfl, by simp, Lib.hid (Below.refl _ _), Lib.hid rfl, Lib.hid (.inl rfl)⟩
  case round =>
    obtain ⟨k, l, hk, rfl, rfl, hll, hb, hl, hm⟩ := hrel
    have hsz : (⟨l.toArray⟩ : ByteArray).size = l.length := by show l.toArray.size = _; simp
    by_cases hlt : k < n
    · have hlt' : (k : Int) < n := by omega
      have HM := Lib.hid (rmayBag_c A n c cs wr (HB.out.after hb.out))
      go_wp2_with fail
      refine HM.out.mono ?_
      rintro e w1 ⟨rfl, hb1⟩
      have Hb1 := Lib.hid (hb.out.trans (hb1.mono hb.out.size))
      clear hb1 hb HM
      cases hM : mayBag (pl cs)
      · have hk0 : k = 0 := by
          rcases hm.out with h | h
          · exact h
          · rw [hM] at h; cases h
        have Hno : Hid (l = R) := Lib.hid (by
          rw [← HR.out, hl.out, hk0]
          unfold bagTR
          rw [hM]
          rfl)
        clear hl HR hm hk0
        go_wp2
        go_ret
        exact ⟨congrArg (fun z : List UInt8 => Ending.returned (Value.string ⟨z.toArray⟩)) Hno.out, Hb1.out⟩
      · obtain ⟨b, off, x, rfl, hblt, hx, c0, c1⟩ := HB.out.sl.at2 (k := k) (by rw [HB.out.len]; exact hlt)
        have HS : Hid (∀ w' : World, Below w.heap.size w w' → w'.cell? ⟨b, off + k * 2, none⟩ = some (.slice x.h.A x.h.n x.h.c) ∧ w'.cell? ⟨b, off + k * 2 + 1, none⟩ = some (.int .i64 x.N) ∧ b < w'.heap.size) := Lib.hid fun w' hb' => ⟨(hb'.cell hblt).trans c0, (hb'.cell hblt).trans c1, Nat.lt_of_lt_of_le hblt hb'.size⟩
        have Hi := Lib.hid ((HB.out.each x (List.mem_of_getElem? hx)).after Hb1.out)
        have Hzx := Lib.hid (Hz.out x (List.mem_of_getElem? hx))
        have Hnx := Lib.hid (bagT_next (pl cs) k _ (pl_at hx))
        have HM2 := Lib.hid hM
        clear hx c0 c1 hblt hm hM
        obtain ⟨⟨xA, xn, xc, xs⟩, N⟩ := x
        obtain ⟨d0, d1, l0⟩ := HS.out _ Hb1.out
        have hT := rtextR_c xA xn xc xs w1 Hi.out.hd.len Hzx.out.1 Hi.out.hd.sl Hi.out.n64 Hzx.out.2
        have hTl := rowT_len xs Hi.out.n64 Hzx.out.2 (by rw [Hi.out.hd.len]; exact Hzx.out.1)
        have hN := Hi.out.N64
        have hgl := itoa_len N hN
        have Hnx2 : Hid (bagT ((pl cs).take (k + 1)) = l ++ ((if k = 0 then [] else [32]) ++ (rowT xs ++ cntT N))) := Lib.hid (by rw [Hnx.out, hl.out]; rfl)
        obtain ⟨T, hTe⟩ : ∃ T, rowT xs = T := ⟨_, rfl⟩
        obtain ⟨G, hGe⟩ : ∃ G, Lib.itoa N = G := ⟨_, rfl⟩
        have HSg : Hid (∀ w', Calls Tryz.prog 43 #[.int .i64 N] w' fun e w'' => e = .returned (.string ⟨G.toArray⟩) ∧ Below w'.heap.size w' w'') := Lib.hid fun w' => by rw [← hGe]; exact rsigned_c N w' hN
        unfold cntT at Hnx2
        rw [hTe] at hT hTl Hnx2
        rw [hGe] at hgl Hnx2
        have HT := Lib.hid hT
        have hsT : (⟨T.toArray⟩ : ByteArray).size = T.length := by show T.toArray.size = _; simp
        have hsG : (⟨G.toArray⟩ : ByteArray).size = G.length := by show G.toArray.size = _; simp
        have hs32 : (⟨#[32]⟩ : ByteArray).size = 1 := rfl
        have hs42 : (⟨#[42]⟩ : ByteArray).size = 1 := rfl
        have hcat : ∀ a b : List UInt8, (⟨a.toArray⟩ : ByteArray) ++ ⟨b.toArray⟩ = ⟨(a ++ b).toArray⟩ := cat_two
        have Hcat := Lib.hid hcat
        clear hT hTe hGe hl Hnx hN hcat HR
        simp only [] at d0 d1
        have hsz2 : ((⟨l.toArray⟩ : ByteArray) ++ ⟨#[32]⟩).size = l.length + 1 := by rw [show (⟨#[32]⟩ : ByteArray) = ⟨[32].toArray⟩ from rfl, cat_two]; show (l ++ [32]).toArray.size = _; simp
        have hsz3 : ((⟨l.toArray⟩ : ByteArray) ++ ⟨T.toArray⟩).size = l.length + T.length := by rw [cat_two]; show (l ++ T).toArray.size = _; simp
        have hsz4 : ((⟨l.toArray⟩ : ByteArray) ++ ⟨#[32]⟩ ++ ⟨T.toArray⟩).size = l.length + 1 + T.length := by rw [show (⟨#[32]⟩ : ByteArray) = ⟨[32].toArray⟩ from rfl, cat_two, cat_two]; show (l ++ [32] ++ T).toArray.size = _; simp; omega
        have hsz5 : ((⟨#[42]⟩ : ByteArray) ++ ⟨G.toArray⟩).size = 1 + G.length := by rw [show (⟨#[42]⟩ : ByteArray) = ⟨[42].toArray⟩ from rfl, cat_two]; show ([42] ++ G).toArray.size = _; simp; omega
        by_cases hk0 : k = 0
        · have hk0' : ¬ (0 : Int) < k := by omega
          by_cases hN1 : N = 1
          · have Hl2 : Hid (l ++ T = bagT ((pl cs).take (k + 1))) := Lib.hid (by rw [Hnx2.out, if_pos hk0, if_pos hN1]; simp)
            have hN1' : (N != 1) = false := by simpa using hN1
            clear Hnx2 hk0 hN1
            go_wp2_with fail
            refine HT.out.mono ?_
            rintro e w2 ⟨rfl, hb2⟩
            have Hb2 := Lib.hid (Hb1.out.trans (hb2.mono Hb1.out.size))
            obtain ⟨e0, e1, m0⟩ := HS.out _ Hb2.out
            clear hb2 HT
            go_wp2
            go_roundw
            case rel => exact ⟨k + 1, _, by omega, by go_num, congrArg Value.string (by rw [cat_two]), by rw [List.length_append]; omega, Hb2, Hl2, Lib.hid (.inr HM2.out)⟩
            case measure => simp [intOf]; omega
          · have Hl2 : Hid (l ++ T ++ ([42] ++ G) = bagT ((pl cs).take (k + 1))) := Lib.hid (by rw [Hnx2.out, if_pos hk0, if_neg hN1]; simp)
            have hN1' : (N != 1) = true := by simpa using hN1
            clear Hnx2 hk0 hN1
            go_wp2_with fail
            refine HT.out.mono ?_
            rintro e w2 ⟨rfl, hb2⟩
            have Hb2 := Lib.hid (Hb1.out.trans (hb2.mono Hb1.out.size))
            obtain ⟨e0, e1, m0⟩ := HS.out _ Hb2.out
            clear hb2 HT
            go_wp2_with fail
            refine (HSg.out _).mono ?_
            rintro e w3 ⟨rfl, hb3⟩
            have Hb3 := Lib.hid (Hb2.out.trans (hb3.mono Hb2.out.size))
            clear hb3 HSg
            go_wp2
            go_roundw
            case rel => exact ⟨k + 1, _, by omega, by go_num, congrArg Value.string (by rw [show (⟨#[42]⟩ : ByteArray) = ⟨[42].toArray⟩ from rfl, cat_two, cat_two, cat_two]), by simp only [List.length_append, List.length_cons, List.length_nil]; omega, Hb3, Hl2, Lib.hid (.inr HM2.out)⟩
            case measure => simp [intOf]; omega
        · have hk0' : (0 : Int) < k := by omega
          by_cases hN1 : N = 1
          · have Hl2 : Hid (l ++ [32] ++ T = bagT ((pl cs).take (k + 1))) := Lib.hid (by rw [Hnx2.out, if_neg hk0, if_pos hN1]; simp)
            have hN1' : (N != 1) = false := by simpa using hN1
            clear Hnx2 hk0 hN1
            go_wp2_with fail
            refine HT.out.mono ?_
            rintro e w2 ⟨rfl, hb2⟩
            have Hb2 := Lib.hid (Hb1.out.trans (hb2.mono Hb1.out.size))
            obtain ⟨e0, e1, m0⟩ := HS.out _ Hb2.out
            clear hb2 HT
            go_wp2
            go_roundw
            case rel => exact ⟨k + 1, _, by omega, by go_num, congrArg Value.string (by rw [show (⟨#[32]⟩ : ByteArray) = ⟨[32].toArray⟩ from rfl, cat_two, cat_two]), by simp only [List.length_append, List.length_cons, List.length_nil]; omega, Hb2, Hl2, Lib.hid (.inr HM2.out)⟩
            case measure => simp [intOf]; omega
          · have Hl2 : Hid (l ++ [32] ++ T ++ ([42] ++ G) = bagT ((pl cs).take (k + 1))) := Lib.hid (by rw [Hnx2.out, if_neg hk0, if_neg hN1]; simp)
            have hN1' : (N != 1) = true := by simpa using hN1
            clear Hnx2 hk0 hN1
            go_wp2_with fail
            refine HT.out.mono ?_
            rintro e w2 ⟨rfl, hb2⟩
            have Hb2 := Lib.hid (Hb1.out.trans (hb2.mono Hb1.out.size))
            obtain ⟨e0, e1, m0⟩ := HS.out _ Hb2.out
            clear hb2 HT
            go_wp2_with fail
            refine (HSg.out _).mono ?_
            rintro e w3 ⟨rfl, hb3⟩
            have Hb3 := Lib.hid (Hb2.out.trans (hb3.mono Hb2.out.size))
            clear hb3 HSg
            go_wp2
            go_roundw
            case rel => exact ⟨k + 1, _, by omega, by go_num, congrArg Value.string (by rw [show (⟨#[32]⟩ : ByteArray) = ⟨[32].toArray⟩ from rfl, show (⟨#[42]⟩ : ByteArray) = ⟨[42].toArray⟩ from rfl, cat_two, cat_two, cat_two, cat_two]), by simp only [List.length_append, List.length_cons, List.length_nil]; omega, Hb3, Hl2, Lib.hid (.inr HM2.out)⟩
            case measure => simp [intOf]; omega
    · obtain rfl : k = n := by omega
      have Hyes : Hid (l = R) := Lib.hid (by
        rw [← HR.out, hl.out, show (pl cs).take k = pl cs from List.take_of_length_le (by rw [pl_len, HB.out.len]; exact Nat.le_refl _)]
        unfold bagTR
        rcases hm.out with h | h
        · have : cs = [] := List.eq_nil_of_length_eq_zero (by rw [HB.out.len, h])
          rw [this]
          rfl
        · rw [h, if_pos rfl])
      clear hl HR hm
      go_wp2
      go_ret
      exact ⟨congrArg (fun z : List UInt8 => Ending.returned (Value.string ⟨z.toArray⟩)) Hyes.out, hb.out⟩
end Go.Proofs.YthgoflaphbigbaaGreatDoor
