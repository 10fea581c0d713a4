/-
  A natural's digits, and a whole number's numeral, as the document has it. Of all of 64 bits.
-/
import Derived.Test.YtmgmdkagnhmihaaDoorTextQ
namespace Go.Proofs.YtmgmdkagnhmihaaDoor
open Go Go.RowKit
set_option maxRecDepth 100000

theorem dig_one : ∀ d : Nat, d < 10 → (⟨#[48, 49, 50, 51, 52, 53, 54, 55, 56, 57]⟩ : ByteArray).extract d (d + 1) = ⟨#[48 + UInt8.ofNat d]⟩
  | 0, _ => rfl
  | 1, _ => rfl
  | 2, _ => rfl
  | 3, _ => rfl
  | 4, _ => rfl
  | 5, _ => rfl
  | 6, _ => rfl
  | 7, _ => rfl
  | 8, _ => rfl
  | 9, _ => rfl
  | n + 10, h => absurd h (by omega)
theorem dec_small {u : Nat} (h : u < 10) : Lib.decDigits u = [48 + UInt8.ofNat u] := by rw [Lib.decDigits, dif_pos h, UInt8.ofNat_add]; rfl
theorem dec_big {u : Nat} (h : ¬ u < 10) : Lib.decDigits u = Lib.decDigits (u / 10) ++ [48 + UInt8.ofNat (u % 10)] := by rw [Lib.decDigits, dif_neg h, UInt8.ofNat_add]; rfl
theorem cat_one (a : UInt8) (l : List UInt8) : (⟨#[a]⟩ : ByteArray) ++ ⟨l.toArray⟩ = ⟨(a :: l).toArray⟩ := by
  apply ByteArray.ext
  simp
theorem dec_64 (u : Nat) (h : u < 18446744073709551616) : (Lib.decDigits u).length ≤ 20 := dec_len u 19 (by omega)
set_option maxHeartbeats 1000000 in
theorem rdigits_c (u : Nat) (w : World) (hu : u < 18446744073709551616) :
    Calls Tryd.prog 25 #[.int .u64 u] w fun e w' => e = .returned (.string ⟨(Lib.decDigits u).toArray⟩) ∧ Below w.heap.size w w' := by
  obtain ⟨R, hR⟩ : ∃ R, Lib.decDigits u = R := ⟨_, rfl⟩
  rw [hR]
  have HR := Lib.hid hR
  have HRl : Hid (R.length ≤ 20) := Lib.hid (by rw [← hR]; exact dec_64 u hu)
  clear hR
  go_enter Tryd.func25, Tryd.ntmps25
  go_wp2_with fail
  go_loopw [0, 3] (fun v s wr => ∃ (m : Nat) (l : List UInt8), m ≤ u ∧ v = .int .u64 m ∧ s = .string ⟨l.toArray⟩ ∧ Hid (Below w.heap.size w wr) ∧ Hid (Lib.decDigits m ++ l = R)) (fun v _ _ => (intOf v).toNat)
  case atStart => exact ⟨u, [], Nat.le_refl _, rfl, rfl, Lib.hid (Below.refl _ _), Lib.hid (by rw [List.append_nil]; exact HR.out)⟩
  case round =>
    obtain ⟨m, l, hm, rfl, rfl, hb, hinv⟩ := hrel
    have hl : l.length ≤ 20 := by
      have h1 := HRl.out
      rw [← hinv.out, List.length_append] at h1
      omega
    have hsz : (⟨l.toArray⟩ : ByteArray).size = l.length := by show l.toArray.size = _; simp
    clear HR HRl
    by_cases hlt : m < 10
    · have hlt' : ¬ (9 : Int) < m := by omega
      have hd := dig_one m hlt
      have Hr : Hid ((⟨#[48 + UInt8.ofNat m]⟩ : ByteArray) ++ ⟨l.toArray⟩ = ⟨R.toArray⟩) := Lib.hid (by
        rw [cat_one, ← hinv.out, dec_small hlt]
        rfl)
      have hs1 : (⟨#[48 + UInt8.ofNat m]⟩ : ByteArray).size = 1 := rfl
      clear hinv
      go_wp2
      go_ret
      exact ⟨congrArg (fun z => Ending.returned (Value.string z)) Hr.out, hb.out⟩
    · have hlt' : (9 : Int) < m := by omega
      have Hbig := Lib.hid (dec_big hlt)
      have Hlt := Lib.hid hlt
      obtain ⟨d, hdd⟩ : ∃ d, m % 10 = d := ⟨_, rfl⟩
      obtain ⟨q, hqq⟩ : ∃ q, m / 10 = q := ⟨_, rfl⟩
      have hd10 : d < 10 := by omega
      have hmd : (m : Int) % 10 = (d : Nat) := by omega
      have hmq : (m : Int) / 10 = (q : Nat) := by omega
      have hd := dig_one d hd10
      have hs1 : (⟨#[48 + UInt8.ofNat d]⟩ : ByteArray).size = 1 := rfl
      have hbig := Hbig.out
      rw [hdd, hqq] at hbig
      have Hi2 : Hid (Lib.decDigits q ++ ((48 + UInt8.ofNat d) :: l) = R) := Lib.hid (by
        rw [← hinv.out, hbig, List.append_assoc]
        rfl)
      have Hqm : Hid (q < m) := Lib.hid (by omega)
      clear hbig Hbig hinv hlt hdd hqq
      go_wp2
      go_roundw
      case rel => exact ⟨q, _, by have := Hqm.out; omega, rfl, by rw [cat_one], hb, Hi2⟩
      case measure => have := Hqm.out; simp [intOf]; omega
set_option maxHeartbeats 1000000 in
theorem rsigned_c (n : Int) (w : World) (hn : -9223372036854775808 ≤ n ∧ n ≤ 9223372036854775807) :
    Calls Tryd.prog 14 #[.int .i64 n] w fun e w' => e = .returned (.string ⟨(Lib.itoa n).toArray⟩) ∧ Below w.heap.size w w' := by
  by_cases h0 : n < 0
  · obtain ⟨k, rfl⟩ : ∃ k : Nat, n = -(k : Int) - 1 := ⟨(-n - 1).toNat, by omega⟩
    obtain ⟨R, hR⟩ : ∃ R, Lib.itoa (-(k : Int) - 1) = R := ⟨_, rfl⟩
    rw [hR]
    have hk : k < 9223372036854775808 := by omega
    have hD := rdigits_c (k + 1) w (by omega)
    obtain ⟨D, hd⟩ : ∃ D, Lib.decDigits (k + 1) = D := ⟨_, rfl⟩
    have HRd : Hid ((⟨#[45]⟩ : ByteArray) ++ ⟨D.toArray⟩ = ⟨R.toArray⟩) := Lib.hid (by
      rw [cat_one, ← hR]
      unfold Lib.itoa
      rw [if_pos (by omega), show (-(k : Int) - 1).natAbs = k + 1 by omega, hd])
    have hDl : D.length ≤ 20 := by rw [← hd]; exact dec_64 _ (by omega)
    have hsz : (⟨D.toArray⟩ : ByteArray).size = D.length := by show D.toArray.size = _; simp
    rw [hd, show ((k + 1 : Nat) : Int) = (k : Int) + 1 by omega] at hD
    have HD := Lib.hid hD
    have hs1 : (⟨#[45]⟩ : ByteArray).size = 1 := rfl
    have hw0 : IntKind.i64.wrap (-(k : Int) - 1 + 1) = -(k : Int) := by rw [IntKind.wrap_i64]; omega
    have hw1 : IntKind.i64.wrap (-(k : Int)) = -(k : Int) := by rw [IntKind.wrap_i64]; omega
    have hw2 : IntKind.i64.wrap (k : Int) = k := by rw [IntKind.wrap_i64]; omega
    have hw3 : IntKind.u64.wrap (k : Int) = k := by rw [IntKind.wrap_u64]; omega
    have hw4 : IntKind.u64.wrap ((k : Int) + 1) = (k : Int) + 1 := by rw [IntKind.wrap_u64]; omega
    clear hR hD hd
    go_enter Tryd.func14, Tryd.ntmps14
    go_wp2_with fail
    refine HD.out.mono ?_
    rintro e w1 ⟨rfl, hb1⟩
    have Hb1 := Lib.hid hb1
    clear hb1 HD
    go_wp2
    go_ret
    exact ⟨congrArg (fun z => Ending.returned (Value.string z)) HRd.out, Hb1.out⟩
  · obtain ⟨k, rfl⟩ : ∃ k : Nat, n = k := ⟨n.toNat, by omega⟩
    have he : Lib.itoa (k : Int) = Lib.decDigits k := by
      unfold Lib.itoa
      rw [if_neg h0, Int.toNat_natCast]
    rw [he]
    have HD := Lib.hid (rdigits_c k w (by omega))
    obtain ⟨D, hd⟩ : ∃ D, Lib.decDigits k = D := ⟨_, rfl⟩
    rw [hd] at HD ⊢
    have hw3 : IntKind.u64.wrap (k : Int) = k := by rw [IntKind.wrap_u64]; omega
    clear he hd
    go_enter Tryd.func14, Tryd.ntmps14
    go_wp2_with fail
    refine HD.out.mono ?_
    rintro e w1 ⟨rfl, hb1⟩
    have Hb1 := Lib.hid hb1
    clear hb1 HD
    go_wp2
    go_ret
    exact ⟨rfl, Hb1.out⟩
end Go.Proofs.YtmgmdkagnhmihaaDoor
