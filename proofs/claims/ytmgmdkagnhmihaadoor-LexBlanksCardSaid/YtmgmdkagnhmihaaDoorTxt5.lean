/-
  A value's text, as the document has it: of texts of at most 2000 bytes.
-/
import Derived.Test.YtmgmdkagnhmihaaDoorDig5
import Derived.Test.YtmgmdkagnhmihaaDoorHd
namespace Go.Proofs.YtmgmdkagnhmihaaDoor
open Go Go.RowKit
set_option maxRecDepth 100000

set_option maxHeartbeats 400000 in
theorem rtext_null (x : Val) (w : World) (h : (x.k == 0) = true) : Calls Tryd.prog 17 #[x.v] w fun e w' => e = .returned (.string ⟨#[110, 117, 108, 108]⟩) ∧ Below w.heap.size w w' := by
  go_enter Tryd.func17, Tryd.ntmps17
  go_wp2
  go_ret
  exact ⟨rfl, below_one _ _⟩
set_option maxHeartbeats 400000 in
theorem rtext_false (x : Val) (w : World) (h0 : (x.k == 0) = false) (h : (x.k == 1) = true) (hn : (x.n == 0) = true) : Calls Tryd.prog 17 #[x.v] w fun e w' => e = .returned (.string ⟨#[102, 97, 108, 115, 101]⟩) ∧ Below w.heap.size w w' := by
  go_enter Tryd.func17, Tryd.ntmps17
  go_wp2
  go_ret
  exact ⟨rfl, below_one _ _⟩
set_option maxHeartbeats 400000 in
theorem rtext_true (x : Val) (w : World) (h0 : (x.k == 0) = false) (h : (x.k == 1) = true) (hn : (x.n == 0) = false) : Calls Tryd.prog 17 #[x.v] w fun e w' => e = .returned (.string ⟨#[116, 114, 117, 101]⟩) ∧ Below w.heap.size w w' := by
  go_enter Tryd.func17, Tryd.ntmps17
  go_wp2
  go_ret
  exact ⟨rfl, below_one _ _⟩
set_option maxHeartbeats 400000 in
theorem rtext_other (x : Val) (w : World) (h0 : (x.k == 0) = false) (h1 : (x.k == 1) = false) (h2 : (x.k == 2) = false) (h3 : (x.k == 3) = false) : Calls Tryd.prog 17 #[x.v] w fun e w' => e = .returned (.string ⟨#[63]⟩) ∧ Below w.heap.size w w' := by
  go_enter Tryd.func17, Tryd.ntmps17
  go_wp2
  go_ret
  exact ⟨rfl, below_one _ _⟩
set_option maxHeartbeats 400000 in
theorem rtext_int (x : Val) (w : World) (h0 : (x.k == 0) = false) (h1 : (x.k == 1) = false) (h : (x.k == 2) = true) (hn : -9223372036854775808 ≤ x.n ∧ x.n ≤ 9223372036854775807) :
    Calls Tryd.prog 17 #[x.v] w fun e w' => e = .returned (.string ⟨(Lib.itoa x.n).toArray⟩) ∧ Below w.heap.size w w' := by
  have Hn := Lib.hid hn
  clear hn
  go_enter Tryd.func17, Tryd.ntmps17
  go_wp2_with fail
  refine (rsigned_c x.n _ Hn.out).mono ?_
  rintro e w1 ⟨rfl, hb1⟩
  have hb := below_via (below_one w _) hb1
  clear hb1
  go_wp2
  go_ret
  exact ⟨rfl, hb⟩
theorem sub1_snoc (c : UInt8) (r : List UInt8) : ∀ (l : List UInt8) (b : UInt8), sub1 c r (l ++ [b]) = sub1 c r l ++ (if b = c then r else [b])
  | [], b => by
    rw [List.nil_append, sub1, sub1]
    split <;> simp [sub1]
  | a :: l, b => by
    rw [List.cons_append, sub1, sub1, sub1_snoc c r l b]
    split <;> simp
theorem cat_two (a b : List UInt8) : (⟨a.toArray⟩ : ByteArray) ++ ⟨b.toArray⟩ = ⟨(a ++ b).toArray⟩ := by
  apply ByteArray.ext
  simp
theorem drop_at5 (s : ByteArray) (a : Nat) (h : a < s.size) : s.data.toList.drop a = s[a] :: s.data.toList.drop (a + 1) := List.drop_eq_getElem_cons h
theorem extract_one5 (s : ByteArray) (k : Nat) (h : k < s.size) : s.extract k (k + 1) = ⟨[s[k]].toArray⟩ := by
  have e : (s.data.toList.drop k).take (k + 1 - k) = [s[k]] := by
    rw [show k + 1 - k = 1 by omega, drop_at5 s k h]
    rfl
  rw [Lib.extract_eq, e]
theorem take_at5 (s : ByteArray) (k : Nat) (h : k < s.size) : s.data.toList.take (k + 1) = s.data.toList.take k ++ [s[k]] := by
  rw [List.take_add_one, List.getElem?_eq_getElem (show k < s.data.toList.length from h)]
  rfl
set_option maxHeartbeats 2000000 in
theorem rtext_text (x : Val) (w : World) (h0 : (x.k == 0) = false) (h1 : (x.k == 1) = false) (h2 : (x.k == 2) = false) (h3 : (x.k == 3) = true) (hs : x.s.size ≤ 2000) :
    Calls Tryd.prog 17 #[x.v] w fun e w' => e = .returned (.string ⟨([39] ++ sub1 39 [39, 39] x.s.data.toList ++ [39]).toArray⟩) ∧ Below w.heap.size w w' := by
  obtain ⟨xk, xn, s⟩ := x
  simp only [] at h0 h1 h2 h3 hs ⊢
  obtain ⟨R, hR⟩ : ∃ R, [39] ++ sub1 39 [39, 39] s.data.toList ++ [39] = R := ⟨_, rfl⟩
  rw [hR]
  have HR := Lib.hid hR
  clear hR
  go_enter Tryd.func17, Tryd.ntmps17
  go_wp2_with fail
  have Hb1 := Lib.hid (below_one w (.cells #[.int .i64 xk, .int .i64 xn, .string s] 33))
  have Hc2 : Hid ((w.alloc (.cells #[.int .i64 xk, .int .i64 xn, .string s] 33)).cell? ⟨w.heap.size, 2, none⟩ = some (.string s)) := Lib.hid (Bx.new w ⟨xk, xn, s⟩).cell2
  obtain ⟨g, hg⟩ : ∃ g, w.heap.size = g := ⟨_, rfl⟩
  obtain ⟨W, hW⟩ : ∃ W, w.alloc (.cells #[.int .i64 xk, .int .i64 xn, .string s] 33) = W := ⟨_, rfl⟩
  rw [hW] at Hb1 Hc2 ⊢
  have hg2 : Hid (Below w.heap.size w W) := Hb1
  rw [hg] at Hc2 ⊢
  clear hW Hb1
  go_loopw [3, 4] (fun v i wr => ∃ (k : Nat) (l : List UInt8), k ≤ s.size ∧ i = .int .i64 k ∧ v = .string ⟨l.toArray⟩ ∧ W = wr ∧ Hid (l = [39] ++ sub1 39 [39, 39] (s.data.toList.take k))) (fun _ i _ => s.size - (intOf i).toNat)
  case atStart => exact ⟨0, [39], Nat.zero_le _, rfl, rfl, rfl, Lib.hid rfl⟩
  case round =>
    obtain ⟨k, l, hk, rfl, rfl, rfl, hl⟩ := hrel
    have d2 := Hc2.out
    have hll : l.length ≤ 5000 := by
      have h1 := sub1_le 39 (s.data.toList.take k)
      rw [hl.out, List.length_append]
      have h2 : (s.data.toList.take k).length ≤ k := List.length_take_le _ _
      simp only [List.length_cons, List.length_nil]
      omega
    have hsz : (⟨l.toArray⟩ : ByteArray).size = l.length := by show l.toArray.size = _; simp
    by_cases hlt : k < s.size
    · have hlt' : (k : Int) < s.size := by omega
      have hx := extract_one5 s k hlt
      have Hta := Lib.hid (take_at5 s k hlt)
      by_cases hc : s[k] = 39
      · have hc' : (s[k].toNat : Int) = 39 := by rw [hc]; rfl
        have Hl2 : Hid (l ++ [39] ++ [39] = [39] ++ sub1 39 [39, 39] (s.data.toList.take (k + 1))) := Lib.hid (by
          rw [Hta.out, sub1_snoc, if_pos hc, hl.out]
          simp)
        go_wp2
        go_roundw
        case rel => exact ⟨k + 1, _, by omega, by go_num, congrArg Value.string (by rw [show (⟨#[39]⟩ : ByteArray) = ⟨[39].toArray⟩ from rfl, cat_two, cat_two]), trivial, Hl2⟩
        case measure => simp [intOf]; omega
      · have hc' : ¬ (s[k].toNat : Int) = 39 := fun h => hc (UInt8.toNat_inj.1 (by have : (39 : UInt8).toNat = 39 := rfl; omega))
        have Hl2 : Hid (l ++ [s[k]] = [39] ++ sub1 39 [39, 39] (s.data.toList.take (k + 1))) := Lib.hid (by
          rw [Hta.out, sub1_snoc, if_neg hc, hl.out]
          simp)
        go_wp2
        go_roundw
        case rel => exact ⟨k + 1, _, by omega, by go_num, congrArg Value.string (by rw [show (⟨#[s[k]]⟩ : ByteArray) = ⟨[s[k]].toArray⟩ from rfl, cat_two]), trivial, Hl2⟩
        case measure => simp [intOf]; omega
    · obtain rfl : k = s.size := by omega
      have Hr : Hid ((⟨l.toArray⟩ : ByteArray) ++ ⟨#[39]⟩ = ⟨R.toArray⟩) := Lib.hid (by
        rw [show (⟨#[39]⟩ : ByteArray) = ⟨[39].toArray⟩ from rfl, cat_two, ← HR.out, hl.out, show s.data.toList.take s.size = s.data.toList from List.take_of_length_le (Nat.le_refl _)])
      clear hl HR
      go_wp2
      go_ret
      exact ⟨congrArg (fun z => Ending.returned (Value.string z)) Hr.out, hg2.out⟩
/-- A value's text. -/
theorem rtextV_c (x : Val) (w : World) (hn : -9223372036854775808 ≤ x.n ∧ x.n ≤ 9223372036854775807) (hs : x.s.size ≤ 2000) :
    Calls Tryd.prog 17 #[x.v] w fun e w' => e = .returned (.string ⟨(textL x).toArray⟩) ∧ Below w.heap.size w w' := by
  unfold textL
  cases h0 : x.k == 0
  · cases h1 : x.k == 1
    · cases h2 : x.k == 2
      · cases h3 : x.k == 3
        · exact rtext_other x w h0 h1 h2 h3
        · exact rtext_text x w h0 h1 h2 h3 hs
      · exact rtext_int x w h0 h1 h2 hn
    · cases hz : x.n == 0
      · exact rtext_true x w h0 h1 hz
      · exact rtext_false x w h0 h1 hz
  · exact rtext_null x w h0
end Go.Proofs.YtmgmdkagnhmihaaDoor
