/-
  The document's own answers on bytes, words, signs, and whether a token may be: of every token.
-/
import Derived.Test.YtmgmdkagnhmihaaDoorLexH
namespace Go.Proofs.YtmgmdkagnhmihaaDoor
open Go Go.RowKit
set_option maxRecDepth 100000

set_option maxHeartbeats 1000000 in
theorem rletter_i (n : Int) (w : World) : Calls Tryd.prog 41 #[.int .u8 n] w fun e w' => e = .returned (.bool (decide (97 ≤ n) && decide (n ≤ 122))) ∧ w' = w := by
  cases h1 : decide (97 ≤ n)
  all_goals cases h2 : decide (n ≤ 122)
  all_goals
    go_enter Tryd.func41, Tryd.ntmps41
    go_wp2
    go_ret
    exact ⟨rfl, rfl⟩
theorem rletter_c (b : UInt8) (w : World) : Calls Tryd.prog 41 #[.int .u8 (b.toNat : Int)] w fun e w' => e = .returned (.bool (decide (cls b = 2))) ∧ w' = w := by
  have h := rletter_i (b.toNat : Int) w
  have e : (decide ((97 : Int) ≤ b.toNat) && decide ((b.toNat : Int) ≤ 122)) = decide (cls b = 2) := by
    rw [Bool.eq_iff_iff]
    simp only [Bool.and_eq_true, decide_eq_true_eq, cls_2]
    omega
  rw [e] at h
  exact h
set_option maxHeartbeats 1000000 in
theorem rdigit_i (n : Int) (w : World) : Calls Tryd.prog 50 #[.int .u8 n] w fun e w' => e = .returned (.bool (decide (48 ≤ n) && decide (n ≤ 57))) ∧ w' = w := by
  cases h1 : decide (48 ≤ n)
  all_goals cases h2 : decide (n ≤ 57)
  all_goals
    go_enter Tryd.func50, Tryd.ntmps50
    go_wp2
    go_ret
    exact ⟨rfl, rfl⟩
theorem rdigit_c (b : UInt8) (w : World) : Calls Tryd.prog 50 #[.int .u8 (b.toNat : Int)] w fun e w' => e = .returned (.bool (decide (cls b = 3))) ∧ w' = w := by
  have h := rdigit_i (b.toNat : Int) w
  have e : (decide ((48 : Int) ≤ b.toNat) && decide ((b.toNat : Int) ≤ 57)) = decide (cls b = 3) := by
    rw [Bool.eq_iff_iff]
    simp only [Bool.and_eq_true, decide_eq_true_eq, cls_3]
    omega
  rw [e] at h
  exact h
set_option maxHeartbeats 1000000 in
theorem rinner_c (b : UInt8) (w : World) : Calls Tryd.prog 40 #[.int .u8 (b.toNat : Int)] w fun e w' => e = .returned (.bool (inn b)) ∧ w' = w := by
  have H2 := Lib.hid (rletter_c b)
  have H3 := Lib.hid (rdigit_c b)
  obtain ⟨R, hR⟩ : ∃ R, inn b = R := ⟨_, rfl⟩
  rw [hR]
  have hR2 : R = (decide (cls b = 2) || (decide (cls b = 3) || ((b.toNat : Int) == 95))) := by
    rw [← hR, Bool.eq_iff_iff]
    simp only [inn_iff, Bool.or_eq_true, decide_eq_true_eq, beq_iff_eq, cls_4]
    omega
  clear hR
  have HR := Lib.hid hR2
  clear hR2
  generalize decide (cls b = 2) = p at H2 HR
  generalize decide (cls b = 3) = q at H3 HR
  go_enter Tryd.func40, Tryd.ntmps40
  go_wp2_with fail
  refine (H2.out _).mono ?_
  rintro e w1 ⟨rfl, rfl⟩
  cases p
  · go_wp2_with fail
    refine (H3.out _).mono ?_
    rintro e w2 ⟨rfl, rfl⟩
    cases q
    · go_wp2
      go_ret
      exact ⟨by rw [HR.out]; rfl, rfl⟩
    · go_wp2
      go_ret
      exact ⟨by rw [HR.out]; rfl, rfl⟩
  · go_wp2
    go_ret
    exact ⟨by rw [HR.out]; rfl, rfl⟩
theorem ba_get {l : List UInt8} {k : Nat} {x : UInt8} (hx : l[k]? = some x) (h : k < (ba l).size) : (ba l)[k]'h = x := by
  have e := (List.getElem?_eq_some_iff.1 hx).2
  show l.toArray[k]'h = x
  simpa using e
set_option maxHeartbeats 1000000 in
theorem rsign_c (b : UInt8) (w : World) : Calls Tryd.prog 24 #[.int .u8 (b.toNat : Int)] w fun e w' => e = .returned (.bool (decide (b ∈ sgns))) ∧ w' = w := by
  have e0 : (⟨#[40, 41, 91, 93, 44, 61, 60, 43, 45, 42, 63]⟩ : ByteArray) = ba sgns := rfl
  have hLn : sgns.length = 11 := rfl
  generalize sgns = L at hLn e0 ⊢
  obtain ⟨R, hR⟩ : ∃ R, decide (b ∈ L) = R := ⟨_, rfl⟩
  rw [hR]
  have HR := Lib.hid hR
  have HL := Lib.hid hLn
  have He0 := Lib.hid e0
  clear hR e0
  go_enter Tryd.func24, Tryd.ntmps24
  go_wp2_with fail
  rw [He0.out]
  go_loopw [4] (fun i wr => ∃ k : Nat, k ≤ 11 ∧ i = .int .i64 k ∧ w = wr ∧ Hid (b ∉ L.take k)) (fun i _ => 11 - (intOf i).toNat)
  case atStart => exact ⟨0, Nat.zero_le _, rfl, rfl, Lib.hid (by simp)⟩
  case round =>
    obtain ⟨k, hk, rfl, rfl, hA⟩ := hrel
    by_cases hlt2 : k < 11
    · obtain ⟨x, hx⟩ : ∃ x, L[k]? = some x := ⟨_, List.getElem?_eq_getElem (by omega)⟩
      have hkl : k < L.length := by omega
      have Hx := Lib.hid hx
      have Hg := Lib.hid (ba_get hx (by show k < L.toArray.size; simpa using hkl))
      clear hx
      by_cases hxb : x = b
      · have hR2 : R = true := by
          rw [← HR.out, decide_eq_true_eq, ← hxb]
          exact List.mem_of_getElem? Hx.out
        subst hR2
        subst hxb
        go_wp2_with (rw [Hg.out])
        go_ret
        exact ⟨rfl, rfl⟩
      · have hbb : ((x.toNat : Int) == b.toNat) = false := by
          simp only [beq_eq_false_iff_ne, ne_eq, Int.natCast_inj]
          intro e
          exact hxb (UInt8.toNat_inj.1 e)
        have hA2 : b ∉ L.take (k + 1) := by
          rw [List.take_add_one, Hx.out]
          intro h
          simp at h
          rcases h with h | h
          · exact hA.out h
          · exact hxb h.symm
        have HA2 := Lib.hid hA2
        clear hA2 hxb
        go_wp2_with (rw [Hg.out])
        go_roundw
        case rel => exact ⟨k + 1, by omega, by go_num, trivial, HA2⟩
        case measure => simp [intOf]; omega
    · have hR2 : R = false := by
        rw [← HR.out, decide_eq_false_iff_not]
        have := hA.out
        rwa [List.take_of_length_le (by omega)] at this
      subst hR2
      have hk2 : (k : Int) = 11 := by omega
      go_wp2
      go_ret
      exact ⟨rfl, rfl⟩
end Go.Proofs.YtmgmdkagnhmihaaDoor
