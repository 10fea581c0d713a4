/-
  The class of every byte, as the program tells it.
-/
import Derived.Test.YtmgmdkagnhmihaaDoorLexP
import Derived.Test.YtmgmdkagnhmihaaDoorTextV
namespace Go.Proofs.YtmgmdkagnhmihaaDoor
open Go Go.RowKit
set_option maxRecDepth 100000

/-- The class of a number, once it is known where it stands among the signs. -/
def clsI (n : Int) (s : Bool) : Int :=
  if n == 32 then 1 else if decide (97 ≤ n) && decide (n ≤ 122) then 2 else if decide (48 ≤ n) && decide (n ≤ 57) then 3 else if n == 95 then 4 else if n == 39 then 5 else if n == 45 then 6 else if s then 7 else 0
theorem cls_I (b : UInt8) : clsI (b.toNat : Int) (decide (0 ≤ Lib.indexByte sgns b)) = cls b := by
  unfold clsI cls
  simp only [beq_iff_eq, Bool.and_eq_true, decide_eq_true_eq]
  have h1 : ((b.toNat : Int) = 32) ↔ b.toNat = 32 := by omega
  have h2 : ((97 : Int) ≤ b.toNat) ↔ 97 ≤ b.toNat := by omega
  have h3 : ((b.toNat : Int) ≤ 122) ↔ b.toNat ≤ 122 := by omega
  have h4 : ((48 : Int) ≤ b.toNat) ↔ 48 ≤ b.toNat := by omega
  have h5 : ((b.toNat : Int) ≤ 57) ↔ b.toNat ≤ 57 := by omega
  have h6 : ((b.toNat : Int) = 95) ↔ b.toNat = 95 := by omega
  have h7 : ((b.toNat : Int) = 39) ↔ b.toNat = 39 := by omega
  have h8 : ((b.toNat : Int) = 45) ↔ b.toNat = 45 := by omega
  simp only [h1, h2, h3, h4, h5, h6, h7, h8]

set_option maxHeartbeats 4000000 in
theorem cls_i (n : Int) (ix : Int) (w : World) (hix : Lib.indexByte (⟨#[40, 41, 91, 93, 44, 61, 60, 43, 45, 42, 63]⟩ : ByteArray).data.toList n.toNat.toUInt8 = ix) :
    Calls Tryd.prog 30 #[.int .u8 n] w fun e w' => e = .returned (.int .i64 (clsI n (decide (0 ≤ ix)))) ∧ w' = w := by
  have Hx := Lib.hid hix
  clear hix
  obtain ⟨R, hR⟩ : ∃ R, clsI n (decide (0 ≤ ix)) = R := ⟨_, rfl⟩
  rw [hR]
  have HR := Lib.hid hR
  clear hR
  go_enter Tryd.func30, Tryd.ntmps30
  go_wp2_with (go_at_call 44; refine (Tryd.strings_IndexByte _ _ _).mono ?_; rintro e w1 ⟨rfl, rfl⟩; rw [Hx.out])
  all_goals go_ret
  all_goals
    refine ⟨?_, rfl⟩
    have hR := HR.out
    unfold clsI at hR
    rw [← hR]
    clear hR HR Hx
    congr 2
    simp_all
    try omega
theorem cls_c (b : UInt8) (w : World) : Calls Tryd.prog 30 #[.int .u8 (b.toNat : Int)] w fun e w' => e = .returned (.int .i64 (cls b)) ∧ w' = w := by
  have h := cls_i (b.toNat : Int) (Lib.indexByte sgns b) w (by
    have e : ((b.toNat : Int)).toNat.toUInt8 = b := by simp
    rw [e]
    rfl)
  rw [cls_I] at h
  exact h
end Go.Proofs.YtmgmdkagnhmihaaDoor
