/-
  What c0 1 + 5 < comes to, of the rows by which the document fixes it: plain facts.
-/
import Derived.Test.YticofedglhfdpaaGreatDoorTxt
namespace Go.Proofs.YticofedglhfdpaaGreatDoor
open Go Go.RowKit
set_option maxRecDepth 100000

theorem may_iv (n : Int) : mayB (iv n) = true := may_of_valid _ (.inr (.inr (.inl ⟨rfl, rfl⟩)))
theorem ty_int : typeR lowE [2] = (1, 0) := by kernel_rfl
theorem ty_bool : typeR lowE [1] = (0, 30) := by kernel_rfl
theorem ev_3 : evalR lowE [iv 3] = (tt, 0) := by kernel_rfl
theorem ev_4 : evalR lowE [iv 4] = (ff, 0) := by kernel_rfl
theorem ev_n : evalR lowE [nl] = (nl, 0) := by kernel_rfl
theorem ev_m : evalR lowE [iv 9223372036854775807] = (nl, 31) := by kernel_rfl
end Go.Proofs.YticofedglhfdpaaGreatDoor
