/-
  Whether an expression is too big for a law.
-/
import Derived.Test.YticofedglhfdpaaGreatDoorEFix
namespace Go.Proofs.YticofedglhfdpaaGreatDoor
open Go Go.RowKit
set_option maxRecDepth 100000

/-- Whether a text is too long, in these steps. -/
def longB : List Nd → Bool
  | [] => false
  | x :: r => decide ((1000 : Int) < x.v.s.size) || longB r
theorem longB_drop (e : List Nd) (k : Nat) (x : Nd) (h : e[k]? = some x) : longB (e.drop k) = (decide ((1000 : Int) < x.v.s.size) || longB (e.drop (k + 1))) := by
  have hlt : k < e.length := (List.getElem?_eq_some_iff.1 h).1
  have hv : e[k] = x := (List.getElem?_eq_some_iff.1 h).2
  rw [List.drop_eq_getElem_cons hlt, hv, longB]
theorem longB_all : ∀ (e : List Nd), longB e = false → ∀ x ∈ e, x.v.s.size ≤ 1000
  | [], _, x, hx => by cases hx
  | y :: r, h, x, hx => by
    simp only [longB, Bool.or_eq_false_iff, decide_eq_false_iff_not] at h
    rcases List.mem_cons.1 hx with rfl | hx
    · omega
    · exact longB_all r h.2 x hx
def bigB (e : List Nd) : Bool := longB e || decide ((120 : Int) < e.length)
set_option maxHeartbeats 4000000 in
theorem big_c (A : Option Addr) (n c : Nat) (e : List Nd) (w : World) (hn : e.length = n) (hmax : n ≤ maxLen) (hs : SlN w A e) (hz : ∀ x ∈ e, x.v.s.size ≤ maxLen) :
    Calls Tryz.prog 5 #[.slice A n c] w fun en w' => en = .returned (.bool (bigB e)) ∧ w' = w := by
  have hm' : n ≤ 9223372036854775807 := hmax
  have Hn := Lib.hid hn
  have Hs := Lib.hid hs
  have Hz := Lib.hid hz
  obtain ⟨R, hR⟩ : ∃ R, bigB e = R := ⟨_, rfl⟩
  rw [hR]
  have HR := Lib.hid hR
  clear hn hs hR hz hmax
  go_enter Tryz.func5, Tryz.ntmps5
  go_wp2_with fail
  go_loopw [3] (fun i wr => ∃ k : Nat, k ≤ n ∧ i = .int .i64 k ∧ wr = w ∧ Hid (longB (e.drop k) = longB e)) (fun i _ => n - (intOf i).toNat)
  case atStart => exact ⟨0, Nat.zero_le _, rfl, rfl, rfl⟩
  case round =>
    obtain ⟨k, hk, rfl, rfl, hinv⟩ := hrel
    by_cases hlt' : k < n
    · obtain ⟨x, hx⟩ : ∃ x, e[k]? = some x := ⟨e[k]'(by rw [Hn.out]; exact hlt'), List.getElem?_eq_getElem _⟩
      rcases Hs.out with h0 | ⟨b, off, rfl, hlt, hc⟩
      · rw [h0] at hx; simp at hx
      obtain ⟨c0, c1, c2, c3, c4⟩ := hc k x hx
      have hsz := Hz.out x (List.mem_of_getElem? hx)
      have hsz' : x.v.s.size ≤ 9223372036854775807 := hsz
      have hstep := longB_drop e k x hx
      rw [hinv.out] at hstep
      clear hc hx hinv c0 c1 c2 c3 hsz
      cases hd : decide ((1000 : Int) < x.v.s.size)
      · rw [hd] at hstep
        have Hst := Lib.hid hstep
        clear hstep
        go_wp2
        go_roundw
        case rel => exact ⟨k + 1, by omega, by go_num, trivial, Lib.hid (by have := Hst.out; simpa using this.symm)⟩
        case measure => simp [intOf]; omega
      · rw [hd] at hstep
        have hRt : R = true := by rw [← HR.out]; unfold bigB; rw [hstep]; rfl
        subst hRt
        clear hstep
        go_wp2
        go_ret
        exact ⟨rfl, rfl⟩
    · have hkn : k = n := by omega
      have hstep := hinv.out
      rw [List.drop_eq_nil_of_le (by rw [Hn.out]; omega)] at hstep
      have hRt : R = decide ((120 : Int) < n) := by rw [← HR.out]; unfold bigB; rw [← hstep, Hn.out]; rfl
      subst hRt
      clear hstep hinv
      go_wp2
      go_ret
      exact ⟨rfl, rfl⟩

end Go.Proofs.YticofedglhfdpaaGreatDoor
