/-
  Text of every value that may be, and whether one may be, as the document asks it.
-/
import Derived.Test.YtacmfjhmicgpnaaDoorTextP
import Derived.Test.YtacmfjhmicgpnaaDoorFix
import Derived.Lib.LaidTab
namespace Go.Proofs.YtacmfjhmicgpnaaDoor
open Go Go.RowKit

theorem below_grow (w : World) (k : Nat) (os : Array Obj) : Below w.heap.size w (Sort.grow (w.drewN k) os) :=
  ⟨rfl, rfl, rfl, by show w.heap.size ≤ (w.heap ++ os).size; simp, fun i hi => by
    show (w.heap ++ os)[i]? = w.heap[i]?
    rw [Array.getElem?_append_left hi]⟩

/-- The table of powers of ten stands as it stood. -/
def Tab (w : World) : Prop := Lib.TabIs Tryd.prog w "internal/strconv.uint64pow10" .u64 Lib.pow10Tab
theorem Tab.after {w w' : World} (h : Tab w) (hb : Below w.heap.size w w') (hg : 1 < w.heap.size) : Tab w' := by
  unfold Tab Lib.TabIs at *
  have hn : Tryd.prog.globalNamed "internal/strconv.uint64pow10" = some 1 := by kernel_rfl
  have e : w'.var? Tryd.prog "internal/strconv.uint64pow10" = w.var? Tryd.prog "internal/strconv.uint64pow10" := by
    unfold World.var?
    rw [hn]
    simp only [Option.bind_some, hb.block _ hg]
  rw [e]
  exact h

set_option maxHeartbeats 400000 in
theorem text_null (x : Val) (w : World) (h : (x.k == 0) = true) : Calls Tryd.prog 24 #[x.v] w fun e w' => e = .returned (.string ⟨#[110, 117, 108, 108]⟩) ∧ Below w.heap.size w w' := by
  go_enter Tryd.func24, Tryd.ntmps24
  go_wp2
  go_ret
  exact ⟨rfl, below_one _ _⟩
set_option maxHeartbeats 400000 in
theorem text_false (x : Val) (w : World) (h0 : (x.k == 0) = false) (h : (x.k == 1) = true) (hn : (x.n == 0) = true) : Calls Tryd.prog 24 #[x.v] w fun e w' => e = .returned (.string ⟨#[102, 97, 108, 115, 101]⟩) ∧ Below w.heap.size w w' := by
  go_enter Tryd.func24, Tryd.ntmps24
  go_wp2
  go_ret
  exact ⟨rfl, below_one _ _⟩
set_option maxHeartbeats 400000 in
theorem text_true (x : Val) (w : World) (h0 : (x.k == 0) = false) (h : (x.k == 1) = true) (hn : (x.n == 0) = false) : Calls Tryd.prog 24 #[x.v] w fun e w' => e = .returned (.string ⟨#[116, 114, 117, 101]⟩) ∧ Below w.heap.size w w' := by
  go_enter Tryd.func24, Tryd.ntmps24
  go_wp2
  go_ret
  exact ⟨rfl, below_one _ _⟩
set_option maxHeartbeats 400000 in
theorem text_int (x : Val) (w : World) (h0 : (x.k == 0) = false) (h1 : (x.k == 1) = false) (h : (x.k == 2) = true) (hn : -9223372036854775808 ≤ x.n ∧ x.n ≤ 9223372036854775807) (hT : Tab w) (hg : 1 < w.heap.size) :
    Calls Tryd.prog 24 #[x.v] w fun e w' => e = .returned (.string ⟨(Lib.itoa x.n).toArray⟩) ∧ Below w.heap.size w w' := by
  have HT := Lib.hid hT
  have Hn := Lib.hid hn
  clear hT hn
  go_enter Tryd.func24, Tryd.ntmps24
  go_wp2_with fail
  refine (Tryd.strconv_Itoa _ Hn.out.1 Hn.out.2 _ (HT.out.after (below_one _ _) hg)).mono ?_
  rintro e w1 ⟨rfl, k, os, hw1⟩
  have hb : Below w.heap.size w w1 := by
    rw [hw1]
    exact (below_one w _).trans ((below_grow _ k os).mono (by simp))
  clear hw1
  go_wp2
  go_ret
  exact ⟨rfl, hb⟩
theorem text_c (x : Val) (m : Int) (w : World) (hv : Valid x) (hn : -9223372036854775808 ≤ x.n ∧ x.n ≤ 9223372036854775807) (hm : w.cell? ⟨0, 0, none⟩ = some (.int .i64 m)) (hT : Tab w) (hg : 1 < w.heap.size) :
    Calls Tryd.prog 24 #[x.v] w fun e w' => e = .returned (.string ⟨(textL x).toArray⟩) ∧ Below w.heap.size w w' := by
  unfold textL
  rcases hv with ⟨hk, _⟩ | ⟨hk, hn0, _⟩ | ⟨hk, _⟩ | ⟨hk, _, hs⟩
  · have e : (x.k == 0) = true := by rw [hk]; rfl
    rw [e]
    exact text_null x w e
  · have e0 : (x.k == 0) = false := by rw [hk]; rfl
    have e1 : (x.k == 1) = true := by rw [hk]; rfl
    rw [e0, e1]
    cases hz : x.n == 0
    · exact text_true x w e0 e1 hz
    · exact text_false x w e0 e1 hz
  · have e0 : (x.k == 0) = false := by rw [hk]; rfl
    have e1 : (x.k == 1) = false := by rw [hk]; rfl
    have e2 : (x.k == 2) = true := by rw [hk]; rfl
    rw [e0, e1, e2]
    exact text_int x w e0 e1 e2 hn hT hg
  · have e0 : (x.k == 0) = false := by rw [hk]; rfl
    have e1 : (x.k == 1) = false := by rw [hk]; rfl
    have e2 : (x.k == 2) = false := by rw [hk]; rfl
    have e3 : (x.k == 3) = true := by rw [hk]; rfl
    rw [e0, e1, e2]
    exact text_text x m w e0 e1 e2 e3 hs hm

/-- Whether a value may be, as the document's own text asks it. -/
def rmB (x : Val) : Bool := if x.k == 0 || x.k == 1 then x.s.toList.isEmpty && decide (0 ≤ x.n) && decide (x.n ≤ x.k) else if x.k == 2 then x.s.toList.isEmpty else x.k == 3 && x.n == 0 && decide (x.s.size ≤ 1000)
theorem emp_of {s : ByteArray} (h : s.toList.isEmpty = true) : s = emp := by
  rw [ByteArray.toList_eq] at h
  obtain ⟨⟨l⟩⟩ := s
  simp at h
  rw [h]
theorem valid_of (x : Val) (h : rmB x = true) : Valid x := by
  unfold rmB at h
  unfold Valid
  by_cases h01 : x.k = 0 ∨ x.k = 1
  · have e : (x.k == 0 || x.k == 1) = true := by simpa using h01
    rw [e] at h
    simp only [if_true, Bool.and_eq_true, decide_eq_true_eq] at h
    have hs := emp_of h.1.1
    rcases h01 with hk | hk
    · exact .inl ⟨hk, by omega, hs⟩
    · exact .inr (.inl ⟨hk, by omega, hs⟩)
  · have e : (x.k == 0 || x.k == 1) = false := by simpa using h01
    rw [e] at h
    simp only [Bool.false_eq_true, if_false] at h
    by_cases h2 : x.k = 2
    · have e2 : (x.k == 2) = true := by simpa using h2
      rw [e2] at h
      exact .inr (.inr (.inl ⟨h2, emp_of h⟩))
    · have e2 : (x.k == 2) = false := by simpa using h2
      rw [e2] at h
      simp only [Bool.false_eq_true, if_false, Bool.and_eq_true, beq_iff_eq, decide_eq_true_eq] at h
      exact .inr (.inr (.inr ⟨h.1.1, h.1.2, h.2⟩))

set_option maxHeartbeats 1000000 in
theorem rmay_low (x : Val) (w : World) (h : (x.k == 0) = true ∨ ((x.k == 0) = false ∧ (x.k == 1) = true)) :
    Calls Tryd.prog 23 #[x.v] w fun e w' => e = .returned (.bool (x.s.toList.isEmpty && decide (0 ≤ x.n) && decide (x.n ≤ x.k))) ∧ Below w.heap.size w w' := by
  rcases h with h | ⟨h0, h⟩
  all_goals
    cases hs : x.s.toList.isEmpty
    · go_enter Tryd.func23, Tryd.ntmps23
      go_wp2
      go_ret
      exact ⟨rfl, below_one _ _⟩
    · cases hn : decide (0 ≤ x.n)
      · go_enter Tryd.func23, Tryd.ntmps23
        go_wp2
        go_ret
        exact ⟨rfl, below_one _ _⟩
      · go_enter Tryd.func23, Tryd.ntmps23
        go_wp2
        go_ret
        exact ⟨rfl, below_one _ _⟩
set_option maxHeartbeats 1000000 in
theorem rmay_int (x : Val) (w : World) (h0 : (x.k == 0) = false) (h1 : (x.k == 1) = false) (h : (x.k == 2) = true) :
    Calls Tryd.prog 23 #[x.v] w fun e w' => e = .returned (.bool x.s.toList.isEmpty) ∧ Below w.heap.size w w' := by
  go_enter Tryd.func23, Tryd.ntmps23
  go_wp2
  go_ret
  exact ⟨rfl, below_one _ _⟩
set_option maxHeartbeats 1000000 in
theorem rmay_high (x : Val) (w : World) (h0 : (x.k == 0) = false) (h1 : (x.k == 1) = false) (h2 : (x.k == 2) = false) (hs : x.s.size ≤ maxLen) :
    Calls Tryd.prog 23 #[x.v] w fun e w' => e = .returned (.bool (x.k == 3 && x.n == 0 && decide (x.s.size ≤ 1000))) ∧ Below w.heap.size w w' := by
  unfold maxLen at hs
  cases h3 : x.k == 3
  · go_enter Tryd.func23, Tryd.ntmps23
    go_wp2
    go_ret
    exact ⟨rfl, below_one _ _⟩
  · cases hn : x.n == 0
    · go_enter Tryd.func23, Tryd.ntmps23
      go_wp2
      go_ret
      exact ⟨rfl, below_one _ _⟩
    · by_cases hz : x.s.size ≤ 1000
      · have hz' : decide (x.s.size ≤ 1000) = true := decide_eq_true hz
        have hz2 : decide ((x.s.size : Int) ≤ 1000) = true := decide_eq_true (by omega)
        go_enter Tryd.func23, Tryd.ntmps23
        go_wp2
        go_ret
        exact ⟨by rw [hz']; rfl, below_one _ _⟩
      · have hz' : decide (x.s.size ≤ 1000) = false := decide_eq_false hz
        have hz2 : decide ((x.s.size : Int) ≤ 1000) = false := decide_eq_false (by omega)
        go_enter Tryd.func23, Tryd.ntmps23
        go_wp2
        go_ret
        exact ⟨by rw [hz']; rfl, below_one _ _⟩
theorem rmay_c (x : Val) (w : World) (hs : x.s.size ≤ maxLen) : Calls Tryd.prog 23 #[x.v] w fun e w' => e = .returned (.bool (rmB x)) ∧ Below w.heap.size w w' := by
  unfold rmB
  cases h0 : x.k == 0
  · cases h1 : x.k == 1
    · simp only [Bool.or_false, Bool.false_eq_true, if_false]
      cases h2 : x.k == 2
      · simp only [Bool.false_eq_true, if_false]
        exact rmay_high x w h0 h1 h2 hs
      · simp only [if_true]
        exact rmay_int x w h0 h1 h2
    · simp only [Bool.or_true, if_true]
      exact rmay_low x w (.inr ⟨h0, h1⟩)
  · simp only [Bool.true_or, if_true]
    exact rmay_low x w (.inl h0)
end Go.Proofs.YtacmfjhmicgpnaaDoor
