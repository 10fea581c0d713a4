/-
  Compare of any two values; Text and May.
-/
import Derived.Test.YtacmfjhmicgpnaaDoorNot
import Derived.Test.YtacmfjhmicgpnaaDoorShelf
import Derived.Test.YtacmfjhmicgpnaaDoorPlain
import Derived.Laws.Concat
namespace Go.Proofs.YtacmfjhmicgpnaaDoor
open Go Go.RowKit

/-- The order of values. -/
def cmpV (x y : Val) : Int := if x.k != y.k then Lib.compareInt x.k y.k else if x.n != y.n then Lib.compareInt x.n y.n else Lib.compareBytes x.s.data.toList y.s.data.toList

theorem below_two (w : World) (o o' : Obj) : Below w.heap.size w ((w.alloc o).alloc o') := (below_one _ _).alloc (by simp) _
set_option maxHeartbeats 400000 in
theorem compare_c (x y : Val) (w : World) : Calls Tryd.prog 18 #[x.v, y.v] w fun e w' => e = .returned (.int .i64 (cmpV x y)) ∧ Below w.heap.size w w' := by
  cases h1 : x.k != y.k
  · cases h2 : x.n != y.n
    · have e : cmpV x y = Lib.compareBytes x.s.data.toList y.s.data.toList := by simp [cmpV, h1, h2]
      rw [e]
      clear e
      go_enter Tryd.func18, Tryd.ntmps18
      go_wp2_with fail
      refine (Tryd.strings_Compare _ _ _).mono ?_
      rintro e w1 ⟨rfl, rfl⟩
      go_wp2
      go_ret
      exact ⟨rfl, below_two _ _ _⟩
    · have e : cmpV x y = Lib.compareInt x.n y.n := by simp [cmpV, h1, h2]
      rw [e]
      clear e
      go_enter Tryd.func18, Tryd.ntmps18
      go_wp2_with fail
      refine (Tryd.cmp_Compare_int _ _ _).mono ?_
      rintro e w1 ⟨rfl, rfl⟩
      go_wp2
      go_ret
      exact ⟨rfl, below_two _ _ _⟩
  · have e : cmpV x y = Lib.compareInt x.k y.k := by simp [cmpV, h1]
    rw [e]
    clear e
    go_enter Tryd.func18, Tryd.ntmps18
    go_wp2_with fail
    refine (Tryd.cmp_Compare_int _ _ _).mono ?_
    rintro e w1 ⟨rfl, rfl⟩
    go_wp2
    go_ret
    exact ⟨rfl, below_two _ _ _⟩

set_option maxHeartbeats 400000 in
theorem may_tt (w : World) : Calls Tryd.prog 27 #[tt.v] w fun e w' => e = .returned (.bool true) ∧ Below w.heap.size w w' := by
  show Calls Tryd.prog 27 #[.agg #[.int .i64 1, .int .i64 1, .string ⟨#[]⟩]] w _
  go_enter Tryd.func27, Tryd.ntmps27
  go_wp2
  go_ret
  exact ⟨rfl, below_one _ _⟩
set_option maxHeartbeats 400000 in
theorem may_01 (w : World) : Calls Tryd.prog 27 #[(⟨0, 1, emp⟩ : Val).v] w fun e w' => e = .returned (.bool false) ∧ Below w.heap.size w w' := by
  show Calls Tryd.prog 27 #[.agg #[.int .i64 0, .int .i64 1, .string ⟨#[]⟩]] w _
  go_enter Tryd.func27, Tryd.ntmps27
  go_wp2
  go_ret
  exact ⟨rfl, below_one _ _⟩

/-- Two texts, one behind the other. -/
theorem cat_run (w : World) (x y : List UInt8) (h : x.length + y.length ≤ 100000) : (Op.stringOp .add ⟨x.toArray⟩ ⟨y.toArray⟩).run Tryd.prog w = .ok (.string ⟨(x ++ y).toArray⟩) w := by
  rw [run_string_add_sum w ⟨x.toArray⟩ ⟨y.toArray⟩ (by show x.toArray.size + y.toArray.size ≤ _; simp; omega)]
  congr 2
set_option maxHeartbeats 400000 in
theorem text_text (x : Val) (m : Int) (w : World) (hk0 : (x.k == 0) = false) (hk1 : (x.k == 1) = false) (hk2 : (x.k == 2) = false) (hk : (x.k == 3) = true) (hs : x.s.size ≤ 1000) (hm : w.cell? ⟨0, 0, none⟩ = some (.int .i64 m)) :
    Calls Tryd.prog 24 #[x.v] w fun e w' => e = .returned (.string ⟨([39] ++ sub1 39 [39, 39] x.s.data.toList ++ [39]).toArray⟩) ∧ Below w.heap.size w w' := by
  have hlt : 0 < w.heap.size := World.block_lt_of_cell? _ _ hm
  have hr := replaceAll_sub1 39 [39, 39] x.s.data.toList (by simp)
  have hlen := sub1_length 39 [39, 39] x.s.data.toList
  have hsz : x.s.data.toList.length = x.s.size := rfl
  rw [hsz] at hlen
  generalize sub1 39 [39, 39] x.s.data.toList = r at hr hlen ⊢
  have Hr := Lib.hid hr
  have hcnt : x.s.size + Lib.countB x.s ⟨#[39]⟩ * 2 ≤ 140737488355328 := by
    have := Lib.countB_mul_le ⟨#[39]⟩ (by decide) x.s.size x.s (Nat.le_refl _)
    have e1 : (⟨#[39]⟩ : ByteArray).size = 1 := rfl
    rw [e1] at this
    omega
  have c1 : ∀ w, (Op.stringOp .add ⟨#[39]⟩ ⟨r.toArray⟩).run Tryd.prog w = .ok (.string ⟨([39] ++ r).toArray⟩) w := fun w => cat_run w [39] r (by simp only [List.length_cons, List.length_nil] at hlen ⊢; omega)
  have c2 : ∀ w, (Op.stringOp .add ⟨([39] ++ r).toArray⟩ ⟨#[39]⟩).run Tryd.prog w = .ok (.string ⟨([39] ++ r ++ [39]).toArray⟩) w := fun w => cat_run w ([39] ++ r) [39] (by simp only [List.length_append, List.length_cons, List.length_nil] at hlen ⊢; omega)
  clear hr hsz hlen
  generalize ([39] ++ r) = r1 at c1 c2 ⊢
  generalize (r1 ++ [39]) = r2 at c2 ⊢
  go_enter Tryd.func24, Tryd.ntmps24
  go_wp2_with fail
  refine (Tryd.strings_ReplaceAll _ _ _ m _ (by omega) ?_ (by decide) hcnt).mono ?_
  · rw [World.cell?_alloc_past _ _ _ hlt]; exact hm
  rintro e w1 ⟨rfl, hb1⟩
  have e1 : Lib.replaceAll x.s.data.toList (⟨#[39]⟩ : ByteArray).data.toList (⟨#[39, 39]⟩ : ByteArray).data.toList = r := Hr.out
  rw [e1]
  clear e1
  have hb : Below w.heap.size w w1 := (below_one _ _).trans (hb1.mono (by simp))
  clear hb1 hcnt
  go_wp2
  go_ret
  exact ⟨rfl, hb⟩
end Go.Proofs.YtacmfjhmicgpnaaDoor
