/-
  Part 7 of 7 of what the proof leans on: each part below says what it proves, and of what; no condition besides.
-/
import Derived.Test.YtjgpmnffagdhlaaGreatDoorP06
import Derived.Deep.RegionHeld2
import Derived.Test.YtjgpmnffagdhlaaGreatDoorRows
import Derived.ProofKit
import Derived.OpenShut
import Derived.Deep.DeepHandedRow
import Derived.Lib.LaidTab
import Derived.Lib.LaidU8
import Derived.Lib.SmallJoins
import Derived.Deep.Slices
import Derived.Deep.Fields
import Derived.ChangeSame
import Derived.ChangeMaps5
import Derived.Lay
import Derived.Below
import Derived.Test.YtjgpmnffagdhlaaGreatDoorCards
import Derived.Test.YtjgpmnffagdhlaaGreatDoorTie
import Derived.Stop.LaidErr
set_option linter.unusedVariables false
set_option linter.unusedSimpArgs false
namespace Go.Proofs.YtjgpmnffagdhlaaGreatDoor
open Go Go.RowKit
set_option maxRecDepth 100000
/-- What is known of a statement that came in. -/
structure Stm.Z (x : Stm) : Prop where
  nm : x.name.size ≤ maxLen
  row : ∀ y ∈ x.row.xs, y.s.size ≤ maxLen ∧ I64 y.n
theorem Stm.Z.s64 {x : Stm} (h : x.Z) : S64 x.st := fun v hv => by
  have := (h.row v hv).2
  unfold I64 at this
  omega
/-- A short one. -/
def shortS (x : Stm) : Bool := shortB x.row.xs && decide (x.name.size ≤ 100)
theorem short_nm {x : Stm} (h : shortS x = true) : x.name.size ≤ 4611686018427387904 := by
  unfold shortS at h
  simp only [Bool.and_eq_true, decide_eq_true_eq] at h
  omega
theorem sshortZ (x : Stm) (w : World) (hx : x.In w) (hz : x.Z) :
    Calls Tryz.prog 23 #[x.w] w fun e w' => e = .returned (.bool (shortS x)) ∧ Below w.heap.size w w' := sshort_c x w hx (fun v hv => (hz.row v hv).1) hz.nm
theorem sprintZ (x : Stm) (w : World) (hG : Gs w.heap.size w) (hx : x.In w) (hz : x.Z) (hn : shortS x = true) :
    Calls Tryz.prog 24 #[x.w] w fun e w' => ∃ t, e = .returned (.string (ba t)) ∧ PrS x.st t ∧ Below w.heap.size w w' := sprintG x w hG hx (fun v hv => (hz.row v hv).1) (short_nm hn) hz.s64
theorem prs_may {x : St} {t : List UInt8} (h : PrS x t) (ht : t ≠ []) : mayS x = true ∧ (printL (toksS x)).length ≤ 20000 ∧ t = printL (toksS x) := by
  rcases h with h | ⟨_, h⟩
  · exact h
  · exact absurd h ht
theorem prs_unlike {x y : St} {s t : List UInt8} (hx : PrS x s) (hy : PrS y t) (h6 : S64 x) (k6 : S64 y) (hs : s ≠ []) (ht : t ≠ []) : decide (s = t) = stB x y := by
  obtain ⟨m1, _, rfl⟩ := prs_may hx hs
  obtain ⟨m2, _, rfl⟩ := prs_may hy ht
  rw [Bool.eq_iff_iff, decide_eq_true_eq, stB_iff]
  constructor
  · intro h
    have a := print_readS m1 h6
    have b := print_readS m2 k6
    rw [h] at a
    exact Option.some.inj (a.symm.trans b)
  · rintro rfl; rfl
set_option maxHeartbeats 16000000 in
theorem unlike8_w (x y : Stm) (w : World) (hG : Gs w.heap.size w) (hx : x.In w) (hy : y.In w) (zx : x.Z) (zy : y.Z) :
    Calls Tryz.prog 10 #[x.w, y.w] w fun e w' => e = .returned (.bool true) ∧ Below w.heap.size w w' := by
  have HG := Lib.hid hG
  obtain ⟨w0, hw0⟩ : ∃ w0, (w.alloc (.cells #[.int .i64 x.k, .string x.name, .slice x.row.A x.row.n x.row.c] 50)).alloc (.cells #[.int .i64 y.k, .string y.name, .slice y.row.A y.row.n y.row.c] 50) = w0 := ⟨_, rfl⟩
  have HB0 : Hid (Below w.heap.size w w0) := Lib.hid (by rw [← hw0]; exact (below_one w _).alloc (by simp) _)
  have HIx0 : Hid (x.In w0) := Lib.hid (hx.after HB0.out)
  have HIy0 : Hid (y.In w0) := Lib.hid (hy.after HB0.out)
  have HKx0 : Hid (BkS w0 w.heap.size x) := Lib.hid (by rw [← hw0]; exact (Bk.new w _ _).after (below_one _ _) (by simp))
  have HKy0 : Hid (BkS w0 (w.heap.size + 1) y) := Lib.hid (by rw [← hw0]; exact Bk.two w _ _ _)
  have HZ := Lib.hid (And.intro zx zy)
  clear hG hx hy zx zy
  go_enter Tryz.func10, Tryz.ntmps10
  go_wp2_with fail
  refine (fixed8_c w0 (HG.out.at HB0.out)).mono ?_
  rintro e w1 ⟨rfl, hb⟩
  have HB1 := Lib.hid (below_via HB0.out hb)
  have HIx1 : Hid (x.In w1) := Lib.hid (HIx0.out.after hb)
  have HKx1 : Hid (BkS w1 w.heap.size x) := Lib.hid (Bk.after HKx0.out hb HKx0.out.lt)
  have HIy1 : Hid (y.In w1) := Lib.hid (HIy0.out.after hb)
  have HKy1 : Hid (BkS w1 (w.heap.size + 1) y) := Lib.hid (Bk.after HKy0.out hb HKy0.out.lt)
  clear hb
  have xc0 : w1.cell? ⟨w.heap.size, 0, none⟩ = some (.int .i64 x.k) := HKx1.out.cell 0
  have xc1 : w1.cell? ⟨w.heap.size, 1, none⟩ = some (.string x.name) := HKx1.out.cell 1
  have xc2 : w1.cell? ⟨w.heap.size, 2, none⟩ = some (.slice x.row.A x.row.n x.row.c) := HKx1.out.cell 2
  have xcl := HKx1.out.lt
  have yc0 : w1.cell? ⟨(w.heap.size + 1), 0, none⟩ = some (.int .i64 y.k) := HKy1.out.cell 0
  have yc1 : w1.cell? ⟨(w.heap.size + 1), 1, none⟩ = some (.string y.name) := HKy1.out.cell 1
  have yc2 : w1.cell? ⟨(w.heap.size + 1), 2, none⟩ = some (.slice y.row.A y.row.n y.row.c) := HKy1.out.cell 2
  have ycl := HKy1.out.lt
  obtain ⟨Sx, hSx⟩ : ∃ S, shortS x = S := ⟨_, rfl⟩
  have HSx := Lib.hid hSx
  clear hSx
  go_wp2_with fail
  refine (sshortZ x w1 HIx1.out HZ.out.1).mono ?_
  rintro e w2 ⟨rfl, hb⟩
  rw [HSx.out]
  have HB2 := Lib.hid (below_via HB1.out hb)
  have HIx2 : Hid (x.In w2) := Lib.hid (HIx1.out.after hb)
  have HKx2 : Hid (BkS w2 w.heap.size x) := Lib.hid (Bk.after HKx1.out hb HKx1.out.lt)
  have HIy2 : Hid (y.In w2) := Lib.hid (HIy1.out.after hb)
  have HKy2 : Hid (BkS w2 (w.heap.size + 1) y) := Lib.hid (Bk.after HKy1.out hb HKy1.out.lt)
  clear hb
  clear xc0 xc1 xc2 xcl
  clear yc0 yc1 yc2 ycl
  cases Sx
  · go_wp2_with fail
    refine (fixed8_c w2 (HG.out.at HB2.out)).mono ?_
    rintro e w3 ⟨rfl, hb⟩
    have HB3 := Lib.hid (below_via HB2.out hb)
    have HIx3 : Hid (x.In w3) := Lib.hid (HIx2.out.after hb)
    have HKx3 : Hid (BkS w3 w.heap.size x) := Lib.hid (Bk.after HKx2.out hb HKx2.out.lt)
    have HIy3 : Hid (y.In w3) := Lib.hid (HIy2.out.after hb)
    have HKy3 : Hid (BkS w3 (w.heap.size + 1) y) := Lib.hid (Bk.after HKy2.out hb HKy2.out.lt)
    clear hb
    go_wp2
    go_ret
    exact ⟨rfl, HB3.out⟩
  · have xc0 : w2.cell? ⟨w.heap.size, 0, none⟩ = some (.int .i64 x.k) := HKx2.out.cell 0
    have xc1 : w2.cell? ⟨w.heap.size, 1, none⟩ = some (.string x.name) := HKx2.out.cell 1
    have xc2 : w2.cell? ⟨w.heap.size, 2, none⟩ = some (.slice x.row.A x.row.n x.row.c) := HKx2.out.cell 2
    have xcl := HKx2.out.lt
    have yc0 : w2.cell? ⟨(w.heap.size + 1), 0, none⟩ = some (.int .i64 y.k) := HKy2.out.cell 0
    have yc1 : w2.cell? ⟨(w.heap.size + 1), 1, none⟩ = some (.string y.name) := HKy2.out.cell 1
    have yc2 : w2.cell? ⟨(w.heap.size + 1), 2, none⟩ = some (.slice y.row.A y.row.n y.row.c) := HKy2.out.cell 2
    have ycl := HKy2.out.lt
    obtain ⟨Sy, hSy⟩ : ∃ S, shortS y = S := ⟨_, rfl⟩
    have HSy := Lib.hid hSy
    clear hSy
    go_wp2_with fail
    refine (sshortZ y w2 HIy2.out HZ.out.2).mono ?_
    rintro e w3 ⟨rfl, hb⟩
    rw [HSy.out]
    have HB3 := Lib.hid (below_via HB2.out hb)
    have HIx3 : Hid (x.In w3) := Lib.hid (HIx2.out.after hb)
    have HKx3 : Hid (BkS w3 w.heap.size x) := Lib.hid (Bk.after HKx2.out hb HKx2.out.lt)
    have HIy3 : Hid (y.In w3) := Lib.hid (HIy2.out.after hb)
    have HKy3 : Hid (BkS w3 (w.heap.size + 1) y) := Lib.hid (Bk.after HKy2.out hb HKy2.out.lt)
    clear hb
    clear xc0 xc1 xc2 xcl
    clear yc0 yc1 yc2 ycl
    cases Sy
    · go_wp2_with fail
      refine (fixed8_c w3 (HG.out.at HB3.out)).mono ?_
      rintro e w4 ⟨rfl, hb⟩
      have HB4 := Lib.hid (below_via HB3.out hb)
      have HIx4 : Hid (x.In w4) := Lib.hid (HIx3.out.after hb)
      have HKx4 : Hid (BkS w4 w.heap.size x) := Lib.hid (Bk.after HKx3.out hb HKx3.out.lt)
      have HIy4 : Hid (y.In w4) := Lib.hid (HIy3.out.after hb)
      have HKy4 : Hid (BkS w4 (w.heap.size + 1) y) := Lib.hid (Bk.after HKy3.out hb HKy3.out.lt)
      clear hb
      go_wp2
      go_ret
      exact ⟨rfl, HB4.out⟩
    · have HSt : Hid (∀ wy, Below w3.heap.size w3 wy → (wy.cell? ⟨w.heap.size, 0, none⟩ = some (.int .i64 x.k) ∧ wy.cell? ⟨w.heap.size, 1, none⟩ = some (.string x.name) ∧ wy.cell? ⟨w.heap.size, 2, none⟩ = some (.slice x.row.A x.row.n x.row.c) ∧ wy.cell? ⟨w.heap.size + 1, 0, none⟩ = some (.int .i64 y.k) ∧ wy.cell? ⟨w.heap.size + 1, 1, none⟩ = some (.string y.name) ∧ wy.cell? ⟨w.heap.size + 1, 2, none⟩ = some (.slice y.row.A y.row.n y.row.c))) := Lib.hid fun wy hb => by
        have hk : BkS wy w.heap.size x := Bk.after HKx3.out hb HKx3.out.lt
        have hq : BkS wy (w.heap.size + 1) y := Bk.after HKy3.out hb HKy3.out.lt
        exact ⟨hk.cell 0, hk.cell 1, hk.cell 2, hq.cell 0, hq.cell 1, hq.cell 2⟩
      have HPx := Lib.hid (sprintZ x w3.drew (HG.out.at HB3.out.drew) (HIx3.out.after (Below.refl _ _).drew) HZ.out.1 HSx.out)
      have xc0 : w3.cell? ⟨w.heap.size, 0, none⟩ = some (.int .i64 x.k) := HKx3.out.cell 0
      have xc1 : w3.cell? ⟨w.heap.size, 1, none⟩ = some (.string x.name) := HKx3.out.cell 1
      have xc2 : w3.cell? ⟨w.heap.size, 2, none⟩ = some (.slice x.row.A x.row.n x.row.c) := HKx3.out.cell 2
      have xcl := HKx3.out.lt
      have yc0 : w3.cell? ⟨(w.heap.size + 1), 0, none⟩ = some (.int .i64 y.k) := HKy3.out.cell 0
      have yc1 : w3.cell? ⟨(w.heap.size + 1), 1, none⟩ = some (.string y.name) := HKy3.out.cell 1
      have yc2 : w3.cell? ⟨(w.heap.size + 1), 2, none⟩ = some (.slice y.row.A y.row.n y.row.c) := HKy3.out.cell 2
      have ycl := HKy3.out.lt
      go_wp2_with fail
      go_region_held2 (fun w' => w'.cell? ⟨w.heap.size, 0, none⟩ = some (.int .i64 x.k) ∧ w'.cell? ⟨w.heap.size, 1, none⟩ = some (.string x.name) ∧ w'.cell? ⟨w.heap.size, 2, none⟩ = some (.slice x.row.A x.row.n x.row.c) ∧ w'.cell? ⟨w.heap.size + 1, 0, none⟩ = some (.int .i64 y.k) ∧ w'.cell? ⟨w.heap.size + 1, 1, none⟩ = some (.string y.name) ∧ w'.cell? ⟨w.heap.size + 1, 2, none⟩ = some (.slice y.row.A y.row.n y.row.c))
        (first
          | exact HSt.out _ HbS.out
          | go_keep)
        (first
          | (go_at_call 24
             with_reducible refine HPx.out.mono ?_
             rintro e w20 ⟨s, rfl, hp, hb⟩
             have HbS : Hid (Below w3.heap.size w3 w20) := Lib.hid (below_via (Below.refl w3.heap.size w3).drew hb)
             have Hp1 := Lib.hid hp
             have HPy := Lib.hid (sprintZ y w20 (HG.out.at (below_via HB3.out HbS.out)) (HIy3.out.after HbS.out) HZ.out.2 HSy.out)
             clear hp hb HPx)
          | (go_at_call 24
             with_reducible refine HPy.out.mono ?_
             rintro e w21 ⟨t, rfl, hp, hb⟩
             have HbT : Hid (Below w3.heap.size w3 w21) := Lib.hid (below_via HbS.out hb)
             have Hp2 := Lib.hid hp
             clear HbS HPy hp hb
             have HbS := HbT
             clear HbT))
      all_goals
        have HB21 : Hid (Below w.heap.size w w21) := Lib.hid (below_via HB3.out HbS.out)
        have HIx21 : Hid (x.In w21) := Lib.hid (HIx3.out.after HbS.out)
        have HIy21 : Hid (y.In w21) := Lib.hid (HIy3.out.after HbS.out)
        have HKx21 : Hid (BkS w21 w.heap.size x) := Lib.hid (Bk.after HKx3.out HbS.out HKx3.out.lt)
        have HKy21 : Hid (BkS w21 (w.heap.size + 1) y) := Lib.hid (Bk.after HKy3.out HbS.out HKy3.out.lt)
        clear xc0 xc1 xc2 xcl yc0 yc1 yc2 ycl HSt HbS
        have xc0 : w21.cell? ⟨w.heap.size, 0, none⟩ = some (.int .i64 x.k) := HKx21.out.cell 0
        have xc1 : w21.cell? ⟨w.heap.size, 1, none⟩ = some (.string x.name) := HKx21.out.cell 1
        have xc2 : w21.cell? ⟨w.heap.size, 2, none⟩ = some (.slice x.row.A x.row.n x.row.c) := HKx21.out.cell 2
        have xcl := HKx21.out.lt
        have yc0 : w21.cell? ⟨(w.heap.size + 1), 0, none⟩ = some (.int .i64 y.k) := HKy21.out.cell 0
        have yc1 : w21.cell? ⟨(w.heap.size + 1), 1, none⟩ = some (.string y.name) := HKy21.out.cell 1
        have yc2 : w21.cell? ⟨(w.heap.size + 1), 2, none⟩ = some (.slice y.row.A y.row.n y.row.c) := HKy21.out.cell 2
        have ycl := HKy21.out.lt
        by_cases hs : s = []
        · subst hs
          go_wp2
          go_ret
          exact ⟨rfl, HB21.out⟩
        · obtain ⟨u0, hu0⟩ : ∃ u0, ba s = u0 := ⟨_, rfl⟩
          have hun : u0.toList.isEmpty = false := size_ne (by rw [← hu0]; show s.length ≠ 0; simpa using hs)
          have Hu0 := Lib.hid hu0
          rw [hu0]
          clear hu0
          by_cases ht : t = []
          · subst ht
            go_wp2
            go_ret
            exact ⟨rfl, HB21.out⟩
          · have HQ := Lib.hid (prs_unlike Hp1.out Hp2.out HZ.out.1.s64 HZ.out.2.s64 hs ht)
            obtain ⟨v0, hv0⟩ : ∃ v0, ba t = v0 := ⟨_, rfl⟩
            have hvn : v0.toList.isEmpty = false := size_ne (by rw [← hv0]; show t.length ≠ 0; simpa using ht)
            have Hv0 := Lib.hid hv0
            rw [hv0]
            clear hv0 hs ht
            have HSm := Lib.hid (ssame_c x y w21 HIx21.out HIy21.out)
            rw [← HQ.out] at HSm
            by_cases hst : s = t
            · have huv : u0 = v0 := by rw [← Hu0.out, ← Hv0.out, hst]
              rw [decide_eq_true hst] at HSm
              clear hst
              subst huv
              go_wp2_with fail
              refine (HSm.out).mono ?_
              rintro e w22 ⟨rfl, hb⟩
              have HB22 := Lib.hid (below_via HB21.out hb)
              have HIx22 : Hid (x.In w22) := Lib.hid (HIx21.out.after hb)
              have HKx22 : Hid (BkS w22 w.heap.size x) := Lib.hid (Bk.after HKx21.out hb HKx21.out.lt)
              have HIy22 : Hid (y.In w22) := Lib.hid (HIy21.out.after hb)
              have HKy22 : Hid (BkS w22 (w.heap.size + 1) y) := Lib.hid (Bk.after HKy21.out hb HKy21.out.lt)
              clear hb
              go_wp2
              go_ret
              exact ⟨rfl, HB22.out⟩
            · have huv : ¬ u0.toList = v0.toList := fun e => hst (ba_inj (by rw [Hu0.out, Hv0.out]; exact toList_inj e))
              have hbq : (u0.toList == v0.toList) = false := by simpa using huv
              rw [decide_eq_false hst] at HSm
              clear hst
              go_wp2_with fail
              refine (HSm.out).mono ?_
              rintro e w22 ⟨rfl, hb⟩
              have HB22 := Lib.hid (below_via HB21.out hb)
              have HIx22 : Hid (x.In w22) := Lib.hid (HIx21.out.after hb)
              have HKx22 : Hid (BkS w22 w.heap.size x) := Lib.hid (Bk.after HKx21.out hb HKx21.out.lt)
              have HIy22 : Hid (y.In w22) := Lib.hid (HIy21.out.after hb)
              have HKy22 : Hid (BkS w22 (w.heap.size + 1) y) := Lib.hid (Bk.after HKy21.out hb HKy21.out.lt)
              clear hb
              go_wp2
              go_ret
              exact ⟨rfl, HB22.out⟩
end Go.Proofs.YtjgpmnffagdhlaaGreatDoor
namespace Go.Proofs.YtjgpmnffagdhlaaGreatDoor
open Go Go.RowKit
set_option maxRecDepth 100000
theorem errS_of {l : List UInt8} {x : St} (hl : l.length ≤ 20000) (h : (lexL l).bind parseS = some x) : errS l = 0 ∧ smO l = x := by
  have hO : lexO l = lexL l := by unfold lexO; rw [if_pos hl]
  unfold errS smO
  rw [hO]
  cases hq : lexL l with
  | none => rw [hq] at h; cases h
  | some ts =>
    rw [hq, Option.bind_some] at h
    simp [h]
theorem prs_back {x : St} {t : List UInt8} (h : PrS x t) (h6 : S64 x) (ht : t ≠ []) : errS t = 0 ∧ smO t = x := by
  obtain ⟨m1, m2, rfl⟩ := prs_may h ht
  exact errS_of m2 (print_readS m1 h6)
theorem prs_len {x : St} {t : List UInt8} (h : PrS x t) : t.length ≤ maxLen := by
  unfold maxLen
  rcases h with ⟨_, h, rfl⟩ | ⟨_, rfl⟩
  · omega
  · simp
/-- What is read of a text that is not too long is printed, and read from that. -/
theorem prs_again {l t : List UInt8} {x : St} (hx : x = smO l) (h : errS l = 0) (hl : l.length ≤ 2000) (ht : PrS x t) : errS t = 0 ∧ smO t = x := by
  subst hx
  obtain ⟨m1, m2, m3⟩ := sm_may h
  refine prs_back ht m2 fun hn => ?_
  rcases ht with ⟨_, _, e⟩ | ⟨e, _⟩
  · have a := print_readS m1 m2
    rw [← e, hn] at a
    exact absurd a (by rw [show lexL [] = some [] from rfl]; intro b; cases b)
  · exact e ⟨m1, by omega⟩
theorem st_prn {l : List UInt8} {z : Stm} (hz : z.st = smO l) (h : errS l = 0) : (∀ v ∈ z.row.xs, v.s.size ≤ maxLen) ∧ z.name.size ≤ 4611686018427387904 ∧ S64 z.st := by
  obtain ⟨m1, m2, _⟩ := sm_may h
  rw [← hz] at m1 m2
  obtain ⟨⟨_, hn⟩, hv, _⟩ := may_parts m1
  refine ⟨fun v hm => ?_, ?_, m2⟩
  · have := val_size (hv v hm); unfold maxLen; omega
  · have := nm_len hn
    have e : z.st.name = z.name := rfl
    rw [e] at this
    omega
theorem sm0_st : sm0.st = st0 := rfl
set_option maxHeartbeats 16000000 in
theorem back8_w (l : List UInt8) (x : Stm) (w : World) (hl : l.length ≤ maxLen) (hG : Gs w.heap.size w) (hx : x.In w) (zx : x.Z) :
    Calls Tryz.prog 8 #[.string (ba l), x.w] w fun e w' => e = .returned (.bool true) ∧ Below w.heap.size w w' := by
  have HG := Lib.hid hG
  unfold maxLen at hl
  obtain ⟨w0, hw0⟩ : ∃ w0, w.alloc (.cells #[.int .i64 x.k, .string x.name, .slice x.row.A x.row.n x.row.c] 50) = w0 := ⟨_, rfl⟩
  have HB0 : Hid (Below w.heap.size w w0) := Lib.hid (by rw [← hw0]; exact below_one w _)
  have HIx0 : Hid (x.In w0) := Lib.hid (hx.after HB0.out)
  have HKx0 : Hid (BkS w0 w.heap.size x) := Lib.hid (by rw [← hw0]; exact Bk.new w _ _)
  have HZ := Lib.hid zx
  have Hl := Lib.hid hl
  have Hbl : Hid ((ba l).size = l.length) := Lib.hid rfl
  obtain ⟨s, hs⟩ : ∃ s, ba l = s := ⟨_, rfl⟩
  have Hs := Lib.hid hs
  rw [hs] at Hbl ⊢
  have hsz : s.size ≤ 9223372036854775807 := by rw [Hbl.out]; exact hl
  clear hG hx zx hs hl
  go_enter Tryz.func8, Tryz.ntmps8
  go_wp2_with fail
  refine (fixed8_c w0 (HG.out.at HB0.out)).mono ?_
  rintro e w1 ⟨rfl, hb⟩
  have HB1 := Lib.hid (below_via HB0.out hb)
  have HIx1 : Hid (x.In w1) := Lib.hid (HIx0.out.after hb)
  have HKx1 : Hid (BkS w1 w.heap.size x) := Lib.hid (Bk.after HKx0.out hb HKx0.out.lt)
  clear hb
  by_cases h2 : s.size ≤ 2000
  · have hd2 : decide ((s.size : Int) > 2000) = false := decide_eq_false (by omega)
    have Hl2 : Hid (l.length ≤ 2000) := Lib.hid (by rw [← Hbl.out]; exact h2)
    clear h2
    have xc0 : w1.cell? ⟨w.heap.size, 0, none⟩ = some (.int .i64 x.k) := HKx1.out.cell 0
    have xc1 : w1.cell? ⟨w.heap.size, 1, none⟩ = some (.string x.name) := HKx1.out.cell 1
    have xc2 : w1.cell? ⟨w.heap.size, 2, none⟩ = some (.slice x.row.A x.row.n x.row.c) := HKx1.out.cell 2
    have xcl := HKx1.out.lt
    obtain ⟨Sx, hSx⟩ : ∃ S, shortS x = S := ⟨_, rfl⟩
    have HSx := Lib.hid hSx
    clear hSx
    go_wp2_with fail
    refine (sshortZ x w1 HIx1.out HZ.out).mono ?_
    rintro e w2 ⟨rfl, hb⟩
    rw [HSx.out]
    have HB2 := Lib.hid (below_via HB1.out hb)
    have HIx2 : Hid (x.In w2) := Lib.hid (HIx1.out.after hb)
    have HKx2 : Hid (BkS w2 w.heap.size x) := Lib.hid (Bk.after HKx1.out hb HKx1.out.lt)
    clear hb
    clear xc0 xc1 xc2 xcl
    cases Sx
    · go_wp2_with fail
      refine (fixed8_c w2 (HG.out.at HB2.out)).mono ?_
      rintro e w3 ⟨rfl, hb⟩
      have HB3 := Lib.hid (below_via HB2.out hb)
      have HIx3 : Hid (x.In w3) := Lib.hid (HIx2.out.after hb)
      have HKx3 : Hid (BkS w3 w.heap.size x) := Lib.hid (Bk.after HKx2.out hb HKx2.out.lt)
      clear hb
      go_wp2
      go_ret
      exact ⟨rfl, HB3.out⟩
    · clear hd2 hsz
      have xc0 : w2.cell? ⟨w.heap.size, 0, none⟩ = some (.int .i64 x.k) := HKx2.out.cell 0
      have xc1 : w2.cell? ⟨w.heap.size, 1, none⟩ = some (.string x.name) := HKx2.out.cell 1
      have xc2 : w2.cell? ⟨w.heap.size, 2, none⟩ = some (.slice x.row.A x.row.n x.row.c) := HKx2.out.cell 2
      have xcl := HKx2.out.lt
      go_wp2_with fail
      refine (sprintZ x w2 (HG.out.at HB2.out) HIx2.out HZ.out HSx.out).mono ?_
      rintro e w3 ⟨t, rfl, hp, hb⟩
      have Hp := Lib.hid hp
      clear hp
      have HB3 := Lib.hid (below_via HB2.out hb)
      have HIx3 : Hid (x.In w3) := Lib.hid (HIx2.out.after hb)
      have HKx3 : Hid (BkS w3 w.heap.size x) := Lib.hid (Bk.after HKx2.out hb HKx2.out.lt)
      clear hb
      clear xc0 xc1 xc2 xcl
      go_wp2_with fail
      refine (sprsG t w3 (prs_len Hp.out) (HG.out.at HB3.out)).mono ?_
      rintro e w4 ⟨y, rfl, hi, hd, hb⟩
      obtain ⟨w5, hw5⟩ : ∃ w5, w4.alloc (.cells #[.int .i64 y.k, .string y.name, .slice y.row.A y.row.n y.row.c] 50) = w5 := ⟨_, rfl⟩
      have hb2 : Below w3.heap.size w3 w5 := by rw [← hw5]; exact below_al hb _
      have HIy5 : Hid (y.In w5) := Lib.hid (by rw [← hw5]; exact hi.after (below_one _ _))
      have HKy5 : Hid (BkS w5 w4.heap.size y) := Lib.hid (by rw [← hw5]; exact Bk.new _ _ _)
      have HDy : Hid (y.st = smO t) := Lib.hid hd
      have HB5 := Lib.hid (below_via HB3.out hb2)
      have HIx5 : Hid (x.In w5) := Lib.hid (HIx3.out.after hb2)
      have HKx5 : Hid (BkS w5 w.heap.size x) := Lib.hid (Bk.after HKx3.out hb2 HKx3.out.lt)
      clear hi hd hb hb2
      have Hback := Lib.hid (prs_back Hp.out HZ.out.s64)
      by_cases ht : t = []
      · subst ht
        clear Hback
        rw [← Hs.out]
        go_wp2_with fail
        refine (sprsG l w5 (by have := Hl.out; unfold maxLen; exact this) (HG.out.at HB5.out)).mono ?_
        rintro e w6 ⟨z, rfl, hi, hd, hb⟩
        obtain ⟨w7, hw7⟩ : ∃ w7, w6.alloc (.cells #[.int .i64 z.k, .string z.name, .slice z.row.A z.row.n z.row.c] 50) = w7 := ⟨_, rfl⟩
        have hb2 : Below w5.heap.size w5 w7 := by rw [← hw7]; exact below_al hb _
        have HIz7 : Hid (z.In w7) := Lib.hid (by rw [← hw7]; exact hi.after (below_one _ _))
        have HKz7 : Hid (BkS w7 w6.heap.size z) := Lib.hid (by rw [← hw7]; exact Bk.new _ _ _)
        have HDz : Hid (z.st = smO l) := Lib.hid hd
        have HB7 := Lib.hid (below_via HB5.out hb2)
        have HIx7 : Hid (x.In w7) := Lib.hid (HIx5.out.after hb2)
        have HKx7 : Hid (BkS w7 w.heap.size x) := Lib.hid (Bk.after HKx5.out hb2 HKx5.out.lt)
        have HIy7 : Hid (y.In w7) := Lib.hid (HIy5.out.after hb2)
        have HKy7 : Hid (BkS w7 w4.heap.size y) := Lib.hid (Bk.after HKy5.out hb2 HKy5.out.lt)
        clear hi hd hb hb2
        have hec := errS_cases l
        by_cases hf : errS l = 0
        · have HP := Lib.hid (st_prn HDz.out hf)
          have Hf := Lib.hid hf
          rw [hf]
          clear hf hec
          have zc0 : w7.cell? ⟨w6.heap.size, 0, none⟩ = some (.int .i64 z.k) := HKz7.out.cell 0
          have zc1 : w7.cell? ⟨w6.heap.size, 1, none⟩ = some (.string z.name) := HKz7.out.cell 1
          have zc2 : w7.cell? ⟨w6.heap.size, 2, none⟩ = some (.slice z.row.A z.row.n z.row.c) := HKz7.out.cell 2
          have zcl := HKz7.out.lt
          go_wp2_with fail
          refine (sprintG z w7 (HG.out.at HB7.out) HIz7.out HP.out.1 HP.out.2.1 HP.out.2.2).mono ?_
          rintro e w8 ⟨t2, rfl, hp, hb⟩
          have Hp2 := Lib.hid hp
          clear hp
          have HB8 := Lib.hid (below_via HB7.out hb)
          have HIx8 : Hid (x.In w8) := Lib.hid (HIx7.out.after hb)
          have HKx8 : Hid (BkS w8 w.heap.size x) := Lib.hid (Bk.after HKx7.out hb HKx7.out.lt)
          have HIy8 : Hid (y.In w8) := Lib.hid (HIy7.out.after hb)
          have HKy8 : Hid (BkS w8 w4.heap.size y) := Lib.hid (Bk.after HKy7.out hb HKy7.out.lt)
          have HIz8 : Hid (z.In w8) := Lib.hid (HIz7.out.after hb)
          have HKz8 : Hid (BkS w8 w6.heap.size z) := Lib.hid (Bk.after HKz7.out hb HKz7.out.lt)
          clear hb
          clear zc0 zc1 zc2 zcl
          have Hag := Lib.hid (prs_again HDz.out Hf.out Hl2.out Hp2.out)
          go_wp2_with fail
          refine (sprsG t2 w8 (prs_len Hp2.out) (HG.out.at HB8.out)).mono ?_
          rintro e w9 ⟨v, rfl, hi, hd, hb⟩
          obtain ⟨w10, hw10⟩ : ∃ w10, w9.alloc (.cells #[.int .i64 v.k, .string v.name, .slice v.row.A v.row.n v.row.c] 50) = w10 := ⟨_, rfl⟩
          have hb2 : Below w8.heap.size w8 w10 := by rw [← hw10]; exact below_al hb _
          have HIv10 : Hid (v.In w10) := Lib.hid (by rw [← hw10]; exact hi.after (below_one _ _))
          have HKv10 : Hid (BkS w10 w9.heap.size v) := Lib.hid (by rw [← hw10]; exact Bk.new _ _ _)
          have HDv : Hid (v.st = smO t2) := Lib.hid hd
          have HB10 := Lib.hid (below_via HB8.out hb2)
          have HIx10 : Hid (x.In w10) := Lib.hid (HIx8.out.after hb2)
          have HKx10 : Hid (BkS w10 w.heap.size x) := Lib.hid (Bk.after HKx8.out hb2 HKx8.out.lt)
          have HIy10 : Hid (y.In w10) := Lib.hid (HIy8.out.after hb2)
          have HKy10 : Hid (BkS w10 w4.heap.size y) := Lib.hid (Bk.after HKy8.out hb2 HKy8.out.lt)
          have HIz10 : Hid (z.In w10) := Lib.hid (HIz8.out.after hb2)
          have HKz10 : Hid (BkS w10 w6.heap.size z) := Lib.hid (Bk.after HKz8.out hb2 HKz8.out.lt)
          clear hi hd hb hb2
          rw [Hag.out.1]
          have zc0 : w10.cell? ⟨w6.heap.size, 0, none⟩ = some (.int .i64 z.k) := HKz10.out.cell 0
          have zc1 : w10.cell? ⟨w6.heap.size, 1, none⟩ = some (.string z.name) := HKz10.out.cell 1
          have zc2 : w10.cell? ⟨w6.heap.size, 2, none⟩ = some (.slice z.row.A z.row.n z.row.c) := HKz10.out.cell 2
          have zcl := HKz10.out.lt
          have vc0 : w10.cell? ⟨w9.heap.size, 0, none⟩ = some (.int .i64 v.k) := HKv10.out.cell 0
          have vc1 : w10.cell? ⟨w9.heap.size, 1, none⟩ = some (.string v.name) := HKv10.out.cell 1
          have vc2 : w10.cell? ⟨w9.heap.size, 2, none⟩ = some (.slice v.row.A v.row.n v.row.c) := HKv10.out.cell 2
          have vcl := HKv10.out.lt
          have HSm := Lib.hid (ssame_c z v w10 HIz10.out HIv10.out)
          rw [show stB z.st v.st = true from stB_iff.2 (by rw [HDv.out, Hag.out.2])] at HSm
          go_wp2_with fail
          refine (HSm.out).mono ?_
          rintro e w11 ⟨rfl, hb⟩
          have HB11 := Lib.hid (below_via HB10.out hb)
          have HIx11 : Hid (x.In w11) := Lib.hid (HIx10.out.after hb)
          have HKx11 : Hid (BkS w11 w.heap.size x) := Lib.hid (Bk.after HKx10.out hb HKx10.out.lt)
          have HIy11 : Hid (y.In w11) := Lib.hid (HIy10.out.after hb)
          have HKy11 : Hid (BkS w11 w4.heap.size y) := Lib.hid (Bk.after HKy10.out hb HKy10.out.lt)
          have HIz11 : Hid (z.In w11) := Lib.hid (HIz10.out.after hb)
          have HKz11 : Hid (BkS w11 w6.heap.size z) := Lib.hid (Bk.after HKz10.out hb HKz10.out.lt)
          have HIv11 : Hid (v.In w11) := Lib.hid (HIv10.out.after hb)
          have HKv11 : Hid (BkS w11 w9.heap.size v) := Lib.hid (Bk.after HKv10.out hb HKv10.out.lt)
          clear hb
          clear zc0 zc1 zc2 zcl
          clear vc0 vc1 vc2 vcl
          go_wp2
          go_ret
          exact ⟨rfl, HB11.out⟩
        · have zc0 : w7.cell? ⟨w6.heap.size, 0, none⟩ = some (.int .i64 z.k) := HKz7.out.cell 0
          have zc1 : w7.cell? ⟨w6.heap.size, 1, none⟩ = some (.string z.name) := HKz7.out.cell 1
          have zc2 : w7.cell? ⟨w6.heap.size, 2, none⟩ = some (.slice z.row.A z.row.n z.row.c) := HKz7.out.cell 2
          have zcl := HKz7.out.lt
          have hne : (errS l == 0) = false := by simpa using hf
          have HSm := Lib.hid (ssame_c z sm0 w7 HIz7.out (sm0_in _))
          rw [show stB z.st sm0.st = true from stB_iff.2 (by rw [HDz.out, errS_ne hf, sm0_st])] at HSm
          have hf3 : errS l = 60 ∨ errS l = 70 := by rcases hec with h | h | h; exact absurd h hf; exact .inl h; exact .inr h
          obtain ⟨E, hE⟩ : ∃ E, errS l = E := ⟨_, rfl⟩
          rw [hE] at hne hf3 ⊢
          clear hf hec hE
          go_wp2_with fail
          refine (HSm.out).mono ?_
          rintro e w8 ⟨rfl, hb⟩
          have HB8 := Lib.hid (below_via HB7.out hb)
          have HIx8 : Hid (x.In w8) := Lib.hid (HIx7.out.after hb)
          have HKx8 : Hid (BkS w8 w.heap.size x) := Lib.hid (Bk.after HKx7.out hb HKx7.out.lt)
          have HIy8 : Hid (y.In w8) := Lib.hid (HIy7.out.after hb)
          have HKy8 : Hid (BkS w8 w4.heap.size y) := Lib.hid (Bk.after HKy7.out hb HKy7.out.lt)
          have HIz8 : Hid (z.In w8) := Lib.hid (HIz7.out.after hb)
          have HKz8 : Hid (BkS w8 w6.heap.size z) := Lib.hid (Bk.after HKz7.out hb HKz7.out.lt)
          clear hb
          go_wp2
          go_ret
          exact ⟨rfl, HB8.out⟩
      · obtain ⟨hb1, hb2⟩ := Hback.out ht
        rw [hb1]
        have Hb2 := Lib.hid hb2
        obtain ⟨u0, hu0⟩ : ∃ u0, ba t = u0 := ⟨_, rfl⟩
        have hun : u0.toList.isEmpty = false := size_ne (by rw [← hu0]; show t.length ≠ 0; simpa using ht)
        rw [hu0]
        clear hu0 ht hb1 hb2 Hback
        have xc0 : w5.cell? ⟨w.heap.size, 0, none⟩ = some (.int .i64 x.k) := HKx5.out.cell 0
        have xc1 : w5.cell? ⟨w.heap.size, 1, none⟩ = some (.string x.name) := HKx5.out.cell 1
        have xc2 : w5.cell? ⟨w.heap.size, 2, none⟩ = some (.slice x.row.A x.row.n x.row.c) := HKx5.out.cell 2
        have xcl := HKx5.out.lt
        have yc0 : w5.cell? ⟨w4.heap.size, 0, none⟩ = some (.int .i64 y.k) := HKy5.out.cell 0
        have yc1 : w5.cell? ⟨w4.heap.size, 1, none⟩ = some (.string y.name) := HKy5.out.cell 1
        have yc2 : w5.cell? ⟨w4.heap.size, 2, none⟩ = some (.slice y.row.A y.row.n y.row.c) := HKy5.out.cell 2
        have ycl := HKy5.out.lt
        have HSm := Lib.hid (ssame_c x y w5 HIx5.out HIy5.out)
        rw [show stB x.st y.st = true from stB_iff.2 (by rw [HDy.out, Hb2.out])] at HSm
        go_wp2_with fail
        refine (HSm.out).mono ?_
        rintro e w6 ⟨rfl, hb⟩
        have HB6 := Lib.hid (below_via HB5.out hb)
        have HIx6 : Hid (x.In w6) := Lib.hid (HIx5.out.after hb)
        have HKx6 : Hid (BkS w6 w.heap.size x) := Lib.hid (Bk.after HKx5.out hb HKx5.out.lt)
        have HIy6 : Hid (y.In w6) := Lib.hid (HIy5.out.after hb)
        have HKy6 : Hid (BkS w6 w4.heap.size y) := Lib.hid (Bk.after HKy5.out hb HKy5.out.lt)
        clear hb
        clear xc0 xc1 xc2 xcl
        clear yc0 yc1 yc2 ycl
        rw [← Hs.out]
        go_wp2_with fail
        refine (sprsG l w6 (by have := Hl.out; unfold maxLen; exact this) (HG.out.at HB6.out)).mono ?_
        rintro e w7 ⟨z, rfl, hi, hd, hb⟩
        obtain ⟨w8, hw8⟩ : ∃ w8, w7.alloc (.cells #[.int .i64 z.k, .string z.name, .slice z.row.A z.row.n z.row.c] 50) = w8 := ⟨_, rfl⟩
        have hb2 : Below w6.heap.size w6 w8 := by rw [← hw8]; exact below_al hb _
        have HIz8 : Hid (z.In w8) := Lib.hid (by rw [← hw8]; exact hi.after (below_one _ _))
        have HKz8 : Hid (BkS w8 w7.heap.size z) := Lib.hid (by rw [← hw8]; exact Bk.new _ _ _)
        have HDz : Hid (z.st = smO l) := Lib.hid hd
        have HB8 := Lib.hid (below_via HB6.out hb2)
        have HIx8 : Hid (x.In w8) := Lib.hid (HIx6.out.after hb2)
        have HKx8 : Hid (BkS w8 w.heap.size x) := Lib.hid (Bk.after HKx6.out hb2 HKx6.out.lt)
        have HIy8 : Hid (y.In w8) := Lib.hid (HIy6.out.after hb2)
        have HKy8 : Hid (BkS w8 w4.heap.size y) := Lib.hid (Bk.after HKy6.out hb2 HKy6.out.lt)
        clear hi hd hb hb2
        have hec := errS_cases l
        by_cases hf : errS l = 0
        · have HP := Lib.hid (st_prn HDz.out hf)
          have Hf := Lib.hid hf
          rw [hf]
          clear hf hec
          have zc0 : w8.cell? ⟨w7.heap.size, 0, none⟩ = some (.int .i64 z.k) := HKz8.out.cell 0
          have zc1 : w8.cell? ⟨w7.heap.size, 1, none⟩ = some (.string z.name) := HKz8.out.cell 1
          have zc2 : w8.cell? ⟨w7.heap.size, 2, none⟩ = some (.slice z.row.A z.row.n z.row.c) := HKz8.out.cell 2
          have zcl := HKz8.out.lt
          go_wp2_with fail
          refine (sprintG z w8 (HG.out.at HB8.out) HIz8.out HP.out.1 HP.out.2.1 HP.out.2.2).mono ?_
          rintro e w9 ⟨t2, rfl, hp, hb⟩
          have Hp2 := Lib.hid hp
          clear hp
          have HB9 := Lib.hid (below_via HB8.out hb)
          have HIx9 : Hid (x.In w9) := Lib.hid (HIx8.out.after hb)
          have HKx9 : Hid (BkS w9 w.heap.size x) := Lib.hid (Bk.after HKx8.out hb HKx8.out.lt)
          have HIy9 : Hid (y.In w9) := Lib.hid (HIy8.out.after hb)
          have HKy9 : Hid (BkS w9 w4.heap.size y) := Lib.hid (Bk.after HKy8.out hb HKy8.out.lt)
          have HIz9 : Hid (z.In w9) := Lib.hid (HIz8.out.after hb)
          have HKz9 : Hid (BkS w9 w7.heap.size z) := Lib.hid (Bk.after HKz8.out hb HKz8.out.lt)
          clear hb
          clear zc0 zc1 zc2 zcl
          have Hag := Lib.hid (prs_again HDz.out Hf.out Hl2.out Hp2.out)
          go_wp2_with fail
          refine (sprsG t2 w9 (prs_len Hp2.out) (HG.out.at HB9.out)).mono ?_
          rintro e w10 ⟨v, rfl, hi, hd, hb⟩
          obtain ⟨w11, hw11⟩ : ∃ w11, w10.alloc (.cells #[.int .i64 v.k, .string v.name, .slice v.row.A v.row.n v.row.c] 50) = w11 := ⟨_, rfl⟩
          have hb2 : Below w9.heap.size w9 w11 := by rw [← hw11]; exact below_al hb _
          have HIv11 : Hid (v.In w11) := Lib.hid (by rw [← hw11]; exact hi.after (below_one _ _))
          have HKv11 : Hid (BkS w11 w10.heap.size v) := Lib.hid (by rw [← hw11]; exact Bk.new _ _ _)
          have HDv : Hid (v.st = smO t2) := Lib.hid hd
          have HB11 := Lib.hid (below_via HB9.out hb2)
          have HIx11 : Hid (x.In w11) := Lib.hid (HIx9.out.after hb2)
          have HKx11 : Hid (BkS w11 w.heap.size x) := Lib.hid (Bk.after HKx9.out hb2 HKx9.out.lt)
          have HIy11 : Hid (y.In w11) := Lib.hid (HIy9.out.after hb2)
          have HKy11 : Hid (BkS w11 w4.heap.size y) := Lib.hid (Bk.after HKy9.out hb2 HKy9.out.lt)
          have HIz11 : Hid (z.In w11) := Lib.hid (HIz9.out.after hb2)
          have HKz11 : Hid (BkS w11 w7.heap.size z) := Lib.hid (Bk.after HKz9.out hb2 HKz9.out.lt)
          clear hi hd hb hb2
          rw [Hag.out.1]
          have zc0 : w11.cell? ⟨w7.heap.size, 0, none⟩ = some (.int .i64 z.k) := HKz11.out.cell 0
          have zc1 : w11.cell? ⟨w7.heap.size, 1, none⟩ = some (.string z.name) := HKz11.out.cell 1
          have zc2 : w11.cell? ⟨w7.heap.size, 2, none⟩ = some (.slice z.row.A z.row.n z.row.c) := HKz11.out.cell 2
          have zcl := HKz11.out.lt
          have vc0 : w11.cell? ⟨w10.heap.size, 0, none⟩ = some (.int .i64 v.k) := HKv11.out.cell 0
          have vc1 : w11.cell? ⟨w10.heap.size, 1, none⟩ = some (.string v.name) := HKv11.out.cell 1
          have vc2 : w11.cell? ⟨w10.heap.size, 2, none⟩ = some (.slice v.row.A v.row.n v.row.c) := HKv11.out.cell 2
          have vcl := HKv11.out.lt
          have HSm := Lib.hid (ssame_c z v w11 HIz11.out HIv11.out)
          rw [show stB z.st v.st = true from stB_iff.2 (by rw [HDv.out, Hag.out.2])] at HSm
          go_wp2_with fail
          refine (HSm.out).mono ?_
          rintro e w12 ⟨rfl, hb⟩
          have HB12 := Lib.hid (below_via HB11.out hb)
          have HIx12 : Hid (x.In w12) := Lib.hid (HIx11.out.after hb)
          have HKx12 : Hid (BkS w12 w.heap.size x) := Lib.hid (Bk.after HKx11.out hb HKx11.out.lt)
          have HIy12 : Hid (y.In w12) := Lib.hid (HIy11.out.after hb)
          have HKy12 : Hid (BkS w12 w4.heap.size y) := Lib.hid (Bk.after HKy11.out hb HKy11.out.lt)
          have HIz12 : Hid (z.In w12) := Lib.hid (HIz11.out.after hb)
          have HKz12 : Hid (BkS w12 w7.heap.size z) := Lib.hid (Bk.after HKz11.out hb HKz11.out.lt)
          have HIv12 : Hid (v.In w12) := Lib.hid (HIv11.out.after hb)
          have HKv12 : Hid (BkS w12 w10.heap.size v) := Lib.hid (Bk.after HKv11.out hb HKv11.out.lt)
          clear hb
          clear zc0 zc1 zc2 zcl
          clear vc0 vc1 vc2 vcl
          go_wp2
          go_ret
          exact ⟨rfl, HB12.out⟩
        · have zc0 : w8.cell? ⟨w7.heap.size, 0, none⟩ = some (.int .i64 z.k) := HKz8.out.cell 0
          have zc1 : w8.cell? ⟨w7.heap.size, 1, none⟩ = some (.string z.name) := HKz8.out.cell 1
          have zc2 : w8.cell? ⟨w7.heap.size, 2, none⟩ = some (.slice z.row.A z.row.n z.row.c) := HKz8.out.cell 2
          have zcl := HKz8.out.lt
          have hne : (errS l == 0) = false := by simpa using hf
          have HSm := Lib.hid (ssame_c z sm0 w8 HIz8.out (sm0_in _))
          rw [show stB z.st sm0.st = true from stB_iff.2 (by rw [HDz.out, errS_ne hf, sm0_st])] at HSm
          have hf3 : errS l = 60 ∨ errS l = 70 := by rcases hec with h | h | h; exact absurd h hf; exact .inl h; exact .inr h
          obtain ⟨E, hE⟩ : ∃ E, errS l = E := ⟨_, rfl⟩
          rw [hE] at hne hf3 ⊢
          clear hf hec hE
          go_wp2_with fail
          refine (HSm.out).mono ?_
          rintro e w9 ⟨rfl, hb⟩
          have HB9 := Lib.hid (below_via HB8.out hb)
          have HIx9 : Hid (x.In w9) := Lib.hid (HIx8.out.after hb)
          have HKx9 : Hid (BkS w9 w.heap.size x) := Lib.hid (Bk.after HKx8.out hb HKx8.out.lt)
          have HIy9 : Hid (y.In w9) := Lib.hid (HIy8.out.after hb)
          have HKy9 : Hid (BkS w9 w4.heap.size y) := Lib.hid (Bk.after HKy8.out hb HKy8.out.lt)
          have HIz9 : Hid (z.In w9) := Lib.hid (HIz8.out.after hb)
          have HKz9 : Hid (BkS w9 w7.heap.size z) := Lib.hid (Bk.after HKz8.out hb HKz8.out.lt)
          clear hb
          go_wp2
          go_ret
          exact ⟨rfl, HB9.out⟩
  · have hd2 : decide ((s.size : Int) > 2000) = true := decide_eq_true (by omega)
    clear h2
    go_wp2_with fail
    refine (fixed8_c w1 (HG.out.at HB1.out)).mono ?_
    rintro e w2 ⟨rfl, hb⟩
    have HB2 := Lib.hid (below_via HB1.out hb)
    have HIx2 : Hid (x.In w2) := Lib.hid (HIx1.out.after hb)
    have HKx2 : Hid (BkS w2 w.heap.size x) := Lib.hid (Bk.after HKx1.out hb HKx1.out.lt)
    clear hb
    go_wp2
    go_ret
    exact ⟨rfl, HB2.out⟩
end Go.Proofs.YtjgpmnffagdhlaaGreatDoor
namespace Go.Proofs.YtjgpmnffagdhlaaGreatDoor
open Go Go.RowKit
set_option maxRecDepth 100000
def bodyT : Nat → List UInt8
  | 0 => [112, 117, 116, 32, 116, 32, 40]
  | k + 1 => (if k = 0 then bodyT k else bodyT k ++ [44]) ++ Lib.itoa (k : Int)
def rowT8 (n : Nat) : List Val := (List.range n).map fun (i : Nat) => iv (i : Int)
def chkT (n : Nat) : Bool := (errS (bodyT n ++ [41]) == if 40 < n then 70 else 0) && (decide (40 < n) || cmpL (smO (bodyT n ++ [41])).row (rowT8 n) == 0)
theorem len_all : (List.range 81).all (fun k => decide ((bodyT k).length ≤ 1000)) = true := by kernel_rfl
theorem chk_all : (List.range 81).all chkT = true := by kernel_rfl
theorem len_T {n : Nat} (h : n ≤ 80) : (bodyT n).length ≤ 1000 := by
  have := List.all_eq_true.1 len_all n (List.mem_range.2 (by omega))
  exact of_decide_eq_true this
theorem chk_T {n : Nat} (h : n ≤ 80) : (40 < n → errS (bodyT n ++ [41]) = 70) ∧ (n ≤ 40 → errS (bodyT n ++ [41]) = 0 ∧ (smO (bodyT n ++ [41])).row = rowT8 n) := by
  have := List.all_eq_true.1 chk_all n (List.mem_range.2 (by omega))
  unfold chkT at this
  simp only [Bool.and_eq_true, beq_iff_eq, Bool.or_eq_true, decide_eq_true_eq, cmpL_iff] at this
  refine ⟨fun h4 => ?_, fun h4 => ⟨?_, ?_⟩⟩
  · rw [this.1, if_pos h4]
  · rw [this.1, if_neg (by omega)]
  · rcases this.2 with h5 | h5
    · omega
    · exact h5
theorem rowT8_len (n : Nat) : (rowT8 n).length = n := by unfold rowT8; simp
theorem rowT8_last (p : Nat) : (rowT8 (p + 1))[p]? = some (iv (p : Int)) := by unfold rowT8; simp
end Go.Proofs.YtjgpmnffagdhlaaGreatDoor
namespace Go.Proofs.YtjgpmnffagdhlaaGreatDoor
open Go Go.RowKit
set_option maxRecDepth 100000
section
attribute [local go_sem ↓] run_eqV
set_option maxHeartbeats 16000000 in
theorem rows8_w (n : Int) (w : World) (h6 : I64 n) (hG : Gs w.heap.size w) :
    Calls Tryz.prog 11 #[.int .i64 n] w fun e w' => e = .returned (.bool true) ∧ Below w.heap.size w w' := by
  unfold I64 at h6
  have HG := Lib.hid hG
  have HB0 := Lib.hid (Below.refl w.heap.size w)
  clear hG
  by_cases hneg : n < 0
  · have hd : decide (n < 0) = true := decide_eq_true hneg
    clear hneg
    go_enter Tryz.func11, Tryz.ntmps11
    go_wp2_with fail
    refine (fixed8_c w (HG.out.at HB0.out)).mono ?_
    rintro e w1 ⟨rfl, hb⟩
    have HB1 := Lib.hid (below_via HB0.out hb)
    clear hb
    go_wp2_with fail
    refine (fixed8_c w1 (HG.out.at HB1.out)).mono ?_
    rintro e w2 ⟨rfl, hb⟩
    have HB2 := Lib.hid (below_via HB1.out hb)
    clear hb
    go_wp2
    go_ret
    exact ⟨rfl, HB2.out⟩
  by_cases hbig : 80 < n
  · have hd : decide (n < 0) = false := decide_eq_false hneg
    have hd2 : decide (n > 80) = true := decide_eq_true hbig
    clear hneg hbig
    go_enter Tryz.func11, Tryz.ntmps11
    go_wp2_with fail
    refine (fixed8_c w (HG.out.at HB0.out)).mono ?_
    rintro e w1 ⟨rfl, hb⟩
    have HB1 := Lib.hid (below_via HB0.out hb)
    clear hb
    go_wp2_with fail
    refine (fixed8_c w1 (HG.out.at HB1.out)).mono ?_
    rintro e w2 ⟨rfl, hb⟩
    have HB2 := Lib.hid (below_via HB1.out hb)
    clear hb
    go_wp2
    go_ret
    exact ⟨rfl, HB2.out⟩
  obtain ⟨m, rfl⟩ : ∃ m : Nat, n = (m : Int) := ⟨n.toNat, by omega⟩
  have hm : m ≤ 80 := by omega
  have hd : decide ((m : Int) < 0) = false := decide_eq_false hneg
  have hd2 : decide ((m : Int) > 80) = false := decide_eq_false hbig
  clear hneg hbig h6
  go_enter Tryz.func11, Tryz.ntmps11
  go_wp2_with fail
  refine (fixed8_c w (HG.out.at HB0.out)).mono ?_
  rintro e w1 ⟨rfl, hb⟩
  have HB1 := Lib.hid (below_via HB0.out hb)
  clear hb
  go_wp2_with fail
  go_loopw [4, 3] (fun i v wr => ∃ q : Nat, q ≤ m ∧ i = .int .i64 q ∧ v = .string (ba (bodyT q)) ∧ Hid (Below w.heap.size w wr)) (fun i _ _ => m - (intOf i).toNat)
  case atStart => exact ⟨0, Nat.zero_le _, rfl, rfl, HB1⟩
  case round =>
    obtain ⟨q, hq, rfl, rfl, hb⟩ := hrel
    by_cases hlt : q < m
    · have hl1 := len_T (n := q) (by omega)
      have hl2 := len_T (n := q + 1) (by omega)
      have HS := Lib.hid (fun u : World => rsigned_c (q : Int) u (by omega))
      by_cases h0 : q = 0
      · subst h0
        have c2 : ∀ u, (Op.stringOp .add (ba (bodyT 0)) ⟨(Lib.itoa ((0 : Nat) : Int)).toArray⟩).run Tryz.prog u = .ok (.string (ba (bodyT (0 + 1)))) u := fun u => cat_run u (bodyT 0) (Lib.itoa ((0 : Nat) : Int)) (by rw [show bodyT (0 + 1) = bodyT 0 ++ Lib.itoa ((0 : Nat) : Int) from rfl, List.length_append] at hl2; omega)
        have HN : Hid (ba (bodyT (0 + 1)) = ba (bodyT (0 + 1))) := Lib.hid rfl
        obtain ⟨T0, hT0⟩ : ∃ T, ba (bodyT 0) = T := ⟨_, rfl⟩
        obtain ⟨T1, hT1⟩ : ∃ T, ba (bodyT (0 + 1)) = T := ⟨_, rfl⟩
        obtain ⟨I, hI⟩ : ∃ T : ByteArray, (⟨(Lib.itoa ((0 : Nat) : Int)).toArray⟩ : ByteArray) = T := ⟨_, rfl⟩
        rw [hT0, hT1, hI] at c2
        rw [hI] at HS
        rw [hT0]
        have HT1 := Lib.hid hT1
        clear hT0 hT1 hI hl1 hl2 HN
        go_wp2_with fail
        refine (HS.out _).mono ?_
        rintro e w5 ⟨rfl, hb5⟩
        have HB5 := Lib.hid (below_via hb.out hb5)
        clear hb5 HS hb
        go_wp2
        go_roundw
        case rel => exact ⟨0 + 1, by omega, by go_num, by rw [HT1.out], HB5⟩
        case measure => simp [intOf]; omega
      · have hq0 : 0 < q := by omega
        have hbt : bodyT (q + 1) = (bodyT q ++ [44]) ++ Lib.itoa (q : Int) := by rw [bodyT, if_neg h0]
        have hl3 : (Lib.itoa (q : Int)).length ≤ 1000 := by rw [hbt, List.length_append] at hl2; omega
        have c1 : ∀ u, (Op.stringOp .add (ba (bodyT q)) ⟨#[44]⟩).run Tryz.prog u = .ok (.string (ba (bodyT q ++ [44]))) u := fun u => cat_run u (bodyT q) [44] (by simp; omega)
        have c2 : ∀ u, (Op.stringOp .add (ba (bodyT q ++ [44])) ⟨(Lib.itoa (q : Int)).toArray⟩).run Tryz.prog u = .ok (.string (ba (bodyT (q + 1)))) u := fun u => by rw [hbt]; exact cat_run u (bodyT q ++ [44]) (Lib.itoa (q : Int)) (by simp; omega)
        obtain ⟨T0, hT0⟩ : ∃ T, ba (bodyT q) = T := ⟨_, rfl⟩
        obtain ⟨T1, hT1⟩ : ∃ T, ba (bodyT (q + 1)) = T := ⟨_, rfl⟩
        obtain ⟨T2, hT2⟩ : ∃ T, ba (bodyT q ++ [44]) = T := ⟨_, rfl⟩
        obtain ⟨I, hI⟩ : ∃ T : ByteArray, (⟨(Lib.itoa (q : Int)).toArray⟩ : ByteArray) = T := ⟨_, rfl⟩
        rw [hT0, hT2] at c1
        rw [hT1, hT2, hI] at c2
        rw [hI] at HS
        rw [hT0]
        have HT1 := Lib.hid hT1
        clear hT0 hT1 hT2 hI hl1 hl2 hl3 hbt h0
        go_wp2_with fail
        refine (HS.out _).mono ?_
        rintro e w5 ⟨rfl, hb5⟩
        have HB5 := Lib.hid (below_via hb.out hb5)
        clear hb5 HS hb
        go_wp2
        go_roundw
        case rel => exact ⟨q + 1, by omega, by go_num, by rw [HT1.out], HB5⟩
        case measure => simp [intOf]; omega
    · obtain rfl : q = m := by omega
      have HBe := hb
      clear hb
      have hl1 := len_T hm
      have HC := Lib.hid (chk_T hm)
      have c1 : ∀ u, (Op.stringOp .add (ba (bodyT q)) ⟨#[41]⟩).run Tryz.prog u = .ok (.string (ba (bodyT q ++ [41]))) u := fun u => cat_run u (bodyT q) [41] (by simp; omega)
      obtain ⟨L, hL⟩ : ∃ L, bodyT q ++ [41] = L := ⟨_, rfl⟩
      have HLl : Hid (L.length ≤ 1001) := Lib.hid (by rw [← hL]; simp; omega)
      rw [hL] at c1 HC
      obtain ⟨T0, hT0⟩ : ∃ T, ba (bodyT q) = T := ⟨_, rfl⟩
      rw [hT0] at c1 ⊢
      clear hT0 hL hl1
      go_wp2_with fail
      refine (sprsG L wr (by have := HLl.out; unfold maxLen; omega) (HG.out.at HBe.out)).mono ?_
      rintro e w31 ⟨x, rfl, hi, hd, hb⟩
      obtain ⟨w32, hw32⟩ : ∃ w32, w31.alloc (.cells #[.int .i64 x.k, .string x.name, .slice x.row.A x.row.n x.row.c] 50) = w32 := ⟨_, rfl⟩
      have hb2 : Below wr.heap.size wr w32 := by rw [← hw32]; exact below_al hb _
      have HIx32 : Hid (x.In w32) := Lib.hid (by rw [← hw32]; exact hi.after (below_one _ _))
      have HKx32 : Hid (BkS w32 w31.heap.size x) := Lib.hid (by rw [← hw32]; exact Bk.new _ _ _)
      have HDx : Hid (x.st = smO L) := Lib.hid hd
      have HB32 := Lib.hid (below_via HBe.out hb2)
      clear hi hd hb hb2
      by_cases h4 : 40 < q
      · have hd4 : decide ((q : Int) > 40) = true := decide_eq_true (by omega)
        rw [HC.out.1 h4]
        clear h4 HC
        go_wp2
        go_ret
        exact ⟨rfl, HB32.out⟩
      · have hd4 : decide ((q : Int) > 40) = false := decide_eq_false (by omega)
        have hr := (HC.out.2 (by omega)).2
        rw [(HC.out.2 (by omega)).1]
        rw [← HDx.out] at hr
        have hr : x.row.xs = rowT8 q := hr
        have hxn : x.row.n = q := by rw [← HIx32.out.len, hr, rowT8_len]
        obtain ⟨k, nm, ⟨A, n, c, xs⟩⟩ := x
        have hr : xs = rowT8 q := hr
        have hxn : n = q := hxn
        subst hxn hr
        clear HC h4
        cases n with
        | zero =>
          have xc0 : w32.cell? ⟨w31.heap.size, 0, none⟩ = some (.int .i64 k) := HKx32.out.cell 0
          have xc1 : w32.cell? ⟨w31.heap.size, 1, none⟩ = some (.string nm) := HKx32.out.cell 1
          have xc2 : w32.cell? ⟨w31.heap.size, 2, none⟩ = some (.slice A 0 c) := HKx32.out.cell 2
          have xcl := HKx32.out.lt
          go_wp2_with fail
          go_region
          go_wp2
          go_ret
          exact ⟨rfl, HB32.out.drew⟩
        | succ p =>
          obtain ⟨b, off, v, rfl, hblt, hv, hvc⟩ := HIx32.out.sl.atS (k := p) (by rw [rowT8_len]; omega)
          obtain rfl : v = iv (p : Int) := by rw [rowT8_last] at hv; exact (Option.some.inj hv).symm
          have v0 := hvc 0 _ rfl
          have v1 := hvc 1 _ rfl
          have v2 := hvc 2 _ rfl
          rw [Nat.add_zero] at v0
          clear hv hvc
          have xc0 : w32.cell? ⟨w31.heap.size, 0, none⟩ = some (.int .i64 k) := HKx32.out.cell 0
          have xc1 : w32.cell? ⟨w31.heap.size, 1, none⟩ = some (.string nm) := HKx32.out.cell 1
          have xc2 : w32.cell? ⟨w31.heap.size, 2, none⟩ = some (.slice (some ⟨b, off, none⟩) (p + 1) c) := HKx32.out.cell 2
          have xcl := HKx32.out.lt
          have hEq : Val.eq ⟨(iv (p : Int)).k, (iv (p : Int)).n, (iv (p : Int)).s⟩ ⟨(iv (p : Int)).k, (iv (p : Int)).n, (iv (p : Int)).s⟩ = true := Val.eq_iff.2 rfl
          have HSt : Hid (∀ wy, Below w32.heap.size w32 wy → (wy.cell? ⟨w31.heap.size, 2, none⟩ = some (.slice (some ⟨b, off, none⟩) (p + 1) c) ∧ wy.cell? ⟨b, off + p * 3, none⟩ = some (.int .i64 (iv (p : Int)).k) ∧ wy.cell? ⟨b, off + p * 3 + 1, none⟩ = some (.int .i64 (iv (p : Int)).n) ∧ wy.cell? ⟨b, off + p * 3 + 2, none⟩ = some (.string (iv (p : Int)).s))) := Lib.hid (fun wy h => ⟨(h.cell (p := ⟨w31.heap.size, 2, none⟩) xcl).trans xc2, (h.cell (p := ⟨b, off + p * 3, none⟩) hblt).trans v0, (h.cell (p := ⟨b, off + p * 3 + 1, none⟩) hblt).trans v1, (h.cell (p := ⟨b, off + p * 3 + 2, none⟩) hblt).trans v2⟩)
          have hp40 : ¬ (40 < (p : Int) + 1) := by have := of_decide_eq_false hd4; omega
          have hp0 : (0 : Int) ≤ p := by omega
          have hp1 : (p : Int) < (p : Int) + 1 := by omega
          have hp2 : (p : Int) ≤ 80 := by omega
          have hw1 : IntKind.i64.wrap ((p : Int) + 1 - 1) = p := by rw [IntKind.wrap_i64]; omega
          have hw2 : IntKind.i64.wrap (p : Int) = p := by rw [IntKind.wrap_i64]; omega
          clear hr hd4
          go_wp2_with fail
          go_region_held3 (fun w' => w'.cell? ⟨w31.heap.size, 2, none⟩ = some (.slice (some ⟨b, off, none⟩) (p + 1) c) ∧ w'.cell? ⟨b, off + p * 3, none⟩ = some (.int .i64 (iv (p : Int)).k) ∧ w'.cell? ⟨b, off + p * 3 + 1, none⟩ = some (.int .i64 (iv (p : Int)).n) ∧ w'.cell? ⟨b, off + p * 3 + 2, none⟩ = some (.string (iv (p : Int)).s))
            (first
              | exact HSt.out _ HbS.out
              | go_keep)
            (first
              | (go_at_call 28
                 refine (rint_c (p : Int) _).mono ?_
                 rintro e w40 ⟨rfl, hb⟩
                 have HbS := Lib.hid (below_via (Below.refl w32.heap.size w32).drew hb)
                 clear hb))
          all_goals
            have HB40 := Lib.hid (below_via HB32.out HbS.out)
            clear HSt HbS
            go_wp2
            go_ret
            exact ⟨rfl, HB40.out⟩
end
end Go.Proofs.YtjgpmnffagdhlaaGreatDoor
namespace Go.Proofs.YtjgpmnffagdhlaaGreatDoor
open Go Go.RowKit Go.ChangeShapes Go.WideShapes Go.ChangeAt Go.Joins Go.Deep
set_option maxRecDepth 100000
theorem own : ownKnob Tryz.prog.godebug = none := by kernel_rfl
theorem laidOut : laidOutB Tryz.prog = true := by kernel_rfl
section
variable {H : Type} {enc : TypeId × Value → H}
/-- Arguments read behind the call as they read before. -/
theorem trodAll_below {P : Program} (hl : laidOutB P = true) {W W' : World} (hb : Below W.heap.size W W') (ts : List TypeId) : ∀ (vs : List Value) (ds : List (DataW H)) (ps : List MemPlace), (ts.all fun t => P.readableRec t && decide (t < P.types.size)) = true →
    DataW.TrodAll enc P W 0 (fun _ => true) true ts vs ds ps → (∀ x ∈ ps, x.block < W.heap.size) → DataW.TrodAll enc P W' 0 (fun b => decide (b < W.heap.size)) true ts vs ds ps := by
  induction ts with
  | nil =>
    intro vs ds ps _ h _
    cases vs <;> cases ds <;> first | exact h | exact h.elim
  | cons t ts ih =>
    intro vs ds ps ht h hlt
    cases vs with
    | nil => cases ds <;> exact h.elim
    | cons v vs =>
      cases ds with
      | nil => exact h.elim
      | cons d ds =>
        obtain ⟨p, q, h1, h2, rfl⟩ := h
        simp only [List.all_cons, Bool.and_eq_true, decide_eq_true_eq] at ht
        exact ⟨p, q, Below.trod hl ht.1.1 ht.1.2 h1 hb (fun x hx => hlt x (List.mem_append_left _ hx)), ih vs ds q ht.2 h2 (fun x hx => hlt x (List.mem_append_right _ hx)), rfl⟩
/-- THE LAW's POST: it answered true, and turned nothing that was there. -/
theorem law_post {f : Func} {s : ChangeSpec} {W W' : World} {args : Array Value} {ds gs : List (DataW H)} {before : List MemPlace}
    (hW : DataW.Whole enc Tryz.prog f.params.toList s.vars false W args.toList ds gs before) (hb : Below W.heap.size W W') (hvars : s.vars = []) (hp : (f.params.toList.all fun t => Tryz.prog.readableRec t && decide (t < Tryz.prog.types.size)) = true)
    (hr : f.resultTypes = #[4]) (hs : s.fn H (ds ++ gs) = { results := [.lit (.bool true)], args := ds }) : s.post enc Tryz.prog f false true false false W args (.bool true) W' := by
  have hlt : ∀ p ∈ before, p.block < W.heap.size := fun p hp => hW.lt p hp
  have hW0 := hW
  obtain ⟨p, q, hA, hV, rfl, _, _⟩ := hW
  rw [hvars] at hV
  obtain ⟨rfl, rfl⟩ := trodVars_none hV
  refine ⟨ds, [], _, [], p, [], hW0, ?_, ?_, ?_, ?_, fun h => by cases h⟩
  · rw [hs, hr]
    exact trodAll_mk1 (shut_bool Tryz.underlying4 _)
  · rw [hs]
    exact trodAll_below laidOut hb _ _ _ _ hp hA (fun x hx => hlt x (List.mem_append_left _ hx))
  · rw [hs, hvars]; rfl
  · exact hb.frame _
end
end Go.Proofs.YtjgpmnffagdhlaaGreatDoor
namespace Go.Proofs.YtjgpmnffagdhlaaGreatDoor
open Go Go.RowKit Go.ChangeShapes Go.WideShapes Go.ChangeAt Go.Joins Go.Deep
set_option maxRecDepth 100000
section
variable {H : Type} {enc : TypeId × Value → H}
/-- Cells that read as a slice, by how one element of it reads. -/
theorem slice_cells {α : Type} [Nonempty α] {W : World} {T E : TypeId} {S : Nat} (hT : Tryz.prog.underlying T = some (.slice E)) (hS : Tryz.prog.cellsOf E = S) (hS0 : 0 < S) (rd : α → List Value) (hrd : ∀ x, (rd x).length = S) (Q : α → Prop)
    (each : ∀ (cs' : List Value) (n : Nat) (z : DataW H × List MemPlace), DataW.trod enc Tryz.prog W 0 (fun _ => true) true n E cs' = some z → ∃ x : α, cs' = rd x ∧ Q x)
    {fuel : Nat} {cs : List Value} {z : DataW H × List MemPlace} (hf : DataW.trod enc Tryz.prog W 0 (fun _ => true) true fuel T cs = some z) :
    ∃ (A : Option Addr) (n c : Nat) (xs : List α), cs = [.slice A n c] ∧ xs.length = n ∧ n ≤ maxLen ∧ n ≤ c ∧ SlG W A S rd xs ∧ ∀ x ∈ xs, Q x := by
  rcases open_slice hT hf with ⟨hcs, _⟩ | ⟨a, len, cap, m, n, D, Pl, hcs, _, hl, hm, hmm, _, hi⟩
  · subst hcs
    exact ⟨none, 0, 0, [], rfl, rfl, Nat.zero_le _, Nat.zero_le _, .inl rfl, (fun x h => by cases h)⟩
  · subst hcs
    have hm' : m = cap := by rw [hmm]; rfl
    have each' : ∀ i, i < len → ∃ x : α, (∀ j u, (rd x)[j]? = some u → W.cell? (a.add (i * S + j)) = some u) ∧ Q x := by
      intro i hil
      obtain ⟨cs', hc, ht'⟩ := hi i (by omega)
      obtain ⟨x, rfl, hx⟩ := each cs' n _ ht'
      rw [hS] at hc
      obtain ⟨_, hcl, hat⟩ := World.cells?_some hc
      refine ⟨x, fun j u hju => ?_, hx⟩
      have hj : j < S := by
        have := (List.getElem?_eq_some_iff.1 hju).1
        rw [hrd] at this
        exact this
      have := hat j hj
      rw [← Go.Deep.add_add]
      rw [this]
      exact hju
    rcases Nat.eq_zero_or_pos len with h0 | h0
    · subst h0
      exact ⟨some a, 0, cap, [], rfl, rfl, Nat.zero_le _, Nat.zero_le _, .inl rfl, (fun x h => by cases h)⟩
    · have first : ∃ x u, (rd x)[0]? = some u ∧ W.cell? (a.add (0 * S + 0)) = some u := by
        obtain ⟨x, hc, _⟩ := each' 0 h0
        have : (rd x)[0]? = some ((rd x)[0]'(by rw [hrd]; exact hS0)) := List.getElem?_eq_getElem _
        exact ⟨x, _, this, hc 0 _ this⟩
      have hspot : a.spot = none := by
        obtain ⟨x, u, _, hc⟩ := first
        simpa [Addr.add] using World.cell?_spot hc
      have ha : a = ⟨a.block, a.off, none⟩ := by cases a; simp at hspot; rw [hspot]
      have hadd : ∀ j, a.add j = ⟨a.block, a.off + j, none⟩ := fun j => by
        rw [ha]; unfold Addr.add; split
        · rename_i e; subst e; rfl
        · rfl
      refine ⟨some a, len, cap, (List.range len).map fun i => if h : i < len then Classical.choose (each' i h) else Classical.choice inferInstance, rfl, by simp, by omega, hl, .inr ⟨a.block, a.off, by rw [← ha], ?_, ?_⟩, ?_⟩
      · obtain ⟨x, u, _, hc⟩ := first
        rw [hadd] at hc
        exact World.block_lt_of_cell? W ⟨a.block, a.off + (0 * S + 0), none⟩ hc
      · intro i x hx j u hju
        have hil : i < len := by
          have := (List.getElem?_eq_some_iff.1 hx).1
          simpa using this
        have hx' : Classical.choose (each' i hil) = x := by
          rw [List.getElem?_map, List.getElem?_range hil] at hx
          simpa [hil] using hx
        have hc := (Classical.choose_spec (each' i hil)).1
        rw [hx'] at hc
        have := hc j u hju
        rw [hadd, ← Nat.add_assoc] at this
        exact this
      · intro x hx
        obtain ⟨i, hi, rfl⟩ := List.mem_map.1 hx
        have hil : i < len := List.mem_range.1 hi
        rw [dif_pos hil]
        exact (Classical.choose_spec (each' i hil)).2
end
end Go.Proofs.YtjgpmnffagdhlaaGreatDoor
namespace Go.Proofs.YtjgpmnffagdhlaaGreatDoor
open Go Go.RowKit
set_option maxRecDepth 100000
section
attribute [local go_sem ↓] run_eqC
end
end Go.Proofs.YtjgpmnffagdhlaaGreatDoor
namespace Go.Proofs.YtjgpmnffagdhlaaGreatDoor
open Go Go.RowKit
set_option maxRecDepth 100000
end Go.Proofs.YtjgpmnffagdhlaaGreatDoor
namespace Go.Proofs.YtjgpmnffagdhlaaGreatDoor
open Go Go.RowKit
set_option maxRecDepth 100000
attribute [local go_sem ↓] Go.wp_at_zero Go.wp_at_succ
/-- How many parts there are, as a program's int: the sum may wrap. -/
def Dm.z0 (x : Dm) : Int := wrap64 (wrap64 (wrap64 (wrap64 (x.t.cols.n + x.t.chks.n) + x.v.pick.n) + x.v.aggs.n) + x.v.whr.n)
def stepZ (z : Int) (e : Sx Nd) : Int := wrap64 (z + e.n)
def Dm.parts (x : Dm) : Int := x.t.chks.xs.foldl stepZ x.z0
end Go.Proofs.YtjgpmnffagdhlaaGreatDoor
namespace Go.Proofs.YtjgpmnffagdhlaaGreatDoor
open Go Go.RowKit
set_option maxRecDepth 100000
/-- Numbers of 64 bits, all of them. -/
def Nd.Z (x : Nd) : Prop := I64 x.n ∧ I64 x.v.n
structure Dm.Z (x : Dm) : Prop where
  chks : ∀ e ∈ x.t.chks.xs, ∀ y ∈ e.xs, y.Z
  whr : ∀ y ∈ x.v.whr.xs, y.Z
  on0 : I64 x.v.on0
  on1 : I64 x.v.on1
  pick : ∀ n ∈ x.v.pick.xs, I64 n
  aggs : ∀ a ∈ x.v.aggs.xs, I64 a.col
end Go.Proofs.YtjgpmnffagdhlaaGreatDoor
namespace Go.Proofs.YtjgpmnffagdhlaaGreatDoor
open Go Go.RowKit Go.ChangeShapes Go.WideShapes Go.ChangeAt Go.Joins Go.Deep Go.Shelf
set_option maxRecDepth 100000
/-- The length that the library's search names: some number. -/
theorem maxlen_of {W : World} (h : W.ShapedOpen Tryz.prog) : ∃ m : Int, W.cell? ⟨1, 0, none⟩ = some (.int .i64 m) := Tryz.laysM155.s1_3 W h
theorem star : "*" ++ "errors.errorString" = "*errors.errorString" := by decide
/-- The one row of that name. -/
theorem row_err (u : TypeId) (h : Tryz.prog.typeName? 3 u = some "*errors.errorString") : u = 233 :=
  typeName_ptr_named (nm := "errors.errorString") (by rw [star]; kernel_rfl) (by kernel_rfl) (by decide) u (by rw [star]; exact h)
theorem glt_of {W : World} (hT : Lib.TabIs Tryz.prog W "internal/strconv.uint64pow10" .u64 Lib.pow10Tab) : 2 < W.heap.size := by
  unfold Lib.TabIs World.var? at hT
  have hn : Tryz.prog.globalNamed "internal/strconv.uint64pow10" = some 2 := by kernel_rfl
  rw [hn] at hT
  rcases Nat.lt_or_ge 2 W.heap.size with hlt | hge
  · exact hlt
  · simp only [Option.bind_some, Array.getElem?_eq_none hge] at hT
    cases hT
theorem pow_of8 {W : World} (h : laidMet Tryz.prog Rows.stmtBackRow.laid W) : Lib.TabIs Tryz.prog W "internal/strconv.uint64pow10" .u64 Lib.pow10Tab := by
  have hmem : ("internal/strconv.uint64pow10", Rows.laid_internal_strconv_uint64pow10) ∈ Rows.stmtBackRow.laid := .tail _ (.tail _ (.head _))
  obtain ⟨g, t, cs, fuel, p, hg, ht, hvar, hd⟩ := Lib.laidMet.reads h hmem
  obtain rfl := Option.some.inj ((show Tryz.prog.globalNamed "internal/strconv.uint64pow10" = some 2 by kernel_rfl).symm.trans hg)
  obtain rfl := Option.some.inj ((show (Tryz.prog.globals[2]?).map (·.type) = some 213 by kernel_rfl).symm.trans ht)
  unfold Lib.TabIs
  rw [hvar, ← Lib.cells_of_tab (zs := Lib.pow10Tab) Tryz.underlying213 Tryz.underlying89 (by kernel_rfl) (by kernel_rfl) hd]
theorem gl_of8 {W : World} (hL : laidMetH Tryz.prog Rows.stmtBackRow.laid W) (hsh : W.ShapedOpen Tryz.prog) : GL W := by
  rw [MakeChecks.laidMetH_plain _ _ _ (by kernel_rfl)] at hL
  have hT := pow_of8 hL
  have hm := maxlen_of hsh
  have gS : Tryz.prog.globalNamed "strconv.ErrSyntax" = some 5 := by kernel_rfl
  have gR : Tryz.prog.globalNamed "strconv.ErrRange" = some 6 := by kernel_rfl
  have tS : (Tryz.prog.globals[5]?).map (·.type) = some 120 := by kernel_rfl
  have tR : (Tryz.prog.globals[6]?).map (·.type) = some 120 := by kernel_rfl
  obtain ⟨a0, s0, hv0, -, -, -⟩ := laid_sentinel hL.tail.tail.tail.tail gR tR Tryz.underlying120 row_err Tryz.underlying233 Tryz.underlying235 rfl rfl Tryz.underlying9 (by kernel_rfl) (by kernel_rfl)
  obtain ⟨a1, s1, hv1, -, -, -⟩ := laid_sentinel hL.tail.tail.tail.tail.tail gS tS Tryz.underlying120 row_err Tryz.underlying233 Tryz.underlying235 rfl rfl Tryz.underlying9 (by kernel_rfl) (by kernel_rfl)
  have hc0 := World.var?_cell gR hv0 0
  have hc1 := World.var?_cell gS hv1 0
  obtain ⟨m, hm'⟩ := hm
  exact ⟨⟨⟨m, hm'⟩, hT, glt_of hT⟩, ⟨_, _, hv1⟩, ⟨_, _, hv0⟩, ⟨World.block_lt_of_cell? _ _ hm', glt_of hT, World.block_lt_of_cell? _ _ (by simpa using hc1), World.block_lt_of_cell? _ _ (by simpa using hc0)⟩⟩
/-- The table of words. -/
theorem words_of8 {W : World} (h : laidMetH Tryz.prog Rows.stmtBackRow.laid W) : OpT W := by
  rw [MakeChecks.laidMetH_plain _ _ _ (by kernel_rfl)] at h
  have hmem : ("levee/expr.words", Rows.laid_levee_expr_words) ∈ Rows.stmtBackRow.laid := .tail _ (.tail _ (.tail _ (.tail _ (.tail _ (.tail _ (.head _))))))
  obtain ⟨g, t, cs, fuel, p, hg, ht, hvar, hd⟩ := Lib.laidMet.reads h hmem
  obtain rfl := Option.some.inj ((show Tryz.prog.globalNamed "levee/expr.words" = some 7 by kernel_rfl).symm.trans hg)
  obtain rfl := Option.some.inj ((show (Tryz.prog.globals[7]?).map (·.type) = some 228 by kernel_rfl).symm.trans ht)
  obtain ⟨xs, m, _, hx, hcl, hxl, hel⟩ := DataW.trod_array Tryz.underlying228 hd
  have c9 : Tryz.prog.cellsOf 9 = 1 := by kernel_rfl
  have c11 : Tryz.prog.cellsOf 228 = 11 := by kernel_rfl
  rw [c9] at hel
  rw [c11] at hcl
  have hxs : xs.map (·.1) = opL.map fun bs => .lit (.string bs) := by
    have := congrArg Prod.fst hx
    simp only [Rows.laid_levee_expr_words] at this
    injection this with this
    exact this.symm
  intro i bs hb0
  have hi : i < 11 := (List.getElem?_eq_some_iff.1 hb0).1
  have hb : (xs.map (·.1))[i]? = some (.lit (.string bs)) := by rw [hxs, List.getElem?_map, hb0]; rfl
  have h1 := hel i hi
  rw [List.getElem?_map] at hb
  cases hxi : xs[i]? with
  | none => rw [hxi] at hb; cases hb
  | some z =>
    rw [hxi] at hb h1
    obtain ⟨s, e, ez, _⟩ := DataW.trod_string Tryz.underlying9 h1
    have hcell : cs.toList[i]? = some (.string s) := by
      rw [Nat.mul_one] at e
      have hl : i < cs.toList.length := by omega
      rw [List.drop_eq_getElem_cons hl] at e
      simp at e
      rw [List.getElem?_eq_getElem hl]
      simpa using e
    have hs : s = ba bs := by
      rw [ez] at hb
      simp at hb
      obtain ⟨⟨l⟩⟩ := s
      simp at hb
      rw [hb]
    subst hs
    have := World.var?_cell hg hvar i
    rw [this]
    simpa using hcell
theorem gw_of8 {W : World} (hL : laidMetH Tryz.prog Rows.stmtBackRow.laid W) (hsh : W.ShapedOpen Tryz.prog) : Gw W.heap.size W :=
  ⟨gl_of8 hL hsh, words_of8 hL, (gl_of8 hL hsh).lt, (words_of8 hL).lt⟩
section
variable {H : Type} {enc : TypeId × Value → H}
theorem wf_i64 {n : Int} (w : (Lit.int IntKind.i64 n).wf = true) : I64 n := by
  unfold I64
  simpa [Lit.wf, IntKind.min, IntKind.max, IntKind.signed, IntKind.bits] using w
/-- Three cells that read as a value. -/
theorem cells_val {W : World} {m : Nat} {cs : List Value} {z : DataW H × List MemPlace} (h : DataW.trod enc Tryz.prog W 0 (fun _ => true) true m 59 cs = some z) :
    ∃ x : Val, cs = [.int .i64 x.k, .int .i64 x.n, .string x.s] ∧ x.s.size ≤ maxLen ∧ I64 x.n := by
  obtain ⟨ys, n, _, _, hcl, hlen, hf⟩ := DataW.trod_struct Tryz.underlying59 h
  have hN : Tryz.prog.cellsOf 59 = 3 := by kernel_rfl
  rw [hN] at hcl
  match cs, hcl with
  | [a0, a1, a2], _ =>
    have get : ∀ (j : Nat) (hj : j < 3), ys[j]? = some (ys[j]'(by rw [hlen]; exact hj)) := fun j hj => List.getElem?_eq_getElem _
    have c3 : Tryz.prog.cellsOf 3 = 1 := by kernel_rfl
    have c9 : Tryz.prog.cellsOf 9 = 1 := by kernel_rfl
    have c4 : Tryz.prog.cellsOf 4 = 1 := by kernel_rfl
    have h0 := (hf 0 _ rfl).trans (get 0 (by omega))
    obtain ⟨k, e0, _, w0⟩ := DataW.trod_int Tryz.underlying3 h0
    have h1 := (hf 1 _ rfl).trans (get 1 (by omega))
    obtain ⟨x, e1, _, w1⟩ := DataW.trod_int Tryz.underlying3 h1
    have h2 := (hf 2 _ rfl).trans (get 2 (by omega))
    obtain ⟨s, e2, _, w2⟩ := DataW.trod_string Tryz.underlying9 h2
    simp [c3, c9, c4, rdX, rdN, rdI, rdCl, rdAg, rdV] at e0 e1 e2
    subst e0 e1 e2
    exact ⟨⟨k, x, s⟩, rfl, w2, wf_i64 w1⟩
instance : Nonempty Nd := ⟨⟨0, 0, nl⟩⟩
instance : Nonempty (Sx Nd) := ⟨⟨none, 0, 0, []⟩⟩
instance : Nonempty Cl := ⟨⟨emp, 0, false, false, emp, 0⟩⟩
instance : Nonempty Ag := ⟨⟨0, 0⟩⟩
/-- A text that came in. -/
theorem text_of {W : World} {base : Nat} {v : Value} {d : DataW H} {p : List MemPlace} (hv : Value.okWide Tryz.prog W .any base 9 v) (h : DataW.Trod enc Tryz.prog W 0 (fun _ => true) true 9 v d p) :
    ∃ l : List UInt8, v = .string (ba l) ∧ l.length ≤ maxLen := by
  obtain ⟨s, rfl, _, _, hs⟩ := Go.ChangeMaps.open_string Tryz.underlying9 hv h
  refine ⟨s.data.toList, by rw [ba_of], hs⟩
end
end Go.Proofs.YtjgpmnffagdhlaaGreatDoor
namespace Go.Proofs.YtjgpmnffagdhlaaGreatDoor
open Go Go.RowKit Go.ChangeShapes Go.WideShapes Go.ChangeAt Go.Joins Go.Deep Go.Shelf
set_option maxRecDepth 100000
/-- The table of the statements' words. -/
theorem stw_of {W : World} (h : laidMetH Tryz.prog Rows.stmtBackRow.laid W) : StW W := by
  rw [MakeChecks.laidMetH_plain _ _ _ (by kernel_rfl)] at h
  have hmem : ("levee/stmt.words", Rows.laid_levee_stmt_words) ∈ Rows.stmtBackRow.laid := .tail _ (.tail _ (.tail _ (.tail _ (.tail _ (.tail _ (.tail _ (.head _)))))))
  obtain ⟨g, t, cs, fuel, p, hg, ht, hvar, hd⟩ := Lib.laidMet.reads h hmem
  obtain rfl := Option.some.inj ((show Tryz.prog.globalNamed "levee/stmt.words" = some 0 by kernel_rfl).symm.trans hg)
  obtain rfl := Option.some.inj ((show (Tryz.prog.globals[0]?).map (·.type) = some 81 by kernel_rfl).symm.trans ht)
  obtain ⟨xs, m, _, hx, hcl, hxl, hel⟩ := DataW.trod_array Tryz.underlying81 hd
  have c9 : Tryz.prog.cellsOf 9 = 1 := by kernel_rfl
  have c6 : Tryz.prog.cellsOf 81 = 6 := by kernel_rfl
  rw [c9] at hel
  rw [c6] at hcl
  have hxs : xs.map (·.1) = stWs.map fun bs => .lit (.string bs) := by
    have := congrArg Prod.fst hx
    simp only [Rows.laid_levee_stmt_words] at this
    injection this with this
    exact this.symm
  intro i bs hb0
  have hi : i < 6 := (List.getElem?_eq_some_iff.1 hb0).1
  have hb : (xs.map (·.1))[i]? = some (.lit (.string bs)) := by rw [hxs, List.getElem?_map, hb0]; rfl
  have h1 := hel i hi
  rw [List.getElem?_map] at hb
  cases hxi : xs[i]? with
  | none => rw [hxi] at hb; cases hb
  | some z =>
    rw [hxi] at hb h1
    obtain ⟨s, e, ez, _⟩ := DataW.trod_string Tryz.underlying9 h1
    have hcell : cs.toList[i]? = some (.string s) := by
      rw [Nat.mul_one] at e
      have hl : i < cs.toList.length := by omega
      rw [List.drop_eq_getElem_cons hl] at e
      simp at e
      rw [List.getElem?_eq_getElem hl]
      simpa using e
    have hs : s = ba bs := by
      rw [ez] at hb
      simp at hb
      obtain ⟨⟨l⟩⟩ := s
      simp at hb
      rw [hb]
    subst hs
    have := World.var?_cell hg hvar i
    rw [this]
    simpa using hcell
theorem gs_of {W : World} (hL : laidMetH Tryz.prog Rows.stmtBackRow.laid W) (hsh : W.ShapedOpen Tryz.prog) : Gs W.heap.size W :=
  ⟨gw_of8 hL hsh, stw_of hL, (stw_of hL).lt⟩
section
variable {H : Type} {enc : TypeId × Value → H}
theorem cells_row {W : World} {m : Nat} {cs : List Value} {z : DataW H × List MemPlace} (h : DataW.trod enc Tryz.prog W 0 (fun _ => true) true m 48 cs = some z) :
    ∃ x : Sx Val, cs = [.slice x.A x.n x.c] ∧ x.In W 3 rdV ∧ ∀ y ∈ x.xs, y.s.size ≤ maxLen ∧ I64 y.n := by
  haveI : Nonempty Val := ⟨nl⟩
  obtain ⟨A, n, c, xs, h1, h2, h3, h4, h5, h6⟩ := slice_cells (α := Val) Tryz.underlying48 (S := 3) (by kernel_rfl) (by decide) rdV (fun _ => rfl) (fun x => x.s.size ≤ maxLen ∧ I64 x.n) (fun cs n z hz => cells_val hz) h
  exact ⟨⟨A, n, c, xs⟩, h1, ⟨h2, h3, h5⟩, h6⟩
theorem cells_stm {W : World} {m : Nat} {cs : List Value} {z : DataW H × List MemPlace} (h : DataW.trod enc Tryz.prog W 0 (fun _ => true) true m 50 cs = some z) :
    ∃ x : Stm, cs = [.int .i64 x.k, .string x.name, .slice x.row.A x.row.n x.row.c] ∧ x.In W ∧ x.Z := by
  obtain ⟨ys, n, _, _, hcl, hlen, hf⟩ := DataW.trod_struct Tryz.underlying50 h
  have hN : Tryz.prog.cellsOf 50 = 3 := by kernel_rfl
  rw [hN] at hcl
  match cs, hcl with
  | [a0, a1, a2], _ =>
    have get : ∀ (j : Nat) (hj : j < 3), ys[j]? = some (ys[j]'(by rw [hlen]; exact hj)) := fun j hj => List.getElem?_eq_getElem _
    have c3 : Tryz.prog.cellsOf 3 = 1 := by kernel_rfl
    have c9 : Tryz.prog.cellsOf 9 = 1 := by kernel_rfl
    have d0 : Tryz.prog.cellsOf 48 = 1 := by kernel_rfl
    have h0 := (hf 0 _ rfl).trans (get 0 (by omega))
    obtain ⟨k, e0, _, w0⟩ := DataW.trod_int Tryz.underlying3 h0
    have h1 := (hf 1 _ rfl).trans (get 1 (by omega))
    obtain ⟨s, e1, _, w1⟩ := DataW.trod_string Tryz.underlying9 h1
    have h2 := (hf 2 _ rfl).trans (get 2 (by omega))
    obtain ⟨x2, e2, i2, q2⟩ := cells_row h2
    simp [c3, c9, d0] at e0 e1 e2
    subst e0 e1 e2
    exact ⟨⟨k, s, x2⟩, rfl, i2, w1, q2⟩
/-- A statement that came in. -/
theorem stm_of {W : World} {base : Nat} {v : Value} {d : DataW H} {p : List MemPlace} (hv : Value.okWide Tryz.prog W .any base 50 v) (h : DataW.Trod enc Tryz.prog W 0 (fun _ => true) true 50 v d p) :
    ∃ x : Stm, v = x.w ∧ x.In W ∧ x.Z := by
  obtain ⟨cs, rfl, _⟩ := okWide_struct Tryz.underlying50 hv
  obtain ⟨fuel, hf⟩ := h
  obtain ⟨x, hx, h1, h2⟩ := cells_stm hf
  refine ⟨x, ?_, h1, h2⟩
  have e : cs = [.int .i64 x.k, .string x.name, .slice x.row.A x.row.n x.row.c].toArray := by
    have : cs.toList = [.int .i64 x.k, .string x.name, .slice x.row.A x.row.n x.row.c] := hx
    rw [← this]
  rw [e]
end
end Go.Proofs.YtjgpmnffagdhlaaGreatDoor
