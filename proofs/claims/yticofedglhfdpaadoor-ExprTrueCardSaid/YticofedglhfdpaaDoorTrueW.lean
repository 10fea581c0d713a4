/-
  Whether an expression is true is whether its value is the true one: the law, walked; no condition.
-/
import Derived.Test.YticofedglhfdpaaDoorExpP
namespace Go.Proofs.YticofedglhfdpaaDoor
open Go Go.RowKit
set_option maxRecDepth 100000
attribute [local go_sem ↓] run_eqV run_neV

theorem ev_eqII {P : Program} {F : Act} {w : World} {t u ty ty' : Nat} {a b : Int} {o : Oper} (ho : o.op = .binOp .eql ty (.tmp t) (.tmp u) ty') (ht : Reg.slot F t = .int .i64 a) (hu : Reg.slot F u = .int .i64 b) :
    (execOp F.eval o).run P w = .ok (.value (.bool (a == b))) w := by
  have e1 : F.eval (.tmp t) = .int .i64 a := ht
  have e2 : F.eval (.tmp u) = .int .i64 b := hu
  simp only [execOp, ho, e1, e2]
  simp [go_sem]
theorem ev_eqIC {P : Program} {F : Act} {w : World} {t ty ty' : Nat} {a k : Int} {o : Oper} (ho : o.op = .binOp .eql ty (.tmp t) (.const (.int .i64 k)) ty') (ht : Reg.slot F t = .int .i64 a) :
    (execOp F.eval o).run P w = .ok (.value (.bool (a == k))) w := by
  have e1 : F.eval (.tmp t) = .int .i64 a := ht
  have e2 : F.eval (.const (.int .i64 k)) = .int .i64 k := rfl
  simp only [execOp, ho, e1, e2]
  simp [go_sem]
theorem ev_eqBB {F : Act} {w : World} {t u ty' : Nat} {a b : Bool} {o : Oper} (ho : o.op = .binOp .eql 4 (.tmp t) (.tmp u) ty') (ht : Reg.slot F t = .bool a) (hu : Reg.slot F u = .bool b) :
    (execOp F.eval o).run Tryd.prog w = .ok (.value (.bool (a == b))) w := by
  have e1 : F.eval (.tmp t) = .bool a := ht
  have e2 : F.eval (.tmp u) = .bool b := hu
  simp only [execOp, ho, e1, e2]
  cases a <;> cases b <;> simp [go_sem, Tryd.underlying4]
theorem evalR_nil (row : List Val) : evalR [] row = (nl, 30) := rfl

set_option maxHeartbeats 8000000 in
theorem etrue_c (A A2 : Option Addr) (n c m c2 : Nat) (e : List Nd) (row : List Val) (w : World) (hn : e.length = n) (hmax : n ≤ maxLen) (hs : SlN w A e) (hz : ∀ x ∈ e, x.v.s.size ≤ maxLen) (hm : row.length = m) (hmax2 : m ≤ maxLen) (hs2 : Sl w A2 row) (hw : Wd w) :
    Calls Tryd.prog 5 #[.slice A n c, .slice A2 m c2] w fun en w' => en = .returned (.bool true) ∧ Below w.heap.size w w' := by
  have hm1 : n ≤ 9223372036854775807 := hmax
  have hm2 : m ≤ 9223372036854775807 := hmax2
  have Hn := Lib.hid hn
  have Hs := Lib.hid hs
  have Hz := Lib.hid hz
  have Hm := Lib.hid hm
  have Hs2 := Lib.hid hs2
  have Hw := Lib.hid hw
  have Hx := Lib.hid hmax
  clear hn hs hz hm hs2 hw hmax hmax2
  go_enter Tryd.func5, Tryd.ntmps5
  go_wp2_with fail
  refine (fixed_c _ Hw.out).mono ?_
  rintro en w1 ⟨rfl, hb1⟩
  have Hb1 := Lib.hid hb1
  clear hb1
  go_wp2_with fail
  refine (big_c A n c e w1 Hn.out Hx.out (Hs.out.after Hb1.out) Hz.out).mono ?_
  rintro en w2 ⟨rfl, rfl⟩
  obtain ⟨B, hB⟩ : ∃ B, bigB e = B := ⟨_, rfl⟩
  rw [hB]
  have HB := Lib.hid hB
  clear hB
  cases B
  · by_cases hl : m ≤ 40
    · go_wp2_with fail
      refine (eval_c A A2 n c m c2 e row w2 Hn.out (Hs.out.after Hb1.out) Hx.out Hm.out (Hs2.out.after Hb1.out) Hz.out).mono ?_
      rintro en w3 ⟨rfl, hb3⟩
      obtain ⟨⟨v, er⟩, hr⟩ : ∃ r, evalR e row = r := ⟨_, rfl⟩
      rw [hr]
      have Hr := Lib.hid hr
      have hb4 := hb3.trans ((below_one w3 (.cells #[.int .i64 v.k, .int .i64 v.n, .string v.s] 34)).mono hb3.size)
      have Hbx := Lib.hid (Bx.new w3 v)
      have Hb4 := Lib.hid (Hb1.out.trans (hb4.mono Hb1.out.size))
      clear hr hb3 hb4 Hb1
      go_wp2_with fail
      generalize w3.alloc (.cells #[.int .i64 v.k, .int .i64 v.n, .string v.s] 34) = w4 at Hbx Hb4 ⊢
      refine (true_c A A2 n c m c2 e row w4 Hn.out (Hs.out.after Hb4.out) Hx.out Hm.out (Hs2.out.after Hb4.out) Hz.out).mono ?_
      rintro en w5 ⟨rfl, hb5⟩
      obtain ⟨⟨t, er2⟩, hr2⟩ : ∃ r, trueR e row = r := ⟨_, rfl⟩
      rw [hr2]
      have Hr2 := Lib.hid hr2
      have Hbx5 := Lib.hid (Hbx.out.after hb5)
      have Hb5 := Lib.hid (Hb4.out.trans (hb5.mono Hb4.out.size))
      clear hr2 hb5 Hb4 Hbx
      by_cases h0 : n = 0
      · have he : e = [] := List.eq_nil_of_length_eq_zero (by rw [Hn.out]; exact h0)
        obtain ⟨rfl, rfl⟩ : t = true ∧ er2 = 0 := by
          have := Hr2.out
          rw [he] at this
          have h2 : ((true, 0) : Bool × Int) = (t, er2) := this
          simpa using h2.symm
        obtain ⟨rfl, rfl⟩ : v = nl ∧ er = 30 := by
          have := Hr.out
          rw [he, evalR_nil] at this
          simpa using this.symm
        subst h0
        clear he
        go_wp2
        go_ret
        exact ⟨rfl, Hb5.out⟩
      · obtain ⟨rfl, rfl⟩ : t = v.eq tt ∧ er2 = er := by
          have := Hr2.out
          unfold trueR at this
          rw [if_neg (by rw [Hn.out]; exact h0), Hr.out] at this
          simpa using this.symm
        have h1 : ((n : Int) == 0) = false := by simpa using h0
        cases hz0 : er2 == 0
        · obtain rfl : v = nl := by
            have := evalR_err e row (by rw [Hr.out]; exact hz0)
            rw [Hr.out] at this
            exact this
          go_wp2_with fail
          refine Reg.wp_region_vals mixed (by kernel_rfl) [(45, .int .i64 er2), (46, .int .i64 er2), (47, .bool true), (48, .bool true), (49, .bool false), (50, .int .i64 er2), (51, .bool false), (52, .bool false), (53, undef), (54, undef), (55, undef), (56, .bool false), (57, .bool true), (58, .bool true), (4, .bool true)] 59 rfl (by kernel_rfl) ?_ ?_
          · intro F hF w' hB'
            refine ⟨?_, ?_, ?_, ?_, ?_, ?_, ?_, ?_, ?_, ?_, ?_, ?_, ?_, ?_, ?_, trivial⟩
            · exact Reg.doesV_val (ev_move rfl) (by rw [hF]; kernel_rfl) (by rw [hF]; kernel_rfl)
            · exact Reg.doesV_val (ev_move rfl) (by rw [hF]; kernel_rfl) (by rw [hF]; kernel_rfl)
            · exact Reg.doesV_val (by rw [ev_eqII (a := er2) (b := er2) rfl (by rw [hF]; kernel_rfl) (by rw [hF]; kernel_rfl), beq_self_eq_true]) (by rw [hF]; kernel_rfl) (by rw [hF]; kernel_rfl)
            · exact Reg.doesV_val (ev_move rfl) (by rw [hF]; kernel_rfl) (by rw [hF]; kernel_rfl)
            · exact Reg.doesV_val (ev_move rfl) (by rw [hF]; kernel_rfl) (by rw [hF]; kernel_rfl)
            · exact Reg.doesV_val (ev_move rfl) (by rw [hF]; kernel_rfl) (by rw [hF]; kernel_rfl)
            · exact Reg.doesV_val (by rw [ev_eqIC (a := er2) rfl (by rw [hF]; kernel_rfl), hz0]) (by rw [hF]; kernel_rfl) (by rw [hF]; kernel_rfl)
            · exact Reg.doesV_val (ev_move rfl) (by rw [hF]; kernel_rfl) (by rw [hF]; kernel_rfl)
            · exact Reg.doesV_skip (by rw [hF]; kernel_rfl) (by rw [hF]; kernel_rfl)
            · exact Reg.doesV_skip (by rw [hF]; kernel_rfl) (by rw [hF]; kernel_rfl)
            · exact Reg.doesV_skip (by rw [hF]; kernel_rfl) (by rw [hF]; kernel_rfl)
            · exact Reg.doesV_val (ev_pick false rfl (by rw [hF]; kernel_rfl)) (by rw [hF]; kernel_rfl) (by rw [hF]; kernel_rfl)
            · exact Reg.doesV_val (ev_eqBB (a := false) (b := false) rfl (by rw [hF]; kernel_rfl) (by rw [hF]; kernel_rfl)) (by rw [hF]; kernel_rfl) (by rw [hF]; kernel_rfl)
            · exact Reg.doesV_val (ev_pick true rfl (by rw [hF]; kernel_rfl)) (by rw [hF]; kernel_rfl) (by rw [hF]; kernel_rfl)
            · exact Reg.doesV_val (ev_assign rfl) (by rw [hF]; kernel_rfl) (by rw [hF]; kernel_rfl)
          · intro w6 hB'
            simp only [Reg.putAll, Act.put, List.setIfInBounds_toArray, List.set_cons_zero, List.set_cons_succ]
            have Hb6 := Lib.hid (Hb5.out.trans (hB'.mono Hb5.out.size))
            clear hB'
            go_wp2
            go_ret
            exact ⟨rfl, Hb6.out⟩
        · obtain rfl : er2 = 0 := by simpa using hz0
          clear hz0
          go_wp2_with fail
          refine Reg.wp_region_vals mixed (by kernel_rfl) [(45, .int .i64 0), (46, .int .i64 0), (47, .bool true), (48, .bool true), (49, .bool (v.eq tt)), (50, .int .i64 0), (51, .bool true), (52, .bool true), (53, v.v), (54, tt.v), (55, .bool (v.eq tt)), (56, .bool (v.eq tt)), (57, .bool true), (58, .bool true), (4, .bool true)] 59 rfl (by kernel_rfl) ?_ ?_
          · intro F hF w' hB'
            have bx' := Hbx5.out.after hB'
            refine ⟨?_, ?_, ?_, ?_, ?_, ?_, ?_, ?_, ?_, ?_, ?_, ?_, ?_, ?_, ?_, trivial⟩
            · exact Reg.doesV_val (ev_move rfl) (by rw [hF]; kernel_rfl) (by rw [hF]; kernel_rfl)
            · exact Reg.doesV_val (ev_move rfl) (by rw [hF]; kernel_rfl) (by rw [hF]; kernel_rfl)
            · exact Reg.doesV_val (ev_eqII (a := 0) (b := 0) rfl (by rw [hF]; kernel_rfl) (by rw [hF]; kernel_rfl)) (by rw [hF]; kernel_rfl) (by rw [hF]; kernel_rfl)
            · exact Reg.doesV_val (ev_move rfl) (by rw [hF]; kernel_rfl) (by rw [hF]; kernel_rfl)
            · exact Reg.doesV_val (ev_move rfl) (by rw [hF]; kernel_rfl) (by rw [hF]; kernel_rfl)
            · exact Reg.doesV_val (ev_move rfl) (by rw [hF]; kernel_rfl) (by rw [hF]; kernel_rfl)
            · exact Reg.doesV_val (ev_eqIC (a := 0) rfl (by rw [hF]; kernel_rfl)) (by rw [hF]; kernel_rfl) (by rw [hF]; kernel_rfl)
            · exact Reg.doesV_val (ev_move rfl) (by rw [hF]; kernel_rfl) (by rw [hF]; kernel_rfl)
            · exact Reg.doesV_val (ev_load bx' rfl (by rw [hF]; kernel_rfl)) (by rw [hF]; kernel_rfl) (by rw [hF]; kernel_rfl)
            · exact Reg.doesV_call (rtruth_c true w') (ev_call enrTruth rfl (by rw [hF]; kernel_rfl)) (by rw [hF]; kernel_rfl) (by rw [hF]; kernel_rfl)
            · exact Reg.doesV_val (ev_eq v tt rfl (by rw [hF]; kernel_rfl) (by rw [hF]; kernel_rfl)) (by rw [hF]; kernel_rfl) (by rw [hF]; kernel_rfl)
            · exact Reg.doesV_val (ev_pick true rfl (by rw [hF]; kernel_rfl)) (by rw [hF]; kernel_rfl) (by rw [hF]; kernel_rfl)
            · exact Reg.doesV_val (by rw [ev_eqBB (a := v.eq tt) (b := v.eq tt) rfl (by rw [hF]; kernel_rfl) (by rw [hF]; kernel_rfl), beq_self_eq_true]) (by rw [hF]; kernel_rfl) (by rw [hF]; kernel_rfl)
            · exact Reg.doesV_val (ev_pick true rfl (by rw [hF]; kernel_rfl)) (by rw [hF]; kernel_rfl) (by rw [hF]; kernel_rfl)
            · exact Reg.doesV_val (ev_assign rfl) (by rw [hF]; kernel_rfl) (by rw [hF]; kernel_rfl)
          · intro w6 hB'
            simp only [Reg.putAll, Act.put, List.setIfInBounds_toArray, List.set_cons_zero, List.set_cons_succ]
            have Hb6 := Lib.hid (Hb5.out.trans (hB'.mono Hb5.out.size))
            clear hB'
            go_wp2
            go_ret
            exact ⟨rfl, Hb6.out⟩
    · go_wp2_with fail
      refine (fixed_c _ (Hw.out.after Hb1.out)).mono ?_
      rintro en w3 ⟨rfl, hb3⟩
      have Hb3 := Lib.hid (Hb1.out.trans (hb3.mono Hb1.out.size))
      clear hb3
      go_wp2
      go_ret
      exact ⟨rfl, Hb3.out⟩
  · go_wp2_with fail
    refine (fixed_c _ (Hw.out.after Hb1.out)).mono ?_
    rintro en w3 ⟨rfl, hb3⟩
    have Hb3 := Lib.hid (Hb1.out.trans (hb3.mono Hb1.out.size))
    clear hb3
    go_wp2
    go_ret
    exact ⟨rfl, Hb3.out⟩
end Go.Proofs.YticofedglhfdpaaDoor
