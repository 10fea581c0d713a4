/-
  The law ValueMuls, walked: for every three numbers it answers true, and turns nothing that was there.
-/
import Derived.Test.YtacmfjhmicgpnaaDoorFix
import Derived.Test.YtacmfjhmicgpnaaDoorSumP
namespace Go.Proofs.YtacmfjhmicgpnaaDoor
open Go Go.RowKit
attribute [local go_sem ↓] run_eqV run_neV

theorem enAddF : ∀ args w, (callFunc 20 args).run Tryd.prog w = .ok (.enter 20 args) w := fun _ _ => by kernel_rfl

set_option maxHeartbeats 2000000 in
/-- A number above a million, either way. -/
theorem muls_long (a b c m : Int) (w : World) (h : 1000000 < a ∨ 1000000 < b ∨ 1000000 < c ∨ a < -1000000 ∨ b < -1000000 ∨ c < -1000000) (hm : w.cell? ⟨0, 0, none⟩ = some (.int .i64 m)) :
    Calls Tryd.prog 7 #[.int .i64 a, .int .i64 b, .int .i64 c] w fun e w' => e = .returned (.bool true) ∧ Below w.heap.size w w' := by
  have hlt : 0 < w.heap.size := World.block_lt_of_cell? _ _ hm
  have Hm := Lib.hid hm
  clear hm
  go_enter Tryd.func7, Tryd.ntmps7
  go_wp2_with fail
  refine (fixed_c m _ Hm.out).mono ?_
  rintro e w1 ⟨rfl, hb⟩
  have Hm1 : Hid (w1.cell? ⟨0, 0, none⟩ = some (.int .i64 m)) := (hb.cell hlt).trans Hm.out
  by_cases h0 : 1000000 < a
  · clear h
    go_wp2_with fail
    refine (fixed_c m _ Hm1.out).mono ?_
    rintro e w2 ⟨rfl, hb2⟩
    have hbw := hb.trans (hb2.mono hb.size)
    clear hb2
    go_wp2
    go_ret
    exact ⟨rfl, hbw⟩
  · skip
    by_cases h1 : 1000000 < b
    · clear h
      go_wp2_with fail
      refine (fixed_c m _ Hm1.out).mono ?_
      rintro e w2 ⟨rfl, hb2⟩
      have hbw := hb.trans (hb2.mono hb.size)
      clear hb2
      go_wp2
      go_ret
      exact ⟨rfl, hbw⟩
    · skip
      by_cases h2 : 1000000 < c
      · clear h
        go_wp2_with fail
        refine (fixed_c m _ Hm1.out).mono ?_
        rintro e w2 ⟨rfl, hb2⟩
        have hbw := hb.trans (hb2.mono hb.size)
        clear hb2
        go_wp2
        go_ret
        exact ⟨rfl, hbw⟩
      · skip
        by_cases h3 : a < -1000000
        · clear h
          go_wp2_with fail
          refine (fixed_c m _ Hm1.out).mono ?_
          rintro e w2 ⟨rfl, hb2⟩
          have hbw := hb.trans (hb2.mono hb.size)
          clear hb2
          go_wp2
          go_ret
          exact ⟨rfl, hbw⟩
        · skip
          by_cases h4 : b < -1000000
          · clear h
            go_wp2_with fail
            refine (fixed_c m _ Hm1.out).mono ?_
            rintro e w2 ⟨rfl, hb2⟩
            have hbw := hb.trans (hb2.mono hb.size)
            clear hb2
            go_wp2
            go_ret
            exact ⟨rfl, hbw⟩
          · skip
            have h5 : c < -1000000 := by omega
            clear h
            go_wp2_with fail
            refine (fixed_c m _ Hm1.out).mono ?_
            rintro e w2 ⟨rfl, hb2⟩
            have hbw := hb.trans (hb2.mono hb.size)
            clear hb2
            go_wp2
            go_ret
            exact ⟨rfl, hbw⟩

theorem in_small {a b : Int} (ha : -1000000 ≤ a ∧ a ≤ 1000000) (hb : -2000000 ≤ b ∧ b ≤ 2000000) : in64 (a * b) := by
  have h1 : (a * b).natAbs = a.natAbs * b.natAbs := Int.natAbs_mul a b
  have h2 : a.natAbs * b.natAbs ≤ 1000000 * 2000000 := Nat.mul_le_mul (by omega) (by omega)
  unfold in64
  omega

set_option maxRecDepth 100000 in
set_option maxHeartbeats 4000000 in
theorem muls_short (a b c m : Int) (w : World) (ha : -1000000 ≤ a ∧ a ≤ 1000000) (hb : -1000000 ≤ b ∧ b ≤ 1000000) (hc : -1000000 ≤ c ∧ c ≤ 1000000) (hm : w.cell? ⟨0, 0, none⟩ = some (.int .i64 m)) :
    Calls Tryd.prog 7 #[.int .i64 a, .int .i64 b, .int .i64 c] w fun e w' => e = .returned (.bool true) ∧ Below w.heap.size w w' := by
  have hlt : 0 < w.heap.size := World.block_lt_of_cell? _ _ hm
  have A1 : Hid (addR (iv b) (iv c) = (iv (b + c), true)) := add_in (by unfold in64; omega)
  have A2 : Hid (mulR (iv a) (iv (b + c)) = (iv (a * (b + c)), true)) := mul_in (by unfold in64; omega) (in_small ha (by omega))
  have A3 : Hid (mulR (iv a) (iv b) = (iv (a * b), true)) := mul_in (by unfold in64; omega) (in_small ha (by omega))
  have A4 : Hid (mulR (iv a) (iv c) = (iv (a * c), true)) := mul_in (by unfold in64; omega) (in_small ha (by omega))
  have A5 : Hid (addR (iv (a * b)) (iv (a * c)) = (iv (a * (b + c)), true)) := by
    have e : a * b + a * c = a * (b + c) := (Int.mul_add a b c).symm
    have := add_in (a := a * b) (b := a * c) (by rw [e]; exact in_small ha (by omega))
    rw [e] at this
    exact this
  have A6 : Hid (mulR (iv a) (iv 0) = (iv 0, true)) := by
    have := mul_in (a := a) (b := 0) (by unfold in64; omega) (by rw [Int.mul_zero]; unfold in64; omega)
    rw [Int.mul_zero] at this
    exact this
  have A7 : Hid (mulR (iv 1) (iv a) = (iv a, true)) := by
    have := mul_in (a := 1) (b := a) (by unfold in64; omega) (by rw [Int.one_mul]; unfold in64; omega)
    rw [Int.one_mul] at this
    exact this
  have Hm := Lib.hid hm
  clear hm
  have z1 : ¬ 1000000 < a := by omega
  have z2 : ¬ 1000000 < b := by omega
  have z3 : ¬ 1000000 < c := by omega
  have z4 : ¬ a < -1000000 := by omega
  have z5 : ¬ b < -1000000 := by omega
  have z6 : ¬ c < -1000000 := by omega
  go_enter Tryd.func7, Tryd.ntmps7
  go_wp2_with fail
  refine (fixed_c m _ Hm.out).mono ?_
  rintro e w1 ⟨rfl, hbw⟩
  clear Hm hlt
  go_wp2_with fail
  clear z1 z2 z3 z4 z5 z6 ha hb hc
  refine (rint_c b _).mono ?_
  rintro e w2 ⟨rfl, h2⟩
  have hbw := hbw.trans (h2.mono hbw.size)
  clear h2
  go_wp2_with fail
  refine (rint_c c _).mono ?_
  rintro e w3 ⟨rfl, h3⟩
  have hbw := hbw.trans (h3.mono hbw.size)
  clear h3
  go_wp2_with fail
  refine (add_c (iv b) (iv c) _).mono ?_
  rintro e w4 ⟨rfl, h4⟩
  rw [A1.out]
  have hbw := hbw.trans (h4.mono hbw.size)
  clear h4
  go_wp2_with fail
  have t7 : Bx (w4.alloc (.cells #[.int .i64 (iv (b + c)).k, .int .i64 (iv (b + c)).n, .string (iv (b + c)).s] 25)) w4.heap.size (iv (b + c)) := Bx.new w4 _
  have hbw := hbw.alloc hbw.size (.cells #[.int .i64 (iv (b + c)).k, .int .i64 (iv (b + c)).n, .string (iv (b + c)).s] 25)
  generalize (w4.alloc (.cells #[.int .i64 (iv (b + c)).k, .int .i64 (iv (b + c)).n, .string (iv (b + c)).s] 25)) = w5 at *
  obtain ⟨B, hBe⟩ : ∃ B, w5.heap.size = B := ⟨_, rfl⟩
  refine Reg.wp_region_free mixed (by kernel_rfl) [(57, .int .i64 a), (58, (iv a).v), (59, (iv (b + c)).v), (60, .tuple #[(iv (a * (b + c))).v, .bool true]), (56, .tuple #[(iv (a * (b + c))).v, .bool true]), (61, (iv (a * (b + c))).v), (62, .bool true), (10, .bool true)] [9] (fun i => if i == 7 || i == 8 then [9] else []) (madeP B 7 8 (iv (a * (b + c)))) 125 rfl (by kernel_rfl) ?_ ?_
  · intro g F hF hn hv w' hB
    have t7' := t7.after hB
    have hBw : w5.heap.size ≤ w'.heap.size := hB.size
    rw [hBe] at hBw ⊢
    refine ⟨?_, ?_, ?_, ?_, ?_, ?_, ?_, ?_, ?_, ?_, trivial⟩
    · exact fun _ => Reg.does_exact hn hv (madeP_stab B 7 8 (iv (a * (b + c)))) hBw (fun _ _ => trivial) rfl (Reg.doesV_val (ev_move rfl) (by rw [hF]; kernel_rfl) (by rw [hF]; kernel_rfl))
    · exact fun _ => Reg.does_exact hn hv (madeP_stab B 7 8 (iv (a * (b + c)))) hBw (fun _ _ => trivial) rfl (Reg.doesV_call (rint_c a w') (ev_call enInt rfl (by rw [hF]; kernel_rfl)) (by rw [hF]; kernel_rfl) (by rw [hF]; kernel_rfl))
    · exact fun _ => Reg.does_exact hn hv (madeP_stab B 7 8 (iv (a * (b + c)))) hBw (fun _ _ => trivial) rfl (Reg.doesV_val (ev_load t7' rfl (by rw [hF]; kernel_rfl)) (by rw [hF]; kernel_rfl) (by rw [hF]; kernel_rfl))
    · exact fun _ => Reg.does_exact hn hv (madeP_stab B 7 8 (iv (a * (b + c)))) hBw (fun _ _ => trivial) rfl (Reg.doesV_call (by have h := mul_c (iv a) (iv (b + c)) w'; rw [A2.out] at h; exact h) (ev_call enMulF rfl (by rw [hF]; kernel_rfl)) (by rw [hF]; kernel_rfl) (by rw [hF]; kernel_rfl))
    · exact fun _ => Reg.does_exact hn hv (madeP_stab B 7 8 (iv (a * (b + c)))) hBw (fun _ _ => trivial) rfl (Reg.doesV_val (ev_move rfl) (by rw [hF]; kernel_rfl) (by rw [hF]; kernel_rfl))
    · exact fun _ => Reg.does_exact hn hv (madeP_stab B 7 8 (iv (a * (b + c)))) hBw (fun _ _ => trivial) rfl (Reg.doesV_val (ev_extract (vs := #[(iv (a * (b + c))).v, .bool true]) rfl (by rw [hF]; kernel_rfl) rfl) (by rw [hF]; kernel_rfl) (by rw [hF]; kernel_rfl))
    · exact fun _ => Reg.does_exact hn hv (madeP_stab B 7 8 (iv (a * (b + c)))) hBw (fun _ _ => trivial) rfl (Reg.doesV_val (ev_extract (vs := #[(iv (a * (b + c))).v, .bool true]) rfl (by rw [hF]; kernel_rfl) rfl) (by rw [hF]; kernel_rfl) (by rw [hF]; kernel_rfl))
    · exact fun _ => Reg.does_free (d := 9) hn (madeP_stab B 7 8 (iv (a * (b + c)))) hBw rfl (by decide) (by kernel_rfl) rfl (ev_alloc rfl) (by rw [hF]; kernel_rfl) (below_one _ _) ⟨_, nl, rfl, hBw, Bx.new w' nl⟩
    · intro hpre
      obtain ⟨bk, x, h8, hbB, hbx⟩ := hpre 7 (of_decide_eq_true (by kernel_rfl))
      have h8' : Reg.slot F 9 = .pointer (some ⟨bk, 0, none⟩) := List.head_eq_of_cons_eq h8
      exact Reg.does_store rfl (ev_store (a := iv (a * (b + c))) hbx rfl h8' (by rw [hF]; kernel_rfl)) (by rw [hF]; kernel_rfl) (put3_below (Below.refl _ _) hbB _) ⟨bk, h8, hbB, hbx.put _⟩ (fun j hj h => madeP_put B 7 8 _ _ w' bk x hbx j _ hj h)
    · exact fun _ => Reg.does_exact hn hv (madeP_stab B 7 8 (iv (a * (b + c)))) hBw (fun _ _ => trivial) rfl (Reg.doesV_val (ev_assign rfl) (by rw [hF]; kernel_rfl) (by rw [hF]; kernel_rfl))
  intro g F hF w6 hB hall
  obtain ⟨b9, h9, hb9, t9⟩ := hall 8 (Nat.le_of_ble_eq_true (by kernel_rfl))
  have h9a : Reg.slot F 9 = .pointer (some ⟨b9, 0, none⟩) := List.head_eq_of_cons_eq h9
  have h9b : Reg.slot F 9 = g 9 := by rw [hF]; kernel_rfl
  have h9' : g 9 = .pointer (some ⟨b9, 0, none⟩) := h9b.symm.trans h9a
  have hbw := hbw.trans (hB.mono hbw.size)
  rw [hF]
  simp only [Reg.fin, List.cons_append, List.nil_append, List.map_cons, List.map_nil, Reg.putAll, Act.put, List.setIfInBounds_toArray, List.set_cons_zero, List.set_cons_succ]
  rw [h9']
  clear h9 h9' h9a h9b hF F hall hB hb9 hBe t7 A1 A2
  go_wp2_with fail
  refine (rint_c a _).mono ?_
  rintro e w7 ⟨rfl, h7⟩
  have t9 := t9.after h7
  have hbw := hbw.trans (h7.mono hbw.size)
  clear h7
  go_wp2_with fail
  refine (rint_c b _).mono ?_
  rintro e w8 ⟨rfl, h8⟩
  have t9 := t9.after h8
  have hbw := hbw.trans (h8.mono hbw.size)
  clear h8
  go_wp2_with fail
  refine (mul_c (iv a) (iv b) _).mono ?_
  rintro e w9 ⟨rfl, h9⟩
  rw [A3.out]
  have t9 := t9.after h9
  have hbw := hbw.trans (h9.mono hbw.size)
  clear h9
  go_wp2_with fail
  refine (rint_c a _).mono ?_
  rintro e w10 ⟨rfl, h10⟩
  have t9 := (t9.alloc _).after h10
  have t11 : Bx w10 w9.heap.size (iv (a * b)) := (Bx.new w9 (iv (a * b))).after h10
  have hbw := (hbw.alloc hbw.size _).trans (h10.mono (by have := hbw.size; simp; omega))
  clear h10
  go_wp2_with fail
  refine (rint_c c _).mono ?_
  rintro e w11 ⟨rfl, h11⟩
  have t9 := t9.after h11
  have t11 := t11.after h11
  have hbw := hbw.trans (h11.mono hbw.size)
  clear h11
  go_wp2_with fail
  refine (mul_c (iv a) (iv c) _).mono ?_
  rintro e w12 ⟨rfl, h12⟩
  rw [A4.out]
  have t9 := t9.after h12
  have t11 := t11.after h12
  have hbw := hbw.trans (h12.mono hbw.size)
  clear h12
  have l0 := t11.cell0
  have l1 := t11.cell1
  have l2 := t11.cell2
  have ll := t11.lt
  go_wp2_with fail
  refine (add_c (iv (a * b)) (iv (a * c)) _).mono ?_
  rintro e w13 ⟨rfl, h13⟩
  rw [A5.out]
  have t9 := (t9.alloc _).after h13
  have t11 := (t11.alloc _).after h13
  have t13 : Bx w13 w12.heap.size (iv (a * c)) := (Bx.new w12 (iv (a * c))).after h13
  have hbw := (hbw.alloc hbw.size _).trans (h13.mono (by have := hbw.size; simp; omega))
  clear h13
  clear l0 l1 l2 ll
  go_wp2_with fail
  refine (rint_c a _).mono ?_
  rintro e w14 ⟨rfl, h14⟩
  have t9 := (t9.alloc _).after h14
  have t11 := (t11.alloc _).after h14
  have t13 := (t13.alloc _).after h14
  have t15 : Bx w14 w13.heap.size (iv (a * (b + c))) := (Bx.new w13 (iv (a * (b + c)))).after h14
  have hbw := (hbw.alloc hbw.size _).trans (h14.mono (by have := hbw.size; simp; omega))
  clear h14
  go_wp2_with fail
  refine (rint_c 0 _).mono ?_
  rintro e w15 ⟨rfl, h15⟩
  have t9 := t9.after h15
  have t11 := t11.after h15
  have t13 := t13.after h15
  have t15 := t15.after h15
  have hbw := hbw.trans (h15.mono hbw.size)
  clear h15
  go_wp2_with fail
  refine (mul_c (iv a) (iv 0) _).mono ?_
  rintro e w16 ⟨rfl, h16⟩
  rw [A6.out]
  have t9 := t9.after h16
  have t11 := t11.after h16
  have t13 := t13.after h16
  have t15 := t15.after h16
  have hbw := hbw.trans (h16.mono hbw.size)
  clear h16
  go_wp2_with fail
  refine (rint_c 1 _).mono ?_
  rintro e w17 ⟨rfl, h17⟩
  have t9 := (t9.alloc _).after h17
  have t11 := (t11.alloc _).after h17
  have t13 := (t13.alloc _).after h17
  have t15 := (t15.alloc _).after h17
  have t17 : Bx w17 w16.heap.size (iv 0) := (Bx.new w16 (iv 0)).after h17
  have hbw := (hbw.alloc hbw.size _).trans (h17.mono (by have := hbw.size; simp; omega))
  clear h17
  go_wp2_with fail
  refine (rint_c a _).mono ?_
  rintro e w18 ⟨rfl, h18⟩
  have t9 := t9.after h18
  have t11 := t11.after h18
  have t13 := t13.after h18
  have t15 := t15.after h18
  have t17 := t17.after h18
  have hbw := hbw.trans (h18.mono hbw.size)
  clear h18
  go_wp2_with fail
  refine (mul_c (iv 1) (iv a) _).mono ?_
  rintro e w19 ⟨rfl, h19⟩
  rw [A7.out]
  have t9 := t9.after h19
  have t11 := t11.after h19
  have t13 := t13.after h19
  have t15 := t15.after h19
  have t17 := t17.after h19
  have hbw := hbw.trans (h19.mono hbw.size)
  clear h19
  go_wp2_with fail
  have t9 := t9.alloc (.cells #[.int .i64 (iv a).k, .int .i64 (iv a).n, .string (iv a).s] 25)
  have t11 := t11.alloc (.cells #[.int .i64 (iv a).k, .int .i64 (iv a).n, .string (iv a).s] 25)
  have t13 := t13.alloc (.cells #[.int .i64 (iv a).k, .int .i64 (iv a).n, .string (iv a).s] 25)
  have t15 := t15.alloc (.cells #[.int .i64 (iv a).k, .int .i64 (iv a).n, .string (iv a).s] 25)
  have t17 := t17.alloc (.cells #[.int .i64 (iv a).k, .int .i64 (iv a).n, .string (iv a).s] 25)
  have t19 : Bx (w19.alloc (.cells #[.int .i64 (iv a).k, .int .i64 (iv a).n, .string (iv a).s] 25)) w19.heap.size (iv a) := Bx.new w19 (iv a)
  have hbw := hbw.alloc hbw.size (.cells #[.int .i64 (iv a).k, .int .i64 (iv a).n, .string (iv a).s] 25)
  generalize (w19.alloc (.cells #[.int .i64 (iv a).k, .int .i64 (iv a).n, .string (iv a).s] 25)) = wz at *
  refine Reg.wp_region_vals mixed (by kernel_rfl) [(99, .bool true), (100, .bool true), (101, .bool true), (102, .bool true), (103, .bool true), (104, .bool true), (105, .bool true), (106, .bool true), (107, .bool true), (108, .bool true), (109, .bool true), (110, (iv (a * (b + c))).v), (111, (iv (a * (b + c))).v), (112, .bool true), (113, .bool true), (114, .bool true), (115, (iv 0).v), (116, (iv 0).v), (117, .bool true), (118, .bool true), (119, .bool true), (120, (iv a).v), (121, .int .i64 a), (122, (iv a).v), (123, .bool true), (124, .bool true), (6, .bool true)] 125 rfl (by kernel_rfl) ?_ ?_
  · intro F hF w' hB
    have t9' := t9.after hB
    have t15' := t15.after hB
    have t17' := t17.after hB
    have t19' := t19.after hB
    refine ⟨?_, ?_, ?_, ?_, ?_, ?_, ?_, ?_, ?_, ?_, ?_, ?_, ?_, ?_, ?_, ?_, ?_, ?_, ?_, ?_, ?_, ?_, ?_, ?_, ?_, ?_, ?_, trivial⟩
    · exact Reg.doesV_val (ev_move rfl) (by rw [hF]; kernel_rfl) (by rw [hF]; kernel_rfl)
    · exact Reg.doesV_val (ev_move rfl) (by rw [hF]; kernel_rfl) (by rw [hF]; kernel_rfl)
    · exact Reg.doesV_val (ev_move rfl) (by rw [hF]; kernel_rfl) (by rw [hF]; kernel_rfl)
    · exact Reg.doesV_val (ev_pick true rfl (by rw [hF]; kernel_rfl)) (by rw [hF]; kernel_rfl) (by rw [hF]; kernel_rfl)
    · exact Reg.doesV_val (ev_move rfl) (by rw [hF]; kernel_rfl) (by rw [hF]; kernel_rfl)
    · exact Reg.doesV_val (ev_move rfl) (by rw [hF]; kernel_rfl) (by rw [hF]; kernel_rfl)
    · exact Reg.doesV_val (ev_pick true rfl (by rw [hF]; kernel_rfl)) (by rw [hF]; kernel_rfl) (by rw [hF]; kernel_rfl)
    · exact Reg.doesV_val (ev_move rfl) (by rw [hF]; kernel_rfl) (by rw [hF]; kernel_rfl)
    · exact Reg.doesV_val (ev_move rfl) (by rw [hF]; kernel_rfl) (by rw [hF]; kernel_rfl)
    · exact Reg.doesV_val (ev_pick true rfl (by rw [hF]; kernel_rfl)) (by rw [hF]; kernel_rfl) (by rw [hF]; kernel_rfl)
    · exact Reg.doesV_val (ev_move rfl) (by rw [hF]; kernel_rfl) (by rw [hF]; kernel_rfl)
    · exact Reg.doesV_val (ev_load t9' rfl (by rw [hF]; kernel_rfl)) (by rw [hF]; kernel_rfl) (by rw [hF]; kernel_rfl)
    · exact Reg.doesV_val (ev_load t15' rfl (by rw [hF]; kernel_rfl)) (by rw [hF]; kernel_rfl) (by rw [hF]; kernel_rfl)
    · exact Reg.doesV_val (by rw [ev_eq (iv (a * (b + c))) (iv (a * (b + c))) rfl (by rw [hF]; kernel_rfl) (by rw [hF]; kernel_rfl), Val.eq_self]) (by rw [hF]; kernel_rfl) (by rw [hF]; kernel_rfl)
    · exact Reg.doesV_val (ev_pick true rfl (by rw [hF]; kernel_rfl)) (by rw [hF]; kernel_rfl) (by rw [hF]; kernel_rfl)
    · exact Reg.doesV_val (ev_move rfl) (by rw [hF]; kernel_rfl) (by rw [hF]; kernel_rfl)
    · exact Reg.doesV_val (ev_load t17' rfl (by rw [hF]; kernel_rfl)) (by rw [hF]; kernel_rfl) (by rw [hF]; kernel_rfl)
    · exact Reg.doesV_call (rint_c 0 w') (ev_call enInt rfl (by rw [hF]; kernel_rfl)) (by rw [hF]; kernel_rfl) (by rw [hF]; kernel_rfl)
    · exact Reg.doesV_val (by rw [ev_eq (iv 0) (iv 0) rfl (by rw [hF]; kernel_rfl) (by rw [hF]; kernel_rfl), Val.eq_self]) (by rw [hF]; kernel_rfl) (by rw [hF]; kernel_rfl)
    · exact Reg.doesV_val (ev_pick true rfl (by rw [hF]; kernel_rfl)) (by rw [hF]; kernel_rfl) (by rw [hF]; kernel_rfl)
    · exact Reg.doesV_val (ev_move rfl) (by rw [hF]; kernel_rfl) (by rw [hF]; kernel_rfl)
    · exact Reg.doesV_val (ev_load t19' rfl (by rw [hF]; kernel_rfl)) (by rw [hF]; kernel_rfl) (by rw [hF]; kernel_rfl)
    · exact Reg.doesV_val (ev_move rfl) (by rw [hF]; kernel_rfl) (by rw [hF]; kernel_rfl)
    · exact Reg.doesV_call (rint_c a w') (ev_call enInt rfl (by rw [hF]; kernel_rfl)) (by rw [hF]; kernel_rfl) (by rw [hF]; kernel_rfl)
    · exact Reg.doesV_val (by rw [ev_eq (iv a) (iv a) rfl (by rw [hF]; kernel_rfl) (by rw [hF]; kernel_rfl), Val.eq_self]) (by rw [hF]; kernel_rfl) (by rw [hF]; kernel_rfl)
    · exact Reg.doesV_val (ev_pick true rfl (by rw [hF]; kernel_rfl)) (by rw [hF]; kernel_rfl) (by rw [hF]; kernel_rfl)
    · exact Reg.doesV_val (ev_assign rfl) (by rw [hF]; kernel_rfl) (by rw [hF]; kernel_rfl)
  · intro wf hB
    have hbf := hbw.trans (hB.mono hbw.size)
    simp only [Reg.putAll, Act.put, List.setIfInBounds_toArray, List.set_cons_zero, List.set_cons_succ]
    go_wp2
    go_ret
    exact ⟨rfl, hbf⟩

theorem muls_c (a b c m : Int) (w : World) (_ha : -9223372036854775808 ≤ a ∧ a ≤ 9223372036854775807) (_hb : -9223372036854775808 ≤ b ∧ b ≤ 9223372036854775807) (_hc : -9223372036854775808 ≤ c ∧ c ≤ 9223372036854775807) (hm : w.cell? ⟨0, 0, none⟩ = some (.int .i64 m)) :
    Calls Tryd.prog 7 #[.int .i64 a, .int .i64 b, .int .i64 c] w fun e w' => e = .returned (.bool true) ∧ Below w.heap.size w w' := by
  by_cases h : 1000000 < a ∨ 1000000 < b ∨ 1000000 < c ∨ a < -1000000 ∨ b < -1000000 ∨ c < -1000000
  · exact muls_long a b c m w h hm
  · exact muls_short a b c m w (by omega) (by omega) (by omega) hm
end Go.Proofs.YtacmfjhmicgpnaaDoor
