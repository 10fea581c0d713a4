/-
  The calls whose answers the document fixes: all of them answer so, in every world.
-/
import Derived.Test.YtacmfjhmicgpnaaDoorOps
import Derived.Test.YtacmfjhmicgpnaaDoorCmp
namespace Go.Proofs.YtacmfjhmicgpnaaDoor
open Go Go.RowKit

theorem andV_tn : andV [tt, nl] = nl := by
  unfold andV; rw [nt_ff]
  simp only [dec, Val.eq_self, Val.eq_false nl_ne_ff, Val.eq_false nl_ne_tt, Val.eq_false (Ne.symm ff_ne_tt), Bool.false_eq_true, if_false, if_true]
theorem andV_fn : andV [ff, nl] = ff := by
  unfold andV; rw [nt_ff]
  simp only [dec, Val.eq_self, if_true]
theorem andV_0 : andV [] = tt := by unfold andV; rw [nt_ff]; rfl
theorem orV_0 : orV [] = ff := by unfold orV; rw [nt_tt]; rfl
theorem add_23 : addR (iv 2) (iv 3) = (iv 5, true) := by kernel_rfl
theorem add_over : addR (iv 9223372036854775807) (iv 1) = (nl, false) := by kernel_rfl
theorem mul_null : mulR (iv (-9223372036854775808)) nl = (nl, true) := by kernel_rfl
theorem text_ab : (([39] ++ sub1 39 [39, 39] [97, 39, 98] ++ [39]) : List UInt8) = [39, 97, 39, 39, 98, 39] := by decide
def abV : Val := ⟨3, 0, ⟨#[97, 39, 98]⟩⟩
def oneV : Val := ⟨0, 1, emp⟩
theorem enAnd : ∀ args w, (callFunc 12 args).run Tryd.prog w = .ok (.enter 12 args) w := fun _ _ => by kernel_rfl
theorem enOr : ∀ args w, (callFunc 14 args).run Tryd.prog w = .ok (.enter 14 args) w := fun _ _ => by kernel_rfl
theorem enNot : ∀ args w, (callFunc 10 args).run Tryd.prog w = .ok (.enter 10 args) w := fun _ _ => by kernel_rfl
theorem enInt : ∀ args w, (callFunc 19 args).run Tryd.prog w = .ok (.enter 19 args) w := fun _ _ => by kernel_rfl
theorem enLeast : ∀ args w, (callFunc 26 args).run Tryd.prog w = .ok (.enter 26 args) w := fun _ _ => by kernel_rfl
theorem enMulF : ∀ args w, (callFunc 21 args).run Tryd.prog w = .ok (.enter 21 args) w := fun _ _ => by kernel_rfl
theorem enText : ∀ args w, (callFunc 24 args).run Tryd.prog w = .ok (.enter 24 args) w := fun _ _ => by kernel_rfl
theorem enCmp : ∀ args w, (callFunc 18 args).run Tryd.prog w = .ok (.enter 18 args) w := fun _ _ => by kernel_rfl
theorem enMay : ∀ args w, (callFunc 27 args).run Tryd.prog w = .ok (.enter 27 args) w := fun _ _ => by kernel_rfl
theorem text_abc (m : Int) (w : World) (hm : w.cell? ⟨0, 0, none⟩ = some (.int .i64 m)) : Calls Tryd.prog 24 #[abV.v] w fun e w' => e = .returned (.string ⟨#[39, 97, 39, 39, 98, 39]⟩) ∧ Below w.heap.size w w' := by
  have h := text_text abV m w rfl rfl rfl rfl (by decide) hm
  have e : [39] ++ sub1 39 [39, 39] abV.s.data.toList ++ [39] = [39, 97, 39, 39, 98, 39] := text_ab
  rw [e] at h
  exact h
theorem enRNot : ∀ args w, (callFunc 11 args).run Tryd.prog w = .ok (.enter 11 args) w := fun _ _ => by kernel_rfl
theorem cmp_nf : cmpV nl ff = -1 := by decide

set_option maxRecDepth 100000 in
set_option maxHeartbeats 8000000 in
theorem fixed_c (m : Int) (w : World) (hm : w.cell? ⟨0, 0, none⟩ = some (.int .i64 m)) :
    Calls Tryd.prog 9 #[] w fun e w' => e = .returned (.bool true) ∧ Below w.heap.size w w' := by
  have Hm := Lib.hid hm
  clear hm
  go_enter Tryd.func9, Tryd.ntmps9
  go_wp2_with fail
  refine (truth_c true _).mono ?_
  rintro e w1 ⟨rfl, hb1⟩
  go_wp2_with fail
  refine (truth_c false _).mono ?_
  rintro e w2 ⟨rfl, hb2⟩
  have hb : Below w.heap.size w w2 := hb1.trans (hb2.mono hb1.size)
  clear hb1 hb2
  go_wp2_with fail
  refine (rint_c 2 _).mono ?_
  rintro e w4 ⟨rfl, hb4⟩
  have t1 : Bx w4 w2.heap.size tt := (((Bx.new w2 tt).alloc _).alloc _).after hb4
  have t2 : Bx w4 (w2.heap.size + 1) ff := ((Bx.new1 w2 ff _).alloc _).after hb4
  have t3 : Bx w4 (w2.heap.size + 1 + 1) nl := (Bx.new2 w2 nl _ _).after hb4
  have hb' : Below w.heap.size w w4 := (hb.trans ((below_three w2 _ _ _).mono hb.size)).trans (hb4.mono (by have := hb.size; simp; omega))
  clear hb hb4
  go_wp2_with fail
  refine (rint_c 3 _).mono ?_
  rintro e w5 ⟨rfl, hb5⟩
  have t1 := t1.after hb5
  have t2 := t2.after hb5
  have t3 := t3.after hb5
  have hb := hb'.trans (hb5.mono hb'.size)
  clear hb' hb5
  go_wp2_with fail
  refine (add_c (iv 2) (iv 3) _).mono ?_
  rintro e w6 ⟨rfl, hb6⟩
  rw [add_23]
  have t1 := t1.after hb6
  have t2 := t2.after hb6
  have t3 := t3.after hb6
  have hb' := hb.trans (hb6.mono hb.size)
  clear hb hb6
  go_wp2_with fail
  refine (most_c _).mono ?_
  rintro e w7 ⟨rfl, hb7⟩
  have t1 := (t1.alloc _).after hb7
  have t2 := (t2.alloc _).after hb7
  have t3 := (t3.alloc _).after hb7
  have t4 : Bx w7 w6.heap.size (iv 5) := (Bx.new w6 (iv 5)).after hb7
  have hb := (hb'.alloc hb'.size _).trans (hb7.mono (by have := hb'.size; simp; omega))
  clear hb' hb7
  go_wp2_with fail
  refine (rint_c 9223372036854775807 _).mono ?_
  rintro e w8 ⟨rfl, hb8⟩
  have t1 := t1.after hb8
  have t2 := t2.after hb8
  have t3 := t3.after hb8
  have t4 := t4.after hb8
  have hb' := hb.trans (hb8.mono hb.size)
  clear hb hb8
  go_wp2_with fail
  refine (rint_c 1 _).mono ?_
  rintro e w9 ⟨rfl, hb9⟩
  have t1 := t1.after hb9
  have t2 := t2.after hb9
  have t3 := t3.after hb9
  have t4 := t4.after hb9
  have hb := hb'.trans (hb9.mono hb'.size)
  clear hb' hb9
  go_wp2_with fail
  refine (add_c (iv 9223372036854775807) (iv 1) _).mono ?_
  rintro e w10 ⟨rfl, hb10⟩
  rw [add_over]
  have t1 := t1.after hb10
  have t2 := t2.after hb10
  have t3 := t3.after hb10
  have t4 := t4.after hb10
  have hb' := hb.trans (hb10.mono hb.size)
  clear hb hb10
  -- REGIONS
  go_wp2_with fail
  have t1 := t1.alloc (.cells #[.int .i64 nl.k, .int .i64 nl.n, .string nl.s] 25)
  have t2 := t2.alloc (.cells #[.int .i64 nl.k, .int .i64 nl.n, .string nl.s] 25)
  have t3 := t3.alloc (.cells #[.int .i64 nl.k, .int .i64 nl.n, .string nl.s] 25)
  have t4 := t4.alloc (.cells #[.int .i64 nl.k, .int .i64 nl.n, .string nl.s] 25)
  have hb := hb'.alloc hb'.size (.cells #[.int .i64 nl.k, .int .i64 nl.n, .string nl.s] 25)
  clear hb'
  generalize (w10.alloc (.cells #[.int .i64 nl.k, .int .i64 nl.n, .string nl.s] 25)) = w11 at *
  obtain ⟨B, hBe⟩ : ∃ B, w11.heap.size = B := ⟨_, rfl⟩
  refine Reg.wp_region_free mixed (by kernel_rfl) [(27, .int .i64 (-9223372036854775808)), (28, (iv (-9223372036854775808)).v), (29, nl.v), (30, .tuple #[nl.v, .bool true]), (26, .tuple #[nl.v, .bool true]), (31, nl.v), (32, .bool true), (9, .bool true)] [8] (fun i => if i == 7 || i == 8 then [8] else []) (madeP B 7 8 nl) 103 rfl (by kernel_rfl) ?_ ?_
  · intro g F hF hn hv w' hB
    have t3' := t3.after hB
    have hBw : w11.heap.size ≤ w'.heap.size := hB.size
    rw [hBe] at hBw ⊢
    refine ⟨?_, ?_, ?_, ?_, ?_, ?_, ?_, ?_, ?_, ?_, trivial⟩
    · exact fun _ => Reg.does_exact hn hv (madeP_stab B 7 8 nl) hBw (fun _ _ => trivial) rfl (Reg.doesV_call (least_c w') (ev_call enLeast rfl (by rw [hF]; kernel_rfl)) (by rw [hF]; kernel_rfl) (by rw [hF]; kernel_rfl))
    · exact fun _ => Reg.does_exact hn hv (madeP_stab B 7 8 nl) hBw (fun _ _ => trivial) rfl (Reg.doesV_call (rint_c (-9223372036854775808) w') (ev_call enInt rfl (by rw [hF]; kernel_rfl)) (by rw [hF]; kernel_rfl) (by rw [hF]; kernel_rfl))
    · exact fun _ => Reg.does_exact hn hv (madeP_stab B 7 8 nl) hBw (fun _ _ => trivial) rfl (Reg.doesV_val (ev_load t3' rfl (by rw [hF]; kernel_rfl)) (by rw [hF]; kernel_rfl) (by rw [hF]; kernel_rfl))
    · exact fun _ => Reg.does_exact hn hv (madeP_stab B 7 8 nl) hBw (fun _ _ => trivial) rfl (Reg.doesV_call (by have h := mul_c (iv (-9223372036854775808)) nl w'; rw [mul_null] at h; exact h) (ev_call enMulF rfl (by rw [hF]; kernel_rfl)) (by rw [hF]; kernel_rfl) (by rw [hF]; kernel_rfl))
    · exact fun _ => Reg.does_exact hn hv (madeP_stab B 7 8 nl) hBw (fun _ _ => trivial) rfl (Reg.doesV_val (ev_move rfl) (by rw [hF]; kernel_rfl) (by rw [hF]; kernel_rfl))
    · exact fun _ => Reg.does_exact hn hv (madeP_stab B 7 8 nl) hBw (fun _ _ => trivial) rfl (Reg.doesV_val (ev_extract (vs := #[nl.v, .bool true]) rfl (by rw [hF]; kernel_rfl) rfl) (by rw [hF]; kernel_rfl) (by rw [hF]; kernel_rfl))
    · exact fun _ => Reg.does_exact hn hv (madeP_stab B 7 8 nl) hBw (fun _ _ => trivial) rfl (Reg.doesV_val (ev_extract (vs := #[nl.v, .bool true]) rfl (by rw [hF]; kernel_rfl) rfl) (by rw [hF]; kernel_rfl) (by rw [hF]; kernel_rfl))
    · exact fun _ => Reg.does_free (d := 8) hn (madeP_stab B 7 8 nl) hBw rfl (by decide) (by kernel_rfl) rfl (ev_alloc rfl) (by rw [hF]; kernel_rfl) (below_one _ _) ⟨_, nl, rfl, hBw, Bx.new w' nl⟩
    · intro hpre
      obtain ⟨b, x, h8, hbB, hbx⟩ := hpre 7 (of_decide_eq_true (by kernel_rfl))
      have h8' : Reg.slot F 8 = .pointer (some ⟨b, 0, none⟩) := List.head_eq_of_cons_eq h8
      exact Reg.does_store rfl (ev_store (a := nl) hbx rfl h8' (by rw [hF]; kernel_rfl)) (by rw [hF]; kernel_rfl) (put3_below (Below.refl _ _) hbB nl) ⟨b, h8, hbB, hbx.put nl⟩ (fun j hj h => madeP_put B 7 8 nl nl w' b x hbx j _ hj h)
    · exact fun _ => Reg.does_exact hn hv (madeP_stab B 7 8 nl) hBw (fun _ _ => trivial) rfl (Reg.doesV_val (ev_assign rfl) (by rw [hF]; kernel_rfl) (by rw [hF]; kernel_rfl))
  intro g F hF w12 hB hall
  obtain ⟨b8, h8, hb8, t8⟩ := hall 8 (Nat.le_of_ble_eq_true (by kernel_rfl))
  have h8a : Reg.slot F 8 = .pointer (some ⟨b8, 0, none⟩) := List.head_eq_of_cons_eq h8
  have h8b : Reg.slot F 8 = g 8 := by rw [hF]; kernel_rfl
  have h8' : g 8 = .pointer (some ⟨b8, 0, none⟩) := h8b.symm.trans h8a
  have t1 := t1.after hB
  have t2 := t2.after hB
  have t3 := t3.after hB
  have t4 := t4.after hB
  have hb := hb.trans (hB.mono hb.size)
  rw [hF]
  simp only [Reg.fin, List.cons_append, List.nil_append, List.map_cons, List.map_nil, Reg.putAll, Act.put, List.setIfInBounds_toArray, List.set_cons_zero, List.set_cons_succ]
  rw [h8']
  clear h8 h8' h8a h8b hF F hall hB hb8 hBe
  go_wp2_with fail
  refine Reg.wp_region_free mixed (by kernel_rfl) [(33, tt.v), (34, nl.v), (36, nl.v), (37, nl.v), (38, .bool true), (39, .bool true), (40, ff.v), (41, nl.v), (43, ff.v), (44, ff.v), (45, .bool true), (46, .bool true), (47, .bool true), (48, tt.v), (49, tt.v), (50, .bool true), (51, .bool true), (52, .bool true), (53, ff.v), (54, ff.v), (55, .bool true), (56, .bool true), (57, .bool true), (58, ff.v), (59, tt.v), (60, tt.v), (61, .bool true), (62, .bool true), (63, .bool true), (64, (iv 5).v), (65, (iv 5).v), (66, .bool true), (67, .bool true), (68, .bool true), (69, .bool true), (70, .bool true), (71, .bool true), (72, .bool false), (73, .bool true), (74, .bool true), (75, .bool true), (76, nl.v), (77, nl.v), (78, .bool true), (79, .bool true), (80, .bool true), (81, .bool true), (82, .bool true), (83, .bool true), (84, abV.v), (85, .string ⟨#[39, 97, 39, 39, 98, 39]⟩), (86, .bool true), (87, .bool true), (88, .bool true), (89, nl.v), (90, ff.v), (91, .int .i64 (-1)), (92, .bool true), (93, .bool true), (94, .bool true), (95, tt.v), (96, .bool true), (97, .bool true), (98, .bool true), (99, oneV.v), (100, .bool false), (101, .bool true), (102, .bool true), (0, .bool true)] [35, 42] (fun i => if i == 2 then [35] else if i == 9 then [42] else []) (slP 2 9 [tt, nl] [ff, nl]) 103 rfl (by kernel_rfl) ?_ ?_
  · intro g F hF hn hv w' hB
    have t1' := t1.after hB
    have t2' := t2.after hB
    have t3' := t3.after hB
    have t4' := t4.after hB
    have t8' := t8.after hB
    have hBw : w12.heap.size ≤ w'.heap.size := hB.size
    have hmw : w'.cell? ⟨0, 0, none⟩ = some (.int .i64 m) := ((hb.trans (hB.mono hb.size)).cell (World.block_lt_of_cell? _ _ Hm.out)).trans Hm.out
    refine ⟨?_, ?_, ?_, ?_, ?_, ?_, ?_, ?_, ?_, ?_, ?_, ?_, ?_, ?_, ?_, ?_, ?_, ?_, ?_, ?_, ?_, ?_, ?_, ?_, ?_, ?_, ?_, ?_, ?_, ?_, ?_, ?_, ?_, ?_, ?_, ?_, ?_, ?_, ?_, ?_, ?_, ?_, ?_, ?_, ?_, ?_, ?_, ?_, ?_, ?_, ?_, ?_, ?_, ?_, ?_, ?_, ?_, ?_, ?_, ?_, ?_, ?_, ?_, ?_, ?_, ?_, ?_, ?_, ?_, ?_, ?_, trivial⟩
    · exact fun _ => Reg.does_exact hn hv (slP_stab 2 9 [tt, nl] [ff, nl]) hBw (fun _ _ => trivial) rfl (Reg.doesV_val (ev_load t1' rfl (by rw [hF]; kernel_rfl)) (by rw [hF]; kernel_rfl) (by rw [hF]; kernel_rfl))
    · exact fun _ => Reg.does_exact hn hv (slP_stab 2 9 [tt, nl] [ff, nl]) hBw (fun _ _ => trivial) rfl (Reg.doesV_val (ev_load t3' rfl (by rw [hF]; kernel_rfl)) (by rw [hF]; kernel_rfl) (by rw [hF]; kernel_rfl))
    · exact fun _ => Reg.does_free (d := 35) hn (slP_stab 2 9 [tt, nl] [ff, nl]) hBw rfl (by decide) (by kernel_rfl) rfl (ev_build2 tt nl rfl (by rw [hF]; kernel_rfl) (by rw [hF]; kernel_rfl)) (by rw [hF]; kernel_rfl) (below_one _ _) ⟨_, rfl, Sl.new2 w' tt nl⟩
    · intro hpre
      obtain ⟨b, h35, hsl⟩ := hpre 2 (of_decide_eq_true (by kernel_rfl))
      have h35' : F.eval (.tmp 35) = .slice (some ⟨b, 0, none⟩) 2 2 := List.head_eq_of_cons_eq h35
      exact Reg.does_exact hn hv (slP_stab 2 9 [tt, nl] [ff, nl]) hBw (fun _ _ => trivial) rfl (Reg.doesV_call (by have h := and_c (some ⟨b, 0, none⟩) 2 2 [tt, nl] w' rfl (by decide) hsl; rw [andV_tn] at h; exact h) (ev_call enAnd rfl (by simp only [List.map_toArray, List.map_cons, List.map_nil, h35'])) (by rw [hF]; kernel_rfl) (by rw [hF]; kernel_rfl))
    · exact fun _ => Reg.does_exact hn hv (slP_stab 2 9 [tt, nl] [ff, nl]) hBw (fun _ _ => trivial) rfl (Reg.doesV_val (ev_load t3' rfl (by rw [hF]; kernel_rfl)) (by rw [hF]; kernel_rfl) (by rw [hF]; kernel_rfl))
    · exact fun _ => Reg.does_exact hn hv (slP_stab 2 9 [tt, nl] [ff, nl]) hBw (fun _ _ => trivial) rfl (Reg.doesV_val (by rw [ev_eq nl nl rfl (by rw [hF]; kernel_rfl) (by rw [hF]; kernel_rfl), Val.eq_self]) (by rw [hF]; kernel_rfl) (by rw [hF]; kernel_rfl))
    · exact fun _ => Reg.does_exact hn hv (slP_stab 2 9 [tt, nl] [ff, nl]) hBw (fun _ _ => trivial) rfl (Reg.doesV_val (ev_move rfl) (by rw [hF]; kernel_rfl) (by rw [hF]; kernel_rfl))
    · exact fun _ => Reg.does_exact hn hv (slP_stab 2 9 [tt, nl] [ff, nl]) hBw (fun _ _ => trivial) rfl (Reg.doesV_val (ev_load t2' rfl (by rw [hF]; kernel_rfl)) (by rw [hF]; kernel_rfl) (by rw [hF]; kernel_rfl))
    · exact fun _ => Reg.does_exact hn hv (slP_stab 2 9 [tt, nl] [ff, nl]) hBw (fun _ _ => trivial) rfl (Reg.doesV_val (ev_load t3' rfl (by rw [hF]; kernel_rfl)) (by rw [hF]; kernel_rfl) (by rw [hF]; kernel_rfl))
    · exact fun _ => Reg.does_free (d := 42) hn (slP_stab 2 9 [tt, nl] [ff, nl]) hBw rfl (by decide) (by kernel_rfl) rfl (ev_build2 ff nl rfl (by rw [hF]; kernel_rfl) (by rw [hF]; kernel_rfl)) (by rw [hF]; kernel_rfl) (below_one _ _) ⟨_, rfl, Sl.new2 w' ff nl⟩
    · intro hpre
      obtain ⟨b, h35, hsl⟩ := hpre 9 (of_decide_eq_true (by kernel_rfl))
      have h35' : F.eval (.tmp 42) = .slice (some ⟨b, 0, none⟩) 2 2 := List.head_eq_of_cons_eq h35
      exact Reg.does_exact hn hv (slP_stab 2 9 [tt, nl] [ff, nl]) hBw (fun _ _ => trivial) rfl (Reg.doesV_call (by have h := and_c (some ⟨b, 0, none⟩) 2 2 [ff, nl] w' rfl (by decide) hsl; rw [andV_fn] at h; exact h) (ev_call enAnd rfl (by simp only [List.map_toArray, List.map_cons, List.map_nil, h35'])) (by rw [hF]; kernel_rfl) (by rw [hF]; kernel_rfl))
    · exact fun _ => Reg.does_exact hn hv (slP_stab 2 9 [tt, nl] [ff, nl]) hBw (fun _ _ => trivial) rfl (Reg.doesV_val (ev_load t2' rfl (by rw [hF]; kernel_rfl)) (by rw [hF]; kernel_rfl) (by rw [hF]; kernel_rfl))
    · exact fun _ => Reg.does_exact hn hv (slP_stab 2 9 [tt, nl] [ff, nl]) hBw (fun _ _ => trivial) rfl (Reg.doesV_val (by rw [ev_eq ff ff rfl (by rw [hF]; kernel_rfl) (by rw [hF]; kernel_rfl), Val.eq_self]) (by rw [hF]; kernel_rfl) (by rw [hF]; kernel_rfl))
    · exact fun _ => Reg.does_exact hn hv (slP_stab 2 9 [tt, nl] [ff, nl]) hBw (fun _ _ => trivial) rfl (Reg.doesV_val (ev_pick true rfl (by rw [hF]; kernel_rfl)) (by rw [hF]; kernel_rfl) (by rw [hF]; kernel_rfl))
    · exact fun _ => Reg.does_exact hn hv (slP_stab 2 9 [tt, nl] [ff, nl]) hBw (fun _ _ => trivial) rfl (Reg.doesV_val (ev_move rfl) (by rw [hF]; kernel_rfl) (by rw [hF]; kernel_rfl))
    · exact fun _ => Reg.does_exact hn hv (slP_stab 2 9 [tt, nl] [ff, nl]) hBw (fun _ _ => trivial) rfl (Reg.doesV_call (by have h := and_c none 0 0 [] w' rfl (by decide) (.inl rfl); rw [andV_0] at h; exact h) (ev_call enAnd rfl (by rw [hF]; kernel_rfl)) (by rw [hF]; kernel_rfl) (by rw [hF]; kernel_rfl))
    · exact fun _ => Reg.does_exact hn hv (slP_stab 2 9 [tt, nl] [ff, nl]) hBw (fun _ _ => trivial) rfl (Reg.doesV_val (ev_load t1' rfl (by rw [hF]; kernel_rfl)) (by rw [hF]; kernel_rfl) (by rw [hF]; kernel_rfl))
    · exact fun _ => Reg.does_exact hn hv (slP_stab 2 9 [tt, nl] [ff, nl]) hBw (fun _ _ => trivial) rfl (Reg.doesV_val (by rw [ev_eq tt tt rfl (by rw [hF]; kernel_rfl) (by rw [hF]; kernel_rfl), Val.eq_self]) (by rw [hF]; kernel_rfl) (by rw [hF]; kernel_rfl))
    · exact fun _ => Reg.does_exact hn hv (slP_stab 2 9 [tt, nl] [ff, nl]) hBw (fun _ _ => trivial) rfl (Reg.doesV_val (ev_pick true rfl (by rw [hF]; kernel_rfl)) (by rw [hF]; kernel_rfl) (by rw [hF]; kernel_rfl))
    · exact fun _ => Reg.does_exact hn hv (slP_stab 2 9 [tt, nl] [ff, nl]) hBw (fun _ _ => trivial) rfl (Reg.doesV_val (ev_move rfl) (by rw [hF]; kernel_rfl) (by rw [hF]; kernel_rfl))
    · exact fun _ => Reg.does_exact hn hv (slP_stab 2 9 [tt, nl] [ff, nl]) hBw (fun _ _ => trivial) rfl (Reg.doesV_call (by have h := or_c none 0 0 [] w' rfl (by decide) (.inl rfl); rw [orV_0] at h; exact h) (ev_call enOr rfl (by rw [hF]; kernel_rfl)) (by rw [hF]; kernel_rfl) (by rw [hF]; kernel_rfl))
    · exact fun _ => Reg.does_exact hn hv (slP_stab 2 9 [tt, nl] [ff, nl]) hBw (fun _ _ => trivial) rfl (Reg.doesV_val (ev_load t2' rfl (by rw [hF]; kernel_rfl)) (by rw [hF]; kernel_rfl) (by rw [hF]; kernel_rfl))
    · exact fun _ => Reg.does_exact hn hv (slP_stab 2 9 [tt, nl] [ff, nl]) hBw (fun _ _ => trivial) rfl (Reg.doesV_val (by rw [ev_eq ff ff rfl (by rw [hF]; kernel_rfl) (by rw [hF]; kernel_rfl), Val.eq_self]) (by rw [hF]; kernel_rfl) (by rw [hF]; kernel_rfl))
    · exact fun _ => Reg.does_exact hn hv (slP_stab 2 9 [tt, nl] [ff, nl]) hBw (fun _ _ => trivial) rfl (Reg.doesV_val (ev_pick true rfl (by rw [hF]; kernel_rfl)) (by rw [hF]; kernel_rfl) (by rw [hF]; kernel_rfl))
    · exact fun _ => Reg.does_exact hn hv (slP_stab 2 9 [tt, nl] [ff, nl]) hBw (fun _ _ => trivial) rfl (Reg.doesV_val (ev_move rfl) (by rw [hF]; kernel_rfl) (by rw [hF]; kernel_rfl))
    · exact fun _ => Reg.does_exact hn hv (slP_stab 2 9 [tt, nl] [ff, nl]) hBw (fun _ _ => trivial) rfl (Reg.doesV_val (ev_load t2' rfl (by rw [hF]; kernel_rfl)) (by rw [hF]; kernel_rfl) (by rw [hF]; kernel_rfl))
    · exact fun _ => Reg.does_exact hn hv (slP_stab 2 9 [tt, nl] [ff, nl]) hBw (fun _ _ => trivial) rfl (Reg.doesV_call (by have h := not_c ff w'; rw [nt_ff] at h; exact h) (ev_call enNot rfl (by rw [hF]; kernel_rfl)) (by rw [hF]; kernel_rfl) (by rw [hF]; kernel_rfl))
    · exact fun _ => Reg.does_exact hn hv (slP_stab 2 9 [tt, nl] [ff, nl]) hBw (fun _ _ => trivial) rfl (Reg.doesV_val (ev_load t1' rfl (by rw [hF]; kernel_rfl)) (by rw [hF]; kernel_rfl) (by rw [hF]; kernel_rfl))
    · exact fun _ => Reg.does_exact hn hv (slP_stab 2 9 [tt, nl] [ff, nl]) hBw (fun _ _ => trivial) rfl (Reg.doesV_val (by rw [ev_eq tt tt rfl (by rw [hF]; kernel_rfl) (by rw [hF]; kernel_rfl), Val.eq_self]) (by rw [hF]; kernel_rfl) (by rw [hF]; kernel_rfl))
    · exact fun _ => Reg.does_exact hn hv (slP_stab 2 9 [tt, nl] [ff, nl]) hBw (fun _ _ => trivial) rfl (Reg.doesV_val (ev_pick true rfl (by rw [hF]; kernel_rfl)) (by rw [hF]; kernel_rfl) (by rw [hF]; kernel_rfl))
    · exact fun _ => Reg.does_exact hn hv (slP_stab 2 9 [tt, nl] [ff, nl]) hBw (fun _ _ => trivial) rfl (Reg.doesV_val (ev_move rfl) (by rw [hF]; kernel_rfl) (by rw [hF]; kernel_rfl))
    · exact fun _ => Reg.does_exact hn hv (slP_stab 2 9 [tt, nl] [ff, nl]) hBw (fun _ _ => trivial) rfl (Reg.doesV_val (ev_load t4' rfl (by rw [hF]; kernel_rfl)) (by rw [hF]; kernel_rfl) (by rw [hF]; kernel_rfl))
    · exact fun _ => Reg.does_exact hn hv (slP_stab 2 9 [tt, nl] [ff, nl]) hBw (fun _ _ => trivial) rfl (Reg.doesV_call (rint_c 5 w') (ev_call enInt rfl (by rw [hF]; kernel_rfl)) (by rw [hF]; kernel_rfl) (by rw [hF]; kernel_rfl))
    · exact fun _ => Reg.does_exact hn hv (slP_stab 2 9 [tt, nl] [ff, nl]) hBw (fun _ _ => trivial) rfl (Reg.doesV_val (by rw [ev_eq (iv 5) (iv 5) rfl (by rw [hF]; kernel_rfl) (by rw [hF]; kernel_rfl), Val.eq_self]) (by rw [hF]; kernel_rfl) (by rw [hF]; kernel_rfl))
    · exact fun _ => Reg.does_exact hn hv (slP_stab 2 9 [tt, nl] [ff, nl]) hBw (fun _ _ => trivial) rfl (Reg.doesV_val (ev_pick true rfl (by rw [hF]; kernel_rfl)) (by rw [hF]; kernel_rfl) (by rw [hF]; kernel_rfl))
    · exact fun _ => Reg.does_exact hn hv (slP_stab 2 9 [tt, nl] [ff, nl]) hBw (fun _ _ => trivial) rfl (Reg.doesV_val (ev_move rfl) (by rw [hF]; kernel_rfl) (by rw [hF]; kernel_rfl))
    · exact fun _ => Reg.does_exact hn hv (slP_stab 2 9 [tt, nl] [ff, nl]) hBw (fun _ _ => trivial) rfl (Reg.doesV_val (ev_move rfl) (by rw [hF]; kernel_rfl) (by rw [hF]; kernel_rfl))
    · exact fun _ => Reg.does_exact hn hv (slP_stab 2 9 [tt, nl] [ff, nl]) hBw (fun _ _ => trivial) rfl (Reg.doesV_val (ev_pick true rfl (by rw [hF]; kernel_rfl)) (by rw [hF]; kernel_rfl) (by rw [hF]; kernel_rfl))
    · exact fun _ => Reg.does_exact hn hv (slP_stab 2 9 [tt, nl] [ff, nl]) hBw (fun _ _ => trivial) rfl (Reg.doesV_val (ev_move rfl) (by rw [hF]; kernel_rfl) (by rw [hF]; kernel_rfl))
    · exact fun _ => Reg.does_exact hn hv (slP_stab 2 9 [tt, nl] [ff, nl]) hBw (fun _ _ => trivial) rfl (Reg.doesV_val (ev_move rfl) (by rw [hF]; kernel_rfl) (by rw [hF]; kernel_rfl))
    · exact fun _ => Reg.does_exact hn hv (slP_stab 2 9 [tt, nl] [ff, nl]) hBw (fun _ _ => trivial) rfl (Reg.doesV_val (ev_not false rfl (by rw [hF]; kernel_rfl)) (by rw [hF]; kernel_rfl) (by rw [hF]; kernel_rfl))
    · exact fun _ => Reg.does_exact hn hv (slP_stab 2 9 [tt, nl] [ff, nl]) hBw (fun _ _ => trivial) rfl (Reg.doesV_val (ev_pick true rfl (by rw [hF]; kernel_rfl)) (by rw [hF]; kernel_rfl) (by rw [hF]; kernel_rfl))
    · exact fun _ => Reg.does_exact hn hv (slP_stab 2 9 [tt, nl] [ff, nl]) hBw (fun _ _ => trivial) rfl (Reg.doesV_val (ev_move rfl) (by rw [hF]; kernel_rfl) (by rw [hF]; kernel_rfl))
    · exact fun _ => Reg.does_exact hn hv (slP_stab 2 9 [tt, nl] [ff, nl]) hBw (fun _ _ => trivial) rfl (Reg.doesV_val (ev_load t8' rfl (by rw [hF]; kernel_rfl)) (by rw [hF]; kernel_rfl) (by rw [hF]; kernel_rfl))
    · exact fun _ => Reg.does_exact hn hv (slP_stab 2 9 [tt, nl] [ff, nl]) hBw (fun _ _ => trivial) rfl (Reg.doesV_val (ev_load t3' rfl (by rw [hF]; kernel_rfl)) (by rw [hF]; kernel_rfl) (by rw [hF]; kernel_rfl))
    · exact fun _ => Reg.does_exact hn hv (slP_stab 2 9 [tt, nl] [ff, nl]) hBw (fun _ _ => trivial) rfl (Reg.doesV_val (by rw [ev_eq nl nl rfl (by rw [hF]; kernel_rfl) (by rw [hF]; kernel_rfl), Val.eq_self]) (by rw [hF]; kernel_rfl) (by rw [hF]; kernel_rfl))
    · exact fun _ => Reg.does_exact hn hv (slP_stab 2 9 [tt, nl] [ff, nl]) hBw (fun _ _ => trivial) rfl (Reg.doesV_val (ev_pick true rfl (by rw [hF]; kernel_rfl)) (by rw [hF]; kernel_rfl) (by rw [hF]; kernel_rfl))
    · exact fun _ => Reg.does_exact hn hv (slP_stab 2 9 [tt, nl] [ff, nl]) hBw (fun _ _ => trivial) rfl (Reg.doesV_val (ev_move rfl) (by rw [hF]; kernel_rfl) (by rw [hF]; kernel_rfl))
    · exact fun _ => Reg.does_exact hn hv (slP_stab 2 9 [tt, nl] [ff, nl]) hBw (fun _ _ => trivial) rfl (Reg.doesV_val (ev_move rfl) (by rw [hF]; kernel_rfl) (by rw [hF]; kernel_rfl))
    · exact fun _ => Reg.does_exact hn hv (slP_stab 2 9 [tt, nl] [ff, nl]) hBw (fun _ _ => trivial) rfl (Reg.doesV_val (ev_pick true rfl (by rw [hF]; kernel_rfl)) (by rw [hF]; kernel_rfl) (by rw [hF]; kernel_rfl))
    · exact fun _ => Reg.does_exact hn hv (slP_stab 2 9 [tt, nl] [ff, nl]) hBw (fun _ _ => trivial) rfl (Reg.doesV_val (ev_move rfl) (by rw [hF]; kernel_rfl) (by rw [hF]; kernel_rfl))
    · exact fun _ => Reg.does_exact hn hv (slP_stab 2 9 [tt, nl] [ff, nl]) hBw (fun _ _ => trivial) rfl (Reg.doesV_val (v := abV.v) (by rw [hF]; kernel_rfl) (by rw [hF]; kernel_rfl) (by rw [hF]; kernel_rfl))
    · exact fun _ => Reg.does_exact hn hv (slP_stab 2 9 [tt, nl] [ff, nl]) hBw (fun _ _ => trivial) rfl (Reg.doesV_call (text_abc m w' hmw) (ev_call enText rfl (by rw [hF]; kernel_rfl)) (by rw [hF]; kernel_rfl) (by rw [hF]; kernel_rfl))
    · exact fun _ => Reg.does_exact hn hv (slP_stab 2 9 [tt, nl] [ff, nl]) hBw (fun _ _ => trivial) rfl (Reg.doesV_val (v := .bool true) (by rw [hF]; kernel_rfl) (by rw [hF]; kernel_rfl) (by rw [hF]; kernel_rfl))
    · exact fun _ => Reg.does_exact hn hv (slP_stab 2 9 [tt, nl] [ff, nl]) hBw (fun _ _ => trivial) rfl (Reg.doesV_val (ev_pick true rfl (by rw [hF]; kernel_rfl)) (by rw [hF]; kernel_rfl) (by rw [hF]; kernel_rfl))
    · exact fun _ => Reg.does_exact hn hv (slP_stab 2 9 [tt, nl] [ff, nl]) hBw (fun _ _ => trivial) rfl (Reg.doesV_val (ev_move rfl) (by rw [hF]; kernel_rfl) (by rw [hF]; kernel_rfl))
    · exact fun _ => Reg.does_exact hn hv (slP_stab 2 9 [tt, nl] [ff, nl]) hBw (fun _ _ => trivial) rfl (Reg.doesV_val (ev_load t3' rfl (by rw [hF]; kernel_rfl)) (by rw [hF]; kernel_rfl) (by rw [hF]; kernel_rfl))
    · exact fun _ => Reg.does_exact hn hv (slP_stab 2 9 [tt, nl] [ff, nl]) hBw (fun _ _ => trivial) rfl (Reg.doesV_val (ev_load t2' rfl (by rw [hF]; kernel_rfl)) (by rw [hF]; kernel_rfl) (by rw [hF]; kernel_rfl))
    · exact fun _ => Reg.does_exact hn hv (slP_stab 2 9 [tt, nl] [ff, nl]) hBw (fun _ _ => trivial) rfl (Reg.doesV_call (by have h := compare_c nl ff w'; rw [cmp_nf] at h; exact h) (ev_call enCmp rfl (by rw [hF]; kernel_rfl)) (by rw [hF]; kernel_rfl) (by rw [hF]; kernel_rfl))
    · exact fun _ => Reg.does_exact hn hv (slP_stab 2 9 [tt, nl] [ff, nl]) hBw (fun _ _ => trivial) rfl (Reg.doesV_val (v := .bool true) (by rw [hF]; kernel_rfl) (by rw [hF]; kernel_rfl) (by rw [hF]; kernel_rfl))
    · exact fun _ => Reg.does_exact hn hv (slP_stab 2 9 [tt, nl] [ff, nl]) hBw (fun _ _ => trivial) rfl (Reg.doesV_val (ev_pick true rfl (by rw [hF]; kernel_rfl)) (by rw [hF]; kernel_rfl) (by rw [hF]; kernel_rfl))
    · exact fun _ => Reg.does_exact hn hv (slP_stab 2 9 [tt, nl] [ff, nl]) hBw (fun _ _ => trivial) rfl (Reg.doesV_val (ev_move rfl) (by rw [hF]; kernel_rfl) (by rw [hF]; kernel_rfl))
    · exact fun _ => Reg.does_exact hn hv (slP_stab 2 9 [tt, nl] [ff, nl]) hBw (fun _ _ => trivial) rfl (Reg.doesV_val (ev_load t1' rfl (by rw [hF]; kernel_rfl)) (by rw [hF]; kernel_rfl) (by rw [hF]; kernel_rfl))
    · exact fun _ => Reg.does_exact hn hv (slP_stab 2 9 [tt, nl] [ff, nl]) hBw (fun _ _ => trivial) rfl (Reg.doesV_call (may_tt w') (ev_call enMay rfl (by rw [hF]; kernel_rfl)) (by rw [hF]; kernel_rfl) (by rw [hF]; kernel_rfl))
    · exact fun _ => Reg.does_exact hn hv (slP_stab 2 9 [tt, nl] [ff, nl]) hBw (fun _ _ => trivial) rfl (Reg.doesV_val (ev_pick true rfl (by rw [hF]; kernel_rfl)) (by rw [hF]; kernel_rfl) (by rw [hF]; kernel_rfl))
    · exact fun _ => Reg.does_exact hn hv (slP_stab 2 9 [tt, nl] [ff, nl]) hBw (fun _ _ => trivial) rfl (Reg.doesV_val (ev_move rfl) (by rw [hF]; kernel_rfl) (by rw [hF]; kernel_rfl))
    · exact fun _ => Reg.does_exact hn hv (slP_stab 2 9 [tt, nl] [ff, nl]) hBw (fun _ _ => trivial) rfl (Reg.doesV_val (v := oneV.v) (by rw [hF]; kernel_rfl) (by rw [hF]; kernel_rfl) (by rw [hF]; kernel_rfl))
    · exact fun _ => Reg.does_exact hn hv (slP_stab 2 9 [tt, nl] [ff, nl]) hBw (fun _ _ => trivial) rfl (Reg.doesV_call (may_01 w') (ev_call enMay rfl (by rw [hF]; kernel_rfl)) (by rw [hF]; kernel_rfl) (by rw [hF]; kernel_rfl))
    · exact fun _ => Reg.does_exact hn hv (slP_stab 2 9 [tt, nl] [ff, nl]) hBw (fun _ _ => trivial) rfl (Reg.doesV_val (ev_not false rfl (by rw [hF]; kernel_rfl)) (by rw [hF]; kernel_rfl) (by rw [hF]; kernel_rfl))
    · exact fun _ => Reg.does_exact hn hv (slP_stab 2 9 [tt, nl] [ff, nl]) hBw (fun _ _ => trivial) rfl (Reg.doesV_val (ev_pick true rfl (by rw [hF]; kernel_rfl)) (by rw [hF]; kernel_rfl) (by rw [hF]; kernel_rfl))
    · exact fun _ => Reg.does_exact hn hv (slP_stab 2 9 [tt, nl] [ff, nl]) hBw (fun _ _ => trivial) rfl (Reg.doesV_val (ev_assign rfl) (by rw [hF]; kernel_rfl) (by rw [hF]; kernel_rfl))
  intro g F hF w13 hB _
  have hbf := hb.trans (hB.mono hb.size)
  rw [hF]
  clear hF
  simp only [Reg.fin, List.cons_append, List.nil_append, List.map_cons, List.map_nil, Reg.putAll, Act.put, List.setIfInBounds_toArray, List.set_cons_zero, List.set_cons_succ]
  go_wp2
  go_ret
  exact ⟨rfl, hbf⟩
end Go.Proofs.YtacmfjhmicgpnaaDoor
