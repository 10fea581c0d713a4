/-
  The calls whose answers the document fixes, of layer 3: they are answered so, in every world that holds the table of words.
-/
import Derived.Test.YticofedglhfdpaaGreatDoorEFacts
namespace Go.Proofs.YticofedglhfdpaaGreatDoor
open Go Go.RowKit
set_option maxRecDepth 100000

theorem SlI.new1 (w : World) (k : Int) : SlI (w.alloc (.cells #[.int .i64 k] 3)) (some ⟨w.heap.size, 0, none⟩) [k] := by
  have h : Tk (w.alloc (.cells #[.int .i64 k] 3)) w.heap.size [k] := by
    show (w.heap.push _)[w.heap.size]? = _
    simp
  exact h.sl
theorem Sl.newOne (w : World) (x : Val) : Sl (w.alloc (.cells #[.int .i64 x.k, .int .i64 x.n, .string x.s] 31)) (some ⟨w.heap.size, 0, none⟩) [x] := by
  have h := Bx.new w x
  refine .inr ⟨w.heap.size, 0, rfl, h.lt, fun i a ha => ?_⟩
  match i, ha with
  | 0, ha => simp at ha; subst ha; exact ⟨h.cell0, h.cell1, h.cell2⟩
  | i + 1, ha => simp at ha
theorem lowZ : ∀ x ∈ lowE, x.v.s.size ≤ maxLen := by
  intro x hx
  simp only [lowE, List.mem_cons, List.not_mem_nil, or_false] at hx
  rcases hx with rfl | rfl | rfl | rfl | rfl <;> exact Nat.zero_le _
theorem enLow : ∀ args w, (callFunc 9 args).run Tryz.prog w = .ok (.enter 9 args) w := fun _ _ => by kernel_rfl
theorem enTextE : ∀ args w, (callFunc 14 args).run Tryz.prog w = .ok (.enter 14 args) w := fun _ _ => by kernel_rfl
/-- What is known of the slot that is left open. -/
def lowQ (i : Nat) (vs : List Value) (w : World) : Prop := if i = 49 then ∃ g, vs = [.slice (some ⟨g, 0, none⟩) 5 5] ∧ SlN w (some ⟨g, 0, none⟩) lowE else True
theorem lowQ_stab : ∀ j vs w w', Below w.heap.size w w' → lowQ j vs w → lowQ j vs w' := by
  intro j vs w w' hb h
  unfold lowQ at *
  split
  · rename_i e
    rw [if_pos e] at h
    obtain ⟨g, h1, h2⟩ := h
    exact ⟨g, h1, h2.after hb⟩
  · trivial
/-- A call that fills an open slot. -/
theorem does_freeC {P : Program} {ops : Array Oper} {vals : List (Tmp × Value)} {sf : Nat → List Tmp} {p : Nat → List Value → World → Prop} {B n i : Nat} {F : Act} {o : Oper} {w : World} {d : Tmp} {f : FuncId} {args : Array Value} (hn : F.tmps.size = n)
    (stab : ∀ j vs w w', Below w.heap.size w w' → p j vs w → p j vs w') (hB : B ≤ w.heap.size) (hd : o.dst = some d) (hlt : d < n) (hno : ((vals.map (·.1)).contains d) = false) (hsf : sf i = [d])
    (hr : (execOp F.eval o).run P w = .ok (.enter f args) w) (hw : Region.wanted o (yielded ops F.tmps) = true) (hc : Calls P f args w fun e w' => ∃ v, e = .returned v ∧ Below w.heap.size w w' ∧ p i [v] w') : Reg.Does P ops vals sf p B F i o w := by
  unfold Reg.Does
  rw [if_pos hw]
  unfold Oper.wp
  rw [hr]
  refine Calls.mono hc ?_
  rintro e w' ⟨v, rfl, hb, hp⟩
  refine ⟨v, rfl, fun d' u he hu => ?_, ?_, hb.mono hB, fun j _ _ h => stab j _ _ _ hb h⟩
  · rw [hd] at he
    injection he with he
    subst he
    have : d ∈ vals.map (·.1) := List.mem_map.2 ⟨_, hu, rfl⟩
    rw [List.contains_iff_mem.2 this] at hno
    cases hno
  · rw [hsf, hd]
    simp only [List.map_cons, List.map_nil]
    rw [Reg.slot_put_same _ _ _ (by rw [hn]; exact hlt)]
    exact hp
set_option maxHeartbeats 8000000 in
theorem fixed_c (w : World) (hw : Wd w) : Calls Tryz.prog 4 #[] w fun e w' => e = .returned (.bool true) ∧ Below w.heap.size w w' := by
  have Hw := Lib.hid hw
  have Hb0 := Lib.hid (Below.refl w.heap.size w)
  clear hw
  go_enter Tryz.func4, Tryz.ntmps4
  go_wp2_with fail
  refine (low_c _).mono ?_
  rintro e u1 ⟨g1, rfl, hb1, hs1⟩
  have Hb1 := Lib.hid (Hb0.out.trans (hb1.mono Hb0.out.size))
  have Sl1_ := Lib.hid (hs1)
  clear Hb0 hb1 
  clear hs1
  go_wp2_with fail
  have hb1 := below_one u1 (.cells #[.int .i64 2] 3)
  have Hb2 := Lib.hid (Hb1.out.trans (hb1.mono Hb1.out.size))
  have Sl2_ := Lib.hid (Sl1_.out.after hb1)
  have Sc2_ := Lib.hid (SlI.new1 u1 2)
  clear Hb1 hb1 Sl1_
  refine (type_c (some ⟨g1, 0, none⟩) (some ⟨u1.heap.size, 0, none⟩) 5 5 1 1 lowE [2] _ rfl Sl2_.out (by unfold maxLen; omega) rfl Sc2_.out lowZ).mono ?_
  rintro e u3 ⟨rfl, hb1⟩
  rw [ty_int]
  have Hb3 := Lib.hid (Hb2.out.trans (hb1.mono Hb2.out.size))
  have Sl3_ := Lib.hid (Sl2_.out.after hb1)
  have Sc3_ := Lib.hid (Sc2_.out.after hb1)
  clear Hb2 hb1 Sl2_ Sc2_
  clear Sl3_
  clear Sc3_
  go_wp2_with fail
  refine (low_c _).mono ?_
  rintro e u4 ⟨g4, rfl, hb1, hs1⟩
  have Hb4 := Lib.hid (Hb3.out.trans (hb1.mono Hb3.out.size))
  have Sl4_ := Lib.hid (hs1)
  clear Hb3 hb1 
  clear hs1
  go_wp2_with fail
  have hb1 := below_one u4 (.cells #[.int .i64 1] 3)
  have Hb5 := Lib.hid (Hb4.out.trans (hb1.mono Hb4.out.size))
  have Sl5_ := Lib.hid (Sl4_.out.after hb1)
  have Sc5_ := Lib.hid (SlI.new1 u4 1)
  clear Hb4 hb1 Sl4_
  refine (type_c (some ⟨g4, 0, none⟩) (some ⟨u4.heap.size, 0, none⟩) 5 5 1 1 lowE [1] _ rfl Sl5_.out (by unfold maxLen; omega) rfl Sc5_.out lowZ).mono ?_
  rintro e u6 ⟨rfl, hb1⟩
  rw [ty_bool]
  have Hb6 := Lib.hid (Hb5.out.trans (hb1.mono Hb5.out.size))
  have Sl6_ := Lib.hid (Sl5_.out.after hb1)
  have Sc6_ := Lib.hid (Sc5_.out.after hb1)
  clear Hb5 hb1 Sl5_ Sc5_
  clear Sl6_
  clear Sc6_
  go_wp2_with fail
  refine (low_c _).mono ?_
  rintro e u7 ⟨g7, rfl, hb1, hs1⟩
  have Hb7 := Lib.hid (Hb6.out.trans (hb1.mono Hb6.out.size))
  have Sl7_ := Lib.hid (hs1)
  clear Hb6 hb1 
  clear hs1
  go_wp2_with fail
  refine (rint_c 3 _).mono ?_
  rintro e u8 ⟨rfl, hb1⟩
  have Hb8 := Lib.hid (Hb7.out.trans (hb1.mono Hb7.out.size))
  have Sl8_ := Lib.hid (Sl7_.out.after hb1)
  clear Hb7 hb1 Sl7_
  go_wp2_with fail
  have hb1 := below_one u8 (.cells #[.int .i64 (iv 3).k, .int .i64 (iv 3).n, .string (iv 3).s] 31)
  have Hb9 := Lib.hid (Hb8.out.trans (hb1.mono Hb8.out.size))
  have Sl9_ := Lib.hid (Sl8_.out.after hb1)
  have Sc9_ := Lib.hid (Sl.newOne u8 (iv 3))
  clear Hb8 hb1 Sl8_
  refine (eval_c (some ⟨g7, 0, none⟩) (some ⟨u8.heap.size, 0, none⟩) 5 5 1 1 lowE [iv 3] _ rfl Sl9_.out (by unfold maxLen; omega) rfl Sc9_.out lowZ).mono ?_
  rintro e u10 ⟨rfl, hb1⟩
  rw [ev_3]
  have Hb10 := Lib.hid (Hb9.out.trans (hb1.mono Hb9.out.size))
  have Sl10_ := Lib.hid (Sl9_.out.after hb1)
  have Sc10_ := Lib.hid (Sc9_.out.after hb1)
  clear Hb9 hb1 Sl9_ Sc9_
  clear Sl10_
  clear Sc10_
  have hb1 := below_one u10 (.cells #[.int .i64 tt.k, .int .i64 tt.n, .string tt.s] 31)
  have Hb11 := Lib.hid (Hb10.out.trans (hb1.mono Hb10.out.size))
  have Bva11_ := Lib.hid (Bx.new u10 tt)
  clear Hb10 hb1 
  go_wp2_with fail
  refine (low_c _).mono ?_
  rintro e u12 ⟨g12, rfl, hb1, hs1⟩
  have Hb12 := Lib.hid (Hb11.out.trans (hb1.mono Hb11.out.size))
  have Bva12_ := Lib.hid (Bva11_.out.after hb1)
  have Sl12_ := Lib.hid (hs1)
  clear Hb11 hb1 Bva11_
  clear hs1
  go_wp2_with fail
  refine (rint_c 4 _).mono ?_
  rintro e u13 ⟨rfl, hb1⟩
  have Hb13 := Lib.hid (Hb12.out.trans (hb1.mono Hb12.out.size))
  have Bva13_ := Lib.hid (Bva12_.out.after hb1)
  have Sl13_ := Lib.hid (Sl12_.out.after hb1)
  clear Hb12 hb1 Bva12_ Sl12_
  go_wp2_with fail
  have hb1 := below_one u13 (.cells #[.int .i64 (iv 4).k, .int .i64 (iv 4).n, .string (iv 4).s] 31)
  have Hb14 := Lib.hid (Hb13.out.trans (hb1.mono Hb13.out.size))
  have Bva14_ := Lib.hid (Bva13_.out.after hb1)
  have Sl14_ := Lib.hid (Sl13_.out.after hb1)
  have Sc14_ := Lib.hid (Sl.newOne u13 (iv 4))
  clear Hb13 hb1 Bva13_ Sl13_
  refine (eval_c (some ⟨g12, 0, none⟩) (some ⟨u13.heap.size, 0, none⟩) 5 5 1 1 lowE [iv 4] _ rfl Sl14_.out (by unfold maxLen; omega) rfl Sc14_.out lowZ).mono ?_
  rintro e u15 ⟨rfl, hb1⟩
  rw [ev_4]
  have Hb15 := Lib.hid (Hb14.out.trans (hb1.mono Hb14.out.size))
  have Bva15_ := Lib.hid (Bva14_.out.after hb1)
  have Sl15_ := Lib.hid (Sl14_.out.after hb1)
  have Sc15_ := Lib.hid (Sc14_.out.after hb1)
  clear Hb14 hb1 Bva14_ Sl14_ Sc14_
  clear Sl15_
  clear Sc15_
  have hb1 := below_one u15 (.cells #[.int .i64 ff.k, .int .i64 ff.n, .string ff.s] 31)
  have Hb16 := Lib.hid (Hb15.out.trans (hb1.mono Hb15.out.size))
  have Bva16_ := Lib.hid (Bva15_.out.after hb1)
  have Bvb16_ := Lib.hid (Bx.new u15 ff)
  clear Hb15 hb1 Bva15_
  go_wp2_with fail
  refine (low_c _).mono ?_
  rintro e u17 ⟨g17, rfl, hb1, hs1⟩
  have Hb17 := Lib.hid (Hb16.out.trans (hb1.mono Hb16.out.size))
  have Bva17_ := Lib.hid (Bva16_.out.after hb1)
  have Bvb17_ := Lib.hid (Bvb16_.out.after hb1)
  have Sl17_ := Lib.hid (hs1)
  clear Hb16 hb1 Bva16_ Bvb16_
  clear hs1
  go_wp2_with fail
  have hb1 := below_one u17 (.cells #[.int .i64 (nl).k, .int .i64 (nl).n, .string (nl).s] 31)
  have Hb18 := Lib.hid (Hb17.out.trans (hb1.mono Hb17.out.size))
  have Bva18_ := Lib.hid (Bva17_.out.after hb1)
  have Bvb18_ := Lib.hid (Bvb17_.out.after hb1)
  have Sl18_ := Lib.hid (Sl17_.out.after hb1)
  have Sc18_ := Lib.hid (Sl.newOne u17 (nl))
  clear Hb17 hb1 Bva17_ Bvb17_ Sl17_
  refine (eval_c (some ⟨g17, 0, none⟩) (some ⟨u17.heap.size, 0, none⟩) 5 5 1 1 lowE [nl] _ rfl Sl18_.out (by unfold maxLen; omega) rfl Sc18_.out lowZ).mono ?_
  rintro e u19 ⟨rfl, hb1⟩
  rw [ev_n]
  have Hb19 := Lib.hid (Hb18.out.trans (hb1.mono Hb18.out.size))
  have Bva19_ := Lib.hid (Bva18_.out.after hb1)
  have Bvb19_ := Lib.hid (Bvb18_.out.after hb1)
  have Sl19_ := Lib.hid (Sl18_.out.after hb1)
  have Sc19_ := Lib.hid (Sc18_.out.after hb1)
  clear Hb18 hb1 Bva18_ Bvb18_ Sl18_ Sc18_
  clear Sl19_
  clear Sc19_
  have hb1 := below_one u19 (.cells #[.int .i64 nl.k, .int .i64 nl.n, .string nl.s] 31)
  have Hb20 := Lib.hid (Hb19.out.trans (hb1.mono Hb19.out.size))
  have Bva20_ := Lib.hid (Bva19_.out.after hb1)
  have Bvb20_ := Lib.hid (Bvb19_.out.after hb1)
  have Bvc20_ := Lib.hid (Bx.new u19 nl)
  clear Hb19 hb1 Bva19_ Bvb19_
  go_wp2_with fail
  refine (low_c _).mono ?_
  rintro e u21 ⟨g21, rfl, hb1, hs1⟩
  have Hb21 := Lib.hid (Hb20.out.trans (hb1.mono Hb20.out.size))
  have Bva21_ := Lib.hid (Bva20_.out.after hb1)
  have Bvb21_ := Lib.hid (Bvb20_.out.after hb1)
  have Bvc21_ := Lib.hid (Bvc20_.out.after hb1)
  have Sl21_ := Lib.hid (hs1)
  clear Hb20 hb1 Bva20_ Bvb20_ Bvc20_
  clear hs1
  go_wp2_with fail
  refine (most_c _).mono ?_
  rintro e u22 ⟨rfl, hb1⟩
  have Hb22 := Lib.hid (Hb21.out.trans (hb1.mono Hb21.out.size))
  have Bva22_ := Lib.hid (Bva21_.out.after hb1)
  have Bvb22_ := Lib.hid (Bvb21_.out.after hb1)
  have Bvc22_ := Lib.hid (Bvc21_.out.after hb1)
  have Sl22_ := Lib.hid (Sl21_.out.after hb1)
  clear Hb21 hb1 Bva21_ Bvb21_ Bvc21_ Sl21_
  go_wp2_with fail
  refine (rint_c 9223372036854775807 _).mono ?_
  rintro e u23 ⟨rfl, hb1⟩
  have Hb23 := Lib.hid (Hb22.out.trans (hb1.mono Hb22.out.size))
  have Bva23_ := Lib.hid (Bva22_.out.after hb1)
  have Bvb23_ := Lib.hid (Bvb22_.out.after hb1)
  have Bvc23_ := Lib.hid (Bvc22_.out.after hb1)
  have Sl23_ := Lib.hid (Sl22_.out.after hb1)
  clear Hb22 hb1 Bva22_ Bvb22_ Bvc22_ Sl22_
  go_wp2_with fail
  have hb1 := below_one u23 (.cells #[.int .i64 (iv 9223372036854775807).k, .int .i64 (iv 9223372036854775807).n, .string (iv 9223372036854775807).s] 31)
  have Hb24 := Lib.hid (Hb23.out.trans (hb1.mono Hb23.out.size))
  have Bva24_ := Lib.hid (Bva23_.out.after hb1)
  have Bvb24_ := Lib.hid (Bvb23_.out.after hb1)
  have Bvc24_ := Lib.hid (Bvc23_.out.after hb1)
  have Sl24_ := Lib.hid (Sl23_.out.after hb1)
  have Sc24_ := Lib.hid (Sl.newOne u23 (iv 9223372036854775807))
  clear Hb23 hb1 Bva23_ Bvb23_ Bvc23_ Sl23_
  refine (eval_c (some ⟨g21, 0, none⟩) (some ⟨u23.heap.size, 0, none⟩) 5 5 1 1 lowE [iv 9223372036854775807] _ rfl Sl24_.out (by unfold maxLen; omega) rfl Sc24_.out lowZ).mono ?_
  rintro e u25 ⟨rfl, hb1⟩
  rw [ev_m]
  have Hb25 := Lib.hid (Hb24.out.trans (hb1.mono Hb24.out.size))
  have Bva25_ := Lib.hid (Bva24_.out.after hb1)
  have Bvb25_ := Lib.hid (Bvb24_.out.after hb1)
  have Bvc25_ := Lib.hid (Bvc24_.out.after hb1)
  have Sl25_ := Lib.hid (Sl24_.out.after hb1)
  have Sc25_ := Lib.hid (Sc24_.out.after hb1)
  clear Hb24 hb1 Bva24_ Bvb24_ Bvc24_ Sl24_ Sc24_
  clear Sl25_
  clear Sc25_
  have hb1 := below_one u25 (.cells #[.int .i64 nl.k, .int .i64 nl.n, .string nl.s] 31)
  have Hb26 := Lib.hid (Hb25.out.trans (hb1.mono Hb25.out.size))
  have Bva26_ := Lib.hid (Bva25_.out.after hb1)
  have Bvb26_ := Lib.hid (Bvb25_.out.after hb1)
  have Bvc26_ := Lib.hid (Bvc25_.out.after hb1)
  have Bvd26_ := Lib.hid (Bx.new u25 nl)
  clear Hb25 hb1 Bva25_ Bvb25_ Bvc25_
  go_wp2_with fail
  refine (true_c none none 0 0 0 0 [] [] _ rfl (.inl rfl) (by unfold maxLen; omega) rfl (.inl rfl) (fun x h => by cases h)).mono ?_
  rintro e u27 ⟨rfl, hb1⟩
  rw [show trueR [] [] = (true, 0) from rfl]
  have Hb27 := Lib.hid (Hb26.out.trans (hb1.mono Hb26.out.size))
  have Bva27_ := Lib.hid (Bva26_.out.after hb1)
  have Bvb27_ := Lib.hid (Bvb26_.out.after hb1)
  have Bvc27_ := Lib.hid (Bvc26_.out.after hb1)
  have Bvd27_ := Lib.hid (Bvd26_.out.after hb1)
  clear Hb26 hb1 Bva26_ Bvb26_ Bvc26_ Bvd26_
  go_wp2_with fail
  refine Reg.wp_region_free mixed (by kernel_rfl) [(60, .int .i64 1), (61, .bool true), (62, .bool true), (63, .int .i64 0), (64, .bool true), (65, .bool true), (66, .bool true), (67, .int .i64 30), (68, .bool true), (69, .bool true), (70, .bool true), (71, tt.v), (72, tt.v), (73, .bool true), (74, .bool true), (75, .bool true), (76, .int .i64 0), (77, .bool true), (78, .bool true), (79, .bool true), (80, ff.v), (81, ff.v), (82, .bool true), (83, .bool true), (84, .bool true), (85, .int .i64 0), (86, .bool true), (87, .bool true), (88, .bool true), (89, nl.v), (90, nl.v), (91, .bool true), (92, .bool true), (93, .bool true), (94, .int .i64 0), (95, .bool true), (96, .bool true), (97, .bool true), (98, .int .i64 31), (99, .bool true), (100, .bool true), (101, .bool true), (102, .bool true), (103, .bool true), (104, .bool true), (105, .int .i64 0), (106, .bool true), (107, .bool true), (108, .bool true), (110, .string lowT), (111, .bool true), (112, .bool true), (0, .bool true)] [109] (fun i => if i = 49 then [109] else []) lowQ 113 rfl (by kernel_rfl) ?_ ?_
  · intro g F hF hn hv w' hB
    have b5 := Bva27_.out.after hB
    have b7 := Bvb27_.out.after hB
    have b9 := Bvc27_.out.after hB
    have hw' := Hw.out.after (Hb27.out.trans (hB.mono Hb27.out.size))
    have hBw : u27.heap.size ≤ w'.heap.size := hB.size
    refine ⟨?_, ?_, ?_, ?_, ?_, ?_, ?_, ?_, ?_, ?_, ?_, ?_, ?_, ?_, ?_, ?_, ?_, ?_, ?_, ?_, ?_, ?_, ?_, ?_, ?_, ?_, ?_, ?_, ?_, ?_, ?_, ?_, ?_, ?_, ?_, ?_, ?_, ?_, ?_, ?_, ?_, ?_, ?_, ?_, ?_, ?_, ?_, ?_, ?_, ?_, ?_, ?_, ?_, ?_, trivial⟩
    · exact fun _ => Reg.does_exact hn hv lowQ_stab hBw (fun _ _ => by unfold lowQ; trivial) rfl (Reg.doesV_val (ev_move rfl) (by rw [hF]; kernel_rfl) (by rw [hF]; kernel_rfl))
    · exact fun _ => Reg.does_exact hn hv lowQ_stab hBw (fun _ _ => by unfold lowQ; trivial) rfl (Reg.doesV_val (v := .bool true) (by rw [hF]; kernel_rfl) (by rw [hF]; kernel_rfl) (by rw [hF]; kernel_rfl))
    · exact fun _ => Reg.does_exact hn hv lowQ_stab hBw (fun _ _ => by unfold lowQ; trivial) rfl (Reg.doesV_val (ev_move rfl) (by rw [hF]; kernel_rfl) (by rw [hF]; kernel_rfl))
    · exact fun _ => Reg.does_exact hn hv lowQ_stab hBw (fun _ _ => by unfold lowQ; trivial) rfl (Reg.doesV_val (ev_move rfl) (by rw [hF]; kernel_rfl) (by rw [hF]; kernel_rfl))
    · exact fun _ => Reg.does_exact hn hv lowQ_stab hBw (fun _ _ => by unfold lowQ; trivial) rfl (Reg.doesV_val (v := .bool true) (by rw [hF]; kernel_rfl) (by rw [hF]; kernel_rfl) (by rw [hF]; kernel_rfl))
    · exact fun _ => Reg.does_exact hn hv lowQ_stab hBw (fun _ _ => by unfold lowQ; trivial) rfl (Reg.doesV_val (ev_pick true rfl (by rw [hF]; kernel_rfl)) (by rw [hF]; kernel_rfl) (by rw [hF]; kernel_rfl))
    · exact fun _ => Reg.does_exact hn hv lowQ_stab hBw (fun _ _ => by unfold lowQ; trivial) rfl (Reg.doesV_val (ev_move rfl) (by rw [hF]; kernel_rfl) (by rw [hF]; kernel_rfl))
    · exact fun _ => Reg.does_exact hn hv lowQ_stab hBw (fun _ _ => by unfold lowQ; trivial) rfl (Reg.doesV_val (ev_move rfl) (by rw [hF]; kernel_rfl) (by rw [hF]; kernel_rfl))
    · exact fun _ => Reg.does_exact hn hv lowQ_stab hBw (fun _ _ => by unfold lowQ; trivial) rfl (Reg.doesV_val (v := .bool true) (by rw [hF]; kernel_rfl) (by rw [hF]; kernel_rfl) (by rw [hF]; kernel_rfl))
    · exact fun _ => Reg.does_exact hn hv lowQ_stab hBw (fun _ _ => by unfold lowQ; trivial) rfl (Reg.doesV_val (ev_pick true rfl (by rw [hF]; kernel_rfl)) (by rw [hF]; kernel_rfl) (by rw [hF]; kernel_rfl))
    · exact fun _ => Reg.does_exact hn hv lowQ_stab hBw (fun _ _ => by unfold lowQ; trivial) rfl (Reg.doesV_val (ev_move rfl) (by rw [hF]; kernel_rfl) (by rw [hF]; kernel_rfl))
    · exact fun _ => Reg.does_exact hn hv lowQ_stab hBw (fun _ _ => by unfold lowQ; trivial) rfl (Reg.doesV_val (ev_load b5 rfl (by rw [hF]; kernel_rfl)) (by rw [hF]; kernel_rfl) (by rw [hF]; kernel_rfl))
    · exact fun _ => Reg.does_exact hn hv lowQ_stab hBw (fun _ _ => by unfold lowQ; trivial) rfl (Reg.doesV_call (rtruth_c true w') (ev_call enrTruth rfl (by rw [hF]; kernel_rfl)) (by rw [hF]; kernel_rfl) (by rw [hF]; kernel_rfl))
    · exact fun _ => Reg.does_exact hn hv lowQ_stab hBw (fun _ _ => by unfold lowQ; trivial) rfl (Reg.doesV_val (by rw [ev_eq tt tt rfl (by rw [hF]; kernel_rfl) (by rw [hF]; kernel_rfl), Val.eq_self]) (by rw [hF]; kernel_rfl) (by rw [hF]; kernel_rfl))
    · exact fun _ => Reg.does_exact hn hv lowQ_stab hBw (fun _ _ => by unfold lowQ; trivial) rfl (Reg.doesV_val (ev_pick true rfl (by rw [hF]; kernel_rfl)) (by rw [hF]; kernel_rfl) (by rw [hF]; kernel_rfl))
    · exact fun _ => Reg.does_exact hn hv lowQ_stab hBw (fun _ _ => by unfold lowQ; trivial) rfl (Reg.doesV_val (ev_move rfl) (by rw [hF]; kernel_rfl) (by rw [hF]; kernel_rfl))
    · exact fun _ => Reg.does_exact hn hv lowQ_stab hBw (fun _ _ => by unfold lowQ; trivial) rfl (Reg.doesV_val (ev_move rfl) (by rw [hF]; kernel_rfl) (by rw [hF]; kernel_rfl))
    · exact fun _ => Reg.does_exact hn hv lowQ_stab hBw (fun _ _ => by unfold lowQ; trivial) rfl (Reg.doesV_val (v := .bool true) (by rw [hF]; kernel_rfl) (by rw [hF]; kernel_rfl) (by rw [hF]; kernel_rfl))
    · exact fun _ => Reg.does_exact hn hv lowQ_stab hBw (fun _ _ => by unfold lowQ; trivial) rfl (Reg.doesV_val (ev_pick true rfl (by rw [hF]; kernel_rfl)) (by rw [hF]; kernel_rfl) (by rw [hF]; kernel_rfl))
    · exact fun _ => Reg.does_exact hn hv lowQ_stab hBw (fun _ _ => by unfold lowQ; trivial) rfl (Reg.doesV_val (ev_move rfl) (by rw [hF]; kernel_rfl) (by rw [hF]; kernel_rfl))
    · exact fun _ => Reg.does_exact hn hv lowQ_stab hBw (fun _ _ => by unfold lowQ; trivial) rfl (Reg.doesV_val (ev_load b7 rfl (by rw [hF]; kernel_rfl)) (by rw [hF]; kernel_rfl) (by rw [hF]; kernel_rfl))
    · exact fun _ => Reg.does_exact hn hv lowQ_stab hBw (fun _ _ => by unfold lowQ; trivial) rfl (Reg.doesV_call (rtruth_c false w') (ev_call enrTruth rfl (by rw [hF]; kernel_rfl)) (by rw [hF]; kernel_rfl) (by rw [hF]; kernel_rfl))
    · exact fun _ => Reg.does_exact hn hv lowQ_stab hBw (fun _ _ => by unfold lowQ; trivial) rfl (Reg.doesV_val (by rw [ev_eq ff ff rfl (by rw [hF]; kernel_rfl) (by rw [hF]; kernel_rfl), Val.eq_self]) (by rw [hF]; kernel_rfl) (by rw [hF]; kernel_rfl))
    · exact fun _ => Reg.does_exact hn hv lowQ_stab hBw (fun _ _ => by unfold lowQ; trivial) rfl (Reg.doesV_val (ev_pick true rfl (by rw [hF]; kernel_rfl)) (by rw [hF]; kernel_rfl) (by rw [hF]; kernel_rfl))
    · exact fun _ => Reg.does_exact hn hv lowQ_stab hBw (fun _ _ => by unfold lowQ; trivial) rfl (Reg.doesV_val (ev_move rfl) (by rw [hF]; kernel_rfl) (by rw [hF]; kernel_rfl))
    · exact fun _ => Reg.does_exact hn hv lowQ_stab hBw (fun _ _ => by unfold lowQ; trivial) rfl (Reg.doesV_val (ev_move rfl) (by rw [hF]; kernel_rfl) (by rw [hF]; kernel_rfl))
    · exact fun _ => Reg.does_exact hn hv lowQ_stab hBw (fun _ _ => by unfold lowQ; trivial) rfl (Reg.doesV_val (v := .bool true) (by rw [hF]; kernel_rfl) (by rw [hF]; kernel_rfl) (by rw [hF]; kernel_rfl))
    · exact fun _ => Reg.does_exact hn hv lowQ_stab hBw (fun _ _ => by unfold lowQ; trivial) rfl (Reg.doesV_val (ev_pick true rfl (by rw [hF]; kernel_rfl)) (by rw [hF]; kernel_rfl) (by rw [hF]; kernel_rfl))
    · exact fun _ => Reg.does_exact hn hv lowQ_stab hBw (fun _ _ => by unfold lowQ; trivial) rfl (Reg.doesV_val (ev_move rfl) (by rw [hF]; kernel_rfl) (by rw [hF]; kernel_rfl))
    · exact fun _ => Reg.does_exact hn hv lowQ_stab hBw (fun _ _ => by unfold lowQ; trivial) rfl (Reg.doesV_val (ev_load b9 rfl (by rw [hF]; kernel_rfl)) (by rw [hF]; kernel_rfl) (by rw [hF]; kernel_rfl))
    · exact fun _ => Reg.does_exact hn hv lowQ_stab hBw (fun _ _ => by unfold lowQ; trivial) rfl (Reg.doesV_val (v := nl.v) (by rw [hF]; kernel_rfl) (by rw [hF]; kernel_rfl) (by rw [hF]; kernel_rfl))
    · exact fun _ => Reg.does_exact hn hv lowQ_stab hBw (fun _ _ => by unfold lowQ; trivial) rfl (Reg.doesV_val (by rw [ev_eq nl nl rfl (by rw [hF]; kernel_rfl) (by rw [hF]; kernel_rfl), Val.eq_self]) (by rw [hF]; kernel_rfl) (by rw [hF]; kernel_rfl))
    · exact fun _ => Reg.does_exact hn hv lowQ_stab hBw (fun _ _ => by unfold lowQ; trivial) rfl (Reg.doesV_val (ev_pick true rfl (by rw [hF]; kernel_rfl)) (by rw [hF]; kernel_rfl) (by rw [hF]; kernel_rfl))
    · exact fun _ => Reg.does_exact hn hv lowQ_stab hBw (fun _ _ => by unfold lowQ; trivial) rfl (Reg.doesV_val (ev_move rfl) (by rw [hF]; kernel_rfl) (by rw [hF]; kernel_rfl))
    · exact fun _ => Reg.does_exact hn hv lowQ_stab hBw (fun _ _ => by unfold lowQ; trivial) rfl (Reg.doesV_val (ev_move rfl) (by rw [hF]; kernel_rfl) (by rw [hF]; kernel_rfl))
    · exact fun _ => Reg.does_exact hn hv lowQ_stab hBw (fun _ _ => by unfold lowQ; trivial) rfl (Reg.doesV_val (v := .bool true) (by rw [hF]; kernel_rfl) (by rw [hF]; kernel_rfl) (by rw [hF]; kernel_rfl))
    · exact fun _ => Reg.does_exact hn hv lowQ_stab hBw (fun _ _ => by unfold lowQ; trivial) rfl (Reg.doesV_val (ev_pick true rfl (by rw [hF]; kernel_rfl)) (by rw [hF]; kernel_rfl) (by rw [hF]; kernel_rfl))
    · exact fun _ => Reg.does_exact hn hv lowQ_stab hBw (fun _ _ => by unfold lowQ; trivial) rfl (Reg.doesV_val (ev_move rfl) (by rw [hF]; kernel_rfl) (by rw [hF]; kernel_rfl))
    · exact fun _ => Reg.does_exact hn hv lowQ_stab hBw (fun _ _ => by unfold lowQ; trivial) rfl (Reg.doesV_val (ev_move rfl) (by rw [hF]; kernel_rfl) (by rw [hF]; kernel_rfl))
    · exact fun _ => Reg.does_exact hn hv lowQ_stab hBw (fun _ _ => by unfold lowQ; trivial) rfl (Reg.doesV_val (v := .bool true) (by rw [hF]; kernel_rfl) (by rw [hF]; kernel_rfl) (by rw [hF]; kernel_rfl))
    · exact fun _ => Reg.does_exact hn hv lowQ_stab hBw (fun _ _ => by unfold lowQ; trivial) rfl (Reg.doesV_val (ev_pick true rfl (by rw [hF]; kernel_rfl)) (by rw [hF]; kernel_rfl) (by rw [hF]; kernel_rfl))
    · exact fun _ => Reg.does_exact hn hv lowQ_stab hBw (fun _ _ => by unfold lowQ; trivial) rfl (Reg.doesV_val (ev_move rfl) (by rw [hF]; kernel_rfl) (by rw [hF]; kernel_rfl))
    · exact fun _ => Reg.does_exact hn hv lowQ_stab hBw (fun _ _ => by unfold lowQ; trivial) rfl (Reg.doesV_val (ev_move rfl) (by rw [hF]; kernel_rfl) (by rw [hF]; kernel_rfl))
    · exact fun _ => Reg.does_exact hn hv lowQ_stab hBw (fun _ _ => by unfold lowQ; trivial) rfl (Reg.doesV_val (ev_pick true rfl (by rw [hF]; kernel_rfl)) (by rw [hF]; kernel_rfl) (by rw [hF]; kernel_rfl))
    · exact fun _ => Reg.does_exact hn hv lowQ_stab hBw (fun _ _ => by unfold lowQ; trivial) rfl (Reg.doesV_val (ev_move rfl) (by rw [hF]; kernel_rfl) (by rw [hF]; kernel_rfl))
    · exact fun _ => Reg.does_exact hn hv lowQ_stab hBw (fun _ _ => by unfold lowQ; trivial) rfl (Reg.doesV_val (ev_move rfl) (by rw [hF]; kernel_rfl) (by rw [hF]; kernel_rfl))
    · exact fun _ => Reg.does_exact hn hv lowQ_stab hBw (fun _ _ => by unfold lowQ; trivial) rfl (Reg.doesV_val (v := .bool true) (by rw [hF]; kernel_rfl) (by rw [hF]; kernel_rfl) (by rw [hF]; kernel_rfl))
    · exact fun _ => Reg.does_exact hn hv lowQ_stab hBw (fun _ _ => by unfold lowQ; trivial) rfl (Reg.doesV_val (ev_pick true rfl (by rw [hF]; kernel_rfl)) (by rw [hF]; kernel_rfl) (by rw [hF]; kernel_rfl))
    · exact fun _ => Reg.does_exact hn hv lowQ_stab hBw (fun _ _ => by unfold lowQ; trivial) rfl (Reg.doesV_val (ev_move rfl) (by rw [hF]; kernel_rfl) (by rw [hF]; kernel_rfl))
    · intro _
      refine does_freeC (d := 109) (args := #[]) hn lowQ_stab hBw rfl (by decide) (by kernel_rfl) rfl (ev_call enLow rfl (by simp)) (by rw [hF]; kernel_rfl) ((low_c w').mono ?_)
      rintro e w2 ⟨g2, rfl, hb2, hs2⟩
      exact ⟨_, rfl, hb2, by unfold lowQ; exact ⟨g2, rfl, hs2⟩⟩
    · intro hpre
      have hq := hpre 49 (of_decide_eq_true (by kernel_rfl))
      unfold lowQ at hq
      obtain ⟨b, hs, hsl⟩ := hq
      have hs' : F.eval (.tmp 109) = .slice (some ⟨b, 0, none⟩) 5 5 := List.head_eq_of_cons_eq hs
      exact Reg.does_exact hn hv lowQ_stab hBw (fun _ _ => by unfold lowQ; trivial) rfl (Reg.doesV_call (text_low (some ⟨b, 0, none⟩) 5 w' hsl hw') (ev_call enTextE rfl (by simp only [List.map_toArray, List.map_cons, List.map_nil, hs'])) (by rw [hF]; kernel_rfl) (by rw [hF]; kernel_rfl))
    · exact fun _ => Reg.does_exact hn hv lowQ_stab hBw (fun _ _ => by unfold lowQ; trivial) rfl (Reg.doesV_val (v := .bool true) (by rw [hF]; kernel_rfl) (by rw [hF]; kernel_rfl) (by rw [hF]; kernel_rfl))
    · exact fun _ => Reg.does_exact hn hv lowQ_stab hBw (fun _ _ => by unfold lowQ; trivial) rfl (Reg.doesV_val (ev_pick true rfl (by rw [hF]; kernel_rfl)) (by rw [hF]; kernel_rfl) (by rw [hF]; kernel_rfl))
    · exact fun _ => Reg.does_exact hn hv lowQ_stab hBw (fun _ _ => by unfold lowQ; trivial) rfl (Reg.doesV_val (ev_assign rfl) (by rw [hF]; kernel_rfl) (by rw [hF]; kernel_rfl))
  intro g F hF w' hB hall
  have Hbz := Lib.hid (Hb27.out.trans (hB.mono Hb27.out.size))
  rw [hF]
  simp only [Reg.fin, Reg.putAll, List.map_cons, List.map_nil, List.cons_append, List.nil_append, Act.put, List.setIfInBounds_toArray, List.set_cons_zero, List.set_cons_succ]
  clear hall hF hB
  go_wp2
  go_ret
  exact ⟨rfl, Hbz.out⟩
end Go.Proofs.YticofedglhfdpaaGreatDoor
