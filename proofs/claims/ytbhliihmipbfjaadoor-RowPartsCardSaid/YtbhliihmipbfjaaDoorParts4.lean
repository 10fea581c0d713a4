/-
  The law RowParts, walked: of any two rows it answers true, and turns nothing that was there.
-/
import Derived.Test.YtbhliihmipbfjaaDoorTexts4
namespace Go.Proofs.YtbhliihmipbfjaaDoor
open Go Go.RowKit
set_option maxRecDepth 100000

theorem ev_eqS {F : Act} {w : World} {t u : Tmp} {o : Oper} (l r : List UInt8) (ho : o.op = .binOp .eql 9 (.tmp t) (.tmp u) 9) (ht : Reg.slot F t = .string ⟨l.toArray⟩) (hu : Reg.slot F u = .string ⟨r.toArray⟩) :
    (execOp F.eval o).run Tryd.prog w = .ok (.value (.bool (l == r))) w := by
  have e1 : F.eval (.tmp t) = .string ⟨l.toArray⟩ := ht
  have e2 : F.eval (.tmp u) = .string ⟨r.toArray⟩ := hu
  have e0 : (execOp F.eval o).run Tryd.prog w = ((do eqGuard .eql 9 (.tmp t) (.tmp u) (.string ⟨l.toArray⟩) (.string ⟨r.toArray⟩); binOp .eql 9 (.string ⟨l.toArray⟩) (.string ⟨r.toArray⟩)).run Tryd.prog w).andThen fun v w' => .ok (.value v) w' := by
    simp only [execOp, ho, e1, e2, Sem.run_bind, Sem.run_pure]
  rw [e0]
  go_simp
theorem ev_lenS {F : Act} {w : World} {t : Tmp} {o : Oper} (l : List UInt8) (ho : o.op = .call { callee := .builtin .len, args := #[.tmp t], argTypes := #[9] }) (ht : Reg.slot F t = .string ⟨l.toArray⟩) :
    (execOp F.eval o).run Tryd.prog w = .ok (.value (.int .i64 (l.length : Nat))) w := by
  have e1 : F.eval (.tmp t) = .string ⟨l.toArray⟩ := ht
  have hs : (⟨l.toArray⟩ : ByteArray).size = l.length := by show l.toArray.size = _; simp
  have e0 : (execOp F.eval o).run Tryd.prog w = ((Builtin.len_ #[9] o.type #[.string ⟨l.toArray⟩]).run Tryd.prog w).andThen fun v w' => .ok (.value v) w' := by
    simp only [execOp, ho, e1, resolve, invoke, builtin, Sem.run_bind, Sem.run_pure, Result.andThen_ok, List.map_toArray, List.map_cons, List.map_nil]
  rw [e0]
  go_simp
theorem ev_subIC {F : Act} {w : World} {t : Tmp} {o : Oper} (a b : Int) (hab : -9223372036854775808 ≤ a - b ∧ a - b ≤ 9223372036854775807) (ho : o.op = .binOp .sub 3 (.tmp t) (.const (.int .i64 b)) 3) (ht : Reg.slot F t = .int .i64 a) :
    (execOp F.eval o).run Tryd.prog w = .ok (.value (.int .i64 (a - b))) w := by
  have e1 : F.eval (.tmp t) = .int .i64 a := ht
  have e2 : F.eval (.const (.int .i64 b)) = .int .i64 b := rfl
  have hw : IntKind.i64.wrap (a - b) = a - b := by rw [IntKind.wrap_i64]; omega
  have e0 : (execOp F.eval o).run Tryd.prog w = ((do eqGuard .sub 3 (.tmp t) (.const (.int .i64 b)) (.int .i64 a) (.int .i64 b); binOp .sub 3 (.int .i64 a) (.int .i64 b)).run Tryd.prog w).andThen fun v w' => .ok (.value v) w' := by
    simp only [execOp, ho, e1, e2, Sem.run_bind, Sem.run_pure]
  rw [e0]
  go_simp
theorem ev_catS {F : Act} {w : World} {t u : Tmp} {o : Oper} (l r : List UInt8) (hl : l.length + r.length ≤ 10000000) (ho : o.op = .binOp .add 9 (.tmp t) (.tmp u) 9) (ht : Reg.slot F t = .string ⟨l.toArray⟩) (hu : Reg.slot F u = .string ⟨r.toArray⟩) :
    (execOp F.eval o).run Tryd.prog w = .ok (.value (.string ⟨(l ++ r).toArray⟩)) w := by
  have e1 : F.eval (.tmp t) = .string ⟨l.toArray⟩ := ht
  have e2 : F.eval (.tmp u) = .string ⟨r.toArray⟩ := hu
  have hc := cat_run w l r hl
  have e0 : (execOp F.eval o).run Tryd.prog w = ((do eqGuard .add 9 (.tmp t) (.tmp u) (.string ⟨l.toArray⟩) (.string ⟨r.toArray⟩); binOp .add 9 (.string ⟨l.toArray⟩) (.string ⟨r.toArray⟩)).run Tryd.prog w).andThen fun v w' => .ok (.value v) w' := by
    simp only [execOp, ho, e1, e2, Sem.run_bind, Sem.run_pure]
  rw [e0]
  go_simp
theorem ev_catC {F : Act} {w : World} {t : Tmp} {o : Oper} (l r : List UInt8) (hl : l.length + r.length ≤ 10000000) (ho : o.op = .binOp .add 9 (.tmp t) (.const (.string ⟨r.toArray⟩)) 9) (ht : Reg.slot F t = .string ⟨l.toArray⟩) :
    (execOp F.eval o).run Tryd.prog w = .ok (.value (.string ⟨(l ++ r).toArray⟩)) w := by
  have e1 : F.eval (.tmp t) = .string ⟨l.toArray⟩ := ht
  have e2 : F.eval (.const (.string ⟨r.toArray⟩)) = .string ⟨r.toArray⟩ := rfl
  have hc := cat_run w l r hl
  have e0 : (execOp F.eval o).run Tryd.prog w = ((do eqGuard .add 9 (.tmp t) (.const (.string ⟨r.toArray⟩)) (.string ⟨l.toArray⟩) (.string ⟨r.toArray⟩); binOp .add 9 (.string ⟨l.toArray⟩) (.string ⟨r.toArray⟩)).run Tryd.prog w).andThen fun v w' => .ok (.value v) w' := by
    simp only [execOp, ho, e1, e2, Sem.run_bind, Sem.run_pure]
  rw [e0]
  go_simp
theorem ex_hi (l r : List UInt8) : (⟨(l ++ r).toArray⟩ : ByteArray).extract 0 l.length = ⟨l.toArray⟩ := by
  apply ByteArray.ext
  simp
theorem ex_lo (c : UInt8) (l : List UInt8) (n : Nat) (hn : n = l.length + 1) : (⟨(c :: l).toArray⟩ : ByteArray).extract 1 n = ⟨l.toArray⟩ := by
  subst hn
  apply ByteArray.ext
  simp
theorem ev_sliceHi {F : Act} {w : World} {t u : Tmp} {o : Oper} (l r : List UInt8) (ho : o.op = .slice 9 (.tmp t) none (some (.tmp u)) none) (ht : Reg.slot F t = .string ⟨(l ++ r).toArray⟩) (hu : Reg.slot F u = .int .i64 (l.length : Nat)) :
    (execOp F.eval o).run Tryd.prog w = .ok (.value (.string ⟨l.toArray⟩)) w := by
  have e1 : F.eval (.tmp t) = .string ⟨(l ++ r).toArray⟩ := ht
  have e2 : F.eval (.tmp u) = .int .i64 (l.length : Nat) := hu
  have e0 : (execOp F.eval o).run Tryd.prog w = ((Instr.sliceAt 9 (.string ⟨(l ++ r).toArray⟩) none (some (.int .i64 (l.length : Nat))) none).run Tryd.prog w).andThen fun v w' => .ok (.value v) w' := by
    simp only [execOp, ho, e1, e2, Sem.run_bind, Sem.run_pure, Option.map_some, Option.map_none]
  rw [e0]
  go_simp
  rw [if_pos (by omega), ex_hi]
theorem ev_sliceLo {F : Act} {w : World} {t : Tmp} {o : Oper} (c : UInt8) (l : List UInt8) (ho : o.op = .slice 9 (.tmp t) (some (.const (.int .i64 1))) none none) (ht : Reg.slot F t = .string ⟨(c :: l).toArray⟩) :
    (execOp F.eval o).run Tryd.prog w = .ok (.value (.string ⟨l.toArray⟩)) w := by
  have e1 : F.eval (.tmp t) = .string ⟨(c :: l).toArray⟩ := ht
  have e2 : F.eval (.const (.int .i64 1)) = .int .i64 1 := rfl
  have e0 : (execOp F.eval o).run Tryd.prog w = ((Instr.sliceAt 9 (.string ⟨(c :: l).toArray⟩) (some (.int .i64 1)) none none).run Tryd.prog w).andThen fun v w' => .ok (.value v) w' := by
    simp only [execOp, ho, e1, e2, Sem.run_bind, Sem.run_pure, Option.map_some, Option.map_none]
  rw [e0]
  go_simp
  rw [if_pos (by omega), ex_lo c l _ rfl]

set_option maxHeartbeats 2000000 in
theorem parts4_c (A B : Option Addr) (n m c d : Nat) (xs ys : List Val) (w : World) (hx : RowIn w A n xs) (hy : RowIn w B m ys) (hG : Gl w) :
    Calls Tryd.prog 7 #[.slice A n c, .slice B m d] w fun en w' => en = .returned (.bool true) ∧ Below w.heap.size w w' := by
  have Hx := Lib.hid hx
  have Hy := Lib.hid hy
  have HG := Lib.hid hG
  clear hx hy hG
  go_enter Tryd.func7, Tryd.ntmps7
  go_wp2_with fail
  refine (fixed_c _ HG.out).mono ?_
  rintro en w1 ⟨rfl, hb1⟩
  have Hb1 := Lib.hid hb1
  clear hb1
  go_wp2_with fail
  refine (long_c A n c xs _ Hx.out.len Hx.out.max (Hx.out.after Hb1.out).sl Hx.out.sz).mono ?_
  rintro en w2 ⟨rfl, hb2⟩
  have Hb2 := Lib.hid (below_via Hb1.out hb2)
  clear hb2 Hb1
  cases hmx : longR xs
  case true =>
    go_wp2_with fail
    refine (fixed_c _ (HG.out.after Hb2.out)).mono ?_
    rintro en w3 ⟨rfl, hb3⟩
    have Hb3 := Lib.hid (below_via Hb2.out hb3)
    clear hb3
    go_wp2
    go_ret
    exact ⟨rfl, Hb3.out⟩
  have Hmx := Lib.hid (long_false hmx)
  clear hmx
  go_wp2_with fail
  refine (long_c B m d ys _ Hy.out.len Hy.out.max (Hy.out.after Hb2.out).sl Hy.out.sz).mono ?_
  rintro en w3 ⟨rfl, hb3⟩
  have Hb3 := Lib.hid (below_via Hb2.out hb3)
  clear hb3 Hb2
  cases hmy : longR ys
  case true =>
    go_wp2_with fail
    refine (fixed_c _ (HG.out.after Hb3.out)).mono ?_
    rintro en w4 ⟨rfl, hb4⟩
    have Hb4 := Lib.hid (below_via Hb3.out hb4)
    clear hb4
    go_wp2
    go_ret
    exact ⟨rfl, Hb4.out⟩
  have Hmy := Lib.hid (long_false hmy)
  clear hmy
  have hn60 : n ≤ 60 := by have := Hmx.out.1; rw [Hx.out.len] at this; exact this
  have hm60 : m ≤ 60 := by have := Hmy.out.1; rw [Hy.out.len] at this; exact this
  go_wp2_with fail
  refine (rtext_c A n c xs _ Hx.out.len (by omega) (Hx.out.after Hb3.out).sl Hx.out.n64 Hmx.out.2 (HG.out.after Hb3.out)).mono ?_
  rintro en w4 ⟨rfl, hb4⟩
  have Hb4 := Lib.hid (below_via Hb3.out hb4)
  clear hb4 Hb3
  obtain ⟨Ts, hTs⟩ : ∃ T, rowT xs = T := ⟨_, rfl⟩
  rw [hTs]
  have HTs := Lib.hid hTs
  clear hTs
  go_wp2_with fail
  refine (rtext_c B m d ys _ Hy.out.len (by omega) (Hy.out.after Hb4.out).sl Hy.out.n64 Hmy.out.2 (HG.out.after Hb4.out)).mono ?_
  rintro en w5 ⟨rfl, hb5⟩
  have Hb5 := Lib.hid (below_via Hb4.out hb5)
  clear hb5 Hb4
  obtain ⟨Tt, hTt⟩ : ∃ T, rowT ys = T := ⟨_, rfl⟩
  rw [hTt]
  have HTt := Lib.hid hTt
  clear hTt
  have hjn : joinR [⟨A, n, c, xs⟩, ⟨B, m, d, ys⟩] = xs ++ ys := by simp [joinR]
  have Hjn := Lib.hid hjn
  clear hjn
  have hll : (xs ++ ys).length = n + m := by rw [List.length_append, Hx.out.len, Hy.out.len]
  have Hll := Lib.hid hll
  clear hll
  go_wp2_with fail
  refine (join_c (some ⟨w5.heap.size, 0, none⟩) 2 2 [⟨A, n, c, xs⟩, ⟨B, m, d, ys⟩] _ rfl (by unfold maxLen; omega) (SlG.newAt rfl hOk.len [⟨A, n, c, xs⟩, ⟨B, m, d, ys⟩] rfl) (fun h hh => by
    simp only [List.mem_cons, List.not_mem_nil, or_false] at hh
    rcases hh with rfl | rfl
    · exact ⟨Hx.out.len, Hx.out.max, ((Hx.out.after Hb5.out).after (below_one _ _)).sl⟩
    · exact ⟨Hy.out.len, Hy.out.max, ((Hy.out.after Hb5.out).after (below_one _ _)).sl⟩) (by rw [Hjn.out, Hll.out]; omega)).mono ?_
  rintro en w6 ⟨v, rfl, hb6, hv⟩
  have Hb6 := Lib.hid (below_via (below_al Hb5.out _) hb6)
  rw [Hjn.out] at hv
  obtain ⟨⟨jA, jn, jc, jxs⟩, rfl, hji, hjx, _, _⟩ := hv.hd
  simp only [] at hjx
  subst hjx
  have hjl := hji.len
  simp only [Hll.out] at hjl
  subst hjl
  have Hji := Lib.hid hji
  clear hb6 hv hji Hb5
  go_wp2_with fail
  refine (rtext_c jA (n + m) jc (xs ++ ys) _ Hll.out (by omega) Hji.out.sl (fun x hx => by rcases List.mem_append.1 hx with h | h; exact Hx.out.n64 x h; exact Hy.out.n64 x h) (fun x hx => by rcases List.mem_append.1 hx with h | h; exact Hmx.out.2 x h; exact Hmy.out.2 x h) (HG.out.after Hb6.out)).mono ?_
  rintro en w7 ⟨rfl, hb7⟩
  have Hb7 := Lib.hid (below_via Hb6.out hb7)
  clear hb7 Hb6 Hji Hjn Hll
  rcases Nat.eq_zero_or_pos n with hn0 | hn0
  · subst hn0
    have hxe : xs = [] := List.eq_nil_of_length_eq_zero Hx.out.len
    rw [hxe, List.nil_append, HTt.out]
    rcases Nat.eq_zero_or_pos m with hm0 | hm0
    · subst hm0
      have hye : ys = [] := List.eq_nil_of_length_eq_zero Hy.out.len
      have hst : Tt = Ts := by rw [← HTs.out, ← HTt.out, hxe, hye]
      rw [hst]
      clear hxe hye hst HTs HTt Hmx Hmy Hx Hy
      go_wp2
      go_ret
      exact ⟨rfl, Hb7.out⟩
    · clear hxe HTs HTt Hmx Hmy Hx Hy
      go_wp2
      go_ret
      exact ⟨rfl, Hb7.out⟩
  rcases Nat.eq_zero_or_pos m with hm0 | hm0
  · subst hm0
    have hye : ys = [] := List.eq_nil_of_length_eq_zero Hy.out.len
    rw [hye, List.append_nil, HTs.out]
    clear hye HTs HTt Hmx Hmy Hx Hy
    go_wp2
    go_ret
    exact ⟨rfl, Hb7.out⟩
  have hxe : xs ≠ [] := fun e => by have := Hx.out.len; rw [e] at this; simp at this; omega
  have hye : ys ≠ [] := fun e => by have := Hy.out.len; rw [e] at this; simp at this; omega
  rw [rowT_append xs ys hxe hye]
  have hs : Ts = ([40] ++ bodyL xs) ++ [41] := HTs.out.symm
  have ht : Tt = 40 :: (bodyL ys ++ [41]) := HTt.out.symm
  have hlx := body_len xs 5000 (fun x h => text_len x (Hx.out.n64 x h) (Hmx.out.2 x h))
  have hly := body_len ys 5000 (fun x h => text_len x (Hy.out.n64 x h) (Hmy.out.2 x h))
  rw [Hx.out.len] at hlx
  rw [Hy.out.len] at hly
  have hLa : ([40] ++ bodyL xs).length ≤ 1000000 ∧ 1 ≤ ([40] ++ bodyL xs).length := by simp only [List.length_append, List.length_cons, List.length_nil]; omega
  have hLb : (bodyL ys ++ [41]).length ≤ 1000000 ∧ 1 ≤ (bodyL ys ++ [41]).length := by simp only [List.length_append, List.length_cons, List.length_nil]; omega
  rw [hs, ht]
  clear hs ht hlx hly hxe hye HTs HTt Hmx Hmy Hx Hy
  generalize [40] ++ bodyL xs = La at hLa ⊢
  generalize bodyL ys ++ [41] = Lb at hLb ⊢
  have hn0' : ((n : Int) == 0) = false := by simpa using (by omega : ¬ (n : Int) = 0)
  have hm0' : ((m : Int) == 0) = false := by simpa using (by omega : ¬ (m : Int) = 0)
  go_wp2_with fail
  have HLa := Lib.hid hLa
  have HLb := Lib.hid hLb
  clear hLa hLb
  refine Reg.wp_region_vals mixed (by kernel_rfl) [(54, .string ⟨(La ++ [41]).toArray⟩), (55, .int .i64 ((La ++ [41]).length : Nat)), (56, .bool true), (57, .bool true), (58, .string ⟨(40 :: Lb).toArray⟩), (59, .int .i64 ((40 :: Lb).length : Nat)), (60, .bool true), (61, .bool true), (62, .bool true), (63, .string ⟨(La ++ 44 :: 32 :: Lb).toArray⟩), (64, .string ⟨(La ++ [41]).toArray⟩), (65, .string ⟨(La ++ [41]).toArray⟩), (66, .int .i64 ((La ++ [41]).length : Nat)), (67, .int .i64 (La.length : Nat)), (68, .string ⟨La.toArray⟩), (69, .string ⟨(La ++ [44, 32]).toArray⟩), (70, .string ⟨(40 :: Lb).toArray⟩), (71, .string ⟨Lb.toArray⟩), (72, .string ⟨(La ++ [44, 32] ++ Lb).toArray⟩), (73, .bool true), (74, .bool true), (4, .bool true)] 75 rfl (by kernel_rfl) ?_ ?_
  · intro F hF w' hB
    have g1 : decide ((1 : Int) < ((La ++ [41]).length : Nat)) = true := decide_eq_true (by have := HLa.out; simp only [List.length_append, List.length_cons, List.length_nil]; omega)
    have g2 : decide ((1 : Int) < ((40 :: Lb).length : Nat)) = true := decide_eq_true (by have := HLb.out; simp only [List.length_cons]; omega)
    have g3 : (((La ++ [41]).length : Nat) : Int) - 1 = (La.length : Nat) := by simp only [List.length_append, List.length_cons, List.length_nil]; omega
    have g4 : (La ++ 44 :: 32 :: Lb == La ++ [44, 32] ++ Lb) = true := by simp
    refine ⟨?_, ?_, ?_, ?_, ?_, ?_, ?_, ?_, ?_, ?_, ?_, ?_, ?_, ?_, ?_, ?_, ?_, ?_, ?_, ?_, ?_, ?_, trivial⟩
    · exact Reg.doesV_val (ev_move rfl) (by rw [hF]; kernel_rfl) (by rw [hF]; kernel_rfl)
    · exact Reg.doesV_val (ev_lenS (La ++ [41]) rfl (by rw [hF]; kernel_rfl)) (by rw [hF]; kernel_rfl) (by rw [hF]; kernel_rfl)
    · exact Reg.doesV_val (by rw [ev_gtIC ((La ++ [41]).length : Nat) 1 rfl (by rw [hF]; kernel_rfl), g1]) (by rw [hF]; kernel_rfl) (by rw [hF]; kernel_rfl)
    · exact Reg.doesV_val (ev_move rfl) (by rw [hF]; kernel_rfl) (by rw [hF]; kernel_rfl)
    · exact Reg.doesV_val (ev_move rfl) (by rw [hF]; kernel_rfl) (by rw [hF]; kernel_rfl)
    · exact Reg.doesV_val (ev_lenS (40 :: Lb) rfl (by rw [hF]; kernel_rfl)) (by rw [hF]; kernel_rfl) (by rw [hF]; kernel_rfl)
    · exact Reg.doesV_val (by rw [ev_gtIC ((40 :: Lb).length : Nat) 1 rfl (by rw [hF]; kernel_rfl), g2]) (by rw [hF]; kernel_rfl) (by rw [hF]; kernel_rfl)
    · exact Reg.doesV_val (ev_pick true rfl (by rw [hF]; kernel_rfl)) (by rw [hF]; kernel_rfl) (by rw [hF]; kernel_rfl)
    · exact Reg.doesV_val (ev_move rfl) (by rw [hF]; kernel_rfl) (by rw [hF]; kernel_rfl)
    · exact Reg.doesV_val (ev_move rfl) (by rw [hF]; kernel_rfl) (by rw [hF]; kernel_rfl)
    · exact Reg.doesV_val (ev_move rfl) (by rw [hF]; kernel_rfl) (by rw [hF]; kernel_rfl)
    · exact Reg.doesV_val (ev_move rfl) (by rw [hF]; kernel_rfl) (by rw [hF]; kernel_rfl)
    · exact Reg.doesV_val (ev_lenS (La ++ [41]) rfl (by rw [hF]; kernel_rfl)) (by rw [hF]; kernel_rfl) (by rw [hF]; kernel_rfl)
    · exact Reg.doesV_val (by rw [ev_subIC ((La ++ [41]).length : Nat) 1 (by rw [g3]; have := HLa.out; omega) rfl (by rw [hF]; kernel_rfl), g3]) (by rw [hF]; kernel_rfl) (by rw [hF]; kernel_rfl)
    · exact Reg.doesV_val (ev_sliceHi La [41] rfl (by rw [hF]; kernel_rfl) (by rw [hF]; kernel_rfl)) (by rw [hF]; kernel_rfl) (by rw [hF]; kernel_rfl)
    · exact Reg.doesV_val (ev_catC La [44, 32] (by have := HLa.out; simp only [List.length_cons, List.length_nil]; omega) rfl (by rw [hF]; kernel_rfl)) (by rw [hF]; kernel_rfl) (by rw [hF]; kernel_rfl)
    · exact Reg.doesV_val (ev_move rfl) (by rw [hF]; kernel_rfl) (by rw [hF]; kernel_rfl)
    · exact Reg.doesV_val (ev_sliceLo 40 Lb rfl (by rw [hF]; kernel_rfl)) (by rw [hF]; kernel_rfl) (by rw [hF]; kernel_rfl)
    · exact Reg.doesV_val (ev_catS (La ++ [44, 32]) Lb (by have := HLa.out; have := HLb.out; simp only [List.length_append, List.length_cons, List.length_nil]; omega) rfl (by rw [hF]; kernel_rfl) (by rw [hF]; kernel_rfl)) (by rw [hF]; kernel_rfl) (by rw [hF]; kernel_rfl)
    · exact Reg.doesV_val (by rw [ev_eqS (La ++ 44 :: 32 :: Lb) (La ++ [44, 32] ++ Lb) rfl (by rw [hF]; kernel_rfl) (by rw [hF]; kernel_rfl), g4]) (by rw [hF]; kernel_rfl) (by rw [hF]; kernel_rfl)
    · exact Reg.doesV_val (ev_pick true rfl (by rw [hF]; kernel_rfl)) (by rw [hF]; kernel_rfl) (by rw [hF]; kernel_rfl)
    · exact Reg.doesV_val (ev_assign rfl) (by rw [hF]; kernel_rfl) (by rw [hF]; kernel_rfl)
  · intro w8 hB
    simp only [Reg.putAll, Act.put, List.setIfInBounds_toArray, List.set_cons_zero, List.set_cons_succ]
    have Hb8 := Lib.hid (below_via Hb7.out hB)
    clear hB Hb7 HLa HLb
    go_wp2
    go_ret
    exact ⟨rfl, Hb8.out⟩
end Go.Proofs.YtbhliihmipbfjaaDoor
