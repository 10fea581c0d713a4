/-
  Bytes as a list of values, as the document has it: it is what the program's Decode answers, of any text that is not too long.
-/
import Derived.Test.YtkbgcgkblbbcbaaDoorRTake
import Derived.Test.YtkbgcgkblbbcbaaDoorApp
namespace Go.Proofs.YtkbgcgkblbbcbaaDoor
open Go Go.RowKit

theorem enOne : ∀ args w, (callFunc 20 args).run Tryd.prog w = .ok (.enter 20 args) w := fun _ _ => by kernel_rfl
theorem ev_sliceLH {F : Act} {w : World} {t u v : Tmp} {s : ByteArray} {k p : Nat} {o : Oper} (ho : o.op = .slice 9 (.tmp t) (some (.tmp u)) (some (.tmp v)) none) (ht : Reg.slot F t = .string s) (hu : Reg.slot F u = .int .i64 k) (hv : Reg.slot F v = .int .i64 p) (hk : k ≤ p) (hp : p ≤ s.size) :
    (execOp F.eval o).run Tryd.prog w = .ok (.value (.string (s.extract k p))) w := by
  have e1 : F.eval (.tmp t) = .string s := ht
  have e2 : F.eval (.tmp u) = .int .i64 k := hu
  have e3 : F.eval (.tmp v) = .int .i64 p := hv
  have e0 : (execOp F.eval o).run Tryd.prog w = ((Instr.sliceAt 9 (.string s) (some (.int .i64 k)) (some (.int .i64 p)) none).run Tryd.prog w).andThen fun v w' => .ok (.value v) w' := by
    simp only [execOp, ho, e1, e2, e3, Option.map_some, Option.map_none, Sem.run_bind, Sem.run_pure]
  rw [e0]
  go_simp
theorem ev_neS {F : Act} {w : World} {t u : Tmp} {o : Oper} (l r : ByteArray) (ho : o.op = .binOp .neq 9 (.tmp t) (.tmp u) 9) (ht : Reg.slot F t = .string l) (hu : Reg.slot F u = .string r) :
    (execOp F.eval o).run Tryd.prog w = .ok (.value (.bool (!(l.toList == r.toList)))) w := by
  have e1 : F.eval (.tmp t) = .string l := ht
  have e2 : F.eval (.tmp u) = .string r := hu
  simp only [execOp, ho, e1, e2]
  go_simp
theorem ext_list (s : ByteArray) (k p : Nat) : (s.extract k p).toList = (s.data.toList.drop k).take (p - k) := by
  rw [Lib.extract_eq, ByteArray.toList_eq]
/-- If what was taken may be, and its bytes stand there, it is the value that stands there. -/
theorem took (s : ByteArray) (A p : Nat) (x : Val) (hx : Valid x) (hi : In64 x) (_hp : p ≤ s.size) (he : enc1 x = (s.data.toList.drop A).take (p - A)) (hAp : A < p) : cut1 (s.data.toList.drop A) = some (x, s.data.toList.drop p) := by
  have h1 : s.data.toList.drop A = enc1 x ++ s.data.toList.drop p := by
    have h2 := List.take_append_drop (p - A) (s.data.toList.drop A)
    rw [← he, List.drop_drop, show A + (p - A) = p by omega] at h2
    exact h2.symm
  rw [h1]
  exact cut1_enc x hx hi _
theorem not_took (s : ByteArray) (A p : Nat) (x : Val) (hA : A ≤ s.size) (hpost : ∀ y r, cut1 (s.data.toList.drop A) = some (y, r) → x = y ∧ p + r.length = s.size) (h : (rmB x && decide (p ≤ s.size)) = false ∨ (enc1 x == (s.data.toList.drop A).take (p - A)) = false) : cut1 (s.data.toList.drop A) = none := by
  cases hc : cut1 (s.data.toList.drop A) with
  | none => rfl
  | some z =>
    exfalso
    obtain ⟨y, r⟩ := z
    obtain ⟨rfl, hp⟩ := hpost y r hc
    obtain ⟨e1, v1, i1⟩ := enc_cut1 _ _ _ hc
    rcases h with h | h
    · rw [rm_of_valid x v1, Bool.true_and] at h
      exact absurd (show p ≤ s.size by omega) (of_decide_eq_false h)
    · have hl := congrArg List.length e1
      rw [drop_len, List.length_append] at hl
      have : (s.data.toList.drop A).take (p - A) = enc1 x := by
        rw [e1]
        have e : p - A = (enc1 x).length := by omega
        rw [e, take_front]
      rw [this] at h
      simp at h

def RDecRel (s : ByteArray) (w : World) (A : Nat) (v : Value) (wr : World) : Prop :=
  A ≤ s.size ∧ Below w.heap.size w wr ∧ ∃ xs, xs.length ≤ A ∧ OwnV wr w.heap.size v xs ∧ decL s.data.toList = (decL (s.data.toList.drop A)).map (xs ++ ·)

set_option maxHeartbeats 8000000 in
theorem rdecode_c (s : ByteArray) (w : World) (hs : s.size ≤ 100000) : Calls Tryd.prog 11 #[.string s] w (DecPost s.data.toList w) := by
  go_enter Tryd.func11, Tryd.ntmps11
  go_wp2_with fail
  go_loopw [4, 5] (fun x i wr => ∃ A : Nat, i = .int .i64 A ∧ RDecRel s w A x wr) (fun _ i _ => s.size - (intOf i).toNat)
  case atStart => exact ⟨0, rfl, Nat.zero_le _, below_one _ _, [], Nat.le_refl _, ownV_empty w _ (Nat.le_refl _), by simp⟩
  case round =>
    obtain ⟨A, rfl, hA, hb, xs, hlen, hown, hdec⟩ := hrel
    have Hown := Lib.hid hown
    have Hdec := Lib.hid hdec
    clear hown hdec
    have hB := hb.size
    have e5 : s.data.toList.length = s.size := rfl
    have E5 := Lib.hid e5
    clear e5
    by_cases hlt : A < s.size
    · have hnil : s.data.toList.drop A ≠ [] := by rw [drop_at s A hlt]; exact List.cons_ne_nil _ _
      have Hnil := Lib.hid hnil
      clear hnil
      go_wp2_with fail
      refine (take_c s A wr hs hlt).mono ?_
      rintro e w1 ⟨hb1, x, p, rfl, hi, hAp, hpost⟩
      have Hpost := Lib.hid hpost
      have Hi := Lib.hid hi
      have hbw1 : Below w.heap.size w w1 := hb.trans (hb1.mono hB)
      have Hown1 : Hid (OwnV w1 w.heap.size u4 xs) := Hown.out.after hb1
      have hB1 := hbw1.size
      clear hpost hi hb1 hb hB Hown
      cases hok : (rmB x && decide (p ≤ s.size))
      · have hnone := not_took s A p x hA Hpost.out (.inl hok)
        have hfin : decL s.data.toList = none := by
          have := Hdec.out
          rw [decL_none _ Hnil.out hnone] at this
          exact this
        have Hfin := Lib.hid hfin
        clear hfin hnone
        go_wp2
        go_ret2
        refine ⟨hbw1.alloc hB1 _, none, 0, 0, ?_, ?_, Nat.zero_le _, ?_⟩
        · rw [Hfin.out]; rfl
        · rw [Hfin.out]; rfl
        · rw [Hfin.out]; exact .inl rfl
      · have hrb : rmB x = true := by simp only [Bool.and_eq_true] at hok; exact hok.1
        have hps : p ≤ s.size := by simp only [Bool.and_eq_true, decide_eq_true_eq] at hok; exact hok.2
        have Hv := Lib.hid (valid_of x hrb)
        clear hok hrb
        obtain ⟨e1, he1⟩ : ∃ e1 : ByteArray, e1 = ⟨(enc1 x).toArray⟩ := ⟨_, rfl⟩
        have E1 := Lib.hid he1
        have heq : (e1.toList == (s.extract A p).toList) = (enc1 x == (s.data.toList.drop A).take (p - A)) := by
          rw [he1, ext_list, ByteArray.toList_eq]
        clear he1
        obtain ⟨q, hq⟩ : ∃ q, (enc1 x == (s.data.toList.drop A).take (p - A)) = q := ⟨_, rfl⟩
        have Hq := Lib.hid hq
        have Hq2 := Lib.hid (heq.trans hq)
        clear heq hq
        go_wp2_with fail
        have bx0 : Bx (w1.alloc (.cells #[.int .i64 x.k, .int .i64 x.n, .string x.s] 32)) w1.heap.size x := Bx.new w1 x
        have Bx0 := Lib.hid bx0
        clear bx0
        refine Reg.wp_region_vals mixed (by kernel_rfl) [(23, x.v), (24, .string e1), (25, .string s), (26, .int .i64 A), (27, .int .i64 p), (28, .string (s.extract A p)), (29, .bool !q)] 36 rfl (by kernel_rfl) ?_ ?_
        · intro F hF w' hB'
          have hbx := Bx0.out.after hB'
          refine ⟨?_, ?_, ?_, ?_, ?_, ?_, ?_, trivial⟩
          · exact Reg.doesV_val (ev_load hbx rfl (by rw [hF]; kernel_rfl)) (by rw [hF]; kernel_rfl) (by rw [hF]; kernel_rfl)
          · exact Reg.doesV_call (by have h := one_c x w' Hv.out Hi.out; rw [← E1.out] at h; exact h) (ev_call enOne rfl (by rw [hF]; kernel_rfl)) (by rw [hF]; kernel_rfl) (by rw [hF]; kernel_rfl)
          · exact Reg.doesV_val (ev_move rfl) (by rw [hF]; kernel_rfl) (by rw [hF]; kernel_rfl)
          · exact Reg.doesV_val (ev_move rfl) (by rw [hF]; kernel_rfl) (by rw [hF]; kernel_rfl)
          · exact Reg.doesV_val (ev_move rfl) (by rw [hF]; kernel_rfl) (by rw [hF]; kernel_rfl)
          · exact Reg.doesV_val (ev_sliceLH (s := s) (k := A) (p := p) rfl (by rw [hF]; kernel_rfl) (by rw [hF]; kernel_rfl) (by rw [hF]; kernel_rfl) (by omega) hps) (by rw [hF]; kernel_rfl) (by rw [hF]; kernel_rfl)
          · exact Reg.doesV_val (by rw [ev_neS e1 (s.extract A p) rfl (by rw [hF]; kernel_rfl) (by rw [hF]; kernel_rfl), Hq2.out]) (by rw [hF]; kernel_rfl) (by rw [hF]; kernel_rfl)
        · intro w2 hB'
          simp only [Reg.putAll, Act.put, List.setIfInBounds_toArray, List.set_cons_zero, List.set_cons_succ]
          have hb12 : Below w1.heap.size w1 w2 := (below_one w1 _).trans (hB'.mono (by simp))
          have bx2 := Bx0.out.after hB'
          have hbw2 : Below w.heap.size w w2 := hbw1.trans (hb12.mono hB1)
          have Hown2 : Hid (OwnV w2 w.heap.size u4 xs) := Hown1.out.after hb12
          have hB2 := hbw2.size
          clear hB' hb12 Bx0 hbw1 Hown1 hB1
          cases q
          · have hnone := not_took s A p x hA Hpost.out (.inr Hq.out)
            have hfin : decL s.data.toList = none := by
              have := Hdec.out
              rw [decL_none _ Hnil.out hnone] at this
              exact this
            have Hfin := Lib.hid hfin
            clear hfin hnone bx2
            go_wp2
            go_ret2
            refine ⟨hbw2, none, 0, 0, ?_, ?_, Nat.zero_le _, ?_⟩
            · rw [Hfin.out]; rfl
            · rw [Hfin.out]; rfl
            · rw [Hfin.out]; exact .inl rfl
          · have hcut := took s A p x Hv.out Hi.out hps (by simpa using Hq.out) hAp
            have hstep : decL s.data.toList = (decL (s.data.toList.drop p)).map ((xs ++ [x]) ++ ·) := by
              have := Hdec.out
              rw [decL_some _ _ _ hcut, Option.map_map] at this
              rw [this]
              congr 1
              funext l
              simp
            have Hstep := Lib.hid hstep
            have Hlen := Lib.hid (show xs.length ≤ 1000000 by omega)
            clear hstep hcut
            have c0 := bx2.cell0
            have c1 := bx2.cell1
            have c2 := bx2.cell2
            clear bx2
            go_wp2_with (at_builtin; go_must (
              refine wpList_appV x rfl (.tmp 30) (.tmp 32) rfl w.heap.size _ xs rfl Hown2.out _ rfl rfl Hlen.out hB2 ?_
              intro v1 w3 hv1 hg1
              have hbw3 : Below w.heap.size w w3 := hbw2.grown hg1 hB2 (fun k hk => (Hown2.out.lt k hk).1)
              have Hv1 := Lib.hid hv1
              clear hv1 hg1))
            go_roundw
            case rel => exact ⟨p, rfl, hps, hbw3, xs ++ [x], by rw [List.length_append, List.length_singleton]; omega, Hv1.out, Hstep.out⟩
            case measure => simp [intOf]; omega
    · obtain rfl : A = s.size := by omega
      obtain ⟨B, c, rfl, hsl⟩ := Hown.out.sl
      have hfin : decL s.data.toList = some xs := by
        have := Hdec.out
        rw [List.drop_eq_nil_of_le (by rw [E5.out]; omega), decL_nil, Option.map_some, List.append_nil] at this
        exact this
      have Hfin := Lib.hid hfin
      have Hsl := Lib.hid hsl
      clear hfin hsl
      go_wp2
      go_ret2
      refine ⟨hb, B, xs.length, c, ?_, ?_, ?_, ?_⟩
      · rw [Hfin.out]; rfl
      · rw [Hfin.out]; rfl
      · rw [E5.out]; omega
      · rw [Hfin.out]; exact Hsl.out
end Go.Proofs.YtkbgcgkblbbcbaaDoor
