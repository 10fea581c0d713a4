/-
  Whether two lists of rows are the same, whether rows are few and short, and whether a row may be, as the document has it. Of all rows.
-/
import Derived.Test.YthgoflaphbigbaaGreatDoorRCmp
import Derived.Test.YthgoflaphbigbaaGreatDoorSortP
import Derived.Test.YthgoflaphbigbaaGreatDoorRMay
namespace Go.Proofs.YthgoflaphbigbaaGreatDoor
open Go Go.RowKit
set_option maxRecDepth 100000

theorem ev_indexH {F : Act} {w : World} {t u : Tmp} {b off n c k : Nat} {o : Oper} (hk : k < n) (ho : o.op = .indexAddr 37 (.tmp t) (.tmp u)) (ht : Reg.slot F t = .slice (some ⟨b, off, none⟩) n c) (hu : Reg.slot F u = .int .i64 k) :
    (execOp F.eval o).run Tryz.prog w = .ok (.value (.pointer (some ⟨b, off + k, none⟩))) w := by
  have e1 : F.eval (.tmp t) = .slice (some ⟨b, off, none⟩) n c := ht
  have e2 : F.eval (.tmp u) = .int .i64 k := hu
  have e0 : (execOp F.eval o).run Tryz.prog w = ((Instr.indexAt 37 (.slice (some ⟨b, off, none⟩) n c) (.int .i64 k)).run Tryz.prog w).andThen fun v w' => .ok (.value v) w' := by
    simp only [execOp, ho, e1, e2, Sem.run_bind, Sem.run_pure]
  rw [e0]
  go_simp
theorem ev_loadH {F : Act} {w : World} {b off : Nat} {h : Hd} {t : Tmp} {o : Oper} (h0 : w.cell? ⟨b, off, none⟩ = some h.v)
    (ho : o.op = .load 25 (.tmp t)) (ht : Reg.slot F t = .pointer (some ⟨b, off, none⟩)) :
    (execOp F.eval o).run Tryz.prog w = .ok (.value h.v) w := by
  have e : F.eval (.tmp t) = .pointer (some ⟨b, off, none⟩) := ht
  have e0 : (execOp F.eval o).run Tryz.prog w = ((Instr.loadAt 25 (.pointer (some ⟨b, off, none⟩))).run Tryz.prog w).andThen fun v w' => .ok (.value v) w' := by
    simp only [execOp, ho, e, Sem.run_bind, Sem.run_pure]
  rw [e0]
  go_simp
theorem ev_neIC {F : Act} {w : World} {t : Tmp} {o : Oper} (a b : Int) (ho : o.op = .binOp .neq 3 (.tmp t) (.const (.int .i64 b)) 3) (ht : Reg.slot F t = .int .i64 a) :
    (execOp F.eval o).run Tryz.prog w = .ok (.value (.bool (a != b))) w := by
  have e1 : F.eval (.tmp t) = .int .i64 a := ht
  have e2 : F.eval (.const (.int .i64 b)) = .int .i64 b := rfl
  have e0 : (execOp F.eval o).run Tryz.prog w = ((do eqGuard .neq 3 (.tmp t) (.const (.int .i64 b)) (.int .i64 a) (.int .i64 b); binOp .neq 3 (.int .i64 a) (.int .i64 b)).run Tryz.prog w).andThen fun v w' => .ok (.value v) w' := by
    simp only [execOp, ho, e1, e2, Sem.run_bind, Sem.run_pure]
  rw [e0]
  go_simp
theorem ev_neII {F : Act} {w : World} {t u : Tmp} {o : Oper} (a b : Int) (ho : o.op = .binOp .neq 3 (.tmp t) (.tmp u) 3) (ht : Reg.slot F t = .int .i64 a) (hu : Reg.slot F u = .int .i64 b) :
    (execOp F.eval o).run Tryz.prog w = .ok (.value (.bool (a != b))) w := by
  have e1 : F.eval (.tmp t) = .int .i64 a := ht
  have e2 : F.eval (.tmp u) = .int .i64 b := hu
  have e0 : (execOp F.eval o).run Tryz.prog w = ((do eqGuard .neq 3 (.tmp t) (.tmp u) (.int .i64 a) (.int .i64 b); binOp .neq 3 (.int .i64 a) (.int .i64 b)).run Tryz.prog w).andThen fun v w' => .ok (.value v) w' := by
    simp only [execOp, ho, e1, e2, Sem.run_bind, Sem.run_pure]
  rw [e0]
  go_simp
theorem ev_gtIC {F : Act} {w : World} {t : Tmp} {o : Oper} (a b : Int) (ho : o.op = .binOp .gtr 3 (.tmp t) (.const (.int .i64 b)) 3) (ht : Reg.slot F t = .int .i64 a) :
    (execOp F.eval o).run Tryz.prog w = .ok (.value (.bool (decide (b < a)))) w := by
  have e1 : F.eval (.tmp t) = .int .i64 a := ht
  have e2 : F.eval (.const (.int .i64 b)) = .int .i64 b := rfl
  have e0 : (execOp F.eval o).run Tryz.prog w = ((do eqGuard .gtr 3 (.tmp t) (.const (.int .i64 b)) (.int .i64 a) (.int .i64 b); binOp .gtr 3 (.int .i64 a) (.int .i64 b)).run Tryz.prog w).andThen fun v w' => .ok (.value v) w' := by
    simp only [execOp, ho, e1, e2, Sem.run_bind, Sem.run_pure]
  rw [e0]
  go_simp
theorem enRCompareL : ∀ args w, (callFunc 30 args).run Tryz.prog w = .ok (.enter 30 args) w := fun _ _ => by kernel_rfl

/-- Are two lists of rows the same? -/
def sameR : List (List Val) → List (List Val) → Bool
  | [], [] => true
  | a :: l, b :: r => cmpL a b == 0 && sameR l r
  | _, _ => false
theorem sameR_self : ∀ l : List (List Val), sameR l l = true
  | [] => rfl
  | a :: l => by rw [sameR, cmpL_same, sameR_self l]; rfl
theorem sameR_drop (l r : List (List Val)) (k : Nat) (a b : List Val) (ha : l[k]? = some a) (hb : r[k]? = some b) : sameR (l.drop k) (r.drop k) = (cmpL a b == 0 && sameR (l.drop (k + 1)) (r.drop (k + 1))) := by
  have h1 := List.drop_eq_getElem_cons (List.getElem?_eq_some_iff.1 ha).1
  have h2 := List.drop_eq_getElem_cons (List.getElem?_eq_some_iff.1 hb).1
  rw [(List.getElem?_eq_some_iff.1 ha).2] at h1
  rw [(List.getElem?_eq_some_iff.1 hb).2] at h2
  rw [h1, h2, sameR]
theorem sameR_len : ∀ l r : List (List Val), l.length ≠ r.length → sameR l r = false
  | [], [], h => absurd rfl h
  | [], _ :: _, _ => rfl
  | _ :: _, [], _ => rfl
  | a :: l, b :: r, h => by
    rw [sameR, sameR_len l r (by simpa using h), Bool.and_false]
theorem xs_at {hs : List Hd} {k : Nat} {h : Hd} (hk : hs[k]? = some h) : (hs.map (·.xs))[k]? = some h.xs := by rw [List.getElem?_map, hk]; rfl
set_option maxHeartbeats 2000000 in
theorem sameRows_c (A B : Option Addr) (n m c d : Nat) (hs ks : List Hd) (w : World) (hn : hs.length = n) (hm : ks.length = m) (hn1 : n ≤ maxLen) (hm1 : m ≤ maxLen) (hsl : SlG w A 1 rdH hs) (hin : ∀ h ∈ hs, Hd.In w h) (ksl : SlG w B 1 rdH ks) (kin : ∀ h ∈ ks, Hd.In w h) :
    Calls Tryz.prog 20 #[.slice A n c, .slice B m d] w fun e w' => e = .returned (.bool (sameR (hs.map (·.xs)) (ks.map (·.xs)))) ∧ Below w.heap.size w w' := by
  unfold maxLen at hn1 hm1
  obtain ⟨R, hR⟩ : ∃ R, sameR (hs.map (·.xs)) (ks.map (·.xs)) = R := ⟨_, rfl⟩
  rw [hR]
  have HR := Lib.hid hR
  have Hn := Lib.hid hn
  have Hm := Lib.hid hm
  have Hs := Lib.hid hsl
  have Hi := Lib.hid hin
  have Ks := Lib.hid ksl
  have Ki := Lib.hid kin
  clear hn hm hsl hin ksl kin hR
  by_cases hnm : n = m
  case neg =>
    have HRf : Hid (false = R) := by
      have := HR.out
      rw [sameR_len _ _ (by rw [List.length_map, List.length_map, Hn.out, Hm.out]; exact hnm)] at this
      exact this
    clear HR
    have hne : ((n : Int) != (m : Int)) = true := by simpa using (by omega : ¬ (n : Int) = m)
    go_enter Tryz.func20, Tryz.ntmps20
    go_wp2
    go_ret
    exact ⟨congrArg (fun z => Ending.returned (Value.bool z)) HRf.out, Below.refl _ _⟩
  subst hnm
  go_enter Tryz.func20, Tryz.ntmps20
  go_wp2_with fail
  go_loopw [5] (fun i wr => ∃ k : Nat, k ≤ n ∧ i = .int .i64 k ∧ Hid (Below w.heap.size w wr) ∧ Hid (sameR ((hs.map (·.xs)).drop k) ((ks.map (·.xs)).drop k) = R)) (fun i _ => n - (intOf i).toNat)
  case atStart => exact ⟨0, Nat.zero_le _, rfl, Below.refl _ _, HR⟩
  case round =>
    obtain ⟨k, hk, rfl, hb, hinv⟩ := hrel
    clear HR
    by_cases hlt : k < n
    · obtain ⟨b, off, x, rfl, hblt, hx, c0⟩ := Hs.out.at1 (by rw [Hn.out]; exact hlt)
      obtain ⟨b', off', y, rfl, hblt', hy, c1⟩ := Ks.out.at1 (by rw [Hm.out]; exact hlt)
      have d0 : Hid _ := (hb.out.cell (p := ⟨b, off + k, none⟩) hblt).trans (c0 _ rfl)
      have d1 : Hid _ := (hb.out.cell (p := ⟨b', off' + k, none⟩) hblt').trans (c1 _ rfl)
      have l1 : b < wr.heap.size := Nat.lt_of_lt_of_le hblt hb.out.size
      have l2 : b' < wr.heap.size := Nat.lt_of_lt_of_le hblt' hb.out.size
      have Hx := Lib.hid ((Hi.out x (List.mem_of_getElem? hx)).after hb.out)
      have Hy := Lib.hid ((Ki.out y (List.mem_of_getElem? hy)).after hb.out)
      have Hst := Lib.hid ((sameR_drop _ _ k x.xs y.xs (xs_at hx) (xs_at hy)).symm.trans hinv.out)
      clear hinv hx hy c0 c1 hblt hblt'
      go_wp2_with fail
      refine Reg.wp_region_vals mixed (by kernel_rfl) [(17, .slice (some ⟨b, off, none⟩) n c), (18, .int .i64 k), (19, .pointer (some ⟨b, off + k, none⟩)), (20, x.v), (21, .slice (some ⟨b', off', none⟩) n d), (22, .int .i64 k), (23, .pointer (some ⟨b', off' + k, none⟩)), (24, y.v), (25, .int .i64 (cmpL x.xs y.xs)), (26, .bool (cmpL x.xs y.xs != 0))] 27 rfl (by kernel_rfl) ?_ ?_
      · intro F hF w' hB
        have e0 := (hB.cell (p := ⟨b, off + k, none⟩) l1).trans d0.out
        have e1 := (hB.cell (p := ⟨b', off' + k, none⟩) l2).trans d1.out
        have ix := Hx.out.after hB
        have iy := Hy.out.after hB
        refine ⟨?_, ?_, ?_, ?_, ?_, ?_, ?_, ?_, ?_, ?_, trivial⟩
        · exact Reg.doesV_val (ev_move rfl) (by rw [hF]; kernel_rfl) (by rw [hF]; kernel_rfl)
        · exact Reg.doesV_val (ev_move rfl) (by rw [hF]; kernel_rfl) (by rw [hF]; kernel_rfl)
        · exact Reg.doesV_val (ev_indexH (b := b) (off := off) (c := c) hlt rfl (by rw [hF]; kernel_rfl) (by rw [hF]; kernel_rfl)) (by rw [hF]; kernel_rfl) (by rw [hF]; kernel_rfl)
        · exact Reg.doesV_val (ev_loadH (h := x) e0 rfl (by rw [hF]; kernel_rfl)) (by rw [hF]; kernel_rfl) (by rw [hF]; kernel_rfl)
        · exact Reg.doesV_val (ev_move rfl) (by rw [hF]; kernel_rfl) (by rw [hF]; kernel_rfl)
        · exact Reg.doesV_val (ev_move rfl) (by rw [hF]; kernel_rfl) (by rw [hF]; kernel_rfl)
        · exact Reg.doesV_val (ev_indexH (b := b') (off := off') (c := d) hlt rfl (by rw [hF]; kernel_rfl) (by rw [hF]; kernel_rfl)) (by rw [hF]; kernel_rfl) (by rw [hF]; kernel_rfl)
        · exact Reg.doesV_val (ev_loadH (h := y) e1 rfl (by rw [hF]; kernel_rfl)) (by rw [hF]; kernel_rfl) (by rw [hF]; kernel_rfl)
        · exact Reg.doesV_call (rcompareL_c x.A y.A x.n y.n x.c y.c x.xs y.xs w' ix.len iy.len ix.max iy.max ix.sl iy.sl) (ev_call enRCompareL rfl (by rw [hF]; kernel_rfl)) (by rw [hF]; kernel_rfl) (by rw [hF]; kernel_rfl)
        · exact Reg.doesV_val (ev_neIC (cmpL x.xs y.xs) 0 rfl (by rw [hF]; kernel_rfl)) (by rw [hF]; kernel_rfl) (by rw [hF]; kernel_rfl)
      · intro w2 hB
        simp only [Reg.putAll, Act.put, List.setIfInBounds_toArray, List.set_cons_zero, List.set_cons_succ]
        have Hb2 := Lib.hid (hb.out.trans (hB.mono hb.out.size))
        clear hB hb l1 l2 d0 d1 Hx Hy
        cases hc : cmpL x.xs y.xs != 0
        · have Hst' : Hid (sameR ((hs.map (·.xs)).drop (k + 1)) ((ks.map (·.xs)).drop (k + 1)) = R) := by
            have := Hst.out
            rw [show (cmpL x.xs y.xs == 0) = true by simpa using hc, Bool.true_and] at this
            exact this
          clear Hst
          go_wp2
          go_roundw
          case rel => exact ⟨k + 1, by omega, by go_num, Hb2, Hst'⟩
          case measure => simp [intOf]; omega
        · have Hst' : Hid (false = R) := by
            have := Hst.out
            rw [show (cmpL x.xs y.xs == 0) = false by simpa using hc, Bool.false_and] at this
            exact this
          clear Hst
          go_wp2
          go_ret
          exact ⟨congrArg (fun z => Ending.returned (Value.bool z)) Hst'.out, Hb2.out⟩
    · obtain rfl : k = n := by omega
      have Hst' : Hid (true = R) := by
        have := hinv.out
        rw [List.drop_eq_nil_of_le (by rw [List.length_map, Hn.out]; omega), List.drop_eq_nil_of_le (by rw [List.length_map, Hm.out]; omega)] at this
        exact this
      clear hinv
      go_wp2
      go_ret
      exact ⟨congrArg (fun z => Ending.returned (Value.bool z)) Hst'.out, hb.out⟩

/-- Are there few rows, of few values, of short texts? -/
def shortRR (l : List (List Val)) : Bool := l.all shortB && decide (l.length ≤ 100)
theorem all_dropL (p : List Val → Bool) (xs : List (List Val)) (k : Nat) (x : List Val) (hx : xs[k]? = some x) : (xs.drop k).all p = (p x && (xs.drop (k + 1)).all p) := by
  have h1 := List.drop_eq_getElem_cons (List.getElem?_eq_some_iff.1 hx).1
  rw [(List.getElem?_eq_some_iff.1 hx).2] at h1
  rw [h1, List.all_cons]
/-- May a row be, as the document has it? -/
def rmayR (xs : List Val) : Bool := decide (xs.length ≤ 40) && xs.all rmB
set_option maxHeartbeats 1000000 in
theorem rmayRow_c (A : Option Addr) (n c : Nat) (xs : List Val) (w : World) (hn : xs.length = n) (hn1 : n ≤ maxLen) (hs : Sl w A xs) (hz : ∀ x ∈ xs, x.s.size ≤ maxLen) :
    Calls Tryz.prog 29 #[.slice A n c] w fun e w' => e = .returned (.bool (rmayR xs)) ∧ Below w.heap.size w w' := by
  have HM := Lib.hid (rmayL_c A n c xs w hn hn1 hs hz)
  unfold maxLen at hn1
  unfold rmayR
  rw [hn]
  clear hn hs hz
  by_cases h40 : n ≤ 40
  · rw [decide_eq_true h40, Bool.true_and]
    obtain ⟨R, hR⟩ : ∃ R, xs.all rmB = R := ⟨_, rfl⟩
    rw [hR] at HM ⊢
    clear hR
    go_enter Tryz.func29, Tryz.ntmps29
    go_wp2_with fail
    refine HM.out.mono ?_
    rintro e w1 ⟨rfl, hb1⟩
    go_wp2
    go_ret
    exact ⟨rfl, hb1⟩
  · rw [decide_eq_false h40, Bool.false_and]
    clear HM
    go_enter Tryz.func29, Tryz.ntmps29
    go_wp2
    go_ret
    exact ⟨rfl, Below.refl _ _⟩
end Go.Proofs.YthgoflaphbigbaaGreatDoor
