/-
  Columns in a box; single operations on them; plain facts on rows that fit. No condition.
-/
import Derived.Test.YtbhliihmipbfjaaDoorTexts4
namespace Go.Proofs.YtbhliihmipbfjaaDoor
open Go Go.RowKit
set_option maxRecDepth 100000

theorem ev_fld0 {F : Act} {w : World} {b : Nat} {t : Tmp} {o : Oper} (ho : o.op = .fieldAddr 36 (.tmp t) 0) (ht : Reg.slot F t = .pointer (some ⟨b, 0, none⟩)) :
    (execOp F.eval o).run Tryd.prog w = .ok (.value (.pointer (some ⟨b, 0, none⟩))) w := by
  have e : F.eval (.tmp t) = .pointer (some ⟨b, 0, none⟩) := ht
  have e0 : (execOp F.eval o).run Tryd.prog w = ((Instr.fieldAt 36 (.pointer (some ⟨b, 0, none⟩)) 0).run Tryd.prog w).andThen fun v w' => .ok (.value v) w' := by
    simp only [execOp, ho, e, Sem.run_bind, Sem.run_pure]
  rw [e0]
  go_simp
theorem ev_fld1 {F : Act} {w : World} {b : Nat} {t : Tmp} {o : Oper} (ho : o.op = .fieldAddr 36 (.tmp t) 1) (ht : Reg.slot F t = .pointer (some ⟨b, 0, none⟩)) :
    (execOp F.eval o).run Tryd.prog w = .ok (.value (.pointer (some ⟨b, 1, none⟩))) w := by
  have e : F.eval (.tmp t) = .pointer (some ⟨b, 0, none⟩) := ht
  have e0 : (execOp F.eval o).run Tryd.prog w = ((Instr.fieldAt 36 (.pointer (some ⟨b, 0, none⟩)) 1).run Tryd.prog w).andThen fun v w' => .ok (.value v) w' := by
    simp only [execOp, ho, e, Sem.run_bind, Sem.run_pure]
  rw [e0]
  go_simp
theorem ev_loadIs {F : Act} {w : World} {b off : Nat} {A : Option Addr} {n c : Nat} {t : Tmp} {o : Oper} (h0 : w.cell? ⟨b, off, none⟩ = some (.slice A n c)) (ho : o.op = .load 33 (.tmp t)) (ht : Reg.slot F t = .pointer (some ⟨b, off, none⟩)) :
    (execOp F.eval o).run Tryd.prog w = .ok (.value (.slice A n c)) w := by
  have e : F.eval (.tmp t) = .pointer (some ⟨b, off, none⟩) := ht
  have e0 : (execOp F.eval o).run Tryd.prog w = ((Instr.loadAt 33 (.pointer (some ⟨b, off, none⟩))).run Tryd.prog w).andThen fun v w' => .ok (.value v) w' := by
    simp only [execOp, ho, e, Sem.run_bind, Sem.run_pure]
  rw [e0]
  go_simp
theorem ev_loadBs {F : Act} {w : World} {b off : Nat} {A : Option Addr} {n c : Nat} {t : Tmp} {o : Oper} (h0 : w.cell? ⟨b, off, none⟩ = some (.slice A n c)) (ho : o.op = .load 34 (.tmp t)) (ht : Reg.slot F t = .pointer (some ⟨b, off, none⟩)) :
    (execOp F.eval o).run Tryd.prog w = .ok (.value (.slice A n c)) w := by
  have e : F.eval (.tmp t) = .pointer (some ⟨b, off, none⟩) := ht
  have e0 : (execOp F.eval o).run Tryd.prog w = ((Instr.loadAt 34 (.pointer (some ⟨b, off, none⟩))).run Tryd.prog w).andThen fun v w' => .ok (.value v) w' := by
    simp only [execOp, ho, e, Sem.run_bind, Sem.run_pure]
  rw [e0]
  go_simp
theorem ev_loadI {F : Act} {w : World} {b off : Nat} {k : Int} {t : Tmp} {o : Oper} (h0 : w.cell? ⟨b, off, none⟩ = some (.int .i64 k)) (ho : o.op = .load 3 (.tmp t)) (ht : Reg.slot F t = .pointer (some ⟨b, off, none⟩)) :
    (execOp F.eval o).run Tryd.prog w = .ok (.value (.int .i64 k)) w := by
  have e : F.eval (.tmp t) = .pointer (some ⟨b, off, none⟩) := ht
  have e0 : (execOp F.eval o).run Tryd.prog w = ((Instr.loadAt 3 (.pointer (some ⟨b, off, none⟩))).run Tryd.prog w).andThen fun v w' => .ok (.value v) w' := by
    simp only [execOp, ho, e, Sem.run_bind, Sem.run_pure]
  rw [e0]
  go_simp
theorem ev_loadB {F : Act} {w : World} {b off : Nat} {k : Bool} {t : Tmp} {o : Oper} (h0 : w.cell? ⟨b, off, none⟩ = some (.bool k)) (ho : o.op = .load 4 (.tmp t)) (ht : Reg.slot F t = .pointer (some ⟨b, off, none⟩)) :
    (execOp F.eval o).run Tryd.prog w = .ok (.value (.bool k)) w := by
  have e : F.eval (.tmp t) = .pointer (some ⟨b, off, none⟩) := ht
  have e0 : (execOp F.eval o).run Tryd.prog w = ((Instr.loadAt 4 (.pointer (some ⟨b, off, none⟩))).run Tryd.prog w).andThen fun v w' => .ok (.value v) w' := by
    simp only [execOp, ho, e, Sem.run_bind, Sem.run_pure]
  rw [e0]
  go_simp
theorem ev_idxI {F : Act} {w : World} {t u : Tmp} {b off n c k : Nat} {o : Oper} (hk : k < n) (ho : o.op = .indexAddr 33 (.tmp t) (.tmp u)) (ht : Reg.slot F t = .slice (some ⟨b, off, none⟩) n c) (hu : Reg.slot F u = .int .i64 k) :
    (execOp F.eval o).run Tryd.prog w = .ok (.value (.pointer (some ⟨b, off + k, none⟩))) w := by
  have e1 : F.eval (.tmp t) = .slice (some ⟨b, off, none⟩) n c := ht
  have e2 : F.eval (.tmp u) = .int .i64 k := hu
  have e0 : (execOp F.eval o).run Tryd.prog w = ((Instr.indexAt 33 (.slice (some ⟨b, off, none⟩) n c) (.int .i64 k)).run Tryd.prog w).andThen fun v w' => .ok (.value v) w' := by
    simp only [execOp, ho, e1, e2, Sem.run_bind, Sem.run_pure]
  rw [e0]
  go_simp
theorem ev_idxB {F : Act} {w : World} {t u : Tmp} {b off n c k : Nat} {o : Oper} (hk : k < n) (ho : o.op = .indexAddr 34 (.tmp t) (.tmp u)) (ht : Reg.slot F t = .slice (some ⟨b, off, none⟩) n c) (hu : Reg.slot F u = .int .i64 k) :
    (execOp F.eval o).run Tryd.prog w = .ok (.value (.pointer (some ⟨b, off + k, none⟩))) w := by
  have e1 : F.eval (.tmp t) = .slice (some ⟨b, off, none⟩) n c := ht
  have e2 : F.eval (.tmp u) = .int .i64 k := hu
  have e0 : (execOp F.eval o).run Tryd.prog w = ((Instr.indexAt 34 (.slice (some ⟨b, off, none⟩) n c) (.int .i64 k)).run Tryd.prog w).andThen fun v w' => .ok (.value v) w' := by
    simp only [execOp, ho, e1, e2, Sem.run_bind, Sem.run_pure]
  rw [e0]
  go_simp
theorem ev_eqIC {F : Act} {w : World} {t : Tmp} {o : Oper} (a b : Int) (ho : o.op = .binOp .eql 3 (.tmp t) (.const (.int .i64 b)) 3) (ht : Reg.slot F t = .int .i64 a) :
    (execOp F.eval o).run Tryd.prog w = .ok (.value (.bool (a == b))) w := by
  have e1 : F.eval (.tmp t) = .int .i64 a := ht
  have e2 : F.eval (.const (.int .i64 b)) = .int .i64 b := rfl
  have e0 : (execOp F.eval o).run Tryd.prog w = ((do eqGuard .eql 3 (.tmp t) (.const (.int .i64 b)) (.int .i64 a) (.int .i64 b); binOp .eql 3 (.int .i64 a) (.int .i64 b)).run Tryd.prog w).andThen fun v w' => .ok (.value v) w' := by
    simp only [execOp, ho, e1, e2, Sem.run_bind, Sem.run_pure]
  rw [e0]
  go_simp
theorem ev_eqB {F : Act} {w : World} {t u : Tmp} {o : Oper} (a b : Bool) (ho : o.op = .binOp .eql 4 (.tmp t) (.tmp u) 4) (ht : Reg.slot F t = .bool a) (hu : Reg.slot F u = .bool b) :
    (execOp F.eval o).run Tryd.prog w = .ok (.value (.bool (a == b))) w := by
  have e1 : F.eval (.tmp t) = .bool a := ht
  have e2 : F.eval (.tmp u) = .bool b := hu
  have e0 : (execOp F.eval o).run Tryd.prog w = ((do eqGuard .eql 4 (.tmp t) (.tmp u) (.bool a) (.bool b); binOp .eql 4 (.bool a) (.bool b)).run Tryd.prog w).andThen fun v w' => .ok (.value v) w' := by
    simp only [execOp, ho, e1, e2, Sem.run_bind, Sem.run_pure]
  rw [e0]
  go_simp
theorem enFits : ∀ args w, (callFunc 17 args).run Tryd.prog w = .ok (.enter 17 args) w := fun _ _ => by kernel_rfl

/-- Columns that came in. -/
structure ColIn (w : World) (A B : Option Addr) (n m : Nat) (ks : List Int) (bs : List Bool) : Prop where
  kl : ks.length = n
  km : n ≤ maxLen
  ks : SlG w A 1 rdI ks
  bl : bs.length = m
  bm : m ≤ maxLen
  bs : SlG w B 1 rdB bs
theorem ColIn.after {w w' : World} {A B : Option Addr} {n m : Nat} {ks : List Int} {bs : List Bool} (h : ColIn w A B n m ks bs) (hb : Below w.heap.size w w') : ColIn w' A B n m ks bs := ⟨h.kl, h.km, h.ks.after hb, h.bl, h.bm, h.bs.after hb⟩
/-- A box that holds columns. -/
structure CBx (w : World) (b : Nat) (k n : Value) : Prop where
  lt : b < w.heap.size
  c0 : w.cell? ⟨b, 0, none⟩ = some k
  c1 : w.cell? ⟨b, 1, none⟩ = some n
theorem CBx.after {w w' : World} {b : Nat} {k n : Value} (h : CBx w b k n) (hb : Below w.heap.size w w') : CBx w' b k n := ⟨Nat.lt_of_lt_of_le h.lt hb.size, (hb.cell h.lt).trans h.c0, (hb.cell h.lt).trans h.c1⟩
theorem CBx.newAt {w : World} {b : Nat} {k n p : Value} {T : TypeId} (hb : w.heap.size = b) : CBx (w.alloc (.cells #[k, n, p] T)) b k n := by
  subst hb
  have e0 : (w.alloc (.cells #[k, n, p] T)).heap[w.heap.size]? = some (.cells #[k, n, p] T (0, 0)) := by
    show (w.heap.push _)[w.heap.size]? = _
    simp
  refine ⟨by simp, ?_, ?_⟩
  · simp only [World.cell?, e0]; rfl
  · simp only [World.cell?, e0]; rfl

theorem okAll_more : ∀ (xs : List Val) (ks : List Int) (bs : List Bool) (m : Nat), okAll xs ks bs = true → xs.length = ks.length → bs.length = xs.length → okAll xs ks (List.replicate m true) = true
  | [], _, _, _, _, _, _ => by rw [okAll]; simp
  | x :: xs, [], _, _, _, h, _ => by simp at h
  | x :: xs, k :: ks, [], _, _, _, h => by simp at h
  | x :: xs, k :: ks, b :: bs, 0, _, _, _ => by rw [List.replicate_zero, okAll]; simp
  | x :: xs, k :: ks, b :: bs, m + 1, h, h1, h2 => by
    rw [okAll, Bool.and_eq_true] at h
    rw [List.replicate_succ, okAll, okAll_more xs ks bs m h.2 (by simpa using h1) (by simpa using h2), Bool.and_true]
    have h3 := h.1
    unfold okAt at h3 ⊢
    cases hb : x.k == k
    · rw [hb, Bool.false_or] at h3
      rw [Bool.false_or, Bool.true_and]
      exact (Bool.and_eq_true _ _ ▸ h3).2
    · rfl
theorem okAll_set : ∀ (xs : List Val) (ks : List Int) (bs : List Bool) (i : Nat) (k : Int) (b : Bool), okAll xs ks bs = true → xs.length = ks.length → bs.length = xs.length → i < xs.length → ks[i]? = some k → bs[i]? = some b → okAll (xs.set i nl) ks bs = (b || k == 0)
  | [], _, _, _, _, _, _, _, _, h, _, _ => by simp at h
  | x :: xs, [], _, _, _, _, _, h, _, _, _, _ => by simp at h
  | x :: xs, k' :: ks, [], _, _, _, _, _, h, _, _, _ => by simp at h
  | x :: xs, k' :: ks, b' :: bs, 0, k, b, h, _, _, _, hk, hb => by
    rw [okAll, Bool.and_eq_true] at h
    simp at hk hb
    subst hk hb
    rw [List.set_cons_zero, okAll, h.2, Bool.and_true]
    unfold okAt
    show ((0 : Int) == k' || (b' && (0 : Int) == 0)) = _
    rw [beq_self_eq_true, Bool.and_true, Bool.or_comm]
    congr 1
    by_cases e : k' = 0
    · subst e; rfl
    · rw [beq_eq_false_iff_ne.2 e, beq_eq_false_iff_ne.2 (Ne.symm e)]
  | x :: xs, k' :: ks, b' :: bs, i + 1, k, b, h, h1, h2, h3, hk, hb => by
    rw [okAll, Bool.and_eq_true] at h
    rw [List.set_cons_succ, okAll, h.1, Bool.true_and]
    exact okAll_set xs ks bs i k b h.2 (by simpa using h1) (by simpa using h2) (by simpa using h3) (by simpa using hk) (by simpa using hb)
theorem okAll_app : ∀ (xs ys : List Val) (ks js : List Int) (bs cs : List Bool), xs.length = ks.length → bs.length = xs.length → okAll (xs ++ ys) (ks ++ js) (bs ++ cs) = (okAll xs ks bs && okAll ys js cs)
  | [], ys, [], js, [], cs, _, _ => by simp [okAll]
  | [], _, _ :: _, _, _, _, h, _ => by simp at h
  | [], _, [], _, _ :: _, _, _, h => by simp at h
  | x :: xs, _, [], _, _, _, h, _ => by simp at h
  | x :: xs, _, k :: ks, _, [], _, _, h => by simp at h
  | x :: xs, ys, k :: ks, js, b :: bs, cs, h1, h2 => by
    rw [List.cons_append, List.cons_append, List.cons_append, okAll, okAll, okAll_app xs ys ks js bs cs (by simpa using h1) (by simpa using h2), Bool.and_assoc]
theorem fits_parts {xs : List Val} {ks : List Int} {bs : List Bool} (h : fitsR xs ks bs = true) : mayR xs = true ∧ ks.length = xs.length ∧ bs.length = xs.length ∧ okAll xs ks bs = true := by
  unfold fitsR at h
  simp only [Bool.and_eq_true, decide_eq_true_eq] at h
  exact ⟨h.1, h.2.1, h.2.2.1, h.2.2.2⟩
theorem fits_of {xs : List Val} {ks : List Int} {bs : List Bool} (h1 : mayR xs = true) (h2 : ks.length = xs.length) (h3 : bs.length = xs.length) : fitsR xs ks bs = okAll xs ks bs := by
  unfold fitsR
  rw [h1, decide_eq_true h2, decide_eq_true h3]
  rfl
theorem fits_more {xs : List Val} {ks : List Int} {bs : List Bool} (h : fitsR xs ks bs = true) : fitsR xs ks (List.replicate xs.length true) = true := by
  obtain ⟨h1, h2, h3, h4⟩ := fits_parts h
  rw [fits_of h1 h2 (by simp)]
  exact okAll_more xs ks bs _ h4 h2.symm h3
theorem mayR_set {xs : List Val} (h : mayR xs = true) (i : Nat) : mayR (xs.set i nl) = true := by
  unfold mayR at h ⊢
  simp only [Bool.and_eq_true, decide_eq_true_eq, List.all_eq_true, List.length_set] at h ⊢
  refine ⟨h.1, fun x hx => ?_⟩
  rcases List.mem_or_eq_of_mem_set hx with hx | rfl
  · exact h.2 x hx
  · exact may_of_valid nl (.inl ⟨rfl, rfl, rfl⟩)
theorem fits_set {xs : List Val} {ks : List Int} {bs : List Bool} (h : fitsR xs ks bs = true) (i : Nat) (k : Int) (b : Bool) (hi : i < xs.length) (hk : ks[i]? = some k) (hb : bs[i]? = some b) : fitsR (xs.set i nl) ks bs = (b || k == 0) := by
  obtain ⟨h1, h2, h3, h4⟩ := fits_parts h
  rw [fits_of (mayR_set h1 i) (by rw [List.length_set]; exact h2) (by rw [List.length_set]; exact h3)]
  exact okAll_set xs ks bs i k b h4 h2.symm h3 hi hk hb
theorem fits_app {xs ys : List Val} {ks js : List Int} {bs cs : List Bool} (h : fitsR xs ks bs = true) (h' : fitsR ys js cs = true) (hl : (xs ++ ys).length ≤ 40) : fitsR (xs ++ ys) (ks ++ js) (bs ++ cs) = true := by
  obtain ⟨h1, h2, h3, h4⟩ := fits_parts h
  obtain ⟨h1', h2', h3', h4'⟩ := fits_parts h'
  rw [fits_of ?_ (by simp [h2, h2']) (by simp [h3, h3']), okAll_app xs ys ks js bs cs h2.symm h3, h4, h4']
  · rfl
  · unfold mayR at h1 h1' ⊢
    simp only [Bool.and_eq_true, decide_eq_true_eq] at h1 h1' ⊢
    rw [List.all_append, h1.2, h1'.2]
    exact ⟨hl, rfl⟩
theorem may_len {xs : List Val} (h : mayR xs = true) : xs.length ≤ 40 := by
  unfold mayR at h
  simp only [Bool.and_eq_true, decide_eq_true_eq] at h
  exact h.1

/-- A row of the call's own, of one value or more. -/
theorem OwnG.some {w : World} {B : Nat} {v : Value} {xs : List Val} (h : OwnV w B v xs) (hne : xs ≠ []) : ∃ g c, v = .slice (some ⟨g, 0, none⟩) xs.length c ∧ B ≤ g ∧ g < w.heap.size ∧ ∀ j, w.frozen? ⟨g, j, none⟩ = false := by
  have hlt := h.lt
  rcases h.2 with ⟨rfl, hn⟩ | ⟨g, cap, cur, rfl, hB, hh, _⟩
  · exact absurd (List.eq_nil_of_length_eq_zero hn) hne
  · refine ⟨g, cap, rfl, hB, (hlt g rfl).2, fun j => ?_⟩
    simp [World.frozen?, hh]
/-- A value written into a row. -/
theorem Sl.set3 {w : World} {g : Nat} {xs : List Val} (h : Sl w (some ⟨g, 0, none⟩) xs) (i : Nat) (hi : i < xs.length) (x : Val) :
    Sl (((w.setCell ⟨g, i * 3, none⟩ (.int .i64 x.k)).setCell ⟨g, i * 3 + 1, none⟩ (.int .i64 x.n)).setCell ⟨g, i * 3 + 2, none⟩ (.string x.s)) (some ⟨g, 0, none⟩) (xs.set i x) := by
  rcases h with h | ⟨b, off, hA, hlt, hc⟩
  · rw [h] at hi; simp at hi
  injection hA with hA
  injection hA with hb ho
  subst hb ho
  obtain ⟨y, hy⟩ : ∃ y, xs[i]? = Option.some y := ⟨_, List.getElem?_eq_getElem hi⟩
  obtain ⟨h0, h1, h2⟩ := hc i y hy
  rw [Nat.zero_add] at h0 h1 h2
  have oth : ∀ (w : World) (p j : Nat) (v : Value), j ≠ p → (w.setCell ⟨g, p, none⟩ v).cell? ⟨g, j, none⟩ = w.cell? ⟨g, j, none⟩ := fun w p j v hj => World.cell?_setCell_other _ _ _ _ (by intro e; simp only [Addr.mk.injEq] at e; exact hj e.2.1.symm)
  have k1 : (w.setCell ⟨g, i * 3, none⟩ (.int .i64 x.k)).cell? ⟨g, i * 3 + 1, none⟩ = Option.some _ := (oth _ _ _ _ (by omega)).trans h1
  have k2 : ((w.setCell ⟨g, i * 3, none⟩ (.int .i64 x.k)).setCell ⟨g, i * 3 + 1, none⟩ (.int .i64 x.n)).cell? ⟨g, i * 3 + 2, none⟩ = Option.some _ := (oth _ _ _ _ (by omega)).trans ((oth _ _ _ _ (by omega)).trans h2)
  have c2 := World.cell?_setCell_same _ ⟨g, i * 3 + 2, none⟩ (.string x.s) k2
  have c1 := (oth ((w.setCell ⟨g, i * 3, none⟩ (.int .i64 x.k)).setCell ⟨g, i * 3 + 1, none⟩ (.int .i64 x.n)) (i * 3 + 2) (i * 3 + 1) (.string x.s) (by omega)).trans (World.cell?_setCell_same _ ⟨g, i * 3 + 1, none⟩ (.int .i64 x.n) k1)
  have c0 := (oth ((w.setCell ⟨g, i * 3, none⟩ (.int .i64 x.k)).setCell ⟨g, i * 3 + 1, none⟩ (.int .i64 x.n)) (i * 3 + 2) (i * 3) (.string x.s) (by omega)).trans ((oth (w.setCell ⟨g, i * 3, none⟩ (.int .i64 x.k)) (i * 3 + 1) (i * 3) (.int .i64 x.n) (by omega)).trans (World.cell?_setCell_same _ ⟨g, i * 3, none⟩ (.int .i64 x.k) h0))
  have other : ∀ j, j ≠ i * 3 → j ≠ i * 3 + 1 → j ≠ i * 3 + 2 → (((w.setCell ⟨g, i * 3, none⟩ (.int .i64 x.k)).setCell ⟨g, i * 3 + 1, none⟩ (.int .i64 x.n)).setCell ⟨g, i * 3 + 2, none⟩ (.string x.s)).cell? ⟨g, j, none⟩ = w.cell? ⟨g, j, none⟩ := fun j e0 e1 e2 => (oth _ _ _ _ e2).trans ((oth _ _ _ _ e1).trans (oth _ _ _ _ e0))
  refine .inr ⟨g, 0, rfl, by simpa using hlt, fun j z hz => ?_⟩
  rw [Nat.zero_add]
  by_cases e : j = i
  · subst e
    rw [List.getElem?_set_self hi] at hz
    injection hz with hz
    subst hz
    exact ⟨c0, c1, c2⟩
  · rw [List.getElem?_set_ne (Ne.symm e)] at hz
    have := hc j z hz
    rw [Nat.zero_add] at this
    rw [other _ (by omega) (by omega) (by omega), other _ (by omega) (by omega) (by omega), other _ (by omega) (by omega) (by omega)]
    exact this
end Go.Proofs.YtbhliihmipbfjaaDoor
