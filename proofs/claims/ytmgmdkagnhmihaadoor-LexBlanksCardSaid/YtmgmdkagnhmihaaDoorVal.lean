/-
  Values of the program, blocks that hold one, slices that read as a list of values, slices of values and buffers of bytes that a call owns; what single operations do. No condition.
-/
import Derived.Test.YtmgmdkagnhmihaaDoorProg
import Derived.Test.YtmgmdkagnhmihaaDoorRun
import Derived.WalkKit
import Derived.WalkSpells
import Derived.WalkLawsBesides
import Derived.Deep.QuietTactic
import Derived.Deep.RegionWith
import Derived.Deep.DrawnRows
import Derived.BigQuiet
import Derived.Lib.Hide
import Derived.Laws.StructEq
import Derived.Maps.AppendAt
import Derived.Deep.AppendLies
import Derived.OwnWalk
import Derived.Lib.BufSteps
namespace Go.Proofs.YtmgmdkagnhmihaaDoor
open Go Go.RowKit

/-- A value of the program: Kind, N, S. -/
structure Val where
  k : Int
  n : Int
  s : ByteArray

abbrev emp : ByteArray := ⟨#[]⟩
abbrev Val.v (a : Val) : Value := .agg #[.int .i64 a.k, .int .i64 a.n, .string a.s]
def Val.eq (a b : Val) : Bool := decide (a.k = b.k) && (decide (a.n = b.n) && decide (a.s.toList = b.s.toList))

theorem toList_inj {a b : ByteArray} (h : a.toList = b.toList) : a = b := by
  rw [ByteArray.toList_eq, ByteArray.toList_eq] at h
  obtain ⟨⟨x⟩⟩ := a
  obtain ⟨⟨y⟩⟩ := b
  simp at h
  rw [h]

theorem Val.eq_iff {a b : Val} : a.eq b = true ↔ a = b := by
  obtain ⟨k, n, s⟩ := a
  obtain ⟨k', n', s'⟩ := b
  simp only [Val.eq, Bool.and_eq_true, decide_eq_true_eq, Val.mk.injEq]
  constructor
  · rintro ⟨h1, h2, h3⟩; exact ⟨h1, h2, toList_inj h3⟩
  · rintro ⟨h1, h2, h3⟩; exact ⟨h1, h2, by rw [h3]⟩
theorem Val.eq_self (a : Val) : a.eq a = true := Val.eq_iff.2 rfl
theorem Val.eq_false {a b : Val} (h : a ≠ b) : a.eq b = false := by
  cases e : a.eq b
  · rfl
  · exact absurd (Val.eq_iff.1 e) h

def tt : Val := ⟨1, 1, emp⟩
def ff : Val := ⟨1, 0, emp⟩
def nl : Val := ⟨0, 0, emp⟩
def tv (b : Bool) : Val := if b then tt else ff
def iv (n : Int) : Val := ⟨2, n, emp⟩
def nt (a : Val) : Val := if a.eq tt then ff else if a.eq ff then tt else nl

theorem ff_ne_tt : ff ≠ tt := by intro h; have := congrArg Val.n h; simp [ff, tt] at this
theorem nl_ne_tt : nl ≠ tt := by intro h; have := congrArg Val.n h; simp [nl, tt] at this
theorem nl_ne_ff : nl ≠ ff := by intro h; have := congrArg Val.k h; simp [nl, ff] at this
theorem nt_tt : nt tt = ff := by unfold nt; rw [Val.eq_self]; rfl
theorem nt_ff : nt ff = tt := by unfold nt; rw [Val.eq_false ff_ne_tt, Val.eq_self]; rfl
theorem nt_nl : nt nl = nl := by unfold nt; rw [Val.eq_false nl_ne_tt, Val.eq_false nl_ne_ff]; rfl

theorem guardV : Tryd.prog.eqGuardType Tryd.prog.depth 33 = false := by kernel_rfl

theorem run_eqIn (w : World) (k n k' n' : Int) (s s' : ByteArray) : (Op.equalIn 10000 33 (.agg #[.int .i64 k, .int .i64 n, .string s]) (.agg #[.int .i64 k', .int .i64 n', .string s'])).run Tryd.prog w = .ok (Val.eq ⟨k, n, s⟩ ⟨k', n', s'⟩) w := by
  simp [go_sem, Tryd.underlying33, Tryd.underlying3, Tryd.underlying9]
  by_cases h1 : k = k' <;> by_cases h2 : n = n' <;> by_cases h3 : s.toList = s'.toList <;> simp [Val.eq, h1, h2, h3]
/-- '==' on two values. -/
theorem run_eqV (w : World) (k n k' n' : Int) (s s' : ByteArray) : (binOp .eql 33 (.agg #[.int .i64 k, .int .i64 n, .string s]) (.agg #[.int .i64 k', .int .i64 n', .string s'])).run Tryd.prog w = .ok (.bool (Val.eq ⟨k, n, s⟩ ⟨k', n', s'⟩)) w := by
  rw [run_eql_struct, run_eqIn]; rfl
/-- '!=' on two values. -/
theorem run_neV (w : World) (k n k' n' : Int) (s s' : ByteArray) : (binOp .neq 33 (.agg #[.int .i64 k, .int .i64 n, .string s]) (.agg #[.int .i64 k', .int .i64 n', .string s'])).run Tryd.prog w = .ok (.bool !(Val.eq ⟨k, n, s⟩ ⟨k', n', s'⟩)) w := by
  rw [run_neq_struct, run_eqIn]; rfl

theorem mixed : Tryd.prog.follows .mixedOrders = true := by kernel_rfl

/-- Block b holds the value a. -/
def Bx (w : World) (b : Nat) (a : Val) : Prop := w.heap[b]? = some (.cells #[.int .i64 a.k, .int .i64 a.n, .string a.s] 33 (0, 0))
theorem Bx.cell0 {w : World} {b : Nat} {a : Val} (h : Bx w b a) : w.cell? ⟨b, 0, none⟩ = some (.int .i64 a.k) := by unfold Bx at h; simp [World.cell?, h]
theorem Bx.cell1 {w : World} {b : Nat} {a : Val} (h : Bx w b a) : w.cell? ⟨b, 1, none⟩ = some (.int .i64 a.n) := by unfold Bx at h; simp [World.cell?, h]
theorem Bx.cell2 {w : World} {b : Nat} {a : Val} (h : Bx w b a) : w.cell? ⟨b, 2, none⟩ = some (.string a.s) := by unfold Bx at h; simp [World.cell?, h]
theorem Bx.lt {w : World} {b : Nat} {a : Val} (h : Bx w b a) : b < w.heap.size := by
  rcases Nat.lt_or_ge b w.heap.size with hlt | hge
  · exact hlt
  · unfold Bx at h; rw [Array.getElem?_eq_none hge] at h; cases h
theorem Bx.below {w w' : World} {b B : Nat} {a : Val} (h : Bx w b a) (hb : Below B w w') (hlt : b < B) : Bx w' b a := (hb.block b hlt).trans h
theorem Bx.after {w w' : World} {b : Nat} {a : Val} (h : Bx w b a) (hb : Below w.heap.size w w') : Bx w' b a := h.below hb h.lt
theorem Bx.new (w : World) (a : Val) : Bx (w.alloc (.cells #[.int .i64 a.k, .int .i64 a.n, .string a.s] 33)) w.heap.size a := by
  show (w.heap.push _)[w.heap.size]? = _
  simp
theorem Bx.alloc {w : World} {b : Nat} {a : Val} (h : Bx w b a) (o : Obj) : Bx (w.alloc o) b a := (Below.heap_alloc w o b h.lt).trans h
theorem Bx.load {w : World} {b : Nat} {a : Val} (h : Bx w b a) : (Instr.loadAt 33 (.pointer (some ⟨b, 0, none⟩))).run Tryd.prog w = .ok a.v w := by
  have h0 := h.cell0
  have h1 := h.cell1
  have h2 := h.cell2
  go_simp
theorem ev_move {P : Program} {F : Act} {w : World} {x : Operand} {o : Oper} (ho : o.op = .move x) : (execOp F.eval o).run P w = .ok (.value (F.eval x)) w := by
  simp [execOp, ho]
theorem ev_assign {P : Program} {F : Act} {w : World} {x : Operand} {o : Oper} (ho : o.op = .assign x) : (execOp F.eval o).run P w = .ok (.value (F.eval x)) w := by
  simp [execOp, ho]
theorem ev_pick {P : Program} {F : Act} {w : World} {t : Tmp} {x y : Operand} {o : Oper} (b : Bool) (ho : o.op = .pick (.tmp t) x y) (ht : Reg.slot F t = .bool b) : (execOp F.eval o).run P w = .ok (.value (if b then F.eval x else F.eval y)) w := by
  have e : F.eval (.tmp t) = .bool b := ht
  simp only [execOp, ho, e]
  cases b <;> simp [asBool]
theorem ev_load {F : Act} {w : World} {b : Nat} {a : Val} {t : Tmp} {o : Oper} (h : Bx w b a) (ho : o.op = .load 33 (.tmp t)) (ht : Reg.slot F t = .pointer (some ⟨b, 0, none⟩)) :
    (execOp F.eval o).run Tryd.prog w = .ok (.value a.v) w := by
  have e : F.eval (.tmp t) = .pointer (some ⟨b, 0, none⟩) := ht
  simp [execOp, ho, e, h.load]
theorem ev_eq {F : Act} {w : World} {t u : Tmp} {o : Oper} (a b : Val) (ho : o.op = .binOp .eql 33 (.tmp t) (.tmp u) 33) (ht : Reg.slot F t = a.v) (hu : Reg.slot F u = b.v) :
    (execOp F.eval o).run Tryd.prog w = .ok (.value (.bool (a.eq b))) w := by
  have e1 : F.eval (.tmp t) = a.v := ht
  have e2 : F.eval (.tmp u) = b.v := hu
  simp only [execOp, ho, e1, e2, Sem.run_bind, run_eqGuard_agg w _ _ _ _ _ _ guardV, Result.andThen_ok, run_eqV, Sem.run_pure]
theorem ev_ne {F : Act} {w : World} {t u : Tmp} {o : Oper} (a b : Val) (ho : o.op = .binOp .neq 33 (.tmp t) (.tmp u) 33) (ht : Reg.slot F t = a.v) (hu : Reg.slot F u = b.v) :
    (execOp F.eval o).run Tryd.prog w = .ok (.value (.bool !(a.eq b))) w := by
  have e1 : F.eval (.tmp t) = a.v := ht
  have e2 : F.eval (.tmp u) = b.v := hu
  simp only [execOp, ho, e1, e2, Sem.run_bind, run_eqGuard_agg w _ _ _ _ _ _ guardV, Result.andThen_ok, run_neV, Sem.run_pure]
theorem ev_call {F : Act} {w : World} {f : FuncId} {args : Array Operand} {ats : Array TypeId} {vs : Array Value} {o : Oper} (hE : ∀ args w, (callFunc f args).run Tryd.prog w = .ok (.enter f args) w)
    (ho : o.op = .call { callee := .value (.func f), args := args, argTypes := ats }) (hv : args.map F.eval = vs) : (execOp F.eval o).run Tryd.prog w = .ok (.enter f vs) w := by
  have h := hE (args.map F.eval) w
  subst hv
  simp [execOp, ho, resolve, go_sem, h]
theorem Bx.frozen {w : World} {b : Nat} {a : Val} (h : Bx w b a) (i : Nat) : w.frozen? ⟨b, i, none⟩ = false := by
  unfold Bx at h
  simp [World.frozen?, h]
theorem Bx.new1 (w : World) (a : Val) (o : Obj) : Bx ((w.alloc o).alloc (.cells #[.int .i64 a.k, .int .i64 a.n, .string a.s] 33)) (w.heap.size + 1) a := by
  have := Bx.new (w.alloc o) a
  simpa using this

/-- The world with the value a in block b. -/
def put3 (w : World) (b : Nat) (a : Val) : World := ((w.setCell ⟨b, 0, none⟩ (.int .i64 a.k)).setCell ⟨b, 1, none⟩ (.int .i64 a.n)).setCell ⟨b, 2, none⟩ (.string a.s)
theorem put3_fold (w : World) (b : Nat) (k n : Int) (s : ByteArray) : ((w.setCell ⟨b, 0, none⟩ (.int .i64 k)).setCell ⟨b, 1, none⟩ (.int .i64 n)).setCell ⟨b, 2, none⟩ (.string s) = put3 w b ⟨k, n, s⟩ := rfl
theorem put3_size (w : World) (b : Nat) (a : Val) : (put3 w b a).heap.size = w.heap.size := by simp [put3, World.setCell]
theorem Bx.put {w : World} {b : Nat} {x : Val} (h : Bx w b x) (a : Val) : Bx (put3 w b a) b a := by
  unfold Bx at h
  simp [Bx, put3, World.setCell, Array.getElem?_modify, h]
theorem put3_below {B : Nat} {w0 w : World} {b : Nat} (h : Below B w0 w) (hb : B ≤ b) (a : Val) : Below B w0 (put3 w b a) := ((h.setCell hb _).setCell hb _).setCell hb _
theorem put3_other {w : World} {b c : Nat} {x a : Val} (h : Bx w c x) (hne : c ≠ b) : Bx (put3 w b a) c x := by
  unfold Bx at *
  simp only [put3]
  rw [Below.heap_setCell _ _ _ _ (by exact hne), Below.heap_setCell _ _ _ _ (by exact hne), Below.heap_setCell _ _ _ _ (by exact hne), h]

/-- A function whose result is a value, at its return. -/
theorem ret_val {fn : Func} {R : Ending → World → Prop} {F : Act} {w : World} {t : Tmp} {b : Nat} {a : Val} (hres : fn.results = #[.cell t 33]) (ht : Reg.slot F t = .pointer (some ⟨b, 0, none⟩)) (hb : Bx w b a) (hd : F.defers = [])
    (hR : R (.returned a.v) w) : bodyPost Tryd.prog fn R .ret F w := by
  have h0 := hb.cell0
  have h1 := hb.cell1
  have h2 := hb.cell2
  refine bodyPost_ret (v := a.v) ?_ hd hR
  have ht' : F.tmps[t]?.getD undef = .pointer (some ⟨b, 0, none⟩) := by simpa [Reg.slot] using ht
  simp [results, hres, ht', go_sem, h0, h1, h2]

/-- The end of a walk that has made blocks, and written into them alone. -/
theorem below_one (w : World) (o : Obj) : Below w.heap.size w (w.alloc o) := (Below.refl _ _).alloc (Nat.le_refl _) _
theorem below_two (w : World) (o o' : Obj) : Below w.heap.size w ((w.alloc o).alloc o') := (below_one _ _).alloc (by simp) _
/-- The slice at A reads as the values vs. -/
def Sl (w : World) (A : Option Addr) (vs : List Val) : Prop :=
  vs = [] ∨ ∃ b off, A = some ⟨b, off, none⟩ ∧ b < w.heap.size ∧ ∀ i (a : Val), vs[i]? = some a →
    w.cell? ⟨b, off + i * 3, none⟩ = some (.int .i64 a.k) ∧ w.cell? ⟨b, off + i * 3 + 1, none⟩ = some (.int .i64 a.n) ∧ w.cell? ⟨b, off + i * 3 + 2, none⟩ = some (.string a.s)
theorem Sl.after {w w' : World} {A : Option Addr} {vs : List Val} (h : Sl w A vs) (hb : Below w.heap.size w w') : Sl w' A vs := by
  rcases h with h | ⟨b, off, hA, hlt, h⟩
  · exact .inl h
  · refine .inr ⟨b, off, hA, Nat.lt_of_lt_of_le hlt hb.size, fun i a ha => ?_⟩
    obtain ⟨h0, h1, h2⟩ := h i a ha
    exact ⟨(hb.cell hlt).trans h0, (hb.cell hlt).trans h1, (hb.cell hlt).trans h2⟩

theorem ev_alloc {F : Act} {w : World} {o : Oper} (ho : o.op = .alloc 33) :
    (execOp F.eval o).run Tryd.prog w = .ok (.value (.pointer (some ⟨w.heap.size, 0, none⟩))) (w.alloc (.cells #[.int .i64 nl.k, .int .i64 nl.n, .string nl.s] 33)) := by
  have e0 : (execOp F.eval o).run Tryd.prog w = ((Instr.alloc 33 true (.tuple #[])).run Tryd.prog w).andThen fun v w' => .ok (.value v) w' := by
    simp only [execOp, ho, Sem.run_bind, Sem.run_pure]
  rw [e0]
  go_simp
  rfl
theorem ev_store {F : Act} {w : World} {b : Nat} {a x : Val} {t u : Tmp} {o : Oper} (h : Bx w b x) (ho : o.op = .store 33 (.tmp t) (.tmp u)) (ht : Reg.slot F t = .pointer (some ⟨b, 0, none⟩)) (hu : Reg.slot F u = a.v) :
    (execOp F.eval o).run Tryd.prog w = .ok .skip (put3 w b a) := by
  have e1 : F.eval (.tmp t) = .pointer (some ⟨b, 0, none⟩) := ht
  have e2 : F.eval (.tmp u) = a.v := hu
  have e0 : (execOp F.eval o).run Tryd.prog w = ((Instr.storeAt 33 (.pointer (some ⟨b, 0, none⟩)) a.v).run Tryd.prog w).andThen fun _ w' => .ok .skip w' := by
    simp only [execOp, ho, e1, e2, Sem.run_bind, Sem.run_pure]
  rw [e0]
  have g0 := h.cell0
  have g1 := h.cell1
  have g2 := h.cell2
  have f0 := h.frozen 0
  have f1 := h.frozen 1
  have f2 := h.frozen 2
  go_simp
  rfl
theorem ev_extract {P : Program} {F : Act} {w : World} {t : Tmp} {k : Nat} {vs : Array Value} {v : Value} {o : Oper} (ho : o.op = .extract (.tmp t) k) (ht : Reg.slot F t = .tuple vs) (hv : vs[k]? = some v) :
    (execOp F.eval o).run P w = .ok (.value v) w := by
  have e1 : F.eval (.tmp t) = .tuple vs := ht
  simp only [execOp, ho, e1, Sem.run_bind, Instr.extract, hv, Sem.run_pure, Result.andThen_ok]
theorem ev_not {P : Program} {F : Act} {w : World} {t : Tmp} {ty : TypeId} {o : Oper} (b : Bool) (ho : o.op = .unOp .not ty (.tmp t)) (ht : Reg.slot F t = .bool b) :
    (execOp F.eval o).run P w = .ok (.value (.bool !b)) w := by
  have e1 : F.eval (.tmp t) = .bool b := ht
  simp [execOp, ho, e1, Op.unary]

/-- A slice of two values, made anew. -/
def cells2 (x y : Val) : Array Value := #[.int .i64 x.k, .int .i64 x.n, .string x.s, .int .i64 y.k, .int .i64 y.n, .string y.s]
theorem Sl.new2 (w : World) (x y : Val) : Sl (w.alloc (.cells (cells2 x y) 33)) (some ⟨w.heap.size, 0, none⟩) [x, y] := by
  have hc : ∀ i, (w.alloc (.cells (cells2 x y) 33)).cell? ⟨w.heap.size, i, none⟩ = (cells2 x y)[i]? := fun i => by
    have e : (w.alloc (.cells (cells2 x y) 33)).heap[w.heap.size]? = some (.cells (cells2 x y) 33 (0, 0)) := by
      show (w.heap.push _)[w.heap.size]? = _
      simp
    simp only [World.cell?, e, Option.isSome_none, Bool.false_eq_true, if_false]
  refine .inr ⟨w.heap.size, 0, rfl, by simp, fun i a ha => ?_⟩
  match i, ha with
  | 0, ha => simp at ha; subst ha; exact ⟨(hc 0).trans rfl, (hc 1).trans rfl, (hc 2).trans rfl⟩
  | 1, ha => simp at ha; subst ha; exact ⟨(hc 3).trans rfl, (hc 4).trans rfl, (hc 5).trans rfl⟩
  | i + 2, ha => simp at ha

def cellsL : List Val → List Value
  | [] => []
  | a :: l => .int .i64 a.k :: .int .i64 a.n :: .string a.s :: cellsL l
theorem cellsL_length : ∀ l : List Val, (cellsL l).length = l.length * 3
  | [] => rfl
  | a :: l => by simp only [cellsL, List.length_cons, cellsL_length l]; omega
theorem cellsL_append : ∀ l r : List Val, cellsL (l ++ r) = cellsL l ++ cellsL r
  | [], _ => rfl
  | a :: l, r => by simp only [cellsL, List.cons_append, cellsL_append l r]
theorem cellsL_one : ∀ (l : List Val) (u : Value), u ∈ cellsL l → u.oneCell' = true
  | [], u, h => by cases h
  | a :: l, u, h => by
    simp only [cellsL, List.mem_cons] at h
    rcases h with rfl | rfl | rfl | h
    · rfl
    · rfl
    · rfl
    · exact cellsL_one l u h
theorem cellsL_at : ∀ (l : List Val) (i : Nat) (a : Val), l[i]? = some a → (cellsL l)[i * 3]? = some (.int .i64 a.k) ∧ (cellsL l)[i * 3 + 1]? = some (.int .i64 a.n) ∧ (cellsL l)[i * 3 + 2]? = some (.string a.s)
  | [], i, a, h => by simp at h
  | x :: l, 0, a, h => by simp at h; subst h; exact ⟨rfl, rfl, rfl⟩
  | x :: l, i + 1, a, h => by
    have := cellsL_at l i a (by simpa using h)
    have e : (i + 1) * 3 = i * 3 + 1 + 1 + 1 := by omega
    simp only [cellsL]
    rw [e]
    simpa using this


end Go.Proofs.YtmgmdkagnhmihaaDoor
