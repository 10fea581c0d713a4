/-
  What a step leaves on the stack of kinds: column, leaves, step and result, of any step and any stack that is the call's own.
-/
import Derived.Test.YticofedglhfdpaaGreatDoorStkI
namespace Go.Proofs.YticofedglhfdpaaGreatDoor
open Go Go.RowKit
set_option maxRecDepth 100000

/-- A step of an expression: Op, N, V. -/
structure Nd where
  op : Int
  n : Int
  v : Val
abbrev Nd.w (x : Nd) : Value := .agg #[.int .i64 x.op, .int .i64 x.n, .int .i64 x.v.k, .int .i64 x.v.n, .string x.v.s]
theorem nodeInfo : (Tryz.prog.info? 36).map (fun i => (i.zero, i.size)) = some (some (Nd.w ⟨0, 0, nl⟩), 5) := by kernel_rfl
def Nd.cells (x : Nd) : Array Value := #[.int .i64 x.op, .int .i64 x.n, .int .i64 x.v.k, .int .i64 x.v.n, .string x.v.s]
/-- Block b holds the step x. -/
def Nx (w : World) (b : Nat) (x : Nd) : Prop := w.heap[b]? = some (.cells x.cells 36 (0, 0))
theorem Nx.lt {w : World} {b : Nat} {x : Nd} (h : Nx w b x) : b < w.heap.size := by
  rcases Nat.lt_or_ge b w.heap.size with hlt | hge
  · exact hlt
  · unfold Nx at h; rw [Array.getElem?_eq_none hge] at h; cases h
theorem Nx.cell0 {w : World} {b : Nat} {x : Nd} (h : Nx w b x) : w.cell? ⟨b, 0, none⟩ = some (.int .i64 x.op) := by unfold Nx at h; simp [World.cell?, h, Nd.cells]
theorem Nx.cell1 {w : World} {b : Nat} {x : Nd} (h : Nx w b x) : w.cell? ⟨b, 1, none⟩ = some (.int .i64 x.n) := by unfold Nx at h; simp [World.cell?, h, Nd.cells]
theorem Nx.cell2 {w : World} {b : Nat} {x : Nd} (h : Nx w b x) : w.cell? ⟨b, 2, none⟩ = some (.int .i64 x.v.k) := by unfold Nx at h; simp [World.cell?, h, Nd.cells]
theorem Nx.cell3 {w : World} {b : Nat} {x : Nd} (h : Nx w b x) : w.cell? ⟨b, 3, none⟩ = some (.int .i64 x.v.n) := by unfold Nx at h; simp [World.cell?, h, Nd.cells]
theorem Nx.cell4 {w : World} {b : Nat} {x : Nd} (h : Nx w b x) : w.cell? ⟨b, 4, none⟩ = some (.string x.v.s) := by unfold Nx at h; simp [World.cell?, h, Nd.cells]
theorem Nx.new (w : World) (x : Nd) : Nx (w.alloc (.cells x.cells 36)) w.heap.size x := by
  show (w.heap.push _)[w.heap.size]? = _
  simp
theorem Nx.block {w w' : World} {b : Nat} {x : Nd} (h : Nx w b x) (hb : w'.heap[b]? = w.heap[b]?) : Nx w' b x := hb.trans h
theorem Nx.after {w w' : World} {b : Nat} {x : Nd} (h : Nx w b x) (hb : Below w.heap.size w w') : Nx w' b x := h.block (hb.block b h.lt)
theorem Nx.set {w : World} {b c : Nat} {x : Nd} {y v u : Value} (h : Nx w b x) (hk : Kx w c v u) : Nx (w.setCell ⟨c, 0, none⟩ y) b x := by
  refine h.block (Below.heap_setCell _ _ _ _ ?_)
  rintro rfl
  unfold Nx at h
  unfold Kx at hk
  rw [hk] at h
  injection h with h
  injection h with _ ht _
  exact absurd ht (by decide)
theorem Kx.alloc {w : World} {b : Nat} {v u : Value} (h : Kx w b v u) (o : Obj) : Kx (w.alloc o) b v u := h.after (below_one w o)
theorem SlI.alloc {w : World} {A : Option Addr} {ks : List Int} (h : SlI w A ks) (o : Obj) : SlI (w.alloc o) A ks := h.after (below_one w o)

set_option maxHeartbeats 1000000 in
theorem result_one (b : Nat) (x : Int) (v u : Value) (B : Nat) (w : World) (hk : Kx w b v u) (ho : OwnI w B v [x]) :
    Calls Tryz.prog 23 #[.pointer (some ⟨b, 0, none⟩)] w fun e w' => e = .returned (.tuple #[.int .i64 x, .int .i64 0]) ∧ w' = w := by
  have c0 := hk.cell0
  rcases ho.shape with ⟨_, h0⟩ | ⟨g, c, rfl, hc, hm, hcell⟩
  · cases h0
  have c1 := hcell 0 x rfl
  clear hk ho hcell
  go_enter Tryz.func23, Tryz.ntmps23
  go_wp2
  go_ret2
  exact ⟨rfl, rfl⟩
set_option maxHeartbeats 1000000 in
theorem result_bad (b : Nat) (ks : List Int) (v u : Value) (B : Nat) (w : World) (hk : Kx w b v u) (ho : OwnI w B v ks) (hl : ks.length ≠ 1) :
    Calls Tryz.prog 23 #[.pointer (some ⟨b, 0, none⟩)] w fun e w' => e = .returned (.tuple #[.int .i64 0, .int .i64 30]) ∧ w' = w := by
  have c0 := hk.cell0
  have hl2 : ((ks.length : Int) != 1) = true := by simp; omega
  rcases ho.shape with ⟨rfl, h0⟩ | ⟨g, c, rfl, hc, hm, hcell⟩
  all_goals
    clear hk ho
    go_enter Tryz.func23, Tryz.ntmps23
    go_wp2
    go_ret2
    exact ⟨rfl, rfl⟩

/-- The kind of a column, and whether it may be. -/
def colR (cols : List Int) (n : Int) : Int × Bool := if n < 0 then (0, false) else match cols[n.toNat]? with
  | none => (0, false)
  | some k => (k, decide (0 < k) && decide (k < 4))
set_option maxHeartbeats 1000000 in
theorem column_low (b : Nat) (n : Int) (w : World) (hn : n < 0) :
    Calls Tryz.prog 52 #[.pointer (some ⟨b, 0, none⟩), .int .i64 n] w fun e w' => e = .returned (.tuple #[.int .i64 0, .bool false]) ∧ w' = w := by
  have h1 : decide (n < 0) = true := decide_eq_true hn
  clear hn
  go_enter Tryz.func52, Tryz.ntmps52
  go_wp2
  go_ret2
  exact ⟨rfl, rfl⟩
set_option maxHeartbeats 1000000 in
theorem column_high (b : Nat) (n m : Nat) (c : Nat) (A : Option Addr) (v : Value) (w : World) (hk : Kx w b v (.slice A m c)) (hn : m ≤ n) :
    Calls Tryz.prog 52 #[.pointer (some ⟨b, 0, none⟩), .int .i64 n] w fun e w' => e = .returned (.tuple #[.int .i64 0, .bool false]) ∧ w' = w := by
  have c1 := hk.cell1
  have h1 : decide ((n : Int) < 0) = false := decide_eq_false (by omega)
  have h2 : decide ((m : Int) ≤ n) = true := decide_eq_true (by omega)
  clear hk
  go_enter Tryz.func52, Tryz.ntmps52
  go_wp2
  go_ret2
  exact ⟨rfl, rfl⟩
set_option maxHeartbeats 1000000 in
theorem column_in (b : Nat) (n m : Nat) (c off g : Nat) (k : Int) (v : Value) (w : World) (hk : Kx w b v (.slice (some ⟨g, off, none⟩) m c)) (hn : n < m) (hc : w.cell? ⟨g, off + n, none⟩ = some (.int .i64 k)) :
    Calls Tryz.prog 52 #[.pointer (some ⟨b, 0, none⟩), .int .i64 n] w fun e w' => e = .returned (.tuple #[.int .i64 k, .bool (decide (0 < k) && decide (k < 4))]) ∧ w' = w := by
  have c1 := hk.cell1
  have h1 : decide ((n : Int) < 0) = false := decide_eq_false (by omega)
  have h2 : decide ((m : Int) ≤ n) = false := decide_eq_false (by omega)
  clear hk
  cases h3 : decide (0 < k)
  · go_enter Tryz.func52, Tryz.ntmps52
    go_wp2
    go_ret2
    exact ⟨rfl, rfl⟩
  · go_enter Tryz.func52, Tryz.ntmps52
    go_wp2
    go_ret2
    exact ⟨rfl, rfl⟩
theorem column_c (b : Nat) (n : Int) (m c : Nat) (A : Option Addr) (cols : List Int) (v : Value) (w : World) (hk : Kx w b v (.slice A m c)) (hl : cols.length = m) (hs : SlI w A cols) :
    Calls Tryz.prog 52 #[.pointer (some ⟨b, 0, none⟩), .int .i64 n] w fun e w' => e = .returned (.tuple #[.int .i64 (colR cols n).1, .bool (colR cols n).2]) ∧ w' = w := by
  unfold colR
  by_cases hn : n < 0
  · rw [if_pos hn]
    exact column_low b n w hn
  · rw [if_neg hn]
    obtain ⟨i, rfl⟩ : ∃ i : Nat, n = i := ⟨n.toNat, by omega⟩
    rw [Int.toNat_natCast]
    cases h : cols[i]? with
    | none => exact column_high b i m c A v w hk (by rw [← hl]; exact List.getElem?_eq_none_iff.1 h)
    | some k =>
      have hlt := (List.getElem?_eq_some_iff.1 h).1
      rcases hs with h0 | ⟨g, off, rfl, _, hc⟩
      · rw [h0] at h; simp at h
      · exact column_in b i m c off g k v w hk (by omega) (hc i k h)

theorem ev_fa {F : Act} {w : World} {b off d : Nat} {t s : Nat} {i : Nat} {o : Oper} (ho : o.op = .fieldAddr t (.tmp s) i) (ht : Reg.slot F s = .pointer (some ⟨b, off, none⟩)) (hr : (Instr.fieldAt t (.pointer (some ⟨b, off, none⟩)) i).run Tryz.prog w = .ok (.pointer (some ⟨b, d, none⟩)) w) :
    (execOp F.eval o).run Tryz.prog w = .ok (.value (.pointer (some ⟨b, d, none⟩))) w := by
  have e1 : F.eval (.tmp s) = .pointer (some ⟨b, off, none⟩) := ht
  simp only [execOp, ho, e1, Sem.run_bind, hr, Sem.run_pure, Result.andThen_ok]
theorem ev_ld {F : Act} {w : World} {b off : Nat} {t s : Nat} {v : Value} {o : Oper} (ho : o.op = .load t (.tmp s)) (ht : Reg.slot F s = .pointer (some ⟨b, off, none⟩)) (hr : (Instr.loadAt t (.pointer (some ⟨b, off, none⟩))).run Tryz.prog w = .ok v w) :
    (execOp F.eval o).run Tryz.prog w = .ok (.value v) w := by
  have e1 : F.eval (.tmp s) = .pointer (some ⟨b, off, none⟩) := ht
  simp only [execOp, ho, e1, Sem.run_bind, hr, Sem.run_pure, Result.andThen_ok]
theorem ev_nc {F : Act} {w : World} {a : Addr} {s : Nat} {o : Oper} (ho : o.op = .nilCheck (.tmp s)) (ht : Reg.slot F s = .pointer (some a)) :
    (execOp F.eval o).run Tryz.prog w = .ok (.value (.pointer (some a))) w := by
  have e1 : F.eval (.tmp s) = .pointer (some a) := ht
  simp only [execOp, ho, e1]
  rfl
theorem fa_node2 (w : World) (b : Nat) : (Instr.fieldAt 36 (.pointer (some ⟨b, 0, none⟩)) 2).run Tryz.prog w = .ok (.pointer (some ⟨b, 2, none⟩)) w := by go_simp
theorem fa_node0 (w : World) (b : Nat) : (Instr.fieldAt 36 (.pointer (some ⟨b, 0, none⟩)) 0).run Tryz.prog w = .ok (.pointer (some ⟨b, 0, none⟩)) w := by go_simp
theorem fa_val0 (w : World) (b off : Nat) : (Instr.fieldAt 31 (.pointer (some ⟨b, off, none⟩)) 0).run Tryz.prog w = .ok (.pointer (some ⟨b, off, none⟩)) w := by go_simp
theorem fa_kinds0 (w : World) (b : Nat) : (Instr.fieldAt 64 (.pointer (some ⟨b, 0, none⟩)) 0).run Tryz.prog w = .ok (.pointer (some ⟨b, 0, none⟩)) w := by go_simp
theorem Nx.ldV {w : World} {b : Nat} {x : Nd} (h : Nx w b x) : (Instr.loadAt 31 (.pointer (some ⟨b, 2, none⟩))).run Tryz.prog w = .ok x.v.v w := by
  have h2 := h.cell2
  have h3 := h.cell3
  have h4 := h.cell4
  go_simp
theorem Nx.ldK {w : World} {b : Nat} {x : Nd} (h : Nx w b x) : (Instr.loadAt 3 (.pointer (some ⟨b, 2, none⟩))).run Tryz.prog w = .ok (.int .i64 x.v.k) w := by
  have h2 := h.cell2
  go_simp
theorem Nx.ldO {w : World} {b : Nat} {x : Nd} (h : Nx w b x) : (Instr.loadAt 3 (.pointer (some ⟨b, 0, none⟩))).run Tryz.prog w = .ok (.int .i64 x.op) w := by
  have h0 := h.cell0
  go_simp
end Go.Proofs.YticofedglhfdpaaGreatDoor
