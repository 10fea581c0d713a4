/-
  Part 9 of 9 of what the proof leans on: each part below says what it proves, and of what; no condition besides.
-/
import Derived.Test.YtjgpmnffagdhlaaGreatDoorQ08
import Derived.Test.YtjgpmnffagdhlaaGreatDoorCards
import Derived.Test.YtjgpmnffagdhlaaGreatDoorTie
import Derived.Stop.LaidErr
set_option linter.unusedVariables false
set_option linter.unusedSimpArgs false
namespace Go.Proofs.YtjgpmnffagdhlaaGreatDoor
open Go Go.RowKit Go.ChangeShapes Go.WideShapes Go.ChangeAt Go.Joins Go.Deep Go.Shelf
set_option maxRecDepth 100000
theorem maxlen_of {W : World} (h : W.ShapedOpen Tryz.prog) : ∃ m : Int, W.cell? ⟨1, 0, none⟩ = some (.int .i64 m) := Tryz.laysM155.s1_3 W h
theorem star : "*" ++ "errors.errorString" = "*errors.errorString" := by decide
theorem row_err (u : TypeId) (h : Tryz.prog.typeName? 3 u = some "*errors.errorString") : u = 233 :=
 typeName_ptr_named (nm := "errors.errorString") (by rw [star]; kernel_rfl) (by kernel_rfl) (by decide) u (by rw [star]; exact h)
theorem glt_of {W : World} (hT : Lib.TabIs Tryz.prog W "internal/strconv.uint64pow10" .u64 Lib.pow10Tab) : 2 < W.heap.size := by
 unfold Lib.TabIs World.var? at hT
 have hn : Tryz.prog.globalNamed "internal/strconv.uint64pow10" = some 2 := by kernel_rfl
 rw [hn] at hT
 rcases Nat.lt_or_ge 2 W.heap.size with hlt | hge
 · exact hlt
 · simp only [Option.bind_some, Array.getElem?_eq_none hge] at hT
   cases hT
theorem pow_of {W : World} (h : laidMet Tryz.prog Rows.ddlBackRow.laid W) : Lib.TabIs Tryz.prog W "internal/strconv.uint64pow10" .u64 Lib.pow10Tab := by
 have hmem : ("internal/strconv.uint64pow10", Rows.laid_internal_strconv_uint64pow10) ∈ Rows.ddlBackRow.laid := .tail _ (.tail _ (.head _))
 obtain ⟨g, t, cs, fuel, p, hg, ht, hvar, hd⟩ := Lib.laidMet.reads h hmem
 obtain rfl := Option.some.inj ((show Tryz.prog.globalNamed "internal/strconv.uint64pow10" = some 2 by kernel_rfl).symm.trans hg)
 obtain rfl := Option.some.inj ((show (Tryz.prog.globals[2]?).map (·.type) = some 213 by kernel_rfl).symm.trans ht)
 unfold Lib.TabIs
 rw [hvar, ← Lib.cells_of_tab (zs := Lib.pow10Tab) Tryz.underlying213 Tryz.underlying89 (by kernel_rfl) (by kernel_rfl) hd]
theorem gl_of {W : World} (hL : laidMetH Tryz.prog Rows.ddlBackRow.laid W) (hsh : W.ShapedOpen Tryz.prog) : GL W := by
 rw [MakeChecks.laidMetH_plain _ _ _ (by kernel_rfl)] at hL
 have hT := pow_of hL
 have hm := maxlen_of hsh
 have gS : Tryz.prog.globalNamed "strconv.ErrSyntax" = some 5 := by kernel_rfl
 have gR : Tryz.prog.globalNamed "strconv.ErrRange" = some 6 := by kernel_rfl
 have tS : (Tryz.prog.globals[5]?).map (·.type) = some 120 := by kernel_rfl
 have tR : (Tryz.prog.globals[6]?).map (·.type) = some 120 := by kernel_rfl
 obtain ⟨a0, s0, hv0, -, -, -⟩ := laid_sentinel hL.tail.tail.tail.tail gR tR Tryz.underlying120 row_err Tryz.underlying233 Tryz.underlying235 rfl rfl Tryz.underlying9 (by kernel_rfl) (by kernel_rfl)
 obtain ⟨a1, s1, hv1, -, -, -⟩ := laid_sentinel hL.tail.tail.tail.tail.tail gS tS Tryz.underlying120 row_err Tryz.underlying233 Tryz.underlying235 rfl rfl Tryz.underlying9 (by kernel_rfl) (by kernel_rfl)
 have hc0 := World.var?_cell gR hv0 0
 have hc1 := World.var?_cell gS hv1 0
 obtain ⟨m, hm'⟩ := hm
 exact ⟨⟨⟨m, hm'⟩, hT, glt_of hT⟩, ⟨_, _, hv1⟩, ⟨_, _, hv0⟩, ⟨World.block_lt_of_cell? _ _ hm', glt_of hT, World.block_lt_of_cell? _ _ (by simpa using hc1), World.block_lt_of_cell? _ _ (by simpa using hc0)⟩⟩
theorem words_of {W : World} (h : laidMetH Tryz.prog Rows.ddlBackRow.laid W) : OpT W := by
 rw [MakeChecks.laidMetH_plain _ _ _ (by kernel_rfl)] at h
 have hmem : ("levee/expr.words", Rows.laid_levee_expr_words) ∈ Rows.ddlBackRow.laid := .tail _ (.tail _ (.tail _ (.tail _ (.tail _ (.tail _ (.head _))))))
 obtain ⟨g, t, cs, fuel, p, hg, ht, hvar, hd⟩ := Lib.laidMet.reads h hmem
 obtain rfl := Option.some.inj ((show Tryz.prog.globalNamed "levee/expr.words" = some 7 by kernel_rfl).symm.trans hg)
 obtain rfl := Option.some.inj ((show (Tryz.prog.globals[7]?).map (·.type) = some 228 by kernel_rfl).symm.trans ht)
 obtain ⟨xs, m, _, hx, hcl, hxl, hel⟩ := DataW.trod_array Tryz.underlying228 hd
 have c9 : Tryz.prog.cellsOf 9 = 1 := by kernel_rfl
 have c11 : Tryz.prog.cellsOf 228 = 11 := by kernel_rfl
 rw [c9] at hel
 rw [c11] at hcl
 have hxs : xs.map (·.1) = opL.map fun bs => .lit (.string bs) := by
  have := congrArg Prod.fst hx
  simp only [Rows.laid_levee_expr_words] at this
  injection this with this
  exact this.symm
 intro i bs hb0
 have hi : i < 11 := (List.getElem?_eq_some_iff.1 hb0).1
 have hb : (xs.map (·.1))[i]? = some (.lit (.string bs)) := by rw [hxs, List.getElem?_map, hb0]; rfl
 have h1 := hel i hi
 rw [List.getElem?_map] at hb
 cases hxi : xs[i]? with
 | none => rw [hxi] at hb; cases hb
 | some z =>
   rw [hxi] at hb h1
   obtain ⟨s, e, ez, _⟩ := DataW.trod_string Tryz.underlying9 h1
   have hcell : cs.toList[i]? = some (.string s) := by
    rw [Nat.mul_one] at e
    have hl : i < cs.toList.length := by omega
    rw [List.drop_eq_getElem_cons hl] at e
    simp at e
    rw [List.getElem?_eq_getElem hl]
    simpa using e
   have hs : s = ba bs := by
    rw [ez] at hb
    simp at hb
    obtain ⟨⟨l⟩⟩ := s
    simp at hb
    rw [hb]
   subst hs
   have := World.var?_cell hg hvar i
   rw [this]
   simpa using hcell
theorem gw_of {W : World} (hL : laidMetH Tryz.prog Rows.ddlBackRow.laid W) (hsh : W.ShapedOpen Tryz.prog) : Gw W.heap.size W :=
 ⟨gl_of hL hsh, words_of hL, (gl_of hL hsh).lt, (words_of hL).lt⟩
section
variable {H : Type} {enc : TypeId × Value → H}
theorem wf_i64 {n : Int} (w : (Lit.int IntKind.i64 n).wf = true) : I64 n := by
 unfold I64
 simpa [Lit.wf, IntKind.min, IntKind.max, IntKind.signed, IntKind.bits] using w
theorem cells_val {W : World} {m : Nat} {cs : List Value} {z : DataW H × List MemPlace} (h : DataW.trod enc Tryz.prog W 0 (fun _ => true) true m 59 cs = some z) :
 ∃ x : Val, cs = [.int .i64 x.k, .int .i64 x.n, .string x.s] ∧ x.s.size ≤ maxLen ∧ I64 x.n := by
 obtain ⟨ys, n, _, _, hcl, hlen, hf⟩ := DataW.trod_struct Tryz.underlying59 h
 have hN : Tryz.prog.cellsOf 59 = 3 := by kernel_rfl
 rw [hN] at hcl
 match cs, hcl with
 | [a0, a1, a2], _ =>
   have get : ∀ (j : Nat) (hj : j < 3), ys[j]? = some (ys[j]'(by rw [hlen]; exact hj)) := fun j hj => List.getElem?_eq_getElem _
   have c3 : Tryz.prog.cellsOf 3 = 1 := by kernel_rfl
   have c9 : Tryz.prog.cellsOf 9 = 1 := by kernel_rfl
   have c4 : Tryz.prog.cellsOf 4 = 1 := by kernel_rfl
   have h0 := (hf 0 _ rfl).trans (get 0 (by omega))
   obtain ⟨k, e0, _, w0⟩ := DataW.trod_int Tryz.underlying3 h0
   have h1 := (hf 1 _ rfl).trans (get 1 (by omega))
   obtain ⟨x, e1, _, w1⟩ := DataW.trod_int Tryz.underlying3 h1
   have h2 := (hf 2 _ rfl).trans (get 2 (by omega))
   obtain ⟨s, e2, _, w2⟩ := DataW.trod_string Tryz.underlying9 h2
   simp [c3, c9, c4, rdX, rdN, rdI, rdCl, rdAg, rdV] at e0 e1 e2
   subst e0 e1 e2
   exact ⟨⟨k, x, s⟩, rfl, w2, wf_i64 w1⟩
theorem cells_nd {W : World} {m : Nat} {cs : List Value} {z : DataW H × List MemPlace} (h : DataW.trod enc Tryz.prog W 0 (fun _ => true) true m 66 cs = some z) :
 ∃ x : Nd, cs = rdN x ∧ x.Z ∧ x.v.s.size ≤ maxLen := by
 obtain ⟨ys, n, _, _, hcl, hlen, hf⟩ := DataW.trod_struct Tryz.underlying66 h
 have hN : Tryz.prog.cellsOf 66 = 5 := by kernel_rfl
 rw [hN] at hcl
 match cs, hcl with
 | [a0, a1, a2, a3, a4], _ =>
   have get : ∀ (j : Nat) (hj : j < 3), ys[j]? = some (ys[j]'(by rw [hlen]; exact hj)) := fun j hj => List.getElem?_eq_getElem _
   have c3 : Tryz.prog.cellsOf 3 = 1 := by kernel_rfl
   have c9 : Tryz.prog.cellsOf 9 = 1 := by kernel_rfl
   have c4 : Tryz.prog.cellsOf 4 = 1 := by kernel_rfl
   have d0 : Tryz.prog.cellsOf 59 = 3 := by kernel_rfl
   have h0 := (hf 0 _ rfl).trans (get 0 (by omega))
   obtain ⟨o, e0, _, w0⟩ := DataW.trod_int Tryz.underlying3 h0
   have h1 := (hf 1 _ rfl).trans (get 1 (by omega))
   obtain ⟨x, e1, _, w1⟩ := DataW.trod_int Tryz.underlying3 h1
   have h2 := (hf 2 _ rfl).trans (get 2 (by omega))
   obtain ⟨v, e2, hs, hz⟩ := cells_val h2
   simp [c3, c9, c4, d0, rdX, rdN, rdI, rdCl, rdAg, rdV] at e0 e1 e2
   obtain ⟨rfl, rfl, rfl⟩ := e2
   subst e0 e1
   exact ⟨⟨o, x, v⟩, rfl, ⟨wf_i64 w1, hz⟩, hs⟩
instance : Nonempty Nd := ⟨⟨0, 0, nl⟩⟩
instance : Nonempty (Sx Nd) := ⟨⟨none, 0, 0, []⟩⟩
instance : Nonempty Cl := ⟨⟨emp, 0, false, false, emp, 0⟩⟩
instance : Nonempty Ag := ⟨⟨0, 0⟩⟩
theorem cells_ex {W : World} {m : Nat} {cs : List Value} {z : DataW H × List MemPlace} (h : DataW.trod enc Tryz.prog W 0 (fun _ => true) true m 28 cs = some z) :
 ∃ x : Sx Nd, cs = rdX x ∧ x.In W 5 rdN ∧ ∀ y ∈ x.xs, y.Z ∧ y.v.s.size ≤ maxLen := by
 obtain ⟨A, n, c, xs, h1, h2, h3, h4, h5, h6⟩ := slice_cells (α := Nd) Tryz.underlying28 (S := 5) (by kernel_rfl) (by decide) rdN (fun _ => rfl) (fun x => x.Z ∧ x.v.s.size ≤ maxLen) (fun cs n z hz => cells_nd hz) h
 exact ⟨⟨A, n, c, xs⟩, h1, ⟨h2, h3, h5⟩, h6⟩
theorem cells_cl {W : World} {m : Nat} {cs : List Value} {z : DataW H × List MemPlace} (h : DataW.trod enc Tryz.prog W 0 (fun _ => true) true m 64 cs = some z) :
 ∃ x : Cl, cs = rdCl x ∧ x.name.size ≤ maxLen ∧ x.ref.size ≤ maxLen := by
 obtain ⟨ys, n, _, _, hcl, hlen, hf⟩ := DataW.trod_struct Tryz.underlying64 h
 have hN : Tryz.prog.cellsOf 64 = 6 := by kernel_rfl
 rw [hN] at hcl
 match cs, hcl with
 | [a0, a1, a2, a3, a4, a5], _ =>
   have get : ∀ (j : Nat) (hj : j < 6), ys[j]? = some (ys[j]'(by rw [hlen]; exact hj)) := fun j hj => List.getElem?_eq_getElem _
   have c3 : Tryz.prog.cellsOf 3 = 1 := by kernel_rfl
   have c9 : Tryz.prog.cellsOf 9 = 1 := by kernel_rfl
   have c4 : Tryz.prog.cellsOf 4 = 1 := by kernel_rfl
   have h0 := (hf 0 _ rfl).trans (get 0 (by omega))
   obtain ⟨nm, e0, _, w0⟩ := DataW.trod_string Tryz.underlying9 h0
   have h1 := (hf 1 _ rfl).trans (get 1 (by omega))
   obtain ⟨k, e1, _, w1⟩ := DataW.trod_int Tryz.underlying3 h1
   have h2 := (hf 2 _ rfl).trans (get 2 (by omega))
   obtain ⟨nu, e2, _⟩ := DataW.trod_bool Tryz.underlying4 h2
   have h3 := (hf 3 _ rfl).trans (get 3 (by omega))
   obtain ⟨un, e3, _⟩ := DataW.trod_bool Tryz.underlying4 h3
   have h4 := (hf 4 _ rfl).trans (get 4 (by omega))
   obtain ⟨rf, e4, _, w4⟩ := DataW.trod_string Tryz.underlying9 h4
   have h5 := (hf 5 _ rfl).trans (get 5 (by omega))
   obtain ⟨ac, e5, _, w5⟩ := DataW.trod_int Tryz.underlying3 h5
   simp [c3, c9, c4, rdX, rdN, rdI, rdCl, rdAg, rdV] at e0 e1 e2 e3 e4 e5
   subst e0 e1 e2 e3 e4 e5
   exact ⟨⟨nm, k, nu, un, rf, ac⟩, rfl, w0, w4⟩
theorem cells_ag {W : World} {m : Nat} {cs : List Value} {z : DataW H × List MemPlace} (h : DataW.trod enc Tryz.prog W 0 (fun _ => true) true m 74 cs = some z) :
 ∃ x : Ag, cs = rdAg x ∧ I64 x.col := by
 obtain ⟨ys, n, _, _, hcl, hlen, hf⟩ := DataW.trod_struct Tryz.underlying74 h
 have hN : Tryz.prog.cellsOf 74 = 2 := by kernel_rfl
 rw [hN] at hcl
 match cs, hcl with
 | [a0, a1], _ =>
   have get : ∀ (j : Nat) (hj : j < 2), ys[j]? = some (ys[j]'(by rw [hlen]; exact hj)) := fun j hj => List.getElem?_eq_getElem _
   have c3 : Tryz.prog.cellsOf 3 = 1 := by kernel_rfl
   have c9 : Tryz.prog.cellsOf 9 = 1 := by kernel_rfl
   have c4 : Tryz.prog.cellsOf 4 = 1 := by kernel_rfl
   have h0 := (hf 0 _ rfl).trans (get 0 (by omega))
   obtain ⟨f, e0, _, w0⟩ := DataW.trod_int Tryz.underlying3 h0
   have h1 := (hf 1 _ rfl).trans (get 1 (by omega))
   obtain ⟨c, e1, _, w1⟩ := DataW.trod_int Tryz.underlying3 h1
   simp [c3, c9, c4, rdX, rdN, rdI, rdCl, rdAg, rdV] at e0 e1
   subst e0 e1
   exact ⟨⟨f, c⟩, rfl, wf_i64 w1⟩
theorem cells_int {W : World} {m : Nat} {cs : List Value} {z : DataW H × List MemPlace} (h : DataW.trod enc Tryz.prog W 0 (fun _ => true) true m 3 cs = some z) : ∃ x : Int, cs = rdI x ∧ I64 x := by
 obtain ⟨k, e, _, w⟩ := DataW.trod_int Tryz.underlying3 h
 exact ⟨k, e, wf_i64 w⟩
theorem cells_on {W : World} {m : Nat} {cs : List Value} {z : DataW H × List MemPlace} (h : DataW.trod enc Tryz.prog W 0 (fun _ => true) true m 26 cs = some z) : ∃ x y : Int, cs = [.int .i64 x, .int .i64 y] ∧ I64 x ∧ I64 y := by
 obtain ⟨ys, n, _, _, hcl, hlen, hf⟩ := DataW.trod_array Tryz.underlying26 h
 have c3 : Tryz.prog.cellsOf 3 = 1 := by kernel_rfl
 have hN : Tryz.prog.cellsOf 26 = 2 := by kernel_rfl
 rw [hN] at hcl
 match cs, hcl with
 | [a0, a1], _ =>
   have h0 := (hf 0 (by omega)).trans (List.getElem?_eq_getElem (by omega))
   have h1 := (hf 1 (by omega)).trans (List.getElem?_eq_getElem (by omega))
   obtain ⟨x, e0, _, w0⟩ := DataW.trod_int Tryz.underlying3 h0
   obtain ⟨y, e1, _, w1⟩ := DataW.trod_int Tryz.underlying3 h1
   simp [c3] at e0 e1
   subst e0 e1
   exact ⟨x, y, rfl, wf_i64 w0, wf_i64 w1⟩
theorem cells_cols {W : World} {m : Nat} {cs : List Value} {z : DataW H × List MemPlace} (h : DataW.trod enc Tryz.prog W 0 (fun _ => true) true m 22 cs = some z) :
 ∃ x : Sx Cl, cs = [.slice x.A x.n x.c] ∧ x.In W 6 rdCl ∧ ∀ y ∈ x.xs, y.name.size ≤ maxLen ∧ y.ref.size ≤ maxLen := by
 obtain ⟨A, n, c, xs, h1, h2, h3, h4, h5, h6⟩ := slice_cells (α := Cl) Tryz.underlying22 (S := 6) (by kernel_rfl) (by decide) rdCl (fun _ => rfl) (fun x => x.name.size ≤ maxLen ∧ x.ref.size ≤ maxLen) (fun cs n z hz => cells_cl hz) h
 exact ⟨⟨A, n, c, xs⟩, h1, ⟨h2, h3, h5⟩, h6⟩
theorem cells_chks {W : World} {m : Nat} {cs : List Value} {z : DataW H × List MemPlace} (h : DataW.trod enc Tryz.prog W 0 (fun _ => true) true m 23 cs = some z) :
 ∃ x : Sx (Sx Nd), cs = [.slice x.A x.n x.c] ∧ x.In W 1 rdX ∧ ∀ e ∈ x.xs, e.In W 5 rdN ∧ ∀ y ∈ e.xs, y.Z ∧ y.v.s.size ≤ maxLen := by
 obtain ⟨A, n, c, xs, h1, h2, h3, h4, h5, h6⟩ := slice_cells (α := Sx Nd) Tryz.underlying23 (S := 1) (by kernel_rfl) (by decide) rdX (fun _ => rfl) (fun e => e.In W 5 rdN ∧ ∀ y ∈ e.xs, y.Z ∧ y.v.s.size ≤ maxLen) (fun cs n z hz => cells_ex hz) h
 exact ⟨⟨A, n, c, xs⟩, h1, ⟨h2, h3, h5⟩, h6⟩
theorem cells_pick {W : World} {m : Nat} {cs : List Value} {z : DataW H × List MemPlace} (h : DataW.trod enc Tryz.prog W 0 (fun _ => true) true m 29 cs = some z) :
 ∃ x : Sx Int, cs = [.slice x.A x.n x.c] ∧ x.In W 1 rdI ∧ ∀ y ∈ x.xs, I64 y := by
 obtain ⟨A, n, c, xs, h1, h2, h3, h4, h5, h6⟩ := slice_cells (α := Int) Tryz.underlying29 (S := 1) (by kernel_rfl) (by decide) rdI (fun _ => rfl) (fun x => I64 x) (fun cs n z hz => cells_int hz) h
 exact ⟨⟨A, n, c, xs⟩, h1, ⟨h2, h3, h5⟩, h6⟩
theorem cells_aggs {W : World} {m : Nat} {cs : List Value} {z : DataW H × List MemPlace} (h : DataW.trod enc Tryz.prog W 0 (fun _ => true) true m 30 cs = some z) :
 ∃ x : Sx Ag, cs = [.slice x.A x.n x.c] ∧ x.In W 2 rdAg ∧ ∀ y ∈ x.xs, I64 y.col := by
 obtain ⟨A, n, c, xs, h1, h2, h3, h4, h5, h6⟩ := slice_cells (α := Ag) Tryz.underlying30 (S := 2) (by kernel_rfl) (by decide) rdAg (fun _ => rfl) (fun x => I64 x.col) (fun cs n z hz => cells_ag hz) h
 exact ⟨⟨A, n, c, xs⟩, h1, ⟨h2, h3, h5⟩, h6⟩
theorem cells_tb {W : World} {m : Nat} {cs : List Value} {z : DataW H × List MemPlace} (h : DataW.trod enc Tryz.prog W 0 (fun _ => true) true m 25 cs = some z) :
 ∃ x : Tm, cs = [.string x.name, .slice x.cols.A x.cols.n x.cols.c, .slice x.chks.A x.chks.n x.chks.c] ∧ x.In W ∧ x.name.size ≤ maxLen ∧ (∀ y ∈ x.cols.xs, y.name.size ≤ maxLen ∧ y.ref.size ≤ maxLen) ∧ ∀ e ∈ x.chks.xs, ∀ y ∈ e.xs, y.Z ∧ y.v.s.size ≤ maxLen := by
 obtain ⟨ys, n, _, _, hcl, hlen, hf⟩ := DataW.trod_struct Tryz.underlying25 h
 have hN : Tryz.prog.cellsOf 25 = 3 := by kernel_rfl
 rw [hN] at hcl
 match cs, hcl with
 | [a0, a1, a2], _ =>
   have get : ∀ (j : Nat) (hj : j < 3), ys[j]? = some (ys[j]'(by rw [hlen]; exact hj)) := fun j hj => List.getElem?_eq_getElem _
   have c3 : Tryz.prog.cellsOf 3 = 1 := by kernel_rfl
   have c9 : Tryz.prog.cellsOf 9 = 1 := by kernel_rfl
   have c4 : Tryz.prog.cellsOf 4 = 1 := by kernel_rfl
   have d0 : Tryz.prog.cellsOf 22 = 1 := by kernel_rfl
   have d1 : Tryz.prog.cellsOf 23 = 1 := by kernel_rfl
   have h0 := (hf 0 _ rfl).trans (get 0 (by omega))
   obtain ⟨nm, e0, _, w0⟩ := DataW.trod_string Tryz.underlying9 h0
   have h1 := (hf 1 _ rfl).trans (get 1 (by omega))
   obtain ⟨x1, e1, i1, q1⟩ := cells_cols h1
   have h2 := (hf 2 _ rfl).trans (get 2 (by omega))
   obtain ⟨x2, e2, i2, q2⟩ := cells_chks h2
   simp [c3, c9, c4, d0, d1, rdX, rdN, rdI, rdCl, rdAg, rdV] at e0 e1 e2
   subst e0 e1 e2
   exact ⟨⟨nm, x1, x2⟩, rfl, ⟨i1, i2, fun e he => (q2 e he).1⟩, w0, q1, fun e he => (q2 e he).2⟩
theorem cells_vw {W : World} {m : Nat} {cs : List Value} {z : DataW H × List MemPlace} (h : DataW.trod enc Tryz.prog W 0 (fun _ => true) true m 32 cs = some z) :
 ∃ x : Vm, cs = [.string x.name, .string x.frm, .string x.wth, .int .i64 x.on0, .int .i64 x.on1, .slice x.whr.A x.whr.n x.whr.c, .slice x.pick.A x.pick.n x.pick.c, .bool x.grp, .slice x.aggs.A x.aggs.n x.aggs.c] ∧ x.In W ∧ x.name.size ≤ maxLen ∧ x.frm.size ≤ maxLen ∧ x.wth.size ≤ maxLen ∧ I64 x.on0 ∧ I64 x.on1 ∧ (∀ y ∈ x.whr.xs, y.Z ∧ y.v.s.size ≤ maxLen) ∧ (∀ y ∈ x.pick.xs, I64 y) ∧ ∀ y ∈ x.aggs.xs, I64 y.col := by
 obtain ⟨ys, n, _, _, hcl, hlen, hf⟩ := DataW.trod_struct Tryz.underlying32 h
 have hN : Tryz.prog.cellsOf 32 = 9 := by kernel_rfl
 rw [hN] at hcl
 match cs, hcl with
 | [a0, a1, a2, a3, a4, a5, a6, a7, a8], _ =>
   have get : ∀ (j : Nat) (hj : j < 8), ys[j]? = some (ys[j]'(by rw [hlen]; exact hj)) := fun j hj => List.getElem?_eq_getElem _
   have c3 : Tryz.prog.cellsOf 3 = 1 := by kernel_rfl
   have c9 : Tryz.prog.cellsOf 9 = 1 := by kernel_rfl
   have c4 : Tryz.prog.cellsOf 4 = 1 := by kernel_rfl
   have d0 : Tryz.prog.cellsOf 26 = 2 := by kernel_rfl
   have d1 : Tryz.prog.cellsOf 28 = 1 := by kernel_rfl
   have d2 : Tryz.prog.cellsOf 29 = 1 := by kernel_rfl
   have d3 : Tryz.prog.cellsOf 30 = 1 := by kernel_rfl
   have h0 := (hf 0 _ rfl).trans (get 0 (by omega))
   obtain ⟨nm, e0, _, w0⟩ := DataW.trod_string Tryz.underlying9 h0
   have h1 := (hf 1 _ rfl).trans (get 1 (by omega))
   obtain ⟨fr, e1, _, w1⟩ := DataW.trod_string Tryz.underlying9 h1
   have h2 := (hf 2 _ rfl).trans (get 2 (by omega))
   obtain ⟨wt, e2, _, w2⟩ := DataW.trod_string Tryz.underlying9 h2
   have h3 := (hf 3 _ rfl).trans (get 3 (by omega))
   obtain ⟨on0, on1, e3, z0, z1⟩ := cells_on h3
   have h4 := (hf 4 _ rfl).trans (get 4 (by omega))
   obtain ⟨x4, e4, i4, q4⟩ := cells_ex h4
   have h5 := (hf 5 _ rfl).trans (get 5 (by omega))
   obtain ⟨x5, e5, i5, q5⟩ := cells_pick h5
   have h6 := (hf 6 _ rfl).trans (get 6 (by omega))
   obtain ⟨gr, e6, _⟩ := DataW.trod_bool Tryz.underlying4 h6
   have h7 := (hf 7 _ rfl).trans (get 7 (by omega))
   obtain ⟨x7, e7, i7, q7⟩ := cells_aggs h7
   simp [c3, c9, c4, d0, d1, d2, d3, rdX, rdN, rdI, rdCl, rdAg, rdV] at e0 e1 e2 e3 e4 e5 e6 e7
   obtain ⟨rfl, rfl⟩ := e3
   subst e0 e1 e2 e4 e5 e6 e7
   exact ⟨⟨nm, fr, wt, on0, on1, x4, x5, gr, x7⟩, rfl, ⟨i4, i5, i7⟩, w0, w1, w2, z0, z1, q4, q5, q7⟩
theorem cells_df {W : World} {m : Nat} {cs : List Value} {z : DataW H × List MemPlace} (h : DataW.trod enc Tryz.prog W 0 (fun _ => true) true m 34 cs = some z) :
 ∃ x : Dm, cs = rdD x ∧ x.In W ∧ x.Tx ∧ x.Z := by
 obtain ⟨ys, n, _, _, hcl, hlen, hf⟩ := DataW.trod_struct Tryz.underlying34 h
 have hN : Tryz.prog.cellsOf 34 = 13 := by kernel_rfl
 rw [hN] at hcl
 match cs, hcl with
 | [a0, a1, a2, a3, a4, a5, a6, a7, a8, a9, a10, a11, a12], _ =>
   have get : ∀ (j : Nat) (hj : j < 3), ys[j]? = some (ys[j]'(by rw [hlen]; exact hj)) := fun j hj => List.getElem?_eq_getElem _
   have c3 : Tryz.prog.cellsOf 3 = 1 := by kernel_rfl
   have c9 : Tryz.prog.cellsOf 9 = 1 := by kernel_rfl
   have c4 : Tryz.prog.cellsOf 4 = 1 := by kernel_rfl
   have d0 : Tryz.prog.cellsOf 25 = 3 := by kernel_rfl
   have d1 : Tryz.prog.cellsOf 32 = 9 := by kernel_rfl
   have h0 := (hf 0 _ rfl).trans (get 0 (by omega))
   obtain ⟨k, e0, _, w0⟩ := DataW.trod_int Tryz.underlying3 h0
   have h1 := (hf 1 _ rfl).trans (get 1 (by omega))
   obtain ⟨t, e1, it, t1, t2, t3⟩ := cells_tb h1
   have h2 := (hf 2 _ rfl).trans (get 2 (by omega))
   obtain ⟨v, e2, iv, v1, v2, v3, v4, v5, v6, v7, v8⟩ := cells_vw h2
   simp [c3, c9, c4, d0, d1, rdX, rdN, rdI, rdCl, rdAg, rdV] at e0 e1 e2
   obtain ⟨rfl, rfl, rfl⟩ := e1
   obtain ⟨rfl, rfl, rfl, rfl, rfl, rfl, rfl, rfl, rfl⟩ := e2
   subst e0
   exact ⟨⟨k, t, v⟩, rfl, ⟨it, iv⟩, ⟨t2, fun e he y hy => (t3 e he y hy).2, fun y hy => (v6 y hy).2, t1, v1, v2, v3⟩, ⟨fun e he y hy => (t3 e he y hy).1, fun y hy => (v6 y hy).1, v4, v5, v7, v8⟩⟩
theorem def_of {W : World} {base : Nat} {v : Value} {d : DataW H} {p : List MemPlace} (hv : Value.okWide Tryz.prog W .any base 34 v) (h : DataW.Trod enc Tryz.prog W 0 (fun _ => true) true 34 v d p) :
 ∃ x : Dm, v = x.w ∧ x.In W ∧ x.Tx ∧ x.Z := by
 obtain ⟨cs, rfl, _⟩ := okWide_struct Tryz.underlying34 hv
 obtain ⟨fuel, hf⟩ := h
 obtain ⟨x, hx, h1, h2, h3⟩ := cells_df hf
 refine ⟨x, ?_, h1, h2, h3⟩
 have e : cs = (rdD x).toArray := by
  have : cs.toList = rdD x := hx
  rw [← this]
 rw [e]
 rfl
end
end Go.Proofs.YtjgpmnffagdhlaaGreatDoor
namespace Go.Proofs.YtjgpmnffagdhlaaGreatDoor
open Go Go.RowKit Go.ChangeShapes Go.WideShapes Go.ChangeAt Go.Joins Go.Deep
set_option maxRecDepth 100000
section
variable {H : Type} {enc : TypeId × Value → H}
theorem wt_slice {W : World} {m : Nat} {T E : TypeId} {A : Option Addr} {n c : Nat} {z : DataW H × List MemPlace} (hT : Tryz.prog.underlying T = some (.slice E)) (hE : 0 < Tryz.prog.bytesOf E)
 (h : DataW.trod enc Tryz.prog W 0 (fun _ => true) true m T [.slice A n c] = some z) (hw : ∀ k ∈ z.1.weights Tryz.prog T, k ≤ reachBytes) : n ≤ 140737488355328 := by
 rcases DataW.trod_slice hT h with ⟨hc, _⟩ | ⟨a, len, cap, elems, rest, n', _, hc, hx, _, _, _, hl, _⟩
 · simp only [List.cons.injEq, Value.slice.injEq, and_true] at hc
   omega
 · simp only [List.cons.injEq, Value.slice.injEq, and_true] at hc
   obtain ⟨_, rfl, _⟩ := hc
   subst hx
   have := hw ((elems.length + rest.length) * Tryz.prog.bytesOf E) (by simp [DataW.weights, hT])
   unfold reachBytes at this
   have h1 : elems.length + rest.length ≤ (elems.length + rest.length) * Tryz.prog.bytesOf E := Nat.le_mul_of_pos_right _ hE
   omega
theorem wt_struct {W : World} {m : Nat} {T : TypeId} {fs : Array Field} {cs : List Value} {z : DataW H × List MemPlace} (hT : Tryz.prog.underlying T = some (.struct fs))
 (h : DataW.trod enc Tryz.prog W 0 (fun _ => true) true m T cs = some z) (hw : ∀ k ∈ z.1.weights Tryz.prog T, k ≤ reachBytes) (i : Nat) (ty : TypeId) (off : Nat) (hi' : (fs[i]?).map (fun f => (f.type, f.offset)) = some (ty, off)) :
 ∃ y n, DataW.trod enc Tryz.prog W 0 (fun _ => true) true n ty ((cs.drop off).take (Tryz.prog.cellsOf ty)) = some y ∧ ∀ k ∈ y.1.weights Tryz.prog ty, k ≤ reachBytes := by
 obtain ⟨f, hi, hf0⟩ := Option.map_eq_some_iff.1 hi'
 obtain ⟨rfl, rfl⟩ := Prod.mk.inj hf0
 obtain ⟨xs, n, _, hx, _, hlen, hf⟩ := DataW.trod_struct hT h
 have hlt : i < fs.size := (Array.getElem?_eq_some_iff.1 hi).1
 have h1 := hf i f hi
 have h2 : xs[i]? = some (xs[i]'(by omega)) := List.getElem?_eq_getElem _
 rw [h2] at h1
 refine ⟨_, n, h1, fun k hk => hw k ?_⟩
 subst hx
 rw [DataW.weights, hT]
 exact DataW.weights_mem_each (j := i) (by simpa using congrArg (Option.map (·.type)) hi) (by rw [List.getElem?_map, h2]; rfl) k hk
theorem df_reach {W : World} {m : Nat} {x : Dm} {z : DataW H × List MemPlace} (h : DataW.trod enc Tryz.prog W 0 (fun _ => true) true m 34 (rdD x) = some z) (hw : ∀ k ∈ z.1.weights Tryz.prog 34, k ≤ reachBytes) : x.Rch := by
 obtain ⟨y1, n1, h1, w1⟩ := wt_struct Tryz.underlying34 h hw 1 25 1 rfl
 obtain ⟨y2, n2, h2, w2⟩ := wt_struct Tryz.underlying34 h hw 2 32 4 rfl
 have d0 : Tryz.prog.cellsOf 25 = 3 := by kernel_rfl
 have d1 : Tryz.prog.cellsOf 32 = 9 := by kernel_rfl
 have d2 : Tryz.prog.cellsOf 22 = 1 := by kernel_rfl
 have d3 : Tryz.prog.cellsOf 23 = 1 := by kernel_rfl
 have d4 : Tryz.prog.cellsOf 28 = 1 := by kernel_rfl
 have d5 : Tryz.prog.cellsOf 29 = 1 := by kernel_rfl
 have d6 : Tryz.prog.cellsOf 30 = 1 := by kernel_rfl
 simp only [d0, d1, rdD, List.drop_succ_cons, List.drop_zero, List.take_succ_cons, List.take_zero] at h1 h2
 obtain ⟨y3, n3, h3, w3⟩ := wt_struct Tryz.underlying25 h1 w1 1 22 1 rfl
 obtain ⟨y4, n4, h4, w4⟩ := wt_struct Tryz.underlying25 h1 w1 2 23 2 rfl
 obtain ⟨y5, n5, h5, w5⟩ := wt_struct Tryz.underlying32 h2 w2 4 28 5 rfl
 obtain ⟨y6, n6, h6, w6⟩ := wt_struct Tryz.underlying32 h2 w2 5 29 6 rfl
 obtain ⟨y7, n7, h7, w7⟩ := wt_struct Tryz.underlying32 h2 w2 7 30 8 rfl
 simp only [d2, d3, d4, d5, d6, List.drop_succ_cons, List.drop_zero, List.take_succ_cons, List.take_zero] at h3 h4 h5 h6 h7
 exact ⟨wt_slice Tryz.underlying22 (of_decide_eq_true (by kernel_rfl)) h3 w3, wt_slice Tryz.underlying23 (of_decide_eq_true (by kernel_rfl)) h4 w4, wt_slice Tryz.underlying28 (of_decide_eq_true (by kernel_rfl)) h5 w5, wt_slice Tryz.underlying29 (of_decide_eq_true (by kernel_rfl)) h6 w6, wt_slice Tryz.underlying30 (of_decide_eq_true (by kernel_rfl)) h7 w7⟩
theorem def_rch {W : World} {base : Nat} {v : Value} {d : DataW H} {p : List MemPlace} (hv : Value.okWide Tryz.prog W .any base 34 v) (h : DataW.Trod enc Tryz.prog W 0 (fun _ => true) true 34 v d p) (hw : ∀ k ∈ d.weights Tryz.prog 34, k ≤ reachBytes) :
 ∃ x : Dm, v = x.w ∧ x.In W ∧ x.Tx ∧ x.Z ∧ x.Rch := by
 obtain ⟨x, rfl, h1, h2, h3⟩ := def_of hv h
 obtain ⟨fuel, hf⟩ := h
 exact ⟨x, rfl, h1, h2, h3, df_reach (x := x) hf hw⟩
end
end Go.Proofs.YtjgpmnffagdhlaaGreatDoor
namespace Go.Proofs.YtjgpmnffagdhlaaGreatDoor
open Go Go.RowKit Go.ChangeShapes Go.WideShapes Go.ChangeAt Go.Joins Go.Deep
set_option maxRecDepth 100000
theorem weights_first {H : Type} {t : TypeId} {ts : List TypeId} {d : DataW H} {r : List (DataW H)} (h : (DataW.weightsEach Tryz.prog (t :: ts) (d :: r)).all (· ≤ reachBytes) = true) : ∀ k ∈ d.weights Tryz.prog t, k ≤ reachBytes := by
 intro k hk
 have := List.all_eq_true.1 h k (by rw [DataW.weightsEach]; exact List.mem_append_left _ hk)
 simpa using this
end Go.Proofs.YtjgpmnffagdhlaaGreatDoor
