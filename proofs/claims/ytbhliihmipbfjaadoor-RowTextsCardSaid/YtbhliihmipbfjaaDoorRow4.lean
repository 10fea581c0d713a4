/-
  From a walk to a statement, of layer 4: how rows, lists of rows and columns that came in read; the tables of Go's library.
-/
import Derived.Test.YtbhliihmipbfjaaDoorSlC
import Derived.Test.YtbhliihmipbfjaaDoorEv4
import Derived.Test.YtbhliihmipbfjaaDoorCards
import Derived.Test.YtbhliihmipbfjaaDoorTie
namespace Go.Proofs.YtbhliihmipbfjaaDoor
open Go Go.RowKit Go.ChangeShapes Go.WideShapes Go.ChangeAt Go.Joins Go.Deep

set_option maxRecDepth 100000
/-- The length that the library's search names: some number. -/
theorem maxlen_of {W : World} (h : W.ShapedOpen Tryd.prog) : ∃ m : Int, W.cell? ⟨0, 0, none⟩ = some (.int .i64 m) := Tryd.laysM155.s1_3 W h

/-- The table of powers of ten. -/
theorem pow_of {W : World} (h : laidMetH Tryd.prog Rows.rowTextsRow.laid W) : Lib.TabIs Tryd.prog W "internal/strconv.uint64pow10" .u64 Lib.pow10Tab := by
  rw [MakeChecks.laidMetH_plain _ _ _ (by kernel_rfl)] at h
  have hmem : ("internal/strconv.uint64pow10", Rows.laid_internal_strconv_uint64pow10) ∈ Rows.rowTextsRow.laid := .tail _ (.tail _ (.head _))
  obtain ⟨g, t, cs, fuel, p, hg, ht, hvar, hd⟩ := Lib.laidMet.reads h hmem
  obtain rfl := Option.some.inj ((show Tryd.prog.globalNamed "internal/strconv.uint64pow10" = some 1 by kernel_rfl).symm.trans hg)
  obtain rfl := Option.some.inj ((show (Tryd.prog.globals[1]?).map (·.type) = some 114 by kernel_rfl).symm.trans ht)
  unfold Lib.TabIs
  rw [hvar, ← Lib.cells_of_tab (zs := Lib.pow10Tab) Tryd.underlying114 Tryd.underlying85 (by kernel_rfl) (by kernel_rfl) hd]

theorem gl_of {W : World} (h : laidMetH Tryd.prog Rows.rowTextsRow.laid W) (hsh : W.ShapedOpen Tryd.prog) : Gl W := by
  have hT := pow_of h
  refine ⟨maxlen_of hsh, hT, ?_⟩
  unfold Lib.TabIs World.var? at hT
  have hn : Tryd.prog.globalNamed "internal/strconv.uint64pow10" = some 1 := by kernel_rfl
  rw [hn] at hT
  rcases Nat.lt_or_ge 1 W.heap.size with hlt | hge
  · exact hlt
  · simp only [Option.bind_some, Array.getElem?_eq_none hge] at hT
    cases hT
section
variable {H : Type} {enc : TypeId × Value → H}
instance : Nonempty Val := ⟨nl⟩
instance : Nonempty Hd := ⟨⟨none, 0, 0, []⟩⟩
/-- Three cells that read as a value. -/
theorem cells_val {W : World} {m : Nat} {cs : List Value} {z : DataW H × List MemPlace} (h : DataW.trod enc Tryd.prog W 0 (fun _ => true) true m 45 cs = some z) :
    ∃ x : Val, cs = [.int .i64 x.k, .int .i64 x.n, .string x.s] ∧ x.s.size ≤ maxLen ∧ -9223372036854775808 ≤ x.n ∧ x.n ≤ 9223372036854775807 := by
  obtain ⟨ys, n, _, _, hcl, hlen, hf⟩ := DataW.trod_struct Tryd.underlying45 h
  have h3 : Tryd.prog.cellsOf 45 = 3 := by kernel_rfl
  rw [h3] at hcl
  match cs, hcl with
  | [a, b, c], _ =>
    have get : ∀ (j : Nat) (hj : j < 3), ys[j]? = some (ys[j]'(by rw [hlen]; exact hj)) := fun j hj => List.getElem?_eq_getElem _
    have h0 := (hf 0 _ rfl).trans (get 0 (by omega))
    have h1 := (hf 1 _ rfl).trans (get 1 (by omega))
    have h2 := (hf 2 _ rfl).trans (get 2 (by omega))
    obtain ⟨k, e0, _, _⟩ := DataW.trod_int Tryd.underlying3 h0
    obtain ⟨x, e1, _, wx⟩ := DataW.trod_int Tryd.underlying3 h1
    obtain ⟨s, e2, _, hs⟩ := DataW.trod_string Tryd.underlying9 h2
    have c3 : Tryd.prog.cellsOf 3 = 1 := by kernel_rfl
    have c9 : Tryd.prog.cellsOf 9 = 1 := by kernel_rfl
    simp [c3, c9] at e0 e1 e2
    subst e0 e1 e2
    have hx : -9223372036854775808 ≤ x ∧ x ≤ 9223372036854775807 := by simpa [Lit.wf, IntKind.min, IntKind.max, IntKind.signed, IntKind.bits] using wx
    exact ⟨⟨k, x, s⟩, rfl, hs, hx⟩
theorem cells_int {W : World} {m : Nat} {cs : List Value} {z : DataW H × List MemPlace} (h : DataW.trod enc Tryd.prog W 0 (fun _ => true) true m 3 cs = some z) : ∃ x : Int, cs = rdI x ∧ True := by
  obtain ⟨k, e0, _, _⟩ := DataW.trod_int Tryd.underlying3 h
  exact ⟨k, e0, trivial⟩
theorem cells_bool {W : World} {m : Nat} {cs : List Value} {z : DataW H × List MemPlace} (h : DataW.trod enc Tryd.prog W 0 (fun _ => true) true m 4 cs = some z) : ∃ x : Bool, cs = rdB x ∧ True := by
  obtain ⟨k, e0, _⟩ := DataW.trod_bool Tryd.underlying4 h
  exact ⟨k, e0, trivial⟩
/-- Cells that read as a row. -/
theorem cells_row {W : World} {m : Nat} {cs : List Value} {z : DataW H × List MemPlace} (h : DataW.trod enc Tryd.prog W 0 (fun _ => true) true m 28 cs = some z) : ∃ x : Hd, cs = rdH x ∧ (RowIn W x.A x.n x.xs ∧ x.n ≤ x.c) := by
  obtain ⟨A, n, c, xs, h1, h2, h3, h4, h5, h6⟩ := slice_cells (α := Val) Tryd.underlying28 (S := 3) (by kernel_rfl) (by decide) rdV (fun _ => rfl) (fun x => x.s.size ≤ maxLen ∧ -9223372036854775808 ≤ x.n ∧ x.n ≤ 9223372036854775807) (fun cs n z hz => cells_val hz) h
  exact ⟨⟨A, n, c, xs⟩, h1, ⟨h2, h3, h5.sl, fun x hx => (h6 x hx).1, fun x hx => (h6 x hx).2⟩, h4⟩
/-- A row that came in. -/
theorem row_of {W : World} {base : Nat} {v : Value} {d : DataW H} {p : List MemPlace} (hv : Value.okWide Tryd.prog W .any base 28 v) (h : DataW.Trod enc Tryd.prog W 0 (fun _ => true) true 28 v d p) :
    ∃ (A : Option Addr) (n c : Nat) (xs : List Val), v = .slice A n c ∧ RowIn W A n xs ∧ n ≤ c := by
  obtain ⟨A, n, c, xs, h1, h2, h3, h4, h5, h6⟩ := slice_gen (α := Val) Tryd.underlying28 (S := 3) (by kernel_rfl) (by decide) rdV (fun _ => rfl) (fun x => x.s.size ≤ maxLen ∧ -9223372036854775808 ≤ x.n ∧ x.n ≤ 9223372036854775807) (fun cs n z hz => cells_val hz) hv h
  exact ⟨A, n, c, xs, h1, ⟨h2, h3, h5.sl, fun x hx => (h6 x hx).1, fun x hx => (h6 x hx).2⟩, h4⟩
/-- Rows that came in. -/
theorem rows_of {W : World} {base : Nat} {v : Value} {d : DataW H} {p : List MemPlace} (hv : Value.okWide Tryd.prog W .any base 22 v) (h : DataW.Trod enc Tryd.prog W 0 (fun _ => true) true 22 v d p) :
    ∃ (A : Option Addr) (n c : Nat) (hs : List Hd), v = .slice A n c ∧ hs.length = n ∧ n ≤ maxLen ∧ n ≤ c ∧ SlG W A 1 rdH hs ∧ ∀ h ∈ hs, RowIn W h.A h.n h.xs := by
  obtain ⟨A, n, c, hs, h1, h2, h3, h4, h5, h6⟩ := slice_gen (α := Hd) Tryd.underlying22 (S := 1) (by kernel_rfl) (by decide) rdH (fun _ => rfl) (fun x => RowIn W x.A x.n x.xs ∧ x.n ≤ x.c) (fun cs n z hz => cells_row hz) hv h
  exact ⟨A, n, c, hs, h1, h2, h3, h4, h5, fun x hx => (h6 x hx).1⟩
/-- Columns that came in. -/
theorem cols_of {W : World} {base : Nat} {v : Value} {d : DataW H} {p : List MemPlace} (hv : Value.okWide Tryd.prog W .any base 36 v) (h : DataW.Trod enc Tryd.prog W 0 (fun _ => true) true 36 v d p) :
    ∃ (A B : Option Addr) (n c m d : Nat) (pv : Value) (ks : List Int) (bs : List Bool), v = .agg #[.slice A n c, .slice B m d, pv] ∧ ColIn W A B n m ks bs := by
  obtain ⟨v0, v1, v2, y0, y1, y2, q, rfl, _, _, h0, h1, _⟩ := open_agg3 Tryd.underlying36 (by kernel_rfl) (by kernel_rfl) hv h
  obtain ⟨A, n, c, ks, e0, k1, k2, _, k3, _⟩ := slice_cells (α := Int) Tryd.underlying33 (S := 1) (by kernel_rfl) (by decide) rdI (fun _ => rfl) (fun _ => True) (fun cs n z hz => cells_int hz) h0
  obtain ⟨B, m, d, bs, e1, b1, b2, _, b3, _⟩ := slice_cells (α := Bool) Tryd.underlying34 (S := 1) (by kernel_rfl) (by decide) rdB (fun _ => rfl) (fun _ => True) (fun cs n z hz => cells_bool hz) h1
  simp at e0 e1
  subst e0 e1
  exact ⟨A, B, n, c, m, d, v2, ks, bs, rfl, ⟨k1, k2, k3, b1, b2, b3⟩⟩
/-- Two rows that came in as an array. -/
theorem rows2_of {W : World} {base : Nat} {v : Value} {d : DataW H} {p : List MemPlace} (hv : Value.okWide Tryd.prog W .any base 32 v) (h : DataW.Trod enc Tryd.prog W 0 (fun _ => true) true 32 v d p) :
    ∃ x y : Hd, v = .agg #[x.v, y.v] ∧ RowIn W x.A x.n x.xs ∧ RowIn W y.A y.n y.xs := by
  have h6 : Tryd.prog.cellsOf 32 = 2 := by kernel_rfl
  obtain ⟨cs, rfl, hsz⟩ : ∃ cs, v = .agg cs ∧ cs.size = 2 := by
    simp only [Value.okWide, Tryd.underlying32] at hv
    obtain ⟨cs, h1, h2, _⟩ := hv
    exact ⟨cs, h1, h2.trans h6⟩
  obtain ⟨fuel, hf⟩ := h
  obtain ⟨xs, m, _, _, _, hxl, hel⟩ := DataW.trod_array Tryd.underlying32 hf
  have h3 : Tryd.prog.cellsOf 28 = 1 := by kernel_rfl
  rw [h3] at hel
  obtain ⟨l⟩ := cs
  have hl6 : l.length = 2 := hsz
  match l, hl6 with
  | [c0, c1], _ =>
    have e0 := (hel 0 (by omega)).trans (List.getElem?_eq_getElem (by omega))
    have e1 := (hel 1 (by omega)).trans (List.getElem?_eq_getElem (by omega))
    obtain ⟨x, hx, ix, _⟩ := cells_row (cs := [c0]) e0
    obtain ⟨y, hy, iy, _⟩ := cells_row (cs := [c1]) e1
    simp [rdH] at hx hy
    subst hx hy
    exact ⟨x, y, rfl, ix, iy⟩
end
end Go.Proofs.YtbhliihmipbfjaaDoor
