/-
  From a walk to a statement, of layer 5: how rows, lists of rows and bags that came in read; the tables of Go's library.
-/
import Derived.Test.YthgoflaphbigbaaGreatDoorSlC
import Derived.Test.YthgoflaphbigbaaGreatDoorFix5
import Derived.Test.YthgoflaphbigbaaGreatDoorCards
import Derived.Test.YthgoflaphbigbaaGreatDoorTie
namespace Go.Proofs.YthgoflaphbigbaaGreatDoor
open Go Go.RowKit Go.ChangeShapes Go.WideShapes Go.ChangeAt Go.Joins Go.Deep

set_option maxRecDepth 100000
/-- The length that the library's search names: some number. -/
theorem maxlen_of {W : World} (h : W.ShapedOpen Tryz.prog) : ∃ m : Int, W.cell? ⟨0, 0, none⟩ = some (.int .i64 m) := Tryz.laysM155.s1_3 W h

/-- The table of powers of ten. -/
theorem pow_of {W : World} (h : laidMetH Tryz.prog Rows.bagTellsRow.laid W) : Lib.TabIs Tryz.prog W "internal/strconv.uint64pow10" .u64 Lib.pow10Tab := by
  rw [MakeChecks.laidMetH_plain _ _ _ (by kernel_rfl)] at h
  have hmem : ("internal/strconv.uint64pow10", Rows.laid_internal_strconv_uint64pow10) ∈ Rows.bagTellsRow.laid := .tail _ (.tail _ (.head _))
  obtain ⟨g, t, cs, fuel, p, hg, ht, hvar, hd⟩ := Lib.laidMet.reads h hmem
  obtain rfl := Option.some.inj ((show Tryz.prog.globalNamed "internal/strconv.uint64pow10" = some 1 by kernel_rfl).symm.trans hg)
  obtain rfl := Option.some.inj ((show (Tryz.prog.globals[1]?).map (·.type) = some 120 by kernel_rfl).symm.trans ht)
  unfold Lib.TabIs
  rw [hvar, ← Lib.cells_of_tab (zs := Lib.pow10Tab) Tryz.underlying120 Tryz.underlying85 (by kernel_rfl) (by kernel_rfl) hd]

theorem gl_of {W : World} (h : laidMetH Tryz.prog Rows.bagTellsRow.laid W) (hsh : W.ShapedOpen Tryz.prog) : Gl W := by
  have hT := pow_of h
  refine ⟨maxlen_of hsh, hT, ?_⟩
  unfold Lib.TabIs World.var? at hT
  have hn : Tryz.prog.globalNamed "internal/strconv.uint64pow10" = some 1 := by kernel_rfl
  rw [hn] at hT
  rcases Nat.lt_or_ge 1 W.heap.size with hlt | hge
  · exact hlt
  · simp only [Option.bind_some, Array.getElem?_eq_none hge] at hT
    cases hT
section
variable {H : Type} {enc : TypeId × Value → H}
instance : Nonempty Val := ⟨nl⟩
instance : Nonempty Hd := ⟨⟨none, 0, 0, []⟩⟩
/-- Three cells that read as a value. -/
theorem cells_val {W : World} {m : Nat} {cs : List Value} {z : DataW H × List MemPlace} (h : DataW.trod enc Tryz.prog W 0 (fun _ => true) true m 63 cs = some z) :
    ∃ x : Val, cs = [.int .i64 x.k, .int .i64 x.n, .string x.s] ∧ x.s.size ≤ maxLen ∧ -9223372036854775808 ≤ x.n ∧ x.n ≤ 9223372036854775807 := by
  obtain ⟨ys, n, _, _, hcl, hlen, hf⟩ := DataW.trod_struct Tryz.underlying63 h
  have h3 : Tryz.prog.cellsOf 63 = 3 := by kernel_rfl
  rw [h3] at hcl
  match cs, hcl with
  | [a, b, c], _ =>
    have get : ∀ (j : Nat) (hj : j < 3), ys[j]? = some (ys[j]'(by rw [hlen]; exact hj)) := fun j hj => List.getElem?_eq_getElem _
    have h0 := (hf 0 _ rfl).trans (get 0 (by omega))
    have h1 := (hf 1 _ rfl).trans (get 1 (by omega))
    have h2 := (hf 2 _ rfl).trans (get 2 (by omega))
    obtain ⟨k, e0, _, _⟩ := DataW.trod_int Tryz.underlying3 h0
    obtain ⟨x, e1, _, wx⟩ := DataW.trod_int Tryz.underlying3 h1
    obtain ⟨s, e2, _, hs⟩ := DataW.trod_string Tryz.underlying9 h2
    have c3 : Tryz.prog.cellsOf 3 = 1 := by kernel_rfl
    have c9 : Tryz.prog.cellsOf 9 = 1 := by kernel_rfl
    simp [c3, c9] at e0 e1 e2
    subst e0 e1 e2
    have hx : -9223372036854775808 ≤ x ∧ x ≤ 9223372036854775807 := by simpa [Lit.wf, IntKind.min, IntKind.max, IntKind.signed, IntKind.bits] using wx
    exact ⟨⟨k, x, s⟩, rfl, hs, hx⟩
/-- Cells that read as a row. -/
theorem cells_row {W : World} {m : Nat} {cs : List Value} {z : DataW H × List MemPlace} (h : DataW.trod enc Tryz.prog W 0 (fun _ => true) true m 25 cs = some z) : ∃ x : Hd, cs = rdH x ∧ ∀ N : Int, -9223372036854775808 ≤ N → N ≤ 9223372036854775807 → Ct.In W ⟨x, N⟩ := by
  obtain ⟨A, n, c, xs, h1, h2, h3, h4, h5, h6⟩ := slice_cells (α := Val) Tryz.underlying25 (S := 3) (by kernel_rfl) (by decide) rdV (fun _ => rfl) (fun x => x.s.size ≤ maxLen ∧ -9223372036854775808 ≤ x.n ∧ x.n ≤ 9223372036854775807) (fun cs n z hz => cells_val hz) h
  exact ⟨⟨A, n, c, xs⟩, h1, fun N hN0 hN1 => ⟨⟨h2, h3, h5.sl⟩, fun x hx => (h6 x hx).1, fun x hx => (h6 x hx).2, hN0, hN1⟩⟩
/-- A row that came in. -/
theorem row_of {W : World} {base : Nat} {v : Value} {d : DataW H} {p : List MemPlace} (hv : Value.okWide Tryz.prog W .any base 25 v) (h : DataW.Trod enc Tryz.prog W 0 (fun _ => true) true 25 v d p) :
    ∃ x : Hd, v = x.v ∧ ∀ N : Int, -9223372036854775808 ≤ N → N ≤ 9223372036854775807 → Ct.In W ⟨x, N⟩ := by
  obtain ⟨A, n, c, xs, h1, h2, h3, h4, h5, h6⟩ := slice_gen (α := Val) Tryz.underlying25 (S := 3) (by kernel_rfl) (by decide) rdV (fun _ => rfl) (fun x => x.s.size ≤ maxLen ∧ -9223372036854775808 ≤ x.n ∧ x.n ≤ 9223372036854775807) (fun cs n z hz => cells_val hz) hv h
  exact ⟨⟨A, n, c, xs⟩, h1, fun N hN0 hN1 => ⟨⟨h2, h3, h5.sl⟩, fun x hx => (h6 x hx).1, fun x hx => (h6 x hx).2, hN0, hN1⟩⟩
/-- Rows that came in. -/
theorem rows_of_in {W : World} {base : Nat} {v : Value} {d : DataW H} {p : List MemPlace} (hv : Value.okWide Tryz.prog W .any base 37 v) (h : DataW.Trod enc Tryz.prog W 0 (fun _ => true) true 37 v d p) :
    ∃ (A : Option Addr) (n c : Nat) (hs : List Hd), v = .slice A n c ∧ hs.length = n ∧ n ≤ maxLen ∧ n ≤ c ∧ SlG W A 1 rdH hs ∧ ∀ h ∈ hs, Ct.In W ⟨h, 1⟩ := by
  obtain ⟨A, n, c, hs, h1, h2, h3, h4, h5, h6⟩ := slice_gen (α := Hd) Tryz.underlying37 (S := 1) (by kernel_rfl) (by decide) rdH (fun _ => rfl) (fun x => ∀ N : Int, -9223372036854775808 ≤ N → N ≤ 9223372036854775807 → Ct.In W ⟨x, N⟩) (fun cs n z hz => cells_row hz) hv h
  exact ⟨A, n, c, hs, h1, h2, h3, h4, h5, fun x hx => h6 x hx 1 (by decide) (by decide)⟩
instance : Nonempty Ct := ⟨⟨⟨none, 0, 0, []⟩, 0⟩⟩
/-- Two cells that read as a count. -/
theorem cells_ct {W : World} {m : Nat} {cs : List Value} {z : DataW H × List MemPlace} (h : DataW.trod enc Tryz.prog W 0 (fun _ => true) true m 36 cs = some z) : ∃ x : Ct, cs = rdC x ∧ Ct.In W x := by
  obtain ⟨ys, n, _, _, hcl, hlen, hf⟩ := DataW.trod_struct Tryz.underlying36 h
  have h3 : Tryz.prog.cellsOf 36 = 2 := by kernel_rfl
  rw [h3] at hcl
  match cs, hcl with
  | [a, b], _ =>
    have get : ∀ (j : Nat) (hj : j < 2), ys[j]? = some (ys[j]'(by rw [hlen]; exact hj)) := fun j hj => List.getElem?_eq_getElem _
    have h0 := (hf 0 _ rfl).trans (get 0 (by omega))
    have h1 := (hf 1 _ rfl).trans (get 1 (by omega))
    obtain ⟨x, e0, hx⟩ := cells_row h0
    obtain ⟨N, e1, _, wx⟩ := DataW.trod_int Tryz.underlying3 h1
    have c3 : Tryz.prog.cellsOf 3 = 1 := by kernel_rfl
    have cR : Tryz.prog.cellsOf 25 = 1 := by kernel_rfl
    simp [c3, cR, rdH] at e0 e1
    subst e0 e1
    have hN : -9223372036854775808 ≤ N ∧ N ≤ 9223372036854775807 := by simpa [Lit.wf, IntKind.min, IntKind.max, IntKind.signed, IntKind.bits] using wx
    exact ⟨⟨x, N⟩, rfl, hx N hN.1 hN.2⟩
/-- A bag that came in. -/
theorem bag_of {W : World} {base : Nat} {v : Value} {d : DataW H} {p : List MemPlace} (hv : Value.okWide Tryz.prog W .any base 23 v) (h : DataW.Trod enc Tryz.prog W 0 (fun _ => true) true 23 v d p) :
    ∃ (A : Option Addr) (n c : Nat) (cs : List Ct), v = .slice A n c ∧ BgIn W A n cs := by
  obtain ⟨A, n, c, cs, h1, h2, h3, h4, h5, h6⟩ := slice_gen (α := Ct) Tryz.underlying23 (S := 2) (by kernel_rfl) (by decide) rdC (fun _ => rfl) (fun x => Ct.In W x) (fun cs n z hz => cells_ct hz) hv h
  exact ⟨A, n, c, cs, h1, ⟨h2, h3, h5, h6⟩⟩
end
end Go.Proofs.YthgoflaphbigbaaGreatDoor
