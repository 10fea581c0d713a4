/-
  From a walk to a statement, of layer 6: how tokens and texts that came in read; the tables of Go's library.
-/
import Derived.Test.YtmgmdkagnhmihaaDoorSlG
import Derived.Test.YtmgmdkagnhmihaaDoorLexV
import Derived.Test.YtmgmdkagnhmihaaDoorCards
import Derived.Test.YtmgmdkagnhmihaaDoorTie
import Derived.Stop.LaidErr
namespace Go.Proofs.YtmgmdkagnhmihaaDoor
open Go Go.RowKit Go.ChangeShapes Go.WideShapes Go.ChangeAt Go.Joins Go.Deep Go.Shelf

set_option maxRecDepth 100000
/-- The length that the library's search names: some number. -/
theorem maxlen_of {W : World} (h : W.ShapedOpen Tryd.prog) : ∃ m : Int, W.cell? ⟨0, 0, none⟩ = some (.int .i64 m) := Tryd.laysM155.s1_3 W h

/-- The table of powers of ten. -/
theorem pow_of {W : World} (h : laidMet Tryd.prog Rows.lexBackRow.laid W) : Lib.TabIs Tryd.prog W "internal/strconv.uint64pow10" .u64 Lib.pow10Tab := by
  have hmem : ("internal/strconv.uint64pow10", Rows.laid_internal_strconv_uint64pow10) ∈ Rows.lexBackRow.laid := .tail _ (.tail _ (.head _))
  obtain ⟨g, t, cs, fuel, p, hg, ht, hvar, hd⟩ := Lib.laidMet.reads h hmem
  obtain rfl := Option.some.inj ((show Tryd.prog.globalNamed "internal/strconv.uint64pow10" = some 3 by kernel_rfl).symm.trans hg)
  obtain rfl := Option.some.inj ((show (Tryd.prog.globals[3]?).map (·.type) = some 103 by kernel_rfl).symm.trans ht)
  unfold Lib.TabIs
  rw [hvar, ← Lib.cells_of_tab (zs := Lib.pow10Tab) Tryd.underlying103 Tryd.underlying53 (by kernel_rfl) (by kernel_rfl) hd]
theorem star : "*" ++ "errors.errorString" = "*errors.errorString" := by decide
/-- The one row of that name. -/
theorem row_err (u : TypeId) (h : Tryd.prog.typeName? 3 u = some "*errors.errorString") : u = 115 :=
  typeName_ptr_named (nm := "errors.errorString") (by rw [star]; kernel_rfl) (by kernel_rfl) (by decide) u (by rw [star]; exact h)
theorem glt_of {W : World} (hT : Lib.TabIs Tryd.prog W "internal/strconv.uint64pow10" .u64 Lib.pow10Tab) : 3 < W.heap.size := by
  unfold Lib.TabIs World.var? at hT
  have hn : Tryd.prog.globalNamed "internal/strconv.uint64pow10" = some 3 := by kernel_rfl
  rw [hn] at hT
  rcases Nat.lt_or_ge 3 W.heap.size with hlt | hge
  · exact hlt
  · simp only [Option.bind_some, Array.getElem?_eq_none hge] at hT
    cases hT
theorem gl_of {W : World} (hL : laidMetH Tryd.prog Rows.lexBackRow.laid W) (hsh : W.ShapedOpen Tryd.prog) : GL W := by
  rw [MakeChecks.laidMetH_plain _ _ _ (by kernel_rfl)] at hL
  have hT := pow_of hL
  have hm := maxlen_of hsh
  have gS : Tryd.prog.globalNamed "strconv.ErrSyntax" = some 1 := by kernel_rfl
  have gR : Tryd.prog.globalNamed "strconv.ErrRange" = some 2 := by kernel_rfl
  have tS : (Tryd.prog.globals[1]?).map (·.type) = some 67 := by kernel_rfl
  have tR : (Tryd.prog.globals[2]?).map (·.type) = some 67 := by kernel_rfl
  obtain ⟨a0, s0, hv0, -, -, -⟩ := laid_sentinel hL.tail.tail.tail.tail gR tR Tryd.underlying67 row_err Tryd.underlying115 Tryd.underlying117 rfl rfl Tryd.underlying9 (by kernel_rfl) (by kernel_rfl)
  obtain ⟨a1, s1, hv1, -, -, -⟩ := laid_sentinel hL.tail.tail.tail.tail.tail gS tS Tryd.underlying67 row_err Tryd.underlying115 Tryd.underlying117 rfl rfl Tryd.underlying9 (by kernel_rfl) (by kernel_rfl)
  have hc0 := World.var?_cell gR hv0 0
  have hc1 := World.var?_cell gS hv1 0
  obtain ⟨m, hm'⟩ := hm
  exact ⟨⟨⟨m, hm'⟩, hT, glt_of hT⟩, ⟨_, _, hv1⟩, ⟨_, _, hv0⟩, ⟨World.block_lt_of_cell? _ _ hm', glt_of hT, World.block_lt_of_cell? _ _ (by simpa using hc1), World.block_lt_of_cell? _ _ (by simpa using hc0)⟩⟩
section
variable {H : Type} {enc : TypeId × Value → H}
instance : Nonempty Tk := ⟨tk0⟩
/-- Five cells that read as a token. -/
theorem cells_tok {W : World} {m : Nat} {cs : List Value} {z : DataW H × List MemPlace} (h : DataW.trod enc Tryd.prog W 0 (fun _ => true) true m 35 cs = some z) :
    ∃ x : Tk, cs = rdT x ∧ T64 x ∧ x.t.size ≤ maxLen ∧ x.v.s.size ≤ maxLen := by
  obtain ⟨ys, n, _, _, hcl, hlen, hf⟩ := DataW.trod_struct Tryd.underlying35 h
  have h5 : Tryd.prog.cellsOf 35 = 5 := by kernel_rfl
  rw [h5] at hcl
  match cs, hcl with
  | [a, b, c, d, e], _ =>
    have get : ∀ (j : Nat) (hj : j < 3), ys[j]? = some (ys[j]'(by rw [hlen]; exact hj)) := fun j hj => List.getElem?_eq_getElem _
    have h0 := (hf 0 _ rfl).trans (get 0 (by omega))
    have h1 := (hf 1 _ rfl).trans (get 1 (by omega))
    have h2 := (hf 2 _ rfl).trans (get 2 (by omega))
    obtain ⟨k, e0, _, _⟩ := DataW.trod_int Tryd.underlying3 h0
    obtain ⟨s, e1, _, hs⟩ := DataW.trod_string Tryd.underlying9 h1
    obtain ⟨zs, n2, _, _, hcl2, hlen2, hf2⟩ := DataW.trod_struct Tryd.underlying33 h2
    have get2 : ∀ (j : Nat) (hj : j < 3), zs[j]? = some (zs[j]'(by rw [hlen2]; exact hj)) := fun j hj => List.getElem?_eq_getElem _
    have g0 := (hf2 0 _ rfl).trans (get2 0 (by omega))
    have g1 := (hf2 1 _ rfl).trans (get2 1 (by omega))
    have g2 := (hf2 2 _ rfl).trans (get2 2 (by omega))
    obtain ⟨vk, f0, _, _⟩ := DataW.trod_int Tryd.underlying3 g0
    obtain ⟨x, f1, _, wx⟩ := DataW.trod_int Tryd.underlying3 g1
    obtain ⟨vs, f2, _, hvs⟩ := DataW.trod_string Tryd.underlying9 g2
    have c3 : Tryd.prog.cellsOf 3 = 1 := by kernel_rfl
    have c9 : Tryd.prog.cellsOf 9 = 1 := by kernel_rfl
    have cV : Tryd.prog.cellsOf 33 = 3 := by kernel_rfl
    simp [c3, c9, cV] at e0 e1 f0 f1 f2
    subst e0 e1 f0 f1 f2
    have hx : -9223372036854775808 ≤ x ∧ x ≤ 9223372036854775807 := by simpa [Lit.wf, IntKind.min, IntKind.max, IntKind.signed, IntKind.bits] using wx
    exact ⟨⟨k, s, ⟨vk, x, vs⟩⟩, rfl, hx, hs, hvs⟩
/-- Tokens that came in. -/
theorem toks_of {W : World} {base : Nat} {v : Value} {d : DataW H} {p : List MemPlace} (hv : Value.okWide Tryd.prog W .any base 22 v) (h : DataW.Trod enc Tryd.prog W 0 (fun _ => true) true 22 v d p) :
    ∃ (A : Option Addr) (n c : Nat) (ts : List Tk), v = .slice A n c ∧ ts.length = n ∧ n ≤ maxLen ∧ SlG W A 5 rdT ts ∧ (∀ t ∈ ts, T64 t) ∧ ∀ t ∈ ts, t.t.size ≤ maxLen ∧ t.v.s.size ≤ maxLen := by
  obtain ⟨A, n, c, ts, h1, h2, h3, h4, h5, h6⟩ := slice_gen (α := Tk) Tryd.underlying22 (S := 5) (by kernel_rfl) (by decide) rdT (fun _ => rfl) (fun x => T64 x ∧ x.t.size ≤ maxLen ∧ x.v.s.size ≤ maxLen) (fun cs n z hz => cells_tok hz) hv h
  exact ⟨A, n, c, ts, h1, h2, h3, h5, fun t ht => (h6 t ht).1, fun t ht => (h6 t ht).2⟩
/-- A token that came in. -/
theorem tok_of {W : World} {base : Nat} {v : Value} {d : DataW H} {p : List MemPlace} (hv : Value.okWide Tryd.prog W .any base 35 v) (h : DataW.Trod enc Tryd.prog W 0 (fun _ => true) true 35 v d p) :
    ∃ x : Tk, v = x.val ∧ T64 x ∧ x.t.size ≤ maxLen ∧ x.v.s.size ≤ maxLen := by
  obtain ⟨cs, rfl, _⟩ := okWide_struct Tryd.underlying35 hv
  obtain ⟨fuel, hf⟩ := h
  obtain ⟨x, hx, h6, h7⟩ := cells_tok hf
  refine ⟨x, ?_, h6, h7⟩
  have e : cs = (rdT x).toArray := by
    have : cs.toList = rdT x := hx
    rw [← this]
  rw [e]
  rfl
/-- A text that came in. -/
theorem text_of {W : World} {base : Nat} {v : Value} {d : DataW H} {p : List MemPlace} (hv : Value.okWide Tryd.prog W .any base 9 v) (h : DataW.Trod enc Tryd.prog W 0 (fun _ => true) true 9 v d p) :
    ∃ l : List UInt8, v = .string (ba l) ∧ l.length ≤ maxLen := by
  obtain ⟨s, rfl, _, _, hs⟩ := Go.ChangeMaps.open_string Tryd.underlying9 hv h
  refine ⟨s.data.toList, by rw [ba_of], hs⟩
end
end Go.Proofs.YtmgmdkagnhmihaaDoor
