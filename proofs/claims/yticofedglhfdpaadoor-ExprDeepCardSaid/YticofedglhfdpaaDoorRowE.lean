/-
  From a walk to a statement, of layer 3: how expressions, kinds, rows and values that came in read; the table of words.
-/
import Derived.Test.YticofedglhfdpaaDoorSlG
import Derived.Test.YticofedglhfdpaaDoorTxt
import Derived.Test.YticofedglhfdpaaDoorCards
import Derived.Test.YticofedglhfdpaaDoorTie
namespace Go.Proofs.YticofedglhfdpaaDoor
open Go Go.RowKit Go.ChangeShapes Go.WideShapes Go.ChangeAt Go.Joins Go.Deep

set_option maxRecDepth 100000
section
variable {H : Type} {enc : TypeId × Value → H}
instance : Nonempty Val := ⟨nl⟩
instance : Nonempty Nd := ⟨⟨0, 0, nl⟩⟩
/-- Three cells that read as a value. -/
theorem cells_val {W : World} {m : Nat} {cs : List Value} {z : DataW H × List MemPlace} (h : DataW.trod enc Tryd.prog W 0 (fun _ => true) true m 34 cs = some z) :
    ∃ x : Val, cs = [.int .i64 x.k, .int .i64 x.n, .string x.s] ∧ x.s.size ≤ maxLen ∧ -9223372036854775808 ≤ x.n ∧ x.n ≤ 9223372036854775807 := by
  obtain ⟨ys, n, _, _, hcl, hlen, hf⟩ := DataW.trod_struct Tryd.underlying34 h
  have h3 : Tryd.prog.cellsOf 34 = 3 := by kernel_rfl
  rw [h3] at hcl
  match cs, hcl with
  | [a, b, c], _ =>
    have get : ∀ (j : Nat) (hj : j < 3), ys[j]? = some (ys[j]'(by rw [hlen]; exact hj)) := fun j hj => List.getElem?_eq_getElem _
    have h0 := (hf 0 _ rfl).trans (get 0 (by omega))
    have h1 := (hf 1 _ rfl).trans (get 1 (by omega))
    have h2 := (hf 2 _ rfl).trans (get 2 (by omega))
    obtain ⟨k, e0, _, _⟩ := DataW.trod_int Tryd.underlying3 h0
    obtain ⟨x, e1, _, wx⟩ := DataW.trod_int Tryd.underlying3 h1
    obtain ⟨s, e2, _, hs⟩ := DataW.trod_string Tryd.underlying9 h2
    have c3 : Tryd.prog.cellsOf 3 = 1 := by kernel_rfl
    have c9 : Tryd.prog.cellsOf 9 = 1 := by kernel_rfl
    simp [c3, c9] at e0 e1 e2
    subst e0 e1 e2
    have hx : -9223372036854775808 ≤ x ∧ x ≤ 9223372036854775807 := by simpa [Lit.wf, IntKind.min, IntKind.max, IntKind.signed, IntKind.bits] using wx
    exact ⟨⟨k, x, s⟩, rfl, hs, hx⟩
/-- Five cells that read as a step. -/
theorem cells_nd {W : World} {m : Nat} {cs : List Value} {z : DataW H × List MemPlace} (h : DataW.trod enc Tryd.prog W 0 (fun _ => true) true m 40 cs = some z) :
    ∃ x : Nd, cs = x.cells.toList ∧ x.v.s.size ≤ maxLen := by
  obtain ⟨ys, n, _, _, hcl, hlen, hf⟩ := DataW.trod_struct Tryd.underlying40 h
  have h5 : Tryd.prog.cellsOf 40 = 5 := by kernel_rfl
  rw [h5] at hcl
  match cs, hcl with
  | [a, b, c, d, e], _ =>
    have get : ∀ (j : Nat) (hj : j < 3), ys[j]? = some (ys[j]'(by rw [hlen]; exact hj)) := fun j hj => List.getElem?_eq_getElem _
    have h0 := (hf 0 _ rfl).trans (get 0 (by omega))
    have h1 := (hf 1 _ rfl).trans (get 1 (by omega))
    have h2 := (hf 2 _ rfl).trans (get 2 (by omega))
    obtain ⟨k, e0, _, _⟩ := DataW.trod_int Tryd.underlying3 h0
    obtain ⟨x, e1, _, _⟩ := DataW.trod_int Tryd.underlying3 h1
    obtain ⟨v, e2, hs, _⟩ := cells_val h2
    have c3 : Tryd.prog.cellsOf 3 = 1 := by kernel_rfl
    have cV : Tryd.prog.cellsOf 34 = 3 := by kernel_rfl
    simp [c3, cV] at e0 e1 e2
    obtain ⟨rfl, rfl, rfl⟩ := e2
    subst e0 e1
    exact ⟨⟨k, x, v⟩, rfl, hs⟩
theorem cells_int {W : World} {m : Nat} {cs : List Value} {z : DataW H × List MemPlace} (h : DataW.trod enc Tryd.prog W 0 (fun _ => true) true m 3 cs = some z) : ∃ x : Int, cs = [.int .i64 x] ∧ True := by
  obtain ⟨k, e0, _, _⟩ := DataW.trod_int Tryd.underlying3 h
  exact ⟨k, e0, trivial⟩
/-- A value that came in. -/
theorem val_of {W : World} {base : Nat} {v : Value} {d : DataW H} {p : List MemPlace} (hv : Value.okWide Tryd.prog W .any base 34 v) (h : DataW.Trod enc Tryd.prog W 0 (fun _ => true) true 34 v d p) :
    ∃ a : Val, v = a.v ∧ -9223372036854775808 ≤ a.n ∧ a.n ≤ 9223372036854775807 ∧ a.s.size ≤ maxLen := by
  obtain ⟨v0, v1, v2, y0, y1, y2, n, rfl, _, _, h0, h1, h2⟩ := open_agg3 Tryd.underlying34 (by kernel_rfl) (by kernel_rfl) hv h
  obtain ⟨k, e0, _, _⟩ := DataW.trod_int Tryd.underlying3 h0
  obtain ⟨x, e1, _, wx⟩ := DataW.trod_int Tryd.underlying3 h1
  obtain ⟨s, e2, _, hs⟩ := DataW.trod_string Tryd.underlying9 h2
  simp at e0 e1 e2
  subst e0 e1 e2
  have hx : -9223372036854775808 ≤ x ∧ x ≤ 9223372036854775807 := by simpa [Lit.wf, IntKind.min, IntKind.max, IntKind.signed, IntKind.bits] using wx
  exact ⟨⟨k, x, s⟩, rfl, hx.1, hx.2, hs⟩
/-- A row that came in. -/
theorem row_of {W : World} {base : Nat} {v : Value} {d : DataW H} {p : List MemPlace} (hv : Value.okWide Tryd.prog W .any base 26 v) (h : DataW.Trod enc Tryd.prog W 0 (fun _ => true) true 26 v d p) :
    ∃ (A : Option Addr) (n c : Nat) (vs : List Val), v = .slice A n c ∧ vs.length = n ∧ n ≤ maxLen ∧ n ≤ c ∧ Sl W A vs ∧ ∀ x ∈ vs, x.s.size ≤ maxLen ∧ -9223372036854775808 ≤ x.n ∧ x.n ≤ 9223372036854775807 := by
  obtain ⟨A, n, c, xs, h1, h2, h3, h4, h5, h6⟩ := slice_gen (α := Val) Tryd.underlying26 (S := 3) (by kernel_rfl) (by decide) (fun x => [.int .i64 x.k, .int .i64 x.n, .string x.s]) (fun _ => rfl) (fun x => x.s.size ≤ maxLen ∧ -9223372036854775808 ≤ x.n ∧ x.n ≤ 9223372036854775807) (fun cs n z hz => cells_val hz) hv h
  refine ⟨A, n, c, xs, h1, h2, h3, h4, ?_, h6⟩
  rcases h5 with h5 | ⟨b, off, hA, hlt, h5⟩
  · exact .inl h5
  · exact .inr ⟨b, off, hA, hlt, fun i x hx => ⟨h5 i x hx 0 _ rfl, h5 i x hx 1 _ rfl, h5 i x hx 2 _ rfl⟩⟩
/-- An expression that came in. -/
theorem expr_of {W : World} {base : Nat} {v : Value} {d : DataW H} {p : List MemPlace} (hv : Value.okWide Tryd.prog W .any base 23 v) (h : DataW.Trod enc Tryd.prog W 0 (fun _ => true) true 23 v d p) :
    ∃ (A : Option Addr) (n c : Nat) (e : List Nd), v = .slice A n c ∧ e.length = n ∧ n ≤ maxLen ∧ n ≤ c ∧ SlN W A e ∧ ∀ x ∈ e, x.v.s.size ≤ maxLen := by
  obtain ⟨A, n, c, xs, h1, h2, h3, h4, h5, h6⟩ := slice_gen (α := Nd) Tryd.underlying23 (S := 5) (by kernel_rfl) (by decide) (fun x => x.cells.toList) (fun _ => rfl) (fun x => x.v.s.size ≤ maxLen) (fun cs n z hz => cells_nd hz) hv h
  refine ⟨A, n, c, xs, h1, h2, h3, h4, ?_, h6⟩
  rcases h5 with h5 | ⟨b, off, hA, hlt, h5⟩
  · exact .inl h5
  · exact .inr ⟨b, off, hA, hlt, fun i x hx => ⟨h5 i x hx 0 _ rfl, h5 i x hx 1 _ rfl, h5 i x hx 2 _ rfl, h5 i x hx 3 _ rfl, h5 i x hx 4 _ rfl⟩⟩
/-- Numbers that came in. -/
theorem ints_of {W : World} {base : Nat} {v : Value} {d : DataW H} {p : List MemPlace} (hv : Value.okWide Tryd.prog W .any base 24 v) (h : DataW.Trod enc Tryd.prog W 0 (fun _ => true) true 24 v d p) :
    ∃ (A : Option Addr) (n c : Nat) (ks : List Int), v = .slice A n c ∧ ks.length = n ∧ n ≤ maxLen ∧ n ≤ c ∧ SlI W A ks := by
  obtain ⟨A, n, c, xs, h1, h2, h3, h4, h5, _⟩ := slice_gen (α := Int) Tryd.underlying24 (S := 1) (by kernel_rfl) (by decide) (fun x => [.int .i64 x]) (fun _ => rfl) (fun _ => True) (fun cs n z hz => cells_int hz) hv h
  refine ⟨A, n, c, xs, h1, h2, h3, h4, ?_⟩
  rcases h5 with h5 | ⟨b, off, hA, hlt, h5⟩
  · exact .inl h5
  · exact .inr ⟨b, off, hA, hlt, fun i x hx => by have := h5 i x hx 0 _ rfl; rwa [Nat.mul_one, Nat.add_zero] at this⟩
end
/-- The table of words. -/
theorem words_of {W : World} (h : laidMetH Tryd.prog Rows.exprTypedRow.laid W) : Wd W := by
  rw [MakeChecks.laidMetH_plain _ _ _ (by kernel_rfl)] at h
  have hmem : ("levee/expr.words", Rows.laid_levee_expr_words) ∈ Rows.exprTypedRow.laid := .tail _ (.tail _ (.tail _ (.tail _ (.head _))))
  obtain ⟨g, t, cs, fuel, p, hg, ht, hvar, hd⟩ := Lib.laidMet.reads h hmem
  obtain rfl := Option.some.inj ((show Tryd.prog.globalNamed "levee/expr.words" = some 0 by kernel_rfl).symm.trans hg)
  obtain rfl := Option.some.inj ((show (Tryd.prog.globals[0]?).map (·.type) = some 77 by kernel_rfl).symm.trans ht)
  obtain ⟨xs, m, _, hx, hcl, hxl, hel⟩ := DataW.trod_array Tryd.underlying77 hd
  have c9 : Tryd.prog.cellsOf 9 = 1 := by kernel_rfl
  have c11 : Tryd.prog.cellsOf 77 = 11 := by kernel_rfl
  rw [c9] at hel
  rw [c11] at hcl
  have hxs : xs.map (·.1) = [.lit (.string []), .lit (.string []), .lit (.string [43]), .lit (.string [45]), .lit (.string [42]), .lit (.string [61]), .lit (.string [60]), .lit (.string [97, 110, 100]), .lit (.string [111, 114]), .lit (.string [110, 111, 116]), .lit (.string [110, 117, 108, 108, 63])] := by
    have := congrArg Prod.fst hx
    simp only [Rows.laid_levee_expr_words] at this
    injection this with this
    exact this.symm
  have cell : ∀ (i : Nat) (bs : List UInt8), i < 11 → (xs.map (·.1))[i]? = some (.lit (.string bs)) → W.cell? ⟨0, i, none⟩ = some (.string ⟨bs.toArray⟩) := by
    intro i bs hi hb
    have h1 := hel i hi
    rw [List.getElem?_map] at hb
    cases hxi : xs[i]? with
    | none => rw [hxi] at hb; cases hb
    | some z =>
      rw [hxi] at hb h1
      obtain ⟨s, e, ez, _⟩ := DataW.trod_string Tryd.underlying9 h1
      have hcell : cs.toList[i]? = some (.string s) := by
        rw [Nat.mul_one] at e
        have hl : i < cs.toList.length := by omega
        rw [List.drop_eq_getElem_cons hl] at e
        simp at e
        rw [List.getElem?_eq_getElem hl]
        simpa using e
      have hs : s = ⟨bs.toArray⟩ := by
        rw [ez] at hb
        simp at hb
        obtain ⟨⟨l⟩⟩ := s
        simp at hb
        rw [hb]
      subst hs
      have := World.var?_cell hg hvar i
      rw [this]
      simpa using hcell
  exact ⟨cell 2 [43] (by omega) (by rw [hxs]; rfl), cell 6 [60] (by omega) (by rw [hxs]; rfl)⟩
end Go.Proofs.YticofedglhfdpaaDoor
