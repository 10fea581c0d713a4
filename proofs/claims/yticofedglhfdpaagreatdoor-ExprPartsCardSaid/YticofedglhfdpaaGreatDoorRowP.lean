/-
  From a walk to a statement, of layer 3: how two expressions with a step and a row that came in read; the table of words.
-/
import Derived.Test.YticofedglhfdpaaGreatDoorSlC
import Derived.Test.YticofedglhfdpaaGreatDoorTxt
import Derived.Test.YticofedglhfdpaaGreatDoorPartsW
import Derived.Test.YticofedglhfdpaaGreatDoorCards
import Derived.Test.YticofedglhfdpaaGreatDoorTie
namespace Go.Proofs.YticofedglhfdpaaGreatDoor
open Go Go.RowKit Go.ChangeShapes Go.WideShapes Go.ChangeAt Go.Joins Go.Deep

set_option maxRecDepth 100000
section
variable {H : Type} {enc : TypeId × Value → H}
instance : Nonempty Val := ⟨nl⟩
instance : Nonempty Nd := ⟨⟨0, 0, nl⟩⟩
/-- Three cells that read as a value. -/
theorem cells_val {W : World} {m : Nat} {cs : List Value} {z : DataW H × List MemPlace} (h : DataW.trod enc Tryz.prog W 0 (fun _ => true) true m 31 cs = some z) :
    ∃ x : Val, cs = [.int .i64 x.k, .int .i64 x.n, .string x.s] ∧ x.s.size ≤ maxLen ∧ -9223372036854775808 ≤ x.n ∧ x.n ≤ 9223372036854775807 := by
  obtain ⟨ys, n, _, _, hcl, hlen, hf⟩ := DataW.trod_struct Tryz.underlying31 h
  have h3 : Tryz.prog.cellsOf 31 = 3 := by kernel_rfl
  rw [h3] at hcl
  match cs, hcl with
  | [a, b, c], _ =>
    have get : ∀ (j : Nat) (hj : j < 3), ys[j]? = some (ys[j]'(by rw [hlen]; exact hj)) := fun j hj => List.getElem?_eq_getElem _
    have h0 := (hf 0 _ rfl).trans (get 0 (by omega))
    have h1 := (hf 1 _ rfl).trans (get 1 (by omega))
    have h2 := (hf 2 _ rfl).trans (get 2 (by omega))
    obtain ⟨k, e0, _, _⟩ := DataW.trod_int Tryz.underlying3 h0
    obtain ⟨x, e1, _, wx⟩ := DataW.trod_int Tryz.underlying3 h1
    obtain ⟨s, e2, _, hs⟩ := DataW.trod_string Tryz.underlying9 h2
    have c3 : Tryz.prog.cellsOf 3 = 1 := by kernel_rfl
    have c9 : Tryz.prog.cellsOf 9 = 1 := by kernel_rfl
    simp [c3, c9] at e0 e1 e2
    subst e0 e1 e2
    have hx : -9223372036854775808 ≤ x ∧ x ≤ 9223372036854775807 := by simpa [Lit.wf, IntKind.min, IntKind.max, IntKind.signed, IntKind.bits] using wx
    exact ⟨⟨k, x, s⟩, rfl, hs, hx⟩
/-- Five cells that read as a step. -/
theorem cells_nd {W : World} {m : Nat} {cs : List Value} {z : DataW H × List MemPlace} (h : DataW.trod enc Tryz.prog W 0 (fun _ => true) true m 36 cs = some z) :
    ∃ x : Nd, cs = x.cells.toList ∧ x.v.s.size ≤ maxLen ∧ N64 x.v.n := by
  obtain ⟨ys, n, _, _, hcl, hlen, hf⟩ := DataW.trod_struct Tryz.underlying36 h
  have h5 : Tryz.prog.cellsOf 36 = 5 := by kernel_rfl
  rw [h5] at hcl
  match cs, hcl with
  | [a, b, c, d, e], _ =>
    have get : ∀ (j : Nat) (hj : j < 3), ys[j]? = some (ys[j]'(by rw [hlen]; exact hj)) := fun j hj => List.getElem?_eq_getElem _
    have h0 := (hf 0 _ rfl).trans (get 0 (by omega))
    have h1 := (hf 1 _ rfl).trans (get 1 (by omega))
    have h2 := (hf 2 _ rfl).trans (get 2 (by omega))
    obtain ⟨k, e0, _, _⟩ := DataW.trod_int Tryz.underlying3 h0
    obtain ⟨x, e1, _, _⟩ := DataW.trod_int Tryz.underlying3 h1
    obtain ⟨v, e2, hs, h64⟩ := cells_val h2
    have c3 : Tryz.prog.cellsOf 3 = 1 := by kernel_rfl
    have cV : Tryz.prog.cellsOf 31 = 3 := by kernel_rfl
    simp [c3, cV] at e0 e1 e2
    obtain ⟨rfl, rfl, rfl⟩ := e2
    subst e0 e1
    exact ⟨⟨k, x, v⟩, rfl, hs, h64⟩
/-- Cells that read as an expression. -/
theorem cells_expr {W : World} {m : Nat} {cs : List Value} {z : DataW H × List MemPlace} (h : DataW.trod enc Tryz.prog W 0 (fun _ => true) true m 23 cs = some z) : ∃ (A : Option Addr) (n c : Nat) (e : List Nd), cs = [.slice A n c] ∧ ExIn W A n e := by
  obtain ⟨A, n, c, xs, h1, h2, h3, _, h5, h6⟩ := slice_cells (α := Nd) Tryz.underlying23 (S := 5) (by kernel_rfl) (by decide) ndRd (fun _ => rfl) (fun x => x.v.s.size ≤ maxLen ∧ N64 x.v.n) (fun cs n z hz => cells_nd hz) h
  exact ⟨A, n, c, xs, h1, ⟨h2, h3, h5.slN, fun x hx => (h6 x hx).1, fun x hx => (h6 x hx).2⟩⟩
/-- Two expressions, a step and a row that came in. -/
theorem two_of {W : World} {base : Nat} {v : Value} {d : DataW H} {p : List MemPlace} (hv : Value.okWide Tryz.prog W .any base 27 v) (h : DataW.Trod enc Tryz.prog W 0 (fun _ => true) true 27 v d p) :
    ∃ (A B C : Option Addr) (n c m d q r : Nat) (a b : List Nd) (op : Int) (row : List Val), v = .agg #[.slice A n c, .slice B m d, .int .i64 op, .slice C q r] ∧ ExIn W A n a ∧ ExIn W B m b ∧ N64 op ∧ row.length = q ∧ q ≤ maxLen ∧ Sl W C row ∧ ∀ x ∈ row, N64 x.n := by
  obtain ⟨v0, v1, v2, v3, y0, y1, y2, y3, q, rfl, _, _, h0, h1, h2, h3⟩ := open_agg4 Tryz.underlying27 (by kernel_rfl) (by kernel_rfl) hv h
  obtain ⟨A, n, c, a, e0, i0⟩ := cells_expr h0
  obtain ⟨B, m, d, b, e1, i1⟩ := cells_expr h1
  obtain ⟨op, e2, _, wx⟩ := DataW.trod_int Tryz.underlying3 h2
  obtain ⟨C, q, r, row, e3, r1, r2, _, r3, r4⟩ := slice_cells (α := Val) Tryz.underlying25 (S := 3) (by kernel_rfl) (by decide) valRd (fun _ => rfl) (fun x => x.s.size ≤ maxLen ∧ -9223372036854775808 ≤ x.n ∧ x.n ≤ 9223372036854775807) (fun cs n z hz => cells_val hz) h3
  simp at e0 e1 e2 e3
  subst e0 e1 e2 e3
  have hx : -9223372036854775808 ≤ op ∧ op ≤ 9223372036854775807 := by simpa [Lit.wf, IntKind.min, IntKind.max, IntKind.signed, IntKind.bits] using wx
  exact ⟨A, B, C, n, c, m, d, q, r, a, b, op, row, rfl, i0, i1, hx, r1, r2, r3.slV, fun x hx => (r4 x hx).2⟩
end
/-- The table of words. -/
theorem words_of {W : World} (h : laidMetH Tryz.prog Rows.exprPartsRow.laid W) : Wd W := by
  rw [MakeChecks.laidMetH_plain _ _ _ (by kernel_rfl)] at h
  have hmem : ("levee/expr.words", Rows.laid_levee_expr_words) ∈ Rows.exprPartsRow.laid := .tail _ (.tail _ (.tail _ (.tail _ (.head _))))
  obtain ⟨g, t, cs, fuel, p, hg, ht, hvar, hd⟩ := Lib.laidMet.reads h hmem
  obtain rfl := Option.some.inj ((show Tryz.prog.globalNamed "levee/expr.words" = some 0 by kernel_rfl).symm.trans hg)
  obtain rfl := Option.some.inj ((show (Tryz.prog.globals[0]?).map (·.type) = some 84 by kernel_rfl).symm.trans ht)
  obtain ⟨xs, m, _, hx, hcl, hxl, hel⟩ := DataW.trod_array Tryz.underlying84 hd
  have c9 : Tryz.prog.cellsOf 9 = 1 := by kernel_rfl
  have c11 : Tryz.prog.cellsOf 84 = 11 := by kernel_rfl
  rw [c9] at hel
  rw [c11] at hcl
  have hxs : xs.map (·.1) = [.lit (.string []), .lit (.string []), .lit (.string [43]), .lit (.string [45]), .lit (.string [42]), .lit (.string [61]), .lit (.string [60]), .lit (.string [97, 110, 100]), .lit (.string [111, 114]), .lit (.string [110, 111, 116]), .lit (.string [110, 117, 108, 108, 63])] := by
    have := congrArg Prod.fst hx
    simp only [Rows.laid_levee_expr_words] at this
    injection this with this
    exact this.symm
  have cell : ∀ (i : Nat) (bs : List UInt8), i < 11 → (xs.map (·.1))[i]? = some (.lit (.string bs)) → W.cell? ⟨0, i, none⟩ = some (.string ⟨bs.toArray⟩) := by
    intro i bs hi hb
    have h1 := hel i hi
    rw [List.getElem?_map] at hb
    cases hxi : xs[i]? with
    | none => rw [hxi] at hb; cases hb
    | some z =>
      rw [hxi] at hb h1
      obtain ⟨s, e, ez, _⟩ := DataW.trod_string Tryz.underlying9 h1
      have hcell : cs.toList[i]? = some (.string s) := by
        rw [Nat.mul_one] at e
        have hl : i < cs.toList.length := by omega
        rw [List.drop_eq_getElem_cons hl] at e
        simp at e
        rw [List.getElem?_eq_getElem hl]
        simpa using e
      have hs : s = ⟨bs.toArray⟩ := by
        rw [ez] at hb
        simp at hb
        obtain ⟨⟨l⟩⟩ := s
        simp at hb
        rw [hb]
      subst hs
      have := World.var?_cell hg hvar i
      rw [this]
      simpa using hcell
  exact ⟨cell 2 [43] (by omega) (by rw [hxs]; rfl), cell 6 [60] (by omega) (by rw [hxs]; rfl)⟩
end Go.Proofs.YticofedglhfdpaaGreatDoor
