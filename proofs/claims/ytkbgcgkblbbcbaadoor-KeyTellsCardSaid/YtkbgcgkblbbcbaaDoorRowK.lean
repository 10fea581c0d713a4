/-
  From a walk to a statement: a law that answers true in every world that holds the program's tables, and turns nothing that was there, meets its row. How a value, and a slice of values, that came in read.
-/
import Derived.Test.YtkbgcgkblbbcbaaDoorKFix
import Derived.Test.YtkbgcgkblbbcbaaDoorShelf
import Derived.Test.YtkbgcgkblbbcbaaDoorCards
import Derived.Test.YtkbgcgkblbbcbaaDoorTie
import Derived.ProofKit
import Derived.OpenShut
import Derived.Deep.DeepHandedRow
import Derived.Lib.LaidTab
import Derived.Lib.LaidU8
import Derived.Lib.SmallJoins
import Derived.Deep.Slices
import Derived.Deep.Fields
import Derived.ChangeSame
import Derived.ChangeMaps5
import Derived.Lay
namespace Go.Proofs.YtkbgcgkblbbcbaaDoor
open Go Go.RowKit Go.ChangeShapes Go.WideShapes Go.ChangeAt Go.Joins Go.Deep

theorem own : ownKnob Tryd.prog.godebug = none := by kernel_rfl
theorem laidOut : laidOutB Tryd.prog = true := by kernel_rfl

/-- The length that the library's search names: some number. -/
theorem maxlen_of {W : World} (h : W.ShapedOpen Tryd.prog) : ∃ m : Int, W.cell? ⟨0, 0, none⟩ = some (.int .i64 m) := Tryd.laysM155.s1_3 W h

section
variable {H : Type} {enc : TypeId × Value → H}

/-- Arguments read behind the call as they read before. -/
theorem trodAll_below {P : Program} (hl : laidOutB P = true) {W W' : World} (hb : Below W.heap.size W W') (ts : List TypeId) : ∀ (vs : List Value) (ds : List (DataW H)) (ps : List MemPlace), (ts.all fun t => P.readableRec t && decide (t < P.types.size)) = true →
    DataW.TrodAll enc P W 0 (fun _ => true) true ts vs ds ps → (∀ x ∈ ps, x.block < W.heap.size) → DataW.TrodAll enc P W' 0 (fun b => decide (b < W.heap.size)) true ts vs ds ps := by
  induction ts with
  | nil =>
    intro vs ds ps _ h _
    cases vs <;> cases ds <;> first | exact h | exact h.elim
  | cons t ts ih =>
    intro vs ds ps ht h hlt
    cases vs with
    | nil => cases ds <;> exact h.elim
    | cons v vs =>
      cases ds with
      | nil => exact h.elim
      | cons d ds =>
        obtain ⟨p, q, h1, h2, rfl⟩ := h
        simp only [List.all_cons, Bool.and_eq_true, decide_eq_true_eq] at ht
        exact ⟨p, q, Below.trod hl ht.1.1 ht.1.2 h1 hb (fun x hx => hlt x (List.mem_append_left _ hx)), ih vs ds q ht.2 h2 (fun x hx => hlt x (List.mem_append_right _ hx)), rfl⟩

/-- THE LAW's POST: it answered true, and turned nothing that was there. -/
theorem law_post {f : Func} {s : ChangeSpec} {W W' : World} {args : Array Value} {ds gs : List (DataW H)} {before : List MemPlace}
    (hW : DataW.Whole enc Tryd.prog f.params.toList s.vars false W args.toList ds gs before) (hb : Below W.heap.size W W') (hvars : s.vars = []) (hp : (f.params.toList.all fun t => Tryd.prog.readableRec t && decide (t < Tryd.prog.types.size)) = true)
    (hr : f.resultTypes = #[4]) (hs : s.fn H (ds ++ gs) = { results := [.lit (.bool true)], args := ds }) : s.post enc Tryd.prog f false true false false W args (.bool true) W' := by
  have hlt : ∀ p ∈ before, p.block < W.heap.size := fun p hp => hW.lt p hp
  have hW0 := hW
  obtain ⟨p, q, hA, hV, rfl, _, _⟩ := hW
  rw [hvars] at hV
  obtain ⟨rfl, rfl⟩ := trodVars_none hV
  refine ⟨ds, [], _, [], p, [], hW0, ?_, ?_, ?_, ?_, fun h => by cases h⟩
  · rw [hs, hr]
    exact trodAll_mk1 (shut_bool Tryd.underlying4 _)
  · rw [hs]
    exact trodAll_below laidOut hb _ _ _ _ hp hA (fun x hx => hlt x (List.mem_append_left _ hx))
  · rw [hs, hvars]; rfl
  · exact hb.frame _

/-- A value that came in. -/
theorem val_of {W : World} {base : Nat} {v : Value} {d : DataW H} {p : List MemPlace} (hv : Value.okWide Tryd.prog W .any base 32 v) (h : DataW.Trod enc Tryd.prog W 0 (fun _ => true) true 32 v d p) :
    ∃ a : Val, v = a.v ∧ -9223372036854775808 ≤ a.n ∧ a.n ≤ 9223372036854775807 ∧ a.s.size ≤ maxLen := by
  obtain ⟨v0, v1, v2, y0, y1, y2, n, rfl, _, _, h0, h1, h2⟩ := open_agg3 Tryd.underlying32 (by kernel_rfl) (by kernel_rfl) hv h
  obtain ⟨k, e0, _, _⟩ := DataW.trod_int Tryd.underlying3 h0
  obtain ⟨x, e1, _, wx⟩ := DataW.trod_int Tryd.underlying3 h1
  obtain ⟨s, e2, _, hs⟩ := DataW.trod_string Tryd.underlying9 h2
  simp at e0 e1 e2
  subst e0 e1 e2
  have hx : -9223372036854775808 ≤ x ∧ x ≤ 9223372036854775807 := by simpa [Lit.wf, IntKind.min, IntKind.max, IntKind.signed, IntKind.bits] using wx
  exact ⟨⟨k, x, s⟩, rfl, hx.1, hx.2, hs⟩

theorem open_slice_fields {P : Program} {w : World} {base : Nat} {spare : Nat → Bool} {held : Bool} {t e : TypeId} {fs : Array Field} {fuel : Nat} {cs : List Value} {x : DataW H × List MemPlace} (ht : P.underlying t = some (.slice e)) (he : P.underlying e = some (.struct fs))
    (hone : oneCellFields P fs = true) (hC : P.cellsOf e = fs.size) (h : DataW.trod enc P w base spare held fuel t cs = some x) :
    (cs = [.slice none 0 0]) ∨
    ∃ (a : Addr) (len cap m : Nat), cs = [.slice (some a) len cap] ∧ len ≤ cap ∧ cap ≤ maxLen ∧ m = (if spare a.block then cap else len) ∧
      ∀ i, i < m → ∃ n : Nat, ∀ (j : Nat) (f : Field), fs[j]? = some f → ∃ (v : Value) (y : DataW H × List MemPlace), w.cell? (a.add (i * fs.size + j)) = some v ∧ DataW.trod enc P w base spare held n f.type [v] = some y := by
  rcases open_slice ht h with h0 | ⟨a, len, cap, m, n, D, Pl, hcs, hb, hl, hm, hmm, hx, hi⟩
  · exact .inl h0.1
  · refine .inr ⟨a, len, cap, m, hcs, hl, hm, hmm, fun i him => ?_⟩
    obtain ⟨cs', hc, ht'⟩ := hi i him
    rw [hC] at hc
    obtain ⟨ys, n', hn', hy, hlen, hyl, hf⟩ := DataW.trod_struct he ht'
    obtain ⟨_, hcl, hat⟩ := World.cells?_some hc
    refine ⟨n', fun j f hj => ?_⟩
    obtain ⟨ho, hk⟩ := hone_of hone j f hj
    have hjl : j < fs.size := (Array.getElem?_eq_some_iff.1 hj).1
    have hcell := hat j hjl
    have hv : cs'[j]? = some (cs'[j]'(by omega)) := List.getElem?_eq_getElem (by omega)
    have h1 := hf j f hj
    rw [ho, hk] at h1
    have hone' : (cs'.drop j).take 1 = [cs'[j]'(by omega)] := by
      rw [List.drop_eq_getElem_cons (by omega)]
      rfl
    rw [hone'] at h1
    have hys : ys[j]? = some (ys[j]'(by omega)) := List.getElem?_eq_getElem (by omega)
    refine ⟨_, _, ?_, h1.trans hys⟩
    rw [← Go.Deep.add_add, hcell, hv]

/-- A slice of values that came in. -/
theorem slice_of {W : World} {base : Nat} {v : Value} {d : DataW H} {p : List MemPlace} (hv : Value.okWide Tryd.prog W .any base 22 v) (h : DataW.Trod enc Tryd.prog W 0 (fun _ => true) true 22 v d p) :
    ∃ (A : Option Addr) (n c : Nat) (vs : List Val), v = .slice A n c ∧ vs.length = n ∧ n ≤ maxLen ∧ Sl W A vs ∧ (∀ x ∈ vs, x.s.size ≤ maxLen) ∧ (∀ x ∈ vs, In64 x) ∧ n ≤ c := by
  obtain ⟨a0, len, cap, rfl⟩ := okWide_slice Tryd.underlying22 hv
  obtain ⟨fuel, hf⟩ := h
  rcases open_slice_fields Tryd.underlying22 Tryd.underlying32 (by kernel_rfl) (by kernel_rfl) hf with hcs | ⟨a, len', cap', m, hcs, hl, hm, hmm, hi⟩
  · simp [Value.cells] at hcs
    obtain ⟨rfl, rfl, rfl⟩ := hcs
    exact ⟨none, 0, 0, [], rfl, rfl, Nat.zero_le _, .inl rfl, (fun x h => by cases h), (fun x h => by cases h), Nat.zero_le _⟩
  · simp [Value.cells] at hcs
    obtain ⟨rfl, rfl, rfl⟩ := hcs
    have hm' : m = cap := by rw [hmm]; rfl
    -- each value
    have each : ∀ i, i < len → ∃ x : Val, W.cell? (a.add (i * 3)) = some (.int .i64 x.k) ∧ W.cell? (a.add (i * 3 + 1)) = some (.int .i64 x.n) ∧ W.cell? (a.add (i * 3 + 2)) = some (.string x.s) ∧ x.s.size ≤ maxLen ∧ In64 x := by
      intro i hil
      obtain ⟨n, hf⟩ := hi i (by omega)
      obtain ⟨v0, y0, c0, t0⟩ := hf 0 _ rfl
      obtain ⟨v1, y1, c1, t1⟩ := hf 1 _ rfl
      obtain ⟨v2, y2, c2, t2⟩ := hf 2 _ rfl
      obtain ⟨k, e0, _, _⟩ := DataW.trod_int Tryd.underlying3 t0
      obtain ⟨x, e1, _, wx⟩ := DataW.trod_int Tryd.underlying3 t1
      obtain ⟨s, e2, _, hs⟩ := DataW.trod_string Tryd.underlying9 t2
      simp at e0 e1 e2
      subst e0 e1 e2
      have hx : -9223372036854775808 ≤ x ∧ x ≤ 9223372036854775807 := by simpa [Lit.wf, IntKind.min, IntKind.max, IntKind.signed, IntKind.bits] using wx
      exact ⟨⟨k, x, s⟩, c0, c1, c2, hs, hx⟩
    rcases Nat.eq_zero_or_pos len with h0 | h0
    · subst h0
      exact ⟨some a, 0, cap, [], rfl, rfl, Nat.zero_le _, .inl rfl, (fun x h => by cases h), (fun x h => by cases h), Nat.zero_le _⟩
    · have hspot : a.spot = none := by
        obtain ⟨x, hc, _⟩ := each 0 h0
        simpa [Addr.add] using World.cell?_spot hc
      have ha : a = ⟨a.block, a.off, none⟩ := by cases a; simp at hspot; rw [hspot]
      have hadd : ∀ j, a.add j = ⟨a.block, a.off + j, none⟩ := fun j => by
        rw [ha]; unfold Addr.add; split
        · rename_i e; subst e; rfl
        · rfl
      refine ⟨some a, len, cap, (List.range len).map fun i => if h : i < len then Classical.choose (each i h) else nl, rfl, by simp, by omega, .inr ⟨a.block, a.off, by rw [← ha], ?_, ?_⟩, ?_, ?_, hl⟩
      · obtain ⟨x, hc, _⟩ := each 0 h0
        rw [hadd] at hc
        exact World.block_lt_of_cell? W ⟨a.block, a.off + 0 * 3, none⟩ hc
      · intro i x hx
        have hil : i < len := by
          have := (List.getElem?_eq_some_iff.1 hx).1
          simpa using this
        have hx' : Classical.choose (each i hil) = x := by
          rw [List.getElem?_map, List.getElem?_range hil] at hx
          simpa [hil] using hx
        obtain ⟨c0, c1, c2, _, _⟩ := Classical.choose_spec (each i hil)
        rw [hx'] at c0 c1 c2
        rw [hadd] at c0 c1 c2
        exact ⟨c0, by simpa [Nat.add_assoc] using c1, by simpa [Nat.add_assoc] using c2⟩
      · intro x hx
        obtain ⟨i, hi, rfl⟩ := List.mem_map.1 hx
        have hil : i < len := List.mem_range.1 hi
        rw [dif_pos hil]
        exact (Classical.choose_spec (each i hil)).2.2.2.1
      · intro x hx
        obtain ⟨i, hi, rfl⟩ := List.mem_map.1 hx
        have hil : i < len := List.mem_range.1 hi
        rw [dif_pos hil]
        exact (Classical.choose_spec (each i hil)).2.2.2.2

/-- Three cells that read as a value. -/
theorem val3_of {W : World} {m : Nat} {a b c : Value} {z : DataW H × List MemPlace} (h : DataW.trod enc Tryd.prog W 0 (fun _ => true) true m 32 [a, b, c] = some z) :
    ∃ x : Val, a = .int .i64 x.k ∧ b = .int .i64 x.n ∧ c = .string x.s ∧ x.s.size ≤ maxLen ∧ In64 x := by
  obtain ⟨ys, n, _, _, _, hlen, hf⟩ := DataW.trod_struct Tryd.underlying32 h
  have get : ∀ (j : Nat) (hj : j < 3), ys[j]? = some (ys[j]'(by rw [hlen]; exact hj)) := fun j hj => List.getElem?_eq_getElem _
  have h0 := (hf 0 _ rfl).trans (get 0 (by omega))
  have h1 := (hf 1 _ rfl).trans (get 1 (by omega))
  have h2 := (hf 2 _ rfl).trans (get 2 (by omega))
  obtain ⟨k, e0, _, _⟩ := DataW.trod_int Tryd.underlying3 h0
  obtain ⟨x, e1, _, wx⟩ := DataW.trod_int Tryd.underlying3 h1
  obtain ⟨s, e2, _, hs⟩ := DataW.trod_string Tryd.underlying9 h2
  have c3 : Tryd.prog.cellsOf 3 = 1 := by kernel_rfl
  have c9 : Tryd.prog.cellsOf 9 = 1 := by kernel_rfl
  simp [c3, c9] at e0 e1 e2
  subst e0 e1 e2
  have hx : -9223372036854775808 ≤ x ∧ x ≤ 9223372036854775807 := by simpa [Lit.wf, IntKind.min, IntKind.max, IntKind.signed, IntKind.bits] using wx
  exact ⟨⟨k, x, s⟩, rfl, rfl, rfl, hs, hx⟩
/-- Two values that came in as an array. -/
theorem arr_of {W : World} {base : Nat} {v : Value} {d : DataW H} {p : List MemPlace} (hv : Value.okWide Tryd.prog W .any base 33 v) (h : DataW.Trod enc Tryd.prog W 0 (fun _ => true) true 33 v d p) :
    ∃ x y : Val, v = .agg #[.int .i64 x.k, .int .i64 x.n, .string x.s, .int .i64 y.k, .int .i64 y.n, .string y.s] ∧ x.s.size ≤ maxLen ∧ y.s.size ≤ maxLen ∧ In64 x ∧ In64 y := by
  have h6 : Tryd.prog.cellsOf 33 = 6 := by kernel_rfl
  obtain ⟨cs, rfl, hsz⟩ : ∃ cs, v = .agg cs ∧ cs.size = 6 := by
    simp only [Value.okWide, Tryd.underlying33] at hv
    obtain ⟨cs, h1, h2, _⟩ := hv
    exact ⟨cs, h1, h2.trans h6⟩
  obtain ⟨fuel, hf⟩ := h
  obtain ⟨xs, m, _, _, _, hxl, hel⟩ := DataW.trod_array Tryd.underlying33 hf
  have h3 : Tryd.prog.cellsOf 32 = 3 := by kernel_rfl
  rw [h3] at hel
  obtain ⟨l⟩ := cs
  have hl6 : l.length = 6 := hsz
  match l, hl6 with
  | [c0, c1, c2, c3, c4, c5], _ =>
    have e0 := (hel 0 (by omega)).trans (List.getElem?_eq_getElem (by omega))
    have e1 := (hel 1 (by omega)).trans (List.getElem?_eq_getElem (by omega))
    obtain ⟨x, rfl, rfl, rfl, sx, ix⟩ := val3_of (a := c0) (b := c1) (c := c2) e0
    obtain ⟨y, rfl, rfl, rfl, sy, iy⟩ := val3_of (a := c3) (b := c4) (c := c5) e1
    exact ⟨x, y, rfl, sx, sy, ix, iy⟩
end
end Go.Proofs.YtkbgcgkblbbcbaaDoor
