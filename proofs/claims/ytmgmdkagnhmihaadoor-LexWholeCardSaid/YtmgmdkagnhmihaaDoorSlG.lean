/-
  How a slice that came in reads, of whatever elements, if it is known how one element reads. No condition.
-/
import Derived.Test.YtmgmdkagnhmihaaDoorRows
import Derived.Test.YtmgmdkagnhmihaaDoorOwnG
import Derived.ProofKit
import Derived.OpenShut
import Derived.Deep.DeepHandedRow
import Derived.Lib.LaidTab
import Derived.Lib.LaidU8
import Derived.Lib.SmallJoins
import Derived.Deep.Slices
import Derived.Deep.Fields
import Derived.ChangeSame
import Derived.ChangeMaps5
import Derived.Lay
import Derived.Below
namespace Go.Proofs.YtmgmdkagnhmihaaDoor
open Go Go.RowKit Go.ChangeShapes Go.WideShapes Go.ChangeAt Go.Joins Go.Deep

set_option maxRecDepth 100000
theorem own : ownKnob Tryd.prog.godebug = none := by kernel_rfl
theorem laidOut : laidOutB Tryd.prog = true := by kernel_rfl
section
variable {H : Type} {enc : TypeId × Value → H}

/-- A SLICE THAT CAME IN, by how one element of it reads. -/
theorem slice_gen {α : Type} [Nonempty α] {W : World} {T E : TypeId} {S : Nat} (hT : Tryd.prog.underlying T = some (.slice E)) (hS : Tryd.prog.cellsOf E = S) (hS0 : 0 < S) (rd : α → List Value) (hrd : ∀ x, (rd x).length = S) (Q : α → Prop)
    (each : ∀ (cs' : List Value) (n : Nat) (z : DataW H × List MemPlace), DataW.trod enc Tryd.prog W 0 (fun _ => true) true n E cs' = some z → ∃ x : α, cs' = rd x ∧ Q x)
    {base : Nat} {v : Value} {d : DataW H} {p : List MemPlace} (hv : Value.okWide Tryd.prog W .any base T v) (h : DataW.Trod enc Tryd.prog W 0 (fun _ => true) true T v d p) :
    ∃ (A : Option Addr) (n c : Nat) (xs : List α), v = .slice A n c ∧ xs.length = n ∧ n ≤ maxLen ∧ n ≤ c ∧ SlG W A S rd xs ∧ ∀ x ∈ xs, Q x := by
  obtain ⟨a0, len, cap, rfl⟩ := okWide_slice hT hv
  obtain ⟨fuel, hf⟩ := h
  rcases open_slice hT hf with ⟨hcs, _⟩ | ⟨a, len', cap', m, n, D, Pl, hcs, _, hl, hm, hmm, _, hi⟩
  · simp [Value.cells] at hcs
    obtain ⟨rfl, rfl, rfl⟩ := hcs
    exact ⟨none, 0, 0, [], rfl, rfl, Nat.zero_le _, Nat.zero_le _, .inl rfl, (fun x h => by cases h)⟩
  · simp [Value.cells] at hcs
    obtain ⟨rfl, rfl, rfl⟩ := hcs
    have hm' : m = cap := by rw [hmm]; rfl
    have each' : ∀ i, i < len → ∃ x : α, (∀ j u, (rd x)[j]? = some u → W.cell? (a.add (i * S + j)) = some u) ∧ Q x := by
      intro i hil
      obtain ⟨cs', hc, ht'⟩ := hi i (by omega)
      obtain ⟨x, rfl, hx⟩ := each cs' n _ ht'
      rw [hS] at hc
      obtain ⟨_, hcl, hat⟩ := World.cells?_some hc
      refine ⟨x, fun j u hju => ?_, hx⟩
      have hj : j < S := by
        have := (List.getElem?_eq_some_iff.1 hju).1
        rw [hrd] at this
        exact this
      have := hat j hj
      rw [← Go.Deep.add_add]
      rw [this]
      exact hju
    rcases Nat.eq_zero_or_pos len with h0 | h0
    · subst h0
      exact ⟨some a, 0, cap, [], rfl, rfl, Nat.zero_le _, Nat.zero_le _, .inl rfl, (fun x h => by cases h)⟩
    · have first : ∃ x u, (rd x)[0]? = some u ∧ W.cell? (a.add (0 * S + 0)) = some u := by
        obtain ⟨x, hc, _⟩ := each' 0 h0
        have : (rd x)[0]? = some ((rd x)[0]'(by rw [hrd]; exact hS0)) := List.getElem?_eq_getElem _
        exact ⟨x, _, this, hc 0 _ this⟩
      have hspot : a.spot = none := by
        obtain ⟨x, u, _, hc⟩ := first
        simpa [Addr.add] using World.cell?_spot hc
      have ha : a = ⟨a.block, a.off, none⟩ := by cases a; simp at hspot; rw [hspot]
      have hadd : ∀ j, a.add j = ⟨a.block, a.off + j, none⟩ := fun j => by
        rw [ha]; unfold Addr.add; split
        · rename_i e; subst e; rfl
        · rfl
      refine ⟨some a, len, cap, (List.range len).map fun i => if h : i < len then Classical.choose (each' i h) else Classical.choice inferInstance, rfl, by simp, by omega, hl, .inr ⟨a.block, a.off, by rw [← ha], ?_, ?_⟩, ?_⟩
      · obtain ⟨x, u, _, hc⟩ := first
        rw [hadd] at hc
        exact World.block_lt_of_cell? W ⟨a.block, a.off + (0 * S + 0), none⟩ hc
      · intro i x hx j u hju
        have hil : i < len := by
          have := (List.getElem?_eq_some_iff.1 hx).1
          simpa using this
        have hx' : Classical.choose (each' i hil) = x := by
          rw [List.getElem?_map, List.getElem?_range hil] at hx
          simpa [hil] using hx
        have hc := (Classical.choose_spec (each' i hil)).1
        rw [hx'] at hc
        have := hc j u hju
        rw [hadd, ← Nat.add_assoc] at this
        exact this
      · intro x hx
        obtain ⟨i, hi, rfl⟩ := List.mem_map.1 hx
        have hil : i < len := List.mem_range.1 hi
        rw [dif_pos hil]
        exact (Classical.choose_spec (each' i hil)).2

/-- Arguments read behind the call as they read before. -/
theorem trodAll_below {P : Program} (hl : laidOutB P = true) {W W' : World} (hb : Below W.heap.size W W') (ts : List TypeId) : ∀ (vs : List Value) (ds : List (DataW H)) (ps : List MemPlace), (ts.all fun t => P.readableRec t && decide (t < P.types.size)) = true →
    DataW.TrodAll enc P W 0 (fun _ => true) true ts vs ds ps → (∀ x ∈ ps, x.block < W.heap.size) → DataW.TrodAll enc P W' 0 (fun b => decide (b < W.heap.size)) true ts vs ds ps := by
  induction ts with
  | nil =>
    intro vs ds ps _ h _
    cases vs <;> cases ds <;> first | exact h | exact h.elim
  | cons t ts ih =>
    intro vs ds ps ht h hlt
    cases vs with
    | nil => cases ds <;> exact h.elim
    | cons v vs =>
      cases ds with
      | nil => exact h.elim
      | cons d ds =>
        obtain ⟨p, q, h1, h2, rfl⟩ := h
        simp only [List.all_cons, Bool.and_eq_true, decide_eq_true_eq] at ht
        exact ⟨p, q, Below.trod hl ht.1.1 ht.1.2 h1 hb (fun x hx => hlt x (List.mem_append_left _ hx)), ih vs ds q ht.2 h2 (fun x hx => hlt x (List.mem_append_right _ hx)), rfl⟩

/-- THE LAW's POST: it answered true, and turned nothing that was there. -/
theorem law_post {f : Func} {s : ChangeSpec} {W W' : World} {args : Array Value} {ds gs : List (DataW H)} {before : List MemPlace}
    (hW : DataW.Whole enc Tryd.prog f.params.toList s.vars false W args.toList ds gs before) (hb : Below W.heap.size W W') (hvars : s.vars = []) (hp : (f.params.toList.all fun t => Tryd.prog.readableRec t && decide (t < Tryd.prog.types.size)) = true)
    (hr : f.resultTypes = #[4]) (hs : s.fn H (ds ++ gs) = { results := [.lit (.bool true)], args := ds }) : s.post enc Tryd.prog f false true false false W args (.bool true) W' := by
  have hlt : ∀ p ∈ before, p.block < W.heap.size := fun p hp => hW.lt p hp
  have hW0 := hW
  obtain ⟨p, q, hA, hV, rfl, _, _⟩ := hW
  rw [hvars] at hV
  obtain ⟨rfl, rfl⟩ := trodVars_none hV
  refine ⟨ds, [], _, [], p, [], hW0, ?_, ?_, ?_, ?_, fun h => by cases h⟩
  · rw [hs, hr]
    exact trodAll_mk1 (shut_bool Tryd.underlying4 _)
  · rw [hs]
    exact trodAll_below laidOut hb _ _ _ _ hp hA (fun x hx => hlt x (List.mem_append_left _ hx))
  · rw [hs, hvars]; rfl
  · exact hb.frame _
end
end Go.Proofs.YtmgmdkagnhmihaaDoor
