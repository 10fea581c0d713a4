/-
  Part 6 of 6 of what the proof leans on: each part below says what it proves, and of what; no condition besides.
-/
import Derived.Test.YtldaoepemofhlaaGreatDoorR01
import Derived.Test.YtldaoepemofhlaaGreatDoorR02
import Derived.Test.YtldaoepemofhlaaGreatDoorR03
import Derived.Test.YtldaoepemofhlaaGreatDoorR05
import Derived.Test.YtldaoepemofhlaaGreatDoorRows
import Derived.ProofKit
import Derived.OpenShut
import Derived.Deep.DeepHandedRow
import Derived.Lib.LaidTab
import Derived.Lib.LaidU8
import Derived.Lib.SmallJoins
import Derived.Deep.Slices
import Derived.Deep.Fields
import Derived.ChangeSame
import Derived.ChangeMaps5
import Derived.Lay
import Derived.Below
import Derived.Test.YtldaoepemofhlaaGreatDoorCards
import Derived.Test.YtldaoepemofhlaaGreatDoorTie
import Derived.Deep.RegionLaw
import Derived.Deep.AppendLies
set_option linter.unusedVariables false
set_option linter.unusedSimpArgs false
namespace Go.Proofs.YtldaoepemofhlaaGreatDoor
open Go Go.RowKit Go.ChangeShapes Go.WideShapes Go.ChangeAt Go.Joins Go.Deep
set_option maxRecDepth 100000
theorem own : ownKnob Tryz.prog.godebug = none := by kernel_rfl
theorem laidOut : laidOutB Tryz.prog = true := by kernel_rfl
section
variable {H : Type} {enc : TypeId × Value → H}
theorem slice_gen {α : Type} [Nonempty α] {W : World} {T E : TypeId} {S : Nat} (hT : Tryz.prog.underlying T = some (.slice E)) (hS : Tryz.prog.cellsOf E = S) (hS0 : 0 < S) (rd : α → List Value) (hrd : ∀ x, (rd x).length = S) (Q : α → Prop)
 (each : ∀ (cs' : List Value) (n : Nat) (z : DataW H × List MemPlace), DataW.trod enc Tryz.prog W 0 (fun _ => true) true n E cs' = some z → ∃ x : α, cs' = rd x ∧ Q x)
 {base : Nat} {v : Value} {d : DataW H} {p : List MemPlace} (hv : Value.okWide Tryz.prog W .any base T v) (h : DataW.Trod enc Tryz.prog W 0 (fun _ => true) true T v d p) :
 ∃ (A : Option Addr) (n c : Nat) (xs : List α), v = .slice A n c ∧ xs.length = n ∧ n ≤ maxLen ∧ n ≤ c ∧ SlG W A S rd xs ∧ ∀ x ∈ xs, Q x := by
 obtain ⟨a0, len, cap, rfl⟩ := okWide_slice hT hv
 obtain ⟨fuel, hf⟩ := h
 rcases open_slice hT hf with ⟨hcs, _⟩ | ⟨a, len', cap', m, n, D, Pl, hcs, _, hl, hm, hmm, _, hi⟩
 · simp [Value.cells] at hcs
   obtain ⟨rfl, rfl, rfl⟩ := hcs
   exact ⟨none, 0, 0, [], rfl, rfl, Nat.zero_le _, Nat.zero_le _, .inl rfl, (fun x h => by cases h)⟩
 · simp [Value.cells] at hcs
   obtain ⟨rfl, rfl, rfl⟩ := hcs
   have hm' : m = cap := by rw [hmm]; rfl
   have each' : ∀ i, i < len → ∃ x : α, (∀ j u, (rd x)[j]? = some u → W.cell? (a.add (i * S + j)) = some u) ∧ Q x := by
    intro i hil
    obtain ⟨cs', hc, ht'⟩ := hi i (by omega)
    obtain ⟨x, rfl, hx⟩ := each cs' n _ ht'
    rw [hS] at hc
    obtain ⟨_, hcl, hat⟩ := World.cells?_some hc
    refine ⟨x, fun j u hju => ?_, hx⟩
    have hj : j < S := by
     have := (List.getElem?_eq_some_iff.1 hju).1
     rw [hrd] at this
     exact this
    have := hat j hj
    rw [← Go.Deep.add_add]
    rw [this]
    exact hju
   rcases Nat.eq_zero_or_pos len with h0 | h0
   · subst h0
     exact ⟨some a, 0, cap, [], rfl, rfl, Nat.zero_le _, Nat.zero_le _, .inl rfl, (fun x h => by cases h)⟩
   · have first : ∃ x u, (rd x)[0]? = some u ∧ W.cell? (a.add (0 * S + 0)) = some u := by
      obtain ⟨x, hc, _⟩ := each' 0 h0
      have : (rd x)[0]? = some ((rd x)[0]'(by rw [hrd]; exact hS0)) := List.getElem?_eq_getElem _
      exact ⟨x, _, this, hc 0 _ this⟩
     have hspot : a.spot = none := by
      obtain ⟨x, u, _, hc⟩ := first
      simpa [Addr.add] using World.cell?_spot hc
     have ha : a = ⟨a.block, a.off, none⟩ := by cases a; simp at hspot; rw [hspot]
     have hadd : ∀ j, a.add j = ⟨a.block, a.off + j, none⟩ := fun j => by
      rw [ha]; unfold Addr.add; split
      · rename_i e; subst e; rfl
      · rfl
     refine ⟨some a, len, cap, (List.range len).map fun i => if h : i < len then Classical.choose (each' i h) else Classical.choice inferInstance, rfl, by simp, by omega, hl, .inr ⟨a.block, a.off, by rw [← ha], ?_, ?_⟩, ?_⟩
     · obtain ⟨x, u, _, hc⟩ := first
       rw [hadd] at hc
       exact World.block_lt_of_cell? W ⟨a.block, a.off + (0 * S + 0), none⟩ hc
     · intro i x hx j u hju
       have hil : i < len := by
        have := (List.getElem?_eq_some_iff.1 hx).1
        simpa using this
       have hx' : Classical.choose (each' i hil) = x := by
        rw [List.getElem?_map, List.getElem?_range hil] at hx
        simpa [hil] using hx
       have hc := (Classical.choose_spec (each' i hil)).1
       rw [hx'] at hc
       have := hc j u hju
       rw [hadd, ← Nat.add_assoc] at this
       exact this
     · intro x hx
       obtain ⟨i, hi, rfl⟩ := List.mem_map.1 hx
       have hil : i < len := List.mem_range.1 hi
       rw [dif_pos hil]
       exact (Classical.choose_spec (each' i hil)).2
theorem trodAll_below {P : Program} (hl : laidOutB P = true) {W W' : World} (hb : Below W.heap.size W W') (ts : List TypeId) : ∀ (vs : List Value) (ds : List (DataW H)) (ps : List MemPlace), (ts.all fun t => P.readableRec t && decide (t < P.types.size)) = true →
 DataW.TrodAll enc P W 0 (fun _ => true) true ts vs ds ps → (∀ x ∈ ps, x.block < W.heap.size) → DataW.TrodAll enc P W' 0 (fun b => decide (b < W.heap.size)) true ts vs ds ps := by
 induction ts with
 | nil =>
   intro vs ds ps _ h _
   cases vs <;> cases ds <;> first | exact h | exact h.elim
 | cons t ts ih =>
   intro vs ds ps ht h hlt
   cases vs with
   | nil => cases ds <;> exact h.elim
   | cons v vs =>
     cases ds with
     | nil => exact h.elim
     | cons d ds =>
       obtain ⟨p, q, h1, h2, rfl⟩ := h
       simp only [List.all_cons, Bool.and_eq_true, decide_eq_true_eq] at ht
       exact ⟨p, q, Below.trod hl ht.1.1 ht.1.2 h1 hb (fun x hx => hlt x (List.mem_append_left _ hx)), ih vs ds q ht.2 h2 (fun x hx => hlt x (List.mem_append_right _ hx)), rfl⟩
theorem law_post {f : Func} {s : ChangeSpec} {W W' : World} {args : Array Value} {ds gs : List (DataW H)} {before : List MemPlace}
 (hW : DataW.Whole enc Tryz.prog f.params.toList s.vars false W args.toList ds gs before) (hb : Below W.heap.size W W') (hvars : s.vars = []) (hp : (f.params.toList.all fun t => Tryz.prog.readableRec t && decide (t < Tryz.prog.types.size)) = true)
 (hr : f.resultTypes = #[4]) (hs : s.fn H (ds ++ gs) = { results := [.lit (.bool true)], args := ds }) : s.post enc Tryz.prog f false true false false W args (.bool true) W' := by
 have hlt : ∀ p ∈ before, p.block < W.heap.size := fun p hp => hW.lt p hp
 have hW0 := hW
 obtain ⟨p, q, hA, hV, rfl, _, _⟩ := hW
 rw [hvars] at hV
 obtain ⟨rfl, rfl⟩ := trodVars_none hV
 refine ⟨ds, [], _, [], p, [], hW0, ?_, ?_, ?_, ?_, fun h => by cases h⟩
 · rw [hs, hr]
   exact trodAll_mk1 (shut_bool Tryz.underlying4 _)
 · rw [hs]
   exact trodAll_below laidOut hb _ _ _ _ hp hA (fun x hx => hlt x (List.mem_append_left _ hx))
 · rw [hs, hvars]; rfl
 · exact hb.frame _
end
end Go.Proofs.YtldaoepemofhlaaGreatDoor
namespace Go.Proofs.YtldaoepemofhlaaGreatDoor
open Go Go.RowKit Go.ChangeShapes Go.WideShapes Go.ChangeAt Go.Joins Go.Deep
set_option maxRecDepth 100000
section
variable {H : Type} {enc : TypeId × Value → H}
theorem slice_cells {α : Type} [Nonempty α] {W : World} {T E : TypeId} {S : Nat} (hT : Tryz.prog.underlying T = some (.slice E)) (hS : Tryz.prog.cellsOf E = S) (hS0 : 0 < S) (rd : α → List Value) (hrd : ∀ x, (rd x).length = S) (Q : α → Prop)
 (each : ∀ (cs' : List Value) (n : Nat) (z : DataW H × List MemPlace), DataW.trod enc Tryz.prog W 0 (fun _ => true) true n E cs' = some z → ∃ x : α, cs' = rd x ∧ Q x)
 {fuel : Nat} {cs : List Value} {z : DataW H × List MemPlace} (hf : DataW.trod enc Tryz.prog W 0 (fun _ => true) true fuel T cs = some z) :
 ∃ (A : Option Addr) (n c : Nat) (xs : List α), cs = [.slice A n c] ∧ xs.length = n ∧ n ≤ maxLen ∧ n ≤ c ∧ SlG W A S rd xs ∧ ∀ x ∈ xs, Q x := by
 rcases open_slice hT hf with ⟨hcs, _⟩ | ⟨a, len, cap, m, n, D, Pl, hcs, _, hl, hm, hmm, _, hi⟩
 · subst hcs
   exact ⟨none, 0, 0, [], rfl, rfl, Nat.zero_le _, Nat.zero_le _, .inl rfl, (fun x h => by cases h)⟩
 · subst hcs
   have hm' : m = cap := by rw [hmm]; rfl
   have each' : ∀ i, i < len → ∃ x : α, (∀ j u, (rd x)[j]? = some u → W.cell? (a.add (i * S + j)) = some u) ∧ Q x := by
    intro i hil
    obtain ⟨cs', hc, ht'⟩ := hi i (by omega)
    obtain ⟨x, rfl, hx⟩ := each cs' n _ ht'
    rw [hS] at hc
    obtain ⟨_, hcl, hat⟩ := World.cells?_some hc
    refine ⟨x, fun j u hju => ?_, hx⟩
    have hj : j < S := by
     have := (List.getElem?_eq_some_iff.1 hju).1
     rw [hrd] at this
     exact this
    have := hat j hj
    rw [← Go.Deep.add_add]
    rw [this]
    exact hju
   rcases Nat.eq_zero_or_pos len with h0 | h0
   · subst h0
     exact ⟨some a, 0, cap, [], rfl, rfl, Nat.zero_le _, Nat.zero_le _, .inl rfl, (fun x h => by cases h)⟩
   · have first : ∃ x u, (rd x)[0]? = some u ∧ W.cell? (a.add (0 * S + 0)) = some u := by
      obtain ⟨x, hc, _⟩ := each' 0 h0
      have : (rd x)[0]? = some ((rd x)[0]'(by rw [hrd]; exact hS0)) := List.getElem?_eq_getElem _
      exact ⟨x, _, this, hc 0 _ this⟩
     have hspot : a.spot = none := by
      obtain ⟨x, u, _, hc⟩ := first
      simpa [Addr.add] using World.cell?_spot hc
     have ha : a = ⟨a.block, a.off, none⟩ := by cases a; simp at hspot; rw [hspot]
     have hadd : ∀ j, a.add j = ⟨a.block, a.off + j, none⟩ := fun j => by
      rw [ha]; unfold Addr.add; split
      · rename_i e; subst e; rfl
      · rfl
     refine ⟨some a, len, cap, (List.range len).map fun i => if h : i < len then Classical.choose (each' i h) else Classical.choice inferInstance, rfl, by simp, by omega, hl, .inr ⟨a.block, a.off, by rw [← ha], ?_, ?_⟩, ?_⟩
     · obtain ⟨x, u, _, hc⟩ := first
       rw [hadd] at hc
       exact World.block_lt_of_cell? W ⟨a.block, a.off + (0 * S + 0), none⟩ hc
     · intro i x hx j u hju
       have hil : i < len := by
        have := (List.getElem?_eq_some_iff.1 hx).1
        simpa using this
       have hx' : Classical.choose (each' i hil) = x := by
        rw [List.getElem?_map, List.getElem?_range hil] at hx
        simpa [hil] using hx
       have hc := (Classical.choose_spec (each' i hil)).1
       rw [hx'] at hc
       have := hc j u hju
       rw [hadd, ← Nat.add_assoc] at this
       exact this
     · intro x hx
       obtain ⟨i, hi, rfl⟩ := List.mem_map.1 hx
       have hil : i < len := List.mem_range.1 hi
       rw [dif_pos hil]
       exact (Classical.choose_spec (each' i hil)).2
end
end Go.Proofs.YtldaoepemofhlaaGreatDoor
namespace Go.Proofs.YtldaoepemofhlaaGreatDoor
open Go Go.RowKit Go.ChangeShapes Go.WideShapes Go.ChangeAt Go.Joins Go.Deep
set_option maxRecDepth 100000
theorem maxlen_of {W : World} (h : W.ShapedOpen Tryz.prog) : ∃ m : Int, W.cell? ⟨0, 0, none⟩ = some (.int .i64 m) := Tryz.laysM155.s1_3 W h
theorem pow_of {W : World} (h : laidMetH Tryz.prog Rows.groupOneRow.laid W) : Lib.TabIs Tryz.prog W "internal/strconv.uint64pow10" .u64 Lib.pow10Tab := by
 rw [MakeChecks.laidMetH_plain _ _ _ (by kernel_rfl)] at h
 have hmem : ("internal/strconv.uint64pow10", Rows.laid_internal_strconv_uint64pow10) ∈ Rows.groupOneRow.laid := .tail _ (.tail _ (.head _))
 obtain ⟨g, t, cs, fuel, p, hg, ht, hvar, hd⟩ := Lib.laidMet.reads h hmem
 obtain rfl := Option.some.inj ((show Tryz.prog.globalNamed "internal/strconv.uint64pow10" = some 1 by kernel_rfl).symm.trans hg)
 obtain rfl := Option.some.inj ((show (Tryz.prog.globals[1]?).map (·.type) = some 166 by kernel_rfl).symm.trans ht)
 unfold Lib.TabIs
 rw [hvar, ← Lib.cells_of_tab (zs := Lib.pow10Tab) Tryz.underlying166 Tryz.underlying97 (by kernel_rfl) (by kernel_rfl) hd]
theorem gl_of {W : World} (h : laidMetH Tryz.prog Rows.groupOneRow.laid W) (hsh : W.ShapedOpen Tryz.prog) : Gl W := by
 have hT := pow_of h
 refine ⟨maxlen_of hsh, hT, ?_⟩
 unfold Lib.TabIs World.var? at hT
 have hn : Tryz.prog.globalNamed "internal/strconv.uint64pow10" = some 1 := by kernel_rfl
 rw [hn] at hT
 rcases Nat.lt_or_ge 1 W.heap.size with hlt | hge
 · exact hlt
 · simp only [Option.bind_some, Array.getElem?_eq_none hge] at hT
   cases hT
section
variable {H : Type} {enc : TypeId × Value → H}
instance : Nonempty Val := ⟨nl⟩
instance : Nonempty Hd := ⟨⟨none, 0, 0, []⟩⟩
theorem cells_val {W : World} {m : Nat} {cs : List Value} {z : DataW H × List MemPlace} (h : DataW.trod enc Tryz.prog W 0 (fun _ => true) true m 39 cs = some z) :
 ∃ x : Val, cs = [.int .i64 x.k, .int .i64 x.n, .string x.s] ∧ x.s.size ≤ maxLen ∧ -9223372036854775808 ≤ x.n ∧ x.n ≤ 9223372036854775807 := by
 obtain ⟨ys, n, _, _, hcl, hlen, hf⟩ := DataW.trod_struct Tryz.underlying39 h
 have h3 : Tryz.prog.cellsOf 39 = 3 := by kernel_rfl
 rw [h3] at hcl
 match cs, hcl with
 | [a, b, c], _ =>
   have get : ∀ (j : Nat) (hj : j < 3), ys[j]? = some (ys[j]'(by rw [hlen]; exact hj)) := fun j hj => List.getElem?_eq_getElem _
   have h0 := (hf 0 _ rfl).trans (get 0 (by omega))
   have h1 := (hf 1 _ rfl).trans (get 1 (by omega))
   have h2 := (hf 2 _ rfl).trans (get 2 (by omega))
   obtain ⟨k, e0, _, _⟩ := DataW.trod_int Tryz.underlying3 h0
   obtain ⟨x, e1, _, wx⟩ := DataW.trod_int Tryz.underlying3 h1
   obtain ⟨s, e2, _, hs⟩ := DataW.trod_string Tryz.underlying9 h2
   have c3 : Tryz.prog.cellsOf 3 = 1 := by kernel_rfl
   have c9 : Tryz.prog.cellsOf 9 = 1 := by kernel_rfl
   simp [c3, c9] at e0 e1 e2
   subst e0 e1 e2
   have hx : -9223372036854775808 ≤ x ∧ x ≤ 9223372036854775807 := by simpa [Lit.wf, IntKind.min, IntKind.max, IntKind.signed, IntKind.bits] using wx
   exact ⟨⟨k, x, s⟩, rfl, hs, hx⟩
theorem cells_row {W : World} {m : Nat} {cs : List Value} {z : DataW H × List MemPlace} (h : DataW.trod enc Tryz.prog W 0 (fun _ => true) true m 47 cs = some z) : ∃ x : Hd, cs = rdH x ∧ ∀ N : Int, -9223372036854775808 ≤ N → N ≤ 9223372036854775807 → Ct.In W ⟨x, N⟩ := by
 obtain ⟨A, n, c, xs, h1, h2, h3, h4, h5, h6⟩ := slice_cells (α := Val) Tryz.underlying47 (S := 3) (by kernel_rfl) (by decide) rdV (fun _ => rfl) (fun x => x.s.size ≤ maxLen ∧ -9223372036854775808 ≤ x.n ∧ x.n ≤ 9223372036854775807) (fun cs n z hz => cells_val hz) h
 exact ⟨⟨A, n, c, xs⟩, h1, fun N hN0 hN1 => ⟨⟨h2, h3, h5.sl⟩, fun x hx => (h6 x hx).1, fun x hx => (h6 x hx).2, ⟨hN0, hN1⟩, h4⟩⟩
theorem row_of {W : World} {base : Nat} {v : Value} {d : DataW H} {p : List MemPlace} (hv : Value.okWide Tryz.prog W .any base 47 v) (h : DataW.Trod enc Tryz.prog W 0 (fun _ => true) true 47 v d p) :
 ∃ x : Hd, v = x.v ∧ ∀ N : Int, -9223372036854775808 ≤ N → N ≤ 9223372036854775807 → Ct.In W ⟨x, N⟩ := by
 obtain ⟨A, n, c, xs, h1, h2, h3, h4, h5, h6⟩ := slice_gen (α := Val) Tryz.underlying47 (S := 3) (by kernel_rfl) (by decide) rdV (fun _ => rfl) (fun x => x.s.size ≤ maxLen ∧ -9223372036854775808 ≤ x.n ∧ x.n ≤ 9223372036854775807) (fun cs n z hz => cells_val hz) hv h
 exact ⟨⟨A, n, c, xs⟩, h1, fun N hN0 hN1 => ⟨⟨h2, h3, h5.sl⟩, fun x hx => (h6 x hx).1, fun x hx => (h6 x hx).2, ⟨hN0, hN1⟩, h4⟩⟩
instance : Nonempty Ct := ⟨⟨⟨none, 0, 0, []⟩, 0⟩⟩
theorem cells_ct {W : World} {m : Nat} {cs : List Value} {z : DataW H × List MemPlace} (h : DataW.trod enc Tryz.prog W 0 (fun _ => true) true m 49 cs = some z) : ∃ x : Ct, cs = rdC x ∧ Ct.In W x := by
 obtain ⟨ys, n, _, _, hcl, hlen, hf⟩ := DataW.trod_struct Tryz.underlying49 h
 have h3 : Tryz.prog.cellsOf 49 = 2 := by kernel_rfl
 rw [h3] at hcl
 match cs, hcl with
 | [a, b], _ =>
   have get : ∀ (j : Nat) (hj : j < 2), ys[j]? = some (ys[j]'(by rw [hlen]; exact hj)) := fun j hj => List.getElem?_eq_getElem _
   have h0 := (hf 0 _ rfl).trans (get 0 (by omega))
   have h1 := (hf 1 _ rfl).trans (get 1 (by omega))
   obtain ⟨x, e0, hx⟩ := cells_row h0
   obtain ⟨N, e1, _, wx⟩ := DataW.trod_int Tryz.underlying3 h1
   have c3 : Tryz.prog.cellsOf 3 = 1 := by kernel_rfl
   have cR : Tryz.prog.cellsOf 47 = 1 := by kernel_rfl
   simp [c3, cR, rdH] at e0 e1
   subst e0 e1
   have hN : -9223372036854775808 ≤ N ∧ N ≤ 9223372036854775807 := by simpa [Lit.wf, IntKind.min, IntKind.max, IntKind.signed, IntKind.bits] using wx
   exact ⟨⟨x, N⟩, rfl, hx N hN.1 hN.2⟩
theorem bag_of {W : World} {base : Nat} {v : Value} {d : DataW H} {p : List MemPlace} (hv : Value.okWide Tryz.prog W .any base 30 v) (h : DataW.Trod enc Tryz.prog W 0 (fun _ => true) true 30 v d p) :
 ∃ (A : Option Addr) (n c : Nat) (cs : List Ct), v = .slice A n c ∧ BgIn W A n cs := by
 obtain ⟨A, n, c, cs, h1, h2, h3, h4, h5, h6⟩ := slice_gen (α := Ct) Tryz.underlying30 (S := 2) (by kernel_rfl) (by decide) rdC (fun _ => rfl) (fun x => Ct.In W x) (fun cs n z hz => cells_ct hz) hv h
 exact ⟨A, n, c, cs, h1, ⟨h2, h3, h5, h6⟩⟩
theorem cells_int {W : World} {m : Nat} {cs : List Value} {z : DataW H × List MemPlace} (h : DataW.trod enc Tryz.prog W 0 (fun _ => true) true m 3 cs = some z) : ∃ x : Int, cs = rdI x ∧ True := by
 obtain ⟨o, e0, _, w0⟩ := DataW.trod_int Tryz.underlying3 h
 exact ⟨o, e0, trivial⟩
theorem cells_on {W : World} {m : Nat} {cs : List Value} {z : DataW H × List MemPlace} (h : DataW.trod enc Tryz.prog W 0 (fun _ => true) true m 22 cs = some z) : ∃ x y : Int, cs = [.int .i64 x, .int .i64 y] := by
 obtain ⟨ys, n, _, _, hcl, hlen, hf⟩ := DataW.trod_array Tryz.underlying22 h
 have c3 : Tryz.prog.cellsOf 3 = 1 := by kernel_rfl
 have hN : Tryz.prog.cellsOf 22 = 2 := by kernel_rfl
 rw [hN] at hcl
 match cs, hcl with
 | [a0, a1], _ =>
   have h0 := (hf 0 (by omega)).trans (List.getElem?_eq_getElem (by omega))
   have h1 := (hf 1 (by omega)).trans (List.getElem?_eq_getElem (by omega))
   obtain ⟨x, e0, _, w0⟩ := DataW.trod_int Tryz.underlying3 h0
   obtain ⟨y, e1, _, w1⟩ := DataW.trod_int Tryz.underlying3 h1
   simp [c3] at e0 e1
   subst e0 e1
   exact ⟨x, y, rfl⟩
instance : Nonempty (Int × Int) := ⟨(0, 0)⟩
theorem cells_ag {W : World} {m : Nat} {cs : List Value} {z : DataW H × List MemPlace} (h : DataW.trod enc Tryz.prog W 0 (fun _ => true) true m 32 cs = some z) : ∃ x : Int × Int, cs = rdA x ∧ True := by
 obtain ⟨ys, n, _, _, hcl, hlen, hf⟩ := DataW.trod_struct Tryz.underlying32 h
 have hN : Tryz.prog.cellsOf 32 = 2 := by kernel_rfl
 rw [hN] at hcl
 match cs, hcl with
 | [a0, a1], _ =>
   have get : ∀ (j : Nat) (hj : j < 2), ys[j]? = some (ys[j]'(by rw [hlen]; exact hj)) := fun j hj => List.getElem?_eq_getElem _
   have c3 : Tryz.prog.cellsOf 3 = 1 := by kernel_rfl
   have h0 := (hf 0 _ rfl).trans (get 0 (by omega))
   obtain ⟨x, e0, _, _⟩ := DataW.trod_int Tryz.underlying3 h0
   have h1 := (hf 1 _ rfl).trans (get 1 (by omega))
   obtain ⟨y, e1, _, _⟩ := DataW.trod_int Tryz.underlying3 h1
   simp [c3] at e0 e1
   subst e0 e1
   exact ⟨(x, y), rfl, trivial⟩
theorem agg_of {W : World} {base : Nat} {v : Value} {d : DataW H} {p : List MemPlace} (hv : Value.okWide Tryz.prog W .any base 32 v) (h : DataW.Trod enc Tryz.prog W 0 (fun _ => true) true 32 v d p) :
 ∃ x y : Int, v = .agg #[.int .i64 x, .int .i64 y] := by
 obtain ⟨cs, rfl, _⟩ := okWide_struct Tryz.underlying32 hv
 obtain ⟨fuel, hf⟩ := h
 obtain ⟨⟨x, y⟩, hx, _⟩ := cells_ag hf
 have e : cs.toList = [.int .i64 x, .int .i64 y] := hx
 exact ⟨x, y, by rw [show cs = #[.int .i64 x, .int .i64 y] from Array.toList_inj.1 e]⟩
theorem cells_some {W : World} {m : Nat} {T E : TypeId} {cs : List Value} {z : DataW H × List MemPlace} (hT : Tryz.prog.underlying T = some (.slice E)) (h : DataW.trod enc Tryz.prog W 0 (fun _ => true) true m T cs = some z) : ∃ (A : Option Addr) (n c : Nat), cs = [.slice A n c] ∧ n ≤ maxLen := by
 rcases DataW.trod_slice hT h with ⟨hc, _⟩ | ⟨a, len, cap, elems, rest, n', hl, hc, h3⟩
 · exact ⟨none, 0, 0, hc, Nat.zero_le _⟩
 · exact ⟨some a, len, cap, hc, by omega⟩
theorem cells_vw {W : World} {m : Nat} {cs : List Value} {z : DataW H × List MemPlace} (h : DataW.trod enc Tryz.prog W 0 (fun _ => true) true m 28 cs = some z) :
 ∃ x : Vq, cs = x.cells.toList ∧ Vq.In W x ∧ ∃ ags : List (Int × Int), SlG W x.aA 2 rdA ags ∧ ags.length = x.an := by
 obtain ⟨ys, n, _, _, hcl, hlen, hf⟩ := DataW.trod_struct Tryz.underlying28 h
 have hN : Tryz.prog.cellsOf 28 = 9 := by kernel_rfl
 rw [hN] at hcl
 match cs, hcl with
 | [a0, a1, a2, a3, a4, a5, a6, a7, a8], _ =>
   have get : ∀ (j : Nat) (hj : j < 8), ys[j]? = some (ys[j]'(by rw [hlen]; exact hj)) := fun j hj => List.getElem?_eq_getElem _
   have c9 : Tryz.prog.cellsOf 9 = 1 := by kernel_rfl
   have c4 : Tryz.prog.cellsOf 4 = 1 := by kernel_rfl
   have d0 : Tryz.prog.cellsOf 22 = 2 := by kernel_rfl
   have d1 : Tryz.prog.cellsOf 24 = 1 := by kernel_rfl
   have d2 : Tryz.prog.cellsOf 25 = 1 := by kernel_rfl
   have d3 : Tryz.prog.cellsOf 26 = 1 := by kernel_rfl
   have h0 := (hf 0 _ rfl).trans (get 0 (by omega))
   obtain ⟨nm, e0, _, w0⟩ := DataW.trod_string Tryz.underlying9 h0
   have h1 := (hf 1 _ rfl).trans (get 1 (by omega))
   obtain ⟨fr, e1, _, w1⟩ := DataW.trod_string Tryz.underlying9 h1
   have h2 := (hf 2 _ rfl).trans (get 2 (by omega))
   obtain ⟨wt, e2, _, w2⟩ := DataW.trod_string Tryz.underlying9 h2
   have h3 := (hf 3 _ rfl).trans (get 3 (by omega))
   obtain ⟨on0, on1, e3⟩ := cells_on h3
   have h4 := (hf 4 _ rfl).trans (get 4 (by omega))
   obtain ⟨eA, en, ec, e4, i5⟩ := cells_some Tryz.underlying24 h4
   have h5 := (hf 5 _ rfl).trans (get 5 (by omega))
   obtain ⟨pA, pn, pc, ps, e5, j4, j5, j6, j7, j8⟩ := slice_cells (α := Int) Tryz.underlying25 (S := 1) (by kernel_rfl) (by decide) rdI (fun _ => rfl) (fun _ => True) (fun cs n z hz => cells_int hz) h5
   have h6 := (hf 6 _ rfl).trans (get 6 (by omega))
   obtain ⟨gr, e6, _⟩ := DataW.trod_bool Tryz.underlying4 h6
   have h7 := (hf 7 _ rfl).trans (get 7 (by omega))
   obtain ⟨aA, an, ac, ags, e7, k4, k5, k6, k7, k8⟩ := slice_cells (α := Int × Int) Tryz.underlying26 (S := 2) (by kernel_rfl) (by decide) rdA (fun _ => rfl) (fun _ => True) (fun cs n z hz => cells_ag hz) h7
   simp [c9, c4, d0, d1, d2, d3] at e0 e1 e2 e3 e4 e5 e6 e7
   obtain ⟨rfl, rfl⟩ := e3
   subst e0 e1 e2 e4 e5 e6 e7
   exact ⟨⟨nm, fr, wt, on0, on1, eA, en, ec, List.replicate en ⟨0, 0, nl⟩, pA, pn, pc, ps, gr, aA, an, ac⟩, rfl, ⟨List.length_replicate, i5, trivial, fun y hy => by rw [(List.mem_replicate.1 hy).2]; exact Nat.zero_le _, j4, j5, j7⟩, ags, k7, k4⟩
theorem viewA_of {W : World} {base : Nat} {v : Value} {d : DataW H} {p : List MemPlace} (hv : Value.okWide Tryz.prog W .any base 28 v) (h : DataW.Trod enc Tryz.prog W 0 (fun _ => true) true 28 v d p) :
 ∃ x : Vq, v = x.w ∧ Vq.In W x ∧ ∃ ags : List (Int × Int), SlG W x.aA 2 rdA ags ∧ ags.length = x.an := by
 obtain ⟨cs, rfl, _⟩ := okWide_struct Tryz.underlying28 hv
 obtain ⟨fuel, hf⟩ := h
 obtain ⟨x, hx, h1, h2⟩ := cells_vw hf
 refine ⟨x, ?_, h1, h2⟩
 have e : cs = x.cells := by
  have : cs.toList = x.cells.toList := hx
  exact Array.toList_inj.1 this
 rw [e]
 rfl
theorem cells_bag {W : World} {m : Nat} {cs : List Value} {z : DataW H × List MemPlace} (h : DataW.trod enc Tryz.prog W 0 (fun _ => true) true m 30 cs = some z) : ∃ (A : Option Addr) (n c : Nat) (xs : List Ct), cs = [.slice A n c] ∧ BgIn W A n xs := by
 obtain ⟨A, n, c, xs, h1, h2, h3, h4, h5, h6⟩ := slice_cells (α := Ct) Tryz.underlying30 (S := 2) (by kernel_rfl) (by decide) rdC (fun _ => rfl) (fun x => Ct.In W x) (fun cs n z hz => cells_ct hz) h
 exact ⟨A, n, c, xs, h1, ⟨h2, h3, h5, h6⟩⟩
end
end Go.Proofs.YtldaoepemofhlaaGreatDoor
namespace Go.Proofs.YtldaoepemofhlaaGreatDoor
open Go Go.RowKit
set_option maxRecDepth 100000
set_option maxHeartbeats 4000000 in
theorem rboth_c (A B : Option Addr) (n m c d : Nat) (cs ds : List Ct) (P : Int) (w : World) (hA : BgIn w A n cs) (hB : BgIn w B m ds) (ha : Asc (pl cs)) (hn : n + m ≤ 100000) (h0 : 0 ≤ P) (hP : Bd P (pl cs)) (hQ : Bd 1000000000 (pl ds)) (hs : P + m * 1000000000 ≤ 9000000000000000000) :
 Calls Tryz.prog 21 #[.slice A n c, .slice B m d] w fun e w' => ∃ A' n' c' cs', e = .returned (.slice A' n' c') ∧ Below w.heap.size w w' ∧ BgIn w' A' n' cs' ∧ pl cs' = bothB (pl cs) (pl ds) ∧ Bd (P + m * 1000000000) (pl cs') ∧ n' ≤ n + m := by
 have HA := Lib.hid hA
 have HB := Lib.hid hB
 have Ha := Lib.hid ha
 have HP := Lib.hid hP
 have HQ := Lib.hid hQ
 have Hs := Lib.hid hs
 have H0 := Lib.hid h0
 clear hA hB ha hP hQ hs h0
 go_enter Tryz.func21, Tryz.ntmps21
 go_wp2_with fail
 go_loopw [0, 5] (fun v i wr => ∃ (k : Nat) (A' : Option Addr) (n' c' : Nat) (cs' : List Ct), k ≤ m ∧ i = .int .i64 k ∧ v = .slice A' n' c' ∧ Hid (Below w.heap.size w wr) ∧ Hid (BgIn wr A' n' cs') ∧ Hid (pl cs' = bothB (pl cs) ((pl ds).take k)) ∧ Hid (Bd (P + k * 1000000000) (pl cs')) ∧ Hid (n' ≤ n + k)) (fun _ i _ => m - (intOf i).toNat)
 case atStart => exact ⟨0, A, n, c, cs, Nat.zero_le _, rfl, rfl, Lib.hid (Below.refl _ _), HA, Lib.hid rfl, Lib.hid (by simpa using HP.out), Lib.hid (Nat.le_refl _)⟩
 case round =>
  obtain ⟨k, A', n', c', cs', hk, rfl, rfl, hb, hI, he, hd, hl⟩ := hrel
  by_cases hlt : k < m
  · obtain ⟨b, off, x, rfl, hblt, hx, c0, c1⟩ := HB.out.sl.at2 (k := k) (by rw [HB.out.len]; exact hlt)
    have d0 := (hb.out.cell (p := ⟨b, off + k * 2, none⟩) hblt).trans c0
    have d1 := (hb.out.cell (p := ⟨b, off + k * 2 + 1, none⟩) hblt).trans c1
    have l0 : b < wr.heap.size := Nat.lt_of_lt_of_le hblt hb.out.size
    have Hi := Lib.hid ((HB.out.each x (List.mem_of_getElem? hx)).after hb.out)
    have hq := HQ.out _ (pl_mem (List.mem_of_getElem? hx))
    simp only [] at hq
    have Hq := Lib.hid hq
    have Hx := Lib.hid (pl_at hx)
    have Has : Hid (Asc (pl cs')) := Lib.hid (by rw [he.out]; exact asc_both _ _ Ha.out)
    have H64 : Hid (∀ y ∈ cs', -9223372036854775808 ≤ x.N + y.N ∧ x.N + y.N ≤ 9223372036854775807) := Lib.hid fun y hy => by
     have h1 := hd.out _ (pl_mem hy)
     have h2 := Hs.out
     simp only [] at h1
     omega
    have Hn' : Hid (n' ≤ 100000) := Lib.hid (by have := hl.out; omega)
    have HS : Hid (∀ w' : World, Below w.heap.size w w' → w'.cell? ⟨b, off + k * 2, none⟩ = some (.slice x.h.A x.h.n x.h.c) ∧ w'.cell? ⟨b, off + k * 2 + 1, none⟩ = some (.int .i64 x.N)) := Lib.hid fun w' hb' => ⟨(hb'.cell hblt).trans c0, (hb'.cell hblt).trans c1⟩
    clear hx c0 c1 hblt hq
    obtain ⟨⟨xA, xn, xc, xs⟩, N⟩ := x
    simp only [] at d0 d1
    have hlt' : (k : Int) < m := by omega
    go_wp2_with fail
    go_region_held3 (fun w' => w'.cell? ⟨b, off + k * 2, none⟩ = some (.slice xA xn xc) ∧ w'.cell? ⟨b, off + k * 2 + 1, none⟩ = some (.int .i64 N)) (first | exact HS.out _ Hb2.out | go_keep)
     (first
       | (go_at_call 43
          refine (radd_c A' n' c' cs' ⟨xA, xn, xc, xs⟩ N _ (hI.out.after (Below.refl _ _).drew) (Hi.out.after (Below.refl _ _).drew) Has.out Hn'.out H64.out).mono ?_
          rintro en w2 ⟨A2, n2, c2, cs2, rfl, hb2, hI2, he2⟩
          have Hb2 := Lib.hid (hb.out.trans ((below_via (Below.refl _ _).drew hb2).mono hb.out.size))
          have HI2 := Lib.hid hI2
          have He2 := Lib.hid he2
          clear hb2 hI2 he2))
    go_wp2
    go_roundw
    case rel =>
     refine ⟨k + 1, A2, n2, c2, cs2, by omega, by go_num, rfl, Hb2, HI2, Lib.hid ?_, Lib.hid ?_, Lib.hid ?_⟩
     · rw [He2.out, he.out, both_take _ _ k _ Hx.out]
     · rw [He2.out]
       have h1 := bd_add (pl cs') xs N (P + k * 1000000000) 1000000000 hd.out (by have := H0.out; omega) Hq.out.1 Hq.out.2
       rw [show P + ((k + 1 : Nat) : Int) * 1000000000 = P + k * 1000000000 + 1000000000 by omega]
       exact h1
     · have h1 := len_add (pl cs') xs N
       rw [← He2.out, pl_len, pl_len, HI2.out.len, hI.out.len] at h1
       have := hl.out
       omega
    case measure => simp [intOf]; omega
  · obtain rfl : k = m := by omega
    have He : Hid (pl cs' = bothB (pl cs) (pl ds)) := Lib.hid (by
     have := he.out
     rw [List.take_of_length_le (by rw [pl_len, HB.out.len]; exact Nat.le_refl _)] at this
     exact this)
    clear he
    go_wp2
    go_ret
    exact ⟨A', n', c', cs', rfl, hb.out, hI.out, He.out, hd.out, hl.out⟩
namespace RegT
open Reg
section
variable {P : Program} {ops : Array Oper} {Q : Exit → Act → World → Prop} {see deps olds : Nat → List Nat} {fact : Nat → List Value → World → Prop}
end
section
variable {P : Program} {ops : Array Oper} {Q : Exit → Act → World → Prop}
end
end RegT
end Go.Proofs.YtldaoepemofhlaaGreatDoor
namespace Go.Proofs.YtldaoepemofhlaaGreatDoor
open Go Go.RowKit
set_option maxRecDepth 100000
theorem ev_fa {F : Act} {w : World} {b off d : Nat} {t s : Nat} {i : Nat} {o : Oper} (ho : o.op = .fieldAddr t (.tmp s) i) (ht : Reg.slot F s = .pointer (some ⟨b, off, none⟩)) (hr : (Instr.fieldAt t (.pointer (some ⟨b, off, none⟩)) i).run Tryz.prog w = .ok (.pointer (some ⟨b, d, none⟩)) w) :
 (execOp F.eval o).run Tryz.prog w = .ok (.value (.pointer (some ⟨b, d, none⟩))) w := by
 have e1 : F.eval (.tmp s) = .pointer (some ⟨b, off, none⟩) := ht
 simp only [execOp, ho, e1, Sem.run_bind, hr, Sem.run_pure, Result.andThen_ok]
theorem ev_ld {F : Act} {w : World} {b off : Nat} {t s : Nat} {v : Value} {o : Oper} (ho : o.op = .load t (.tmp s)) (ht : Reg.slot F s = .pointer (some ⟨b, off, none⟩)) (hr : (Instr.loadAt t (.pointer (some ⟨b, off, none⟩))).run Tryz.prog w = .ok v w) :
 (execOp F.eval o).run Tryz.prog w = .ok (.value v) w := by
 have e1 : F.eval (.tmp s) = .pointer (some ⟨b, off, none⟩) := ht
 simp only [execOp, ho, e1, Sem.run_bind, hr, Sem.run_pure, Result.andThen_ok]
theorem rint_c (n : Int) (w : World) : Calls Tryz.prog 24 #[.int .i64 n] w fun e w' => e = .returned (iv n).v ∧ Below w.heap.size w w' := by
 go_enter Tryz.func24, Tryz.ntmps24
 go_wp2
 exact bodyPost_ret (v := (iv n).v) (by simp [results, Tryz.results24, go_sem, iv]) rfl ⟨rfl, below_one _ _⟩
theorem most_c (w : World) : Calls Tryz.prog 25 #[] w fun e w' => e = .returned (.int .i64 9223372036854775807) ∧ Below w.heap.size w w' := by
 go_enter Tryz.func25, Tryz.ntmps25
 go_wp2
 go_ret
 exact ⟨rfl, Below.refl _ _⟩
set_option maxRecDepth 100000
def comp (x y : Val) (r : Int) (fits : Bool) : Val × Bool :=
 if x.k == 0 || y.k == 0 then (nl, true) else if x.k != 2 || y.k != 2 then (nl, false) else if fits then (iv r, true) else (nl, false)
theorem Bx.new2 (w : World) (a : Val) (o o' : Obj) : Bx (((w.alloc o).alloc o').alloc (.cells #[.int .i64 a.k, .int .i64 a.n, .string a.s] 39)) (w.heap.size + 2) a := by
 have := Bx.new ((w.alloc o).alloc o') a
 simpa using this
theorem below_three (w : World) (o o' o'' : Obj) : Below w.heap.size w (((w.alloc o).alloc o').alloc o'') := ((below_one _ _).alloc (by simp) _).alloc (by simp; omega) _
def addR (x y : Val) : Val × Bool := comp x y (wrap64 (x.n + y.n)) (decide (x.n < wrap64 (x.n + y.n)) == decide (0 < y.n))
namespace RegJ
open Reg
section
variable {P : Program} {ops : Array Oper} {Q : Exit → Act → World → Prop} {see deps olds : Nat → List Nat} {fact : Nat → List Value → World → Prop}
end
section
variable {P : Program} {ops : Array Oper} {Q : Exit → Act → World → Prop}
end
end RegJ
end Go.Proofs.YtldaoepemofhlaaGreatDoor
namespace Go.Proofs.YtldaoepemofhlaaGreatDoor
open Go Go.RowKit
set_option maxRecDepth 100000
theorem ret_valX {fn : Func} {R : Ending → World → Prop} {F : Act} {w : World} {t u : Tmp} {b : Nat} {a : Val} {z : Value} (hres : fn.results = #[.cell t 39, .tmp u]) (ht : Reg.slot F t = .pointer (some ⟨b, 0, none⟩)) (hu : Reg.slot F u = z) (hb : Bx w b a) (hd : F.defers = [])
 (hR : R (.returned (.tuple #[a.v, z])) w) : bodyPost Tryz.prog fn R .ret F w := by
 have h0 := hb.cell0
 have h1 := hb.cell1
 have h2 := hb.cell2
 refine bodyPost_ret (v := .tuple #[a.v, z]) ?_ hd hR
 have ht' : F.tmps[t]?.getD undef = .pointer (some ⟨b, 0, none⟩) := by simpa [Reg.slot] using ht
 have hu' : F.tmps[u]?.getD undef = z := by simpa [Reg.slot] using hu
 simp [results, hres, ht', hu', go_sem, h0, h1, h2]
def I6n (n : Int) : Prop := -9223372036854775808 ≤ n ∧ n ≤ 9223372036854775807
theorem rnulls_c (x y : Val) (w : World) : Calls Tryz.prog 40 #[x.v, y.v] w fun e w' => e = .returned (.bool (x.k == 0 || y.k == 0)) ∧ Below w.heap.size w w' := by
 cases h : x.k == 0
 · go_enter Tryz.func40, Tryz.ntmps40
   go_wp2
   go_ret
   exact ⟨rfl, below_two _ _ _⟩
 · go_enter Tryz.func40, Tryz.ntmps40
   go_wp2
   go_ret
   exact ⟨rfl, below_two _ _ _⟩
theorem rints_c (x y : Val) (w : World) : Calls Tryz.prog 41 #[x.v, y.v] w fun e w' => e = .returned (.bool (x.k == 2 && y.k == 2)) ∧ Below w.heap.size w w' := by
 cases h : x.k == 2
 · go_enter Tryz.func41, Tryz.ntmps41
   go_wp2
   go_ret
   exact ⟨rfl, below_two _ _ _⟩
 · go_enter Tryz.func41, Tryz.ntmps41
   go_wp2
   go_ret
   exact ⟨rfl, below_two _ _ _⟩
theorem least_c (w : World) : Calls Tryz.prog 42 #[] w fun e w' => e = .returned (.int .i64 (-9223372036854775808)) ∧ Below w.heap.size w w' := by
 go_enter Tryz.func42, Tryz.ntmps42
 go_wp2
 go_ret
 exact ⟨rfl, Below.refl _ _⟩
theorem enrInts : ∀ args w, (callFunc 41 args).run Tryz.prog w = .ok (.enter 41 args) w := fun _ _ => by kernel_rfl
theorem enrMost : ∀ args w, (callFunc 25 args).run Tryz.prog w = .ok (.enter 25 args) w := fun _ _ => by kernel_rfl
theorem enrLeast : ∀ args w, (callFunc 42 args).run Tryz.prog w = .ok (.enter 42 args) w := fun _ _ => by kernel_rfl
theorem fa_val1 (w : World) (b : Nat) : (Instr.fieldAt 39 (.pointer (some ⟨b, 0, none⟩)) 1).run Tryz.prog w = .ok (.pointer (some ⟨b, 1, none⟩)) w := by go_simp
theorem Bx.ldN {w : World} {b : Nat} {x : Val} (h : Bx w b x) : (Instr.loadAt 3 (.pointer (some ⟨b, 1, none⟩))).run Tryz.prog w = .ok (.int .i64 x.n) w := by
 have h0 := h.cell1
 go_simp
theorem ev_gtC {P : Program} {F : Act} {w : World} {t : Tmp} {k a : Int} {o : Oper} (ho : o.op = .binOp .gtr 3 (.tmp t) (.const (.int .i64 k)) 3) (ht : Reg.slot F t = .int .i64 a) :
 (execOp F.eval o).run P w = .ok (.value (.bool (decide (k < a)))) w := by
 have e1 : F.eval (.tmp t) = .int .i64 a := ht
 have e2 : F.eval (.const (.int .i64 k)) = .int .i64 k := rfl
 simp only [execOp, ho, e1, e2]
 simp [go_sem]
theorem ev_ltC {P : Program} {F : Act} {w : World} {t : Tmp} {k a : Int} {o : Oper} (ho : o.op = .binOp .lss 3 (.tmp t) (.const (.int .i64 k)) 3) (ht : Reg.slot F t = .int .i64 a) :
 (execOp F.eval o).run P w = .ok (.value (.bool (decide (a < k)))) w := by
 have e1 : F.eval (.tmp t) = .int .i64 a := ht
 have e2 : F.eval (.const (.int .i64 k)) = .int .i64 k := rfl
 simp only [execOp, ho, e1, e2]
 simp [go_sem]
theorem ev_gtT {F : Act} {w : World} {t u : Tmp} {a b : Int} {o : Oper} (ho : o.op = .binOp .gtr 3 (.tmp t) (.tmp u) 3) (ht : Reg.slot F t = .int .i64 a) (hu : Reg.slot F u = .int .i64 b) :
 (execOp F.eval o).run Tryz.prog w = .ok (.value (.bool (decide (b < a)))) w := by
 have e1 : F.eval (.tmp t) = .int .i64 a := ht
 have e2 : F.eval (.tmp u) = .int .i64 b := hu
 simp only [execOp, ho, e1, e2]
 simp [go_sem]
theorem ev_ltT {F : Act} {w : World} {t u : Tmp} {a b : Int} {o : Oper} (ho : o.op = .binOp .lss 3 (.tmp t) (.tmp u) 3) (ht : Reg.slot F t = .int .i64 a) (hu : Reg.slot F u = .int .i64 b) :
 (execOp F.eval o).run Tryz.prog w = .ok (.value (.bool (decide (a < b)))) w := by
 have e1 : F.eval (.tmp t) = .int .i64 a := ht
 have e2 : F.eval (.tmp u) = .int .i64 b := hu
 simp only [execOp, ho, e1, e2]
 simp [go_sem]
theorem ev_subT {F : Act} {w : World} {t u : Tmp} {a b : Int} {o : Oper} (ho : o.op = .binOp .sub 3 (.tmp t) (.tmp u) 3) (ht : Reg.slot F t = .int .i64 a) (hu : Reg.slot F u = .int .i64 b) :
 (execOp F.eval o).run Tryz.prog w = .ok (.value (.int .i64 (wrap64 (a - b)))) w := by
 have e1 : F.eval (.tmp t) = .int .i64 a := ht
 have e2 : F.eval (.tmp u) = .int .i64 b := hu
 simp only [execOp, ho, e1, e2]
 simp [go_sem]; rw [IntKind.wrap_i64]; unfold wrap64; rfl
theorem comp_ints (x y : Val) (r : Int) (f : Bool) (h0 : (x.k == 0 || y.k == 0) = false) (h : (x.k == 2 && y.k == 2) = true) : comp x y r f = if f then (iv r, true) else (nl, false) := by
 unfold comp
 rw [h0]
 simp only [Bool.and_eq_true] at h
 rw [bne, bne, h.1, h.2]
 rfl
theorem comp_none (x y : Val) (r : Int) (f : Bool) (h0 : (x.k == 0 || y.k == 0) = false) (h : (x.k == 2 && y.k == 2) = false) : comp x y r f = (nl, false) := by
 unfold comp
 rw [h0]
 have : (x.k != 2 || y.k != 2) = true := by
  rw [bne, bne]
  cases h1 : x.k == 2
  · rfl
  · rw [h1] at h
    simp at h ⊢
    exact h
 rw [this]
 rfl
theorem comp_nulls (x y : Val) (r : Int) (f : Bool) (h0 : (x.k == 0 || y.k == 0) = true) : comp x y r f = (nl, true) := by
 unfold comp
 rw [h0]
 rfl
theorem add_fit (x y : Int) (h : I6n (x + y)) : (decide (x < wrap64 (x + y)) == decide (0 < y)) = true ∧ wrap64 (x + y) = x + y := by
 unfold I6n at *
 have e : wrap64 (x + y) = x + y := by unfold wrap64; omega
 rw [e]
 refine ⟨?_, rfl⟩
 by_cases h0 : 0 < y
 · rw [decide_eq_true h0, decide_eq_true (by omega)]; rfl
 · rw [decide_eq_false h0, decide_eq_false (by omega)]; rfl
theorem add_over (x y : Int) (hx : I6n x) (hy : I6n y) (h : ¬ I6n (x + y)) : (decide (x < wrap64 (x + y)) == decide (0 < y)) = false := by
 unfold I6n at *
 by_cases h0 : 0 < y
 · rw [decide_eq_true h0, decide_eq_false (by unfold wrap64; omega)]; rfl
 · rw [decide_eq_false h0, decide_eq_true (by unfold wrap64; omega)]; rfl
set_option maxHeartbeats 1000000 in
theorem radd_I (x y : Val) (w : World) (h0 : (x.k == 0 || y.k == 0) = false) (h12 : (x.k == 2 && y.k == 2) = false) : Calls Tryz.prog 17 #[x.v, y.v] w fun e w' => e = .returned (.tuple #[((nl, false)).1.v, .bool ((nl, false)).2]) ∧ Below w.heap.size w w' := by
 have H12 := Lib.hid h12
 have H0 := Lib.hid h0
 clear h0 h12
 go_enter Tryz.func17, Tryz.ntmps17
 go_wp2_with fail
 refine (rnulls_c x y _).mono ?_
 rintro e w1 ⟨rfl, hb1⟩
 rw [H0.out]
 have b1 : Bx w1 w.heap.size x := (((Bx.new w x).alloc _).alloc _).after hb1
 have b2 : Bx w1 (w.heap.size + 1) y := ((Bx.new1 w y _).alloc _).after hb1
 have b3 : Bx w1 (w.heap.size + 2) nl := (Bx.new2 w nl _ _).after hb1
 have hb : Below w.heap.size w w1 := (below_three _ _ _ _).trans (hb1.mono (by simp; omega))
 clear hb1
 go_wp2_with fail
 have h12 := H12.out
 refine Reg.wp_region_vals mixed (by kernel_rfl) [(10, x.v), (11, y.v), (12, .bool false), (13, .bool true), (14, .bool true), (15, undef), (16, undef), (17, undef), (18, undef), (19, undef), (20, undef), (21, undef), (22, undef), (23, undef), (24, undef), (25, undef), (26, undef), (27, .bool true), (28, .bool true), (29, undef), (30, undef), (31, undef), (32, undef), (33, undef), (34, undef), (35, undef), (36, undef), (37, undef), (38, undef), (39, undef), (40, undef), (41, .bool true)] 49 rfl (by kernel_rfl) ?_ ?_
 · intro F hF w' hB'
   have bx := b1.after hB'
   have byy := b2.after hB'
   refine ⟨?_, ?_, ?_, ?_, ?_, ?_, ?_, ?_, ?_, ?_, ?_, ?_, ?_, ?_, ?_, ?_, ?_, ?_, ?_, ?_, ?_, ?_, ?_, ?_, ?_, ?_, ?_, ?_, ?_, ?_, ?_, ?_, trivial⟩
   · exact Reg.doesV_val (ev_load bx rfl (by rw [hF]; kernel_rfl)) (by rw [hF]; kernel_rfl) (by rw [hF]; kernel_rfl)
   · exact Reg.doesV_val (ev_load byy rfl (by rw [hF]; kernel_rfl)) (by rw [hF]; kernel_rfl) (by rw [hF]; kernel_rfl)
   · exact Reg.doesV_call (by have h := rints_c x y w'; rw [h12] at h; exact h) (ev_call enrInts rfl (by rw [hF]; kernel_rfl)) (by rw [hF]; kernel_rfl) (by rw [hF]; kernel_rfl)
   · exact Reg.doesV_val (ev_not false rfl (by rw [hF]; kernel_rfl)) (by rw [hF]; kernel_rfl) (by rw [hF]; kernel_rfl)
   · exact Reg.doesV_val (ev_move rfl) (by rw [hF]; kernel_rfl) (by rw [hF]; kernel_rfl)
   · exact Reg.doesV_skip (by rw [hF]; kernel_rfl) (by rw [hF]; kernel_rfl)
   · exact Reg.doesV_skip (by rw [hF]; kernel_rfl) (by rw [hF]; kernel_rfl)
   · exact Reg.doesV_skip (by rw [hF]; kernel_rfl) (by rw [hF]; kernel_rfl)
   · exact Reg.doesV_skip (by rw [hF]; kernel_rfl) (by rw [hF]; kernel_rfl)
   · exact Reg.doesV_skip (by rw [hF]; kernel_rfl) (by rw [hF]; kernel_rfl)
   · exact Reg.doesV_skip (by rw [hF]; kernel_rfl) (by rw [hF]; kernel_rfl)
   · exact Reg.doesV_skip (by rw [hF]; kernel_rfl) (by rw [hF]; kernel_rfl)
   · exact Reg.doesV_skip (by rw [hF]; kernel_rfl) (by rw [hF]; kernel_rfl)
   · exact Reg.doesV_skip (by rw [hF]; kernel_rfl) (by rw [hF]; kernel_rfl)
   · exact Reg.doesV_skip (by rw [hF]; kernel_rfl) (by rw [hF]; kernel_rfl)
   · exact Reg.doesV_skip (by rw [hF]; kernel_rfl) (by rw [hF]; kernel_rfl)
   · exact Reg.doesV_skip (by rw [hF]; kernel_rfl) (by rw [hF]; kernel_rfl)
   · exact Reg.doesV_val (ev_pick true rfl (by rw [hF]; kernel_rfl)) (by rw [hF]; kernel_rfl) (by rw [hF]; kernel_rfl)
   · exact Reg.doesV_val (ev_move rfl) (by rw [hF]; kernel_rfl) (by rw [hF]; kernel_rfl)
   · exact Reg.doesV_skip (by rw [hF]; kernel_rfl) (by rw [hF]; kernel_rfl)
   · exact Reg.doesV_skip (by rw [hF]; kernel_rfl) (by rw [hF]; kernel_rfl)
   · exact Reg.doesV_skip (by rw [hF]; kernel_rfl) (by rw [hF]; kernel_rfl)
   · exact Reg.doesV_skip (by rw [hF]; kernel_rfl) (by rw [hF]; kernel_rfl)
   · exact Reg.doesV_skip (by rw [hF]; kernel_rfl) (by rw [hF]; kernel_rfl)
   · exact Reg.doesV_skip (by rw [hF]; kernel_rfl) (by rw [hF]; kernel_rfl)
   · exact Reg.doesV_skip (by rw [hF]; kernel_rfl) (by rw [hF]; kernel_rfl)
   · exact Reg.doesV_skip (by rw [hF]; kernel_rfl) (by rw [hF]; kernel_rfl)
   · exact Reg.doesV_skip (by rw [hF]; kernel_rfl) (by rw [hF]; kernel_rfl)
   · exact Reg.doesV_skip (by rw [hF]; kernel_rfl) (by rw [hF]; kernel_rfl)
   · exact Reg.doesV_skip (by rw [hF]; kernel_rfl) (by rw [hF]; kernel_rfl)
   · exact Reg.doesV_skip (by rw [hF]; kernel_rfl) (by rw [hF]; kernel_rfl)
   · exact Reg.doesV_val (ev_pick true rfl (by rw [hF]; kernel_rfl)) (by rw [hF]; kernel_rfl) (by rw [hF]; kernel_rfl)
 · intro w2 hB'
   simp only [Reg.putAll, Act.put, List.setIfInBounds_toArray, List.set_cons_zero, List.set_cons_succ]
   clear h12
   have c1 := b1.after hB'
   have c2 := b2.after hB'
   have c3 := b3.after hB'
   have hb2 := hb.trans (hB'.mono hb.size)
   clear hB' b1 b2 b3 hb
   have g0 := c3.cell0
   have g1 := c3.cell1
   have g2 := c3.cell2
   have f0 := c3.frozen 0
   have f1 := c3.frozen 1
   have f2 := c3.frozen 2
   go_wp2
   exact ret_valX (a := nl) (z := .bool false) Tryz.results17 rfl rfl (c3.put nl) rfl ⟨rfl, put3_below hb2 (by omega) nl⟩
set_option maxHeartbeats 1000000 in
theorem radd_P1 (x y : Val) (w : World) (h0 : (x.k == 0 || y.k == 0) = false) (h12 : (x.k == 2 && y.k == 2) = true) (h17 : decide (0 < y.n) = true) (h25 : decide (wrap64 (9223372036854775807 - y.n) < x.n) = true) : Calls Tryz.prog 17 #[x.v, y.v] w fun e w' => e = .returned (.tuple #[((nl, false)).1.v, .bool ((nl, false)).2]) ∧ Below w.heap.size w w' := by
 have H12 := Lib.hid h12
 have H17 := Lib.hid h17
 have H25 := Lib.hid h25
 have H0 := Lib.hid h0
 clear h0 h12 h17 h25
 go_enter Tryz.func17, Tryz.ntmps17
 go_wp2_with fail
 refine (rnulls_c x y _).mono ?_
 rintro e w1 ⟨rfl, hb1⟩
 rw [H0.out]
 have b1 : Bx w1 w.heap.size x := (((Bx.new w x).alloc _).alloc _).after hb1
 have b2 : Bx w1 (w.heap.size + 1) y := ((Bx.new1 w y _).alloc _).after hb1
 have b3 : Bx w1 (w.heap.size + 2) nl := (Bx.new2 w nl _ _).after hb1
 have hb : Below w.heap.size w w1 := (below_three _ _ _ _).trans (hb1.mono (by simp; omega))
 clear hb1
 go_wp2_with fail
 have h12 := H12.out
 have h17 := H17.out
 have h25 := H25.out
 refine Reg.wp_region_vals mixed (by kernel_rfl) [(10, x.v), (11, y.v), (12, .bool true), (13, .bool false), (14, .bool false), (15, .pointer (some ⟨w.heap.size + 1, 1, none⟩)), (16, .int .i64 y.n), (17, .bool true), (18, .bool true), (19, .pointer (some ⟨w.heap.size, 1, none⟩)), (20, .int .i64 x.n), (21, .int .i64 9223372036854775807), (22, .pointer (some ⟨w.heap.size + 1, 1, none⟩)), (23, .int .i64 y.n), (24, .int .i64 (wrap64 (9223372036854775807 - y.n))), (25, .bool true), (26, .bool true), (27, .bool true), (28, .bool true), (29, undef), (30, undef), (31, undef), (32, undef), (33, undef), (34, undef), (35, undef), (36, undef), (37, undef), (38, undef), (39, undef), (40, undef), (41, .bool true)] 49 rfl (by kernel_rfl) ?_ ?_
 · intro F hF w' hB'
   have bx := b1.after hB'
   have byy := b2.after hB'
   refine ⟨?_, ?_, ?_, ?_, ?_, ?_, ?_, ?_, ?_, ?_, ?_, ?_, ?_, ?_, ?_, ?_, ?_, ?_, ?_, ?_, ?_, ?_, ?_, ?_, ?_, ?_, ?_, ?_, ?_, ?_, ?_, ?_, trivial⟩
   · exact Reg.doesV_val (ev_load bx rfl (by rw [hF]; kernel_rfl)) (by rw [hF]; kernel_rfl) (by rw [hF]; kernel_rfl)
   · exact Reg.doesV_val (ev_load byy rfl (by rw [hF]; kernel_rfl)) (by rw [hF]; kernel_rfl) (by rw [hF]; kernel_rfl)
   · exact Reg.doesV_call (by have h := rints_c x y w'; rw [h12] at h; exact h) (ev_call enrInts rfl (by rw [hF]; kernel_rfl)) (by rw [hF]; kernel_rfl) (by rw [hF]; kernel_rfl)
   · exact Reg.doesV_val (ev_not true rfl (by rw [hF]; kernel_rfl)) (by rw [hF]; kernel_rfl) (by rw [hF]; kernel_rfl)
   · exact Reg.doesV_val (ev_move rfl) (by rw [hF]; kernel_rfl) (by rw [hF]; kernel_rfl)
   · exact Reg.doesV_val (ev_fa rfl (by rw [hF]; kernel_rfl) (fa_val1 w' (w.heap.size + 1))) (by rw [hF]; kernel_rfl) (by rw [hF]; kernel_rfl)
   · exact Reg.doesV_val (ev_ld rfl (by rw [hF]; kernel_rfl) byy.ldN) (by rw [hF]; kernel_rfl) (by rw [hF]; kernel_rfl)
   · exact Reg.doesV_val (by rw [ev_gtC (a := y.n) rfl (by rw [hF]; kernel_rfl), h17]) (by rw [hF]; kernel_rfl) (by rw [hF]; kernel_rfl)
   · exact Reg.doesV_val (ev_move rfl) (by rw [hF]; kernel_rfl) (by rw [hF]; kernel_rfl)
   · exact Reg.doesV_val (ev_fa rfl (by rw [hF]; kernel_rfl) (fa_val1 w' w.heap.size)) (by rw [hF]; kernel_rfl) (by rw [hF]; kernel_rfl)
   · exact Reg.doesV_val (ev_ld rfl (by rw [hF]; kernel_rfl) bx.ldN) (by rw [hF]; kernel_rfl) (by rw [hF]; kernel_rfl)
   · exact Reg.doesV_call (most_c w') (ev_call enrMost rfl (by simp)) (by rw [hF]; kernel_rfl) (by rw [hF]; kernel_rfl)
   · exact Reg.doesV_val (ev_fa rfl (by rw [hF]; kernel_rfl) (fa_val1 w' (w.heap.size + 1))) (by rw [hF]; kernel_rfl) (by rw [hF]; kernel_rfl)
   · exact Reg.doesV_val (ev_ld rfl (by rw [hF]; kernel_rfl) byy.ldN) (by rw [hF]; kernel_rfl) (by rw [hF]; kernel_rfl)
   · exact Reg.doesV_val (ev_subT (a := 9223372036854775807) (b := y.n) rfl (by rw [hF]; kernel_rfl) (by rw [hF]; kernel_rfl)) (by rw [hF]; kernel_rfl) (by rw [hF]; kernel_rfl)
   · exact Reg.doesV_val (by rw [ev_gtT (a := x.n) (b := wrap64 (9223372036854775807 - y.n)) rfl (by rw [hF]; kernel_rfl) (by rw [hF]; kernel_rfl), h25]) (by rw [hF]; kernel_rfl) (by rw [hF]; kernel_rfl)
   · exact Reg.doesV_val (ev_pick true rfl (by rw [hF]; kernel_rfl)) (by rw [hF]; kernel_rfl) (by rw [hF]; kernel_rfl)
   · exact Reg.doesV_val (ev_pick false rfl (by rw [hF]; kernel_rfl)) (by rw [hF]; kernel_rfl) (by rw [hF]; kernel_rfl)
   · exact Reg.doesV_val (ev_move rfl) (by rw [hF]; kernel_rfl) (by rw [hF]; kernel_rfl)
   · exact Reg.doesV_skip (by rw [hF]; kernel_rfl) (by rw [hF]; kernel_rfl)
   · exact Reg.doesV_skip (by rw [hF]; kernel_rfl) (by rw [hF]; kernel_rfl)
   · exact Reg.doesV_skip (by rw [hF]; kernel_rfl) (by rw [hF]; kernel_rfl)
   · exact Reg.doesV_skip (by rw [hF]; kernel_rfl) (by rw [hF]; kernel_rfl)
   · exact Reg.doesV_skip (by rw [hF]; kernel_rfl) (by rw [hF]; kernel_rfl)
   · exact Reg.doesV_skip (by rw [hF]; kernel_rfl) (by rw [hF]; kernel_rfl)
   · exact Reg.doesV_skip (by rw [hF]; kernel_rfl) (by rw [hF]; kernel_rfl)
   · exact Reg.doesV_skip (by rw [hF]; kernel_rfl) (by rw [hF]; kernel_rfl)
   · exact Reg.doesV_skip (by rw [hF]; kernel_rfl) (by rw [hF]; kernel_rfl)
   · exact Reg.doesV_skip (by rw [hF]; kernel_rfl) (by rw [hF]; kernel_rfl)
   · exact Reg.doesV_skip (by rw [hF]; kernel_rfl) (by rw [hF]; kernel_rfl)
   · exact Reg.doesV_skip (by rw [hF]; kernel_rfl) (by rw [hF]; kernel_rfl)
   · exact Reg.doesV_val (ev_pick true rfl (by rw [hF]; kernel_rfl)) (by rw [hF]; kernel_rfl) (by rw [hF]; kernel_rfl)
 · intro w2 hB'
   simp only [Reg.putAll, Act.put, List.setIfInBounds_toArray, List.set_cons_zero, List.set_cons_succ]
   clear h12 h17 h25
   have c1 := b1.after hB'
   have c2 := b2.after hB'
   have c3 := b3.after hB'
   have hb2 := hb.trans (hB'.mono hb.size)
   clear hB' b1 b2 b3 hb
   have g0 := c3.cell0
   have g1 := c3.cell1
   have g2 := c3.cell2
   have f0 := c3.frozen 0
   have f1 := c3.frozen 1
   have f2 := c3.frozen 2
   go_wp2
   exact ret_valX (a := nl) (z := .bool false) Tryz.results17 rfl rfl (c3.put nl) rfl ⟨rfl, put3_below hb2 (by omega) nl⟩
set_option maxHeartbeats 1000000 in
theorem radd_P0 (x y : Val) (w : World) (h0 : (x.k == 0 || y.k == 0) = false) (h12 : (x.k == 2 && y.k == 2) = true) (h17 : decide (0 < y.n) = true) (h25 : decide (wrap64 (9223372036854775807 - y.n) < x.n) = false) (h31 : decide (y.n < 0) = false) : Calls Tryz.prog 17 #[x.v, y.v] w fun e w' => e = .returned (.tuple #[((iv (wrap64 (x.n + y.n)), true)).1.v, .bool ((iv (wrap64 (x.n + y.n)), true)).2]) ∧ Below w.heap.size w w' := by
 have H12 := Lib.hid h12
 have H17 := Lib.hid h17
 have H25 := Lib.hid h25
 have H31 := Lib.hid h31
 have H0 := Lib.hid h0
 clear h0 h12 h17 h25 h31
 go_enter Tryz.func17, Tryz.ntmps17
 go_wp2_with fail
 refine (rnulls_c x y _).mono ?_
 rintro e w1 ⟨rfl, hb1⟩
 rw [H0.out]
 have b1 : Bx w1 w.heap.size x := (((Bx.new w x).alloc _).alloc _).after hb1
 have b2 : Bx w1 (w.heap.size + 1) y := ((Bx.new1 w y _).alloc _).after hb1
 have b3 : Bx w1 (w.heap.size + 2) nl := (Bx.new2 w nl _ _).after hb1
 have hb : Below w.heap.size w w1 := (below_three _ _ _ _).trans (hb1.mono (by simp; omega))
 clear hb1
 go_wp2_with fail
 have h12 := H12.out
 have h17 := H17.out
 have h25 := H25.out
 have h31 := H31.out
 refine Reg.wp_region_vals mixed (by kernel_rfl) [(10, x.v), (11, y.v), (12, .bool true), (13, .bool false), (14, .bool false), (15, .pointer (some ⟨w.heap.size + 1, 1, none⟩)), (16, .int .i64 y.n), (17, .bool true), (18, .bool true), (19, .pointer (some ⟨w.heap.size, 1, none⟩)), (20, .int .i64 x.n), (21, .int .i64 9223372036854775807), (22, .pointer (some ⟨w.heap.size + 1, 1, none⟩)), (23, .int .i64 y.n), (24, .int .i64 (wrap64 (9223372036854775807 - y.n))), (25, .bool false), (26, .bool false), (27, .bool false), (28, .bool false), (29, .pointer (some ⟨w.heap.size + 1, 1, none⟩)), (30, .int .i64 y.n), (31, .bool false), (32, .bool false), (33, undef), (34, undef), (35, undef), (36, undef), (37, undef), (38, undef), (39, undef), (40, .bool false), (41, .bool false)] 49 rfl (by kernel_rfl) ?_ ?_
 · intro F hF w' hB'
   have bx := b1.after hB'
   have byy := b2.after hB'
   refine ⟨?_, ?_, ?_, ?_, ?_, ?_, ?_, ?_, ?_, ?_, ?_, ?_, ?_, ?_, ?_, ?_, ?_, ?_, ?_, ?_, ?_, ?_, ?_, ?_, ?_, ?_, ?_, ?_, ?_, ?_, ?_, ?_, trivial⟩
   · exact Reg.doesV_val (ev_load bx rfl (by rw [hF]; kernel_rfl)) (by rw [hF]; kernel_rfl) (by rw [hF]; kernel_rfl)
   · exact Reg.doesV_val (ev_load byy rfl (by rw [hF]; kernel_rfl)) (by rw [hF]; kernel_rfl) (by rw [hF]; kernel_rfl)
   · exact Reg.doesV_call (by have h := rints_c x y w'; rw [h12] at h; exact h) (ev_call enrInts rfl (by rw [hF]; kernel_rfl)) (by rw [hF]; kernel_rfl) (by rw [hF]; kernel_rfl)
   · exact Reg.doesV_val (ev_not true rfl (by rw [hF]; kernel_rfl)) (by rw [hF]; kernel_rfl) (by rw [hF]; kernel_rfl)
   · exact Reg.doesV_val (ev_move rfl) (by rw [hF]; kernel_rfl) (by rw [hF]; kernel_rfl)
   · exact Reg.doesV_val (ev_fa rfl (by rw [hF]; kernel_rfl) (fa_val1 w' (w.heap.size + 1))) (by rw [hF]; kernel_rfl) (by rw [hF]; kernel_rfl)
   · exact Reg.doesV_val (ev_ld rfl (by rw [hF]; kernel_rfl) byy.ldN) (by rw [hF]; kernel_rfl) (by rw [hF]; kernel_rfl)
   · exact Reg.doesV_val (by rw [ev_gtC (a := y.n) rfl (by rw [hF]; kernel_rfl), h17]) (by rw [hF]; kernel_rfl) (by rw [hF]; kernel_rfl)
   · exact Reg.doesV_val (ev_move rfl) (by rw [hF]; kernel_rfl) (by rw [hF]; kernel_rfl)
   · exact Reg.doesV_val (ev_fa rfl (by rw [hF]; kernel_rfl) (fa_val1 w' w.heap.size)) (by rw [hF]; kernel_rfl) (by rw [hF]; kernel_rfl)
   · exact Reg.doesV_val (ev_ld rfl (by rw [hF]; kernel_rfl) bx.ldN) (by rw [hF]; kernel_rfl) (by rw [hF]; kernel_rfl)
   · exact Reg.doesV_call (most_c w') (ev_call enrMost rfl (by simp)) (by rw [hF]; kernel_rfl) (by rw [hF]; kernel_rfl)
   · exact Reg.doesV_val (ev_fa rfl (by rw [hF]; kernel_rfl) (fa_val1 w' (w.heap.size + 1))) (by rw [hF]; kernel_rfl) (by rw [hF]; kernel_rfl)
   · exact Reg.doesV_val (ev_ld rfl (by rw [hF]; kernel_rfl) byy.ldN) (by rw [hF]; kernel_rfl) (by rw [hF]; kernel_rfl)
   · exact Reg.doesV_val (ev_subT (a := 9223372036854775807) (b := y.n) rfl (by rw [hF]; kernel_rfl) (by rw [hF]; kernel_rfl)) (by rw [hF]; kernel_rfl) (by rw [hF]; kernel_rfl)
   · exact Reg.doesV_val (by rw [ev_gtT (a := x.n) (b := wrap64 (9223372036854775807 - y.n)) rfl (by rw [hF]; kernel_rfl) (by rw [hF]; kernel_rfl), h25]) (by rw [hF]; kernel_rfl) (by rw [hF]; kernel_rfl)
   · exact Reg.doesV_val (ev_pick true rfl (by rw [hF]; kernel_rfl)) (by rw [hF]; kernel_rfl) (by rw [hF]; kernel_rfl)
   · exact Reg.doesV_val (ev_pick false rfl (by rw [hF]; kernel_rfl)) (by rw [hF]; kernel_rfl) (by rw [hF]; kernel_rfl)
   · exact Reg.doesV_val (ev_move rfl) (by rw [hF]; kernel_rfl) (by rw [hF]; kernel_rfl)
   · exact Reg.doesV_val (ev_fa rfl (by rw [hF]; kernel_rfl) (fa_val1 w' (w.heap.size + 1))) (by rw [hF]; kernel_rfl) (by rw [hF]; kernel_rfl)
   · exact Reg.doesV_val (ev_ld rfl (by rw [hF]; kernel_rfl) byy.ldN) (by rw [hF]; kernel_rfl) (by rw [hF]; kernel_rfl)
   · exact Reg.doesV_val (by rw [ev_ltC (a := y.n) rfl (by rw [hF]; kernel_rfl), h31]) (by rw [hF]; kernel_rfl) (by rw [hF]; kernel_rfl)
   · exact Reg.doesV_val (ev_move rfl) (by rw [hF]; kernel_rfl) (by rw [hF]; kernel_rfl)
   · exact Reg.doesV_skip (by rw [hF]; kernel_rfl) (by rw [hF]; kernel_rfl)
   · exact Reg.doesV_skip (by rw [hF]; kernel_rfl) (by rw [hF]; kernel_rfl)
   · exact Reg.doesV_skip (by rw [hF]; kernel_rfl) (by rw [hF]; kernel_rfl)
   · exact Reg.doesV_skip (by rw [hF]; kernel_rfl) (by rw [hF]; kernel_rfl)
   · exact Reg.doesV_skip (by rw [hF]; kernel_rfl) (by rw [hF]; kernel_rfl)
   · exact Reg.doesV_skip (by rw [hF]; kernel_rfl) (by rw [hF]; kernel_rfl)
   · exact Reg.doesV_skip (by rw [hF]; kernel_rfl) (by rw [hF]; kernel_rfl)
   · exact Reg.doesV_val (ev_pick false rfl (by rw [hF]; kernel_rfl)) (by rw [hF]; kernel_rfl) (by rw [hF]; kernel_rfl)
   · exact Reg.doesV_val (ev_pick false rfl (by rw [hF]; kernel_rfl)) (by rw [hF]; kernel_rfl) (by rw [hF]; kernel_rfl)
 · intro w2 hB'
   simp only [Reg.putAll, Act.put, List.setIfInBounds_toArray, List.set_cons_zero, List.set_cons_succ]
   clear h12 h17 h25 h31
   have c1 := b1.after hB'
   have c2 := b2.after hB'
   have c3 := b3.after hB'
   have hb2 := hb.trans (hB'.mono hb.size)
   clear hB' b1 b2 b3 hb
   have x1 := c1.cell1
   have y1 := c2.cell1
   go_wp2_with fail
   refine (rint_c _ _).mono ?_
   rintro e w3 ⟨rfl, hb3⟩
   have d3 := c3.after hb3
   have hb4 := hb2.trans (hb3.mono hb2.size)
   obtain ⟨R, hR⟩ : ∃ R, iv (wrap64 (x.n + y.n)) = R := ⟨_, rfl⟩
   rw [hR]
   have HR := Lib.hid hR
   clear hb3 hR x1 y1 c1 c2 c3
   have g0 := d3.cell0
   have g1 := d3.cell1
   have g2 := d3.cell2
   have f0 := d3.frozen 0
   have f1 := d3.frozen 1
   have f2 := d3.frozen 2
   go_wp2
   exact ret_valX (a := R) (z := .bool true) Tryz.results17 rfl rfl (d3.put R) rfl ⟨by rw [← HR.out], put3_below hb4 (by omega) R⟩
set_option maxHeartbeats 1000000 in
theorem radd_Q1 (x y : Val) (w : World) (h0 : (x.k == 0 || y.k == 0) = false) (h12 : (x.k == 2 && y.k == 2) = true) (h17 : decide (0 < y.n) = false) (h31 : decide (y.n < 0) = true) (h39 : decide (x.n < wrap64 ((-9223372036854775808) - y.n)) = true) : Calls Tryz.prog 17 #[x.v, y.v] w fun e w' => e = .returned (.tuple #[((nl, false)).1.v, .bool ((nl, false)).2]) ∧ Below w.heap.size w w' := by
 have H12 := Lib.hid h12
 have H17 := Lib.hid h17
 have H31 := Lib.hid h31
 have H39 := Lib.hid h39
 have H0 := Lib.hid h0
 clear h0 h12 h17 h31 h39
 go_enter Tryz.func17, Tryz.ntmps17
 go_wp2_with fail
 refine (rnulls_c x y _).mono ?_
 rintro e w1 ⟨rfl, hb1⟩
 rw [H0.out]
 have b1 : Bx w1 w.heap.size x := (((Bx.new w x).alloc _).alloc _).after hb1
 have b2 : Bx w1 (w.heap.size + 1) y := ((Bx.new1 w y _).alloc _).after hb1
 have b3 : Bx w1 (w.heap.size + 2) nl := (Bx.new2 w nl _ _).after hb1
 have hb : Below w.heap.size w w1 := (below_three _ _ _ _).trans (hb1.mono (by simp; omega))
 clear hb1
 go_wp2_with fail
 have h12 := H12.out
 have h17 := H17.out
 have h31 := H31.out
 have h39 := H39.out
 refine Reg.wp_region_vals mixed (by kernel_rfl) [(10, x.v), (11, y.v), (12, .bool true), (13, .bool false), (14, .bool false), (15, .pointer (some ⟨w.heap.size + 1, 1, none⟩)), (16, .int .i64 y.n), (17, .bool false), (18, .bool false), (19, undef), (20, undef), (21, undef), (22, undef), (23, undef), (24, undef), (25, undef), (26, .bool false), (27, .bool false), (28, .bool false), (29, .pointer (some ⟨w.heap.size + 1, 1, none⟩)), (30, .int .i64 y.n), (31, .bool true), (32, .bool true), (33, .pointer (some ⟨w.heap.size, 1, none⟩)), (34, .int .i64 x.n), (35, .int .i64 (-9223372036854775808)), (36, .pointer (some ⟨w.heap.size + 1, 1, none⟩)), (37, .int .i64 y.n), (38, .int .i64 (wrap64 ((-9223372036854775808) - y.n))), (39, .bool true), (40, .bool true), (41, .bool true)] 49 rfl (by kernel_rfl) ?_ ?_
 · intro F hF w' hB'
   have bx := b1.after hB'
   have byy := b2.after hB'
   refine ⟨?_, ?_, ?_, ?_, ?_, ?_, ?_, ?_, ?_, ?_, ?_, ?_, ?_, ?_, ?_, ?_, ?_, ?_, ?_, ?_, ?_, ?_, ?_, ?_, ?_, ?_, ?_, ?_, ?_, ?_, ?_, ?_, trivial⟩
   · exact Reg.doesV_val (ev_load bx rfl (by rw [hF]; kernel_rfl)) (by rw [hF]; kernel_rfl) (by rw [hF]; kernel_rfl)
   · exact Reg.doesV_val (ev_load byy rfl (by rw [hF]; kernel_rfl)) (by rw [hF]; kernel_rfl) (by rw [hF]; kernel_rfl)
   · exact Reg.doesV_call (by have h := rints_c x y w'; rw [h12] at h; exact h) (ev_call enrInts rfl (by rw [hF]; kernel_rfl)) (by rw [hF]; kernel_rfl) (by rw [hF]; kernel_rfl)
   · exact Reg.doesV_val (ev_not true rfl (by rw [hF]; kernel_rfl)) (by rw [hF]; kernel_rfl) (by rw [hF]; kernel_rfl)
   · exact Reg.doesV_val (ev_move rfl) (by rw [hF]; kernel_rfl) (by rw [hF]; kernel_rfl)
   · exact Reg.doesV_val (ev_fa rfl (by rw [hF]; kernel_rfl) (fa_val1 w' (w.heap.size + 1))) (by rw [hF]; kernel_rfl) (by rw [hF]; kernel_rfl)
   · exact Reg.doesV_val (ev_ld rfl (by rw [hF]; kernel_rfl) byy.ldN) (by rw [hF]; kernel_rfl) (by rw [hF]; kernel_rfl)
   · exact Reg.doesV_val (by rw [ev_gtC (a := y.n) rfl (by rw [hF]; kernel_rfl), h17]) (by rw [hF]; kernel_rfl) (by rw [hF]; kernel_rfl)
   · exact Reg.doesV_val (ev_move rfl) (by rw [hF]; kernel_rfl) (by rw [hF]; kernel_rfl)
   · exact Reg.doesV_skip (by rw [hF]; kernel_rfl) (by rw [hF]; kernel_rfl)
   · exact Reg.doesV_skip (by rw [hF]; kernel_rfl) (by rw [hF]; kernel_rfl)
   · exact Reg.doesV_skip (by rw [hF]; kernel_rfl) (by rw [hF]; kernel_rfl)
   · exact Reg.doesV_skip (by rw [hF]; kernel_rfl) (by rw [hF]; kernel_rfl)
   · exact Reg.doesV_skip (by rw [hF]; kernel_rfl) (by rw [hF]; kernel_rfl)
   · exact Reg.doesV_skip (by rw [hF]; kernel_rfl) (by rw [hF]; kernel_rfl)
   · exact Reg.doesV_skip (by rw [hF]; kernel_rfl) (by rw [hF]; kernel_rfl)
   · exact Reg.doesV_val (ev_pick false rfl (by rw [hF]; kernel_rfl)) (by rw [hF]; kernel_rfl) (by rw [hF]; kernel_rfl)
   · exact Reg.doesV_val (ev_pick false rfl (by rw [hF]; kernel_rfl)) (by rw [hF]; kernel_rfl) (by rw [hF]; kernel_rfl)
   · exact Reg.doesV_val (ev_move rfl) (by rw [hF]; kernel_rfl) (by rw [hF]; kernel_rfl)
   · exact Reg.doesV_val (ev_fa rfl (by rw [hF]; kernel_rfl) (fa_val1 w' (w.heap.size + 1))) (by rw [hF]; kernel_rfl) (by rw [hF]; kernel_rfl)
   · exact Reg.doesV_val (ev_ld rfl (by rw [hF]; kernel_rfl) byy.ldN) (by rw [hF]; kernel_rfl) (by rw [hF]; kernel_rfl)
   · exact Reg.doesV_val (by rw [ev_ltC (a := y.n) rfl (by rw [hF]; kernel_rfl), h31]) (by rw [hF]; kernel_rfl) (by rw [hF]; kernel_rfl)
   · exact Reg.doesV_val (ev_move rfl) (by rw [hF]; kernel_rfl) (by rw [hF]; kernel_rfl)
   · exact Reg.doesV_val (ev_fa rfl (by rw [hF]; kernel_rfl) (fa_val1 w' w.heap.size)) (by rw [hF]; kernel_rfl) (by rw [hF]; kernel_rfl)
   · exact Reg.doesV_val (ev_ld rfl (by rw [hF]; kernel_rfl) bx.ldN) (by rw [hF]; kernel_rfl) (by rw [hF]; kernel_rfl)
   · exact Reg.doesV_call (least_c w') (ev_call enrLeast rfl (by simp)) (by rw [hF]; kernel_rfl) (by rw [hF]; kernel_rfl)
   · exact Reg.doesV_val (ev_fa rfl (by rw [hF]; kernel_rfl) (fa_val1 w' (w.heap.size + 1))) (by rw [hF]; kernel_rfl) (by rw [hF]; kernel_rfl)
   · exact Reg.doesV_val (ev_ld rfl (by rw [hF]; kernel_rfl) byy.ldN) (by rw [hF]; kernel_rfl) (by rw [hF]; kernel_rfl)
   · exact Reg.doesV_val (ev_subT (a := (-9223372036854775808)) (b := y.n) rfl (by rw [hF]; kernel_rfl) (by rw [hF]; kernel_rfl)) (by rw [hF]; kernel_rfl) (by rw [hF]; kernel_rfl)
   · exact Reg.doesV_val (by rw [ev_ltT (a := x.n) (b := wrap64 ((-9223372036854775808) - y.n)) rfl (by rw [hF]; kernel_rfl) (by rw [hF]; kernel_rfl), h39]) (by rw [hF]; kernel_rfl) (by rw [hF]; kernel_rfl)
   · exact Reg.doesV_val (ev_pick true rfl (by rw [hF]; kernel_rfl)) (by rw [hF]; kernel_rfl) (by rw [hF]; kernel_rfl)
   · exact Reg.doesV_val (ev_pick false rfl (by rw [hF]; kernel_rfl)) (by rw [hF]; kernel_rfl) (by rw [hF]; kernel_rfl)
 · intro w2 hB'
   simp only [Reg.putAll, Act.put, List.setIfInBounds_toArray, List.set_cons_zero, List.set_cons_succ]
   clear h12 h17 h31 h39
   have c1 := b1.after hB'
   have c2 := b2.after hB'
   have c3 := b3.after hB'
   have hb2 := hb.trans (hB'.mono hb.size)
   clear hB' b1 b2 b3 hb
   have g0 := c3.cell0
   have g1 := c3.cell1
   have g2 := c3.cell2
   have f0 := c3.frozen 0
   have f1 := c3.frozen 1
   have f2 := c3.frozen 2
   go_wp2
   exact ret_valX (a := nl) (z := .bool false) Tryz.results17 rfl rfl (c3.put nl) rfl ⟨rfl, put3_below hb2 (by omega) nl⟩
set_option maxHeartbeats 1000000 in
theorem radd_Q0 (x y : Val) (w : World) (h0 : (x.k == 0 || y.k == 0) = false) (h12 : (x.k == 2 && y.k == 2) = true) (h17 : decide (0 < y.n) = false) (h31 : decide (y.n < 0) = true) (h39 : decide (x.n < wrap64 ((-9223372036854775808) - y.n)) = false) : Calls Tryz.prog 17 #[x.v, y.v] w fun e w' => e = .returned (.tuple #[((iv (wrap64 (x.n + y.n)), true)).1.v, .bool ((iv (wrap64 (x.n + y.n)), true)).2]) ∧ Below w.heap.size w w' := by
 have H12 := Lib.hid h12
 have H17 := Lib.hid h17
 have H31 := Lib.hid h31
 have H39 := Lib.hid h39
 have H0 := Lib.hid h0
 clear h0 h12 h17 h31 h39
 go_enter Tryz.func17, Tryz.ntmps17
 go_wp2_with fail
 refine (rnulls_c x y _).mono ?_
 rintro e w1 ⟨rfl, hb1⟩
 rw [H0.out]
 have b1 : Bx w1 w.heap.size x := (((Bx.new w x).alloc _).alloc _).after hb1
 have b2 : Bx w1 (w.heap.size + 1) y := ((Bx.new1 w y _).alloc _).after hb1
 have b3 : Bx w1 (w.heap.size + 2) nl := (Bx.new2 w nl _ _).after hb1
 have hb : Below w.heap.size w w1 := (below_three _ _ _ _).trans (hb1.mono (by simp; omega))
 clear hb1
 go_wp2_with fail
 have h12 := H12.out
 have h17 := H17.out
 have h31 := H31.out
 have h39 := H39.out
 refine Reg.wp_region_vals mixed (by kernel_rfl) [(10, x.v), (11, y.v), (12, .bool true), (13, .bool false), (14, .bool false), (15, .pointer (some ⟨w.heap.size + 1, 1, none⟩)), (16, .int .i64 y.n), (17, .bool false), (18, .bool false), (19, undef), (20, undef), (21, undef), (22, undef), (23, undef), (24, undef), (25, undef), (26, .bool false), (27, .bool false), (28, .bool false), (29, .pointer (some ⟨w.heap.size + 1, 1, none⟩)), (30, .int .i64 y.n), (31, .bool true), (32, .bool true), (33, .pointer (some ⟨w.heap.size, 1, none⟩)), (34, .int .i64 x.n), (35, .int .i64 (-9223372036854775808)), (36, .pointer (some ⟨w.heap.size + 1, 1, none⟩)), (37, .int .i64 y.n), (38, .int .i64 (wrap64 ((-9223372036854775808) - y.n))), (39, .bool false), (40, .bool false), (41, .bool false)] 49 rfl (by kernel_rfl) ?_ ?_
 · intro F hF w' hB'
   have bx := b1.after hB'
   have byy := b2.after hB'
   refine ⟨?_, ?_, ?_, ?_, ?_, ?_, ?_, ?_, ?_, ?_, ?_, ?_, ?_, ?_, ?_, ?_, ?_, ?_, ?_, ?_, ?_, ?_, ?_, ?_, ?_, ?_, ?_, ?_, ?_, ?_, ?_, ?_, trivial⟩
   · exact Reg.doesV_val (ev_load bx rfl (by rw [hF]; kernel_rfl)) (by rw [hF]; kernel_rfl) (by rw [hF]; kernel_rfl)
   · exact Reg.doesV_val (ev_load byy rfl (by rw [hF]; kernel_rfl)) (by rw [hF]; kernel_rfl) (by rw [hF]; kernel_rfl)
   · exact Reg.doesV_call (by have h := rints_c x y w'; rw [h12] at h; exact h) (ev_call enrInts rfl (by rw [hF]; kernel_rfl)) (by rw [hF]; kernel_rfl) (by rw [hF]; kernel_rfl)
   · exact Reg.doesV_val (ev_not true rfl (by rw [hF]; kernel_rfl)) (by rw [hF]; kernel_rfl) (by rw [hF]; kernel_rfl)
   · exact Reg.doesV_val (ev_move rfl) (by rw [hF]; kernel_rfl) (by rw [hF]; kernel_rfl)
   · exact Reg.doesV_val (ev_fa rfl (by rw [hF]; kernel_rfl) (fa_val1 w' (w.heap.size + 1))) (by rw [hF]; kernel_rfl) (by rw [hF]; kernel_rfl)
   · exact Reg.doesV_val (ev_ld rfl (by rw [hF]; kernel_rfl) byy.ldN) (by rw [hF]; kernel_rfl) (by rw [hF]; kernel_rfl)
   · exact Reg.doesV_val (by rw [ev_gtC (a := y.n) rfl (by rw [hF]; kernel_rfl), h17]) (by rw [hF]; kernel_rfl) (by rw [hF]; kernel_rfl)
   · exact Reg.doesV_val (ev_move rfl) (by rw [hF]; kernel_rfl) (by rw [hF]; kernel_rfl)
   · exact Reg.doesV_skip (by rw [hF]; kernel_rfl) (by rw [hF]; kernel_rfl)
   · exact Reg.doesV_skip (by rw [hF]; kernel_rfl) (by rw [hF]; kernel_rfl)
   · exact Reg.doesV_skip (by rw [hF]; kernel_rfl) (by rw [hF]; kernel_rfl)
   · exact Reg.doesV_skip (by rw [hF]; kernel_rfl) (by rw [hF]; kernel_rfl)
   · exact Reg.doesV_skip (by rw [hF]; kernel_rfl) (by rw [hF]; kernel_rfl)
   · exact Reg.doesV_skip (by rw [hF]; kernel_rfl) (by rw [hF]; kernel_rfl)
   · exact Reg.doesV_skip (by rw [hF]; kernel_rfl) (by rw [hF]; kernel_rfl)
   · exact Reg.doesV_val (ev_pick false rfl (by rw [hF]; kernel_rfl)) (by rw [hF]; kernel_rfl) (by rw [hF]; kernel_rfl)
   · exact Reg.doesV_val (ev_pick false rfl (by rw [hF]; kernel_rfl)) (by rw [hF]; kernel_rfl) (by rw [hF]; kernel_rfl)
   · exact Reg.doesV_val (ev_move rfl) (by rw [hF]; kernel_rfl) (by rw [hF]; kernel_rfl)
   · exact Reg.doesV_val (ev_fa rfl (by rw [hF]; kernel_rfl) (fa_val1 w' (w.heap.size + 1))) (by rw [hF]; kernel_rfl) (by rw [hF]; kernel_rfl)
   · exact Reg.doesV_val (ev_ld rfl (by rw [hF]; kernel_rfl) byy.ldN) (by rw [hF]; kernel_rfl) (by rw [hF]; kernel_rfl)
   · exact Reg.doesV_val (by rw [ev_ltC (a := y.n) rfl (by rw [hF]; kernel_rfl), h31]) (by rw [hF]; kernel_rfl) (by rw [hF]; kernel_rfl)
   · exact Reg.doesV_val (ev_move rfl) (by rw [hF]; kernel_rfl) (by rw [hF]; kernel_rfl)
   · exact Reg.doesV_val (ev_fa rfl (by rw [hF]; kernel_rfl) (fa_val1 w' w.heap.size)) (by rw [hF]; kernel_rfl) (by rw [hF]; kernel_rfl)
   · exact Reg.doesV_val (ev_ld rfl (by rw [hF]; kernel_rfl) bx.ldN) (by rw [hF]; kernel_rfl) (by rw [hF]; kernel_rfl)
   · exact Reg.doesV_call (least_c w') (ev_call enrLeast rfl (by simp)) (by rw [hF]; kernel_rfl) (by rw [hF]; kernel_rfl)
   · exact Reg.doesV_val (ev_fa rfl (by rw [hF]; kernel_rfl) (fa_val1 w' (w.heap.size + 1))) (by rw [hF]; kernel_rfl) (by rw [hF]; kernel_rfl)
   · exact Reg.doesV_val (ev_ld rfl (by rw [hF]; kernel_rfl) byy.ldN) (by rw [hF]; kernel_rfl) (by rw [hF]; kernel_rfl)
   · exact Reg.doesV_val (ev_subT (a := (-9223372036854775808)) (b := y.n) rfl (by rw [hF]; kernel_rfl) (by rw [hF]; kernel_rfl)) (by rw [hF]; kernel_rfl) (by rw [hF]; kernel_rfl)
   · exact Reg.doesV_val (by rw [ev_ltT (a := x.n) (b := wrap64 ((-9223372036854775808) - y.n)) rfl (by rw [hF]; kernel_rfl) (by rw [hF]; kernel_rfl), h39]) (by rw [hF]; kernel_rfl) (by rw [hF]; kernel_rfl)
   · exact Reg.doesV_val (ev_pick true rfl (by rw [hF]; kernel_rfl)) (by rw [hF]; kernel_rfl) (by rw [hF]; kernel_rfl)
   · exact Reg.doesV_val (ev_pick false rfl (by rw [hF]; kernel_rfl)) (by rw [hF]; kernel_rfl) (by rw [hF]; kernel_rfl)
 · intro w2 hB'
   simp only [Reg.putAll, Act.put, List.setIfInBounds_toArray, List.set_cons_zero, List.set_cons_succ]
   clear h12 h17 h31 h39
   have c1 := b1.after hB'
   have c2 := b2.after hB'
   have c3 := b3.after hB'
   have hb2 := hb.trans (hB'.mono hb.size)
   clear hB' b1 b2 b3 hb
   have x1 := c1.cell1
   have y1 := c2.cell1
   go_wp2_with fail
   refine (rint_c _ _).mono ?_
   rintro e w3 ⟨rfl, hb3⟩
   have d3 := c3.after hb3
   have hb4 := hb2.trans (hb3.mono hb2.size)
   obtain ⟨R, hR⟩ : ∃ R, iv (wrap64 (x.n + y.n)) = R := ⟨_, rfl⟩
   rw [hR]
   have HR := Lib.hid hR
   clear hb3 hR x1 y1 c1 c2 c3
   have g0 := d3.cell0
   have g1 := d3.cell1
   have g2 := d3.cell2
   have f0 := d3.frozen 0
   have f1 := d3.frozen 1
   have f2 := d3.frozen 2
   go_wp2
   exact ret_valX (a := R) (z := .bool true) Tryz.results17 rfl rfl (d3.put R) rfl ⟨by rw [← HR.out], put3_below hb4 (by omega) R⟩
set_option maxHeartbeats 1000000 in
theorem radd_Z (x y : Val) (w : World) (h0 : (x.k == 0 || y.k == 0) = false) (h12 : (x.k == 2 && y.k == 2) = true) (h17 : decide (0 < y.n) = false) (h31 : decide (y.n < 0) = false) : Calls Tryz.prog 17 #[x.v, y.v] w fun e w' => e = .returned (.tuple #[((iv (wrap64 (x.n + y.n)), true)).1.v, .bool ((iv (wrap64 (x.n + y.n)), true)).2]) ∧ Below w.heap.size w w' := by
 have H12 := Lib.hid h12
 have H17 := Lib.hid h17
 have H31 := Lib.hid h31
 have H0 := Lib.hid h0
 clear h0 h12 h17 h31
 go_enter Tryz.func17, Tryz.ntmps17
 go_wp2_with fail
 refine (rnulls_c x y _).mono ?_
 rintro e w1 ⟨rfl, hb1⟩
 rw [H0.out]
 have b1 : Bx w1 w.heap.size x := (((Bx.new w x).alloc _).alloc _).after hb1
 have b2 : Bx w1 (w.heap.size + 1) y := ((Bx.new1 w y _).alloc _).after hb1
 have b3 : Bx w1 (w.heap.size + 2) nl := (Bx.new2 w nl _ _).after hb1
 have hb : Below w.heap.size w w1 := (below_three _ _ _ _).trans (hb1.mono (by simp; omega))
 clear hb1
 go_wp2_with fail
 have h12 := H12.out
 have h17 := H17.out
 have h31 := H31.out
 refine Reg.wp_region_vals mixed (by kernel_rfl) [(10, x.v), (11, y.v), (12, .bool true), (13, .bool false), (14, .bool false), (15, .pointer (some ⟨w.heap.size + 1, 1, none⟩)), (16, .int .i64 y.n), (17, .bool false), (18, .bool false), (19, undef), (20, undef), (21, undef), (22, undef), (23, undef), (24, undef), (25, undef), (26, .bool false), (27, .bool false), (28, .bool false), (29, .pointer (some ⟨w.heap.size + 1, 1, none⟩)), (30, .int .i64 y.n), (31, .bool false), (32, .bool false), (33, undef), (34, undef), (35, undef), (36, undef), (37, undef), (38, undef), (39, undef), (40, .bool false), (41, .bool false)] 49 rfl (by kernel_rfl) ?_ ?_
 · intro F hF w' hB'
   have bx := b1.after hB'
   have byy := b2.after hB'
   refine ⟨?_, ?_, ?_, ?_, ?_, ?_, ?_, ?_, ?_, ?_, ?_, ?_, ?_, ?_, ?_, ?_, ?_, ?_, ?_, ?_, ?_, ?_, ?_, ?_, ?_, ?_, ?_, ?_, ?_, ?_, ?_, ?_, trivial⟩
   · exact Reg.doesV_val (ev_load bx rfl (by rw [hF]; kernel_rfl)) (by rw [hF]; kernel_rfl) (by rw [hF]; kernel_rfl)
   · exact Reg.doesV_val (ev_load byy rfl (by rw [hF]; kernel_rfl)) (by rw [hF]; kernel_rfl) (by rw [hF]; kernel_rfl)
   · exact Reg.doesV_call (by have h := rints_c x y w'; rw [h12] at h; exact h) (ev_call enrInts rfl (by rw [hF]; kernel_rfl)) (by rw [hF]; kernel_rfl) (by rw [hF]; kernel_rfl)
   · exact Reg.doesV_val (ev_not true rfl (by rw [hF]; kernel_rfl)) (by rw [hF]; kernel_rfl) (by rw [hF]; kernel_rfl)
   · exact Reg.doesV_val (ev_move rfl) (by rw [hF]; kernel_rfl) (by rw [hF]; kernel_rfl)
   · exact Reg.doesV_val (ev_fa rfl (by rw [hF]; kernel_rfl) (fa_val1 w' (w.heap.size + 1))) (by rw [hF]; kernel_rfl) (by rw [hF]; kernel_rfl)
   · exact Reg.doesV_val (ev_ld rfl (by rw [hF]; kernel_rfl) byy.ldN) (by rw [hF]; kernel_rfl) (by rw [hF]; kernel_rfl)
   · exact Reg.doesV_val (by rw [ev_gtC (a := y.n) rfl (by rw [hF]; kernel_rfl), h17]) (by rw [hF]; kernel_rfl) (by rw [hF]; kernel_rfl)
   · exact Reg.doesV_val (ev_move rfl) (by rw [hF]; kernel_rfl) (by rw [hF]; kernel_rfl)
   · exact Reg.doesV_skip (by rw [hF]; kernel_rfl) (by rw [hF]; kernel_rfl)
   · exact Reg.doesV_skip (by rw [hF]; kernel_rfl) (by rw [hF]; kernel_rfl)
   · exact Reg.doesV_skip (by rw [hF]; kernel_rfl) (by rw [hF]; kernel_rfl)
   · exact Reg.doesV_skip (by rw [hF]; kernel_rfl) (by rw [hF]; kernel_rfl)
   · exact Reg.doesV_skip (by rw [hF]; kernel_rfl) (by rw [hF]; kernel_rfl)
   · exact Reg.doesV_skip (by rw [hF]; kernel_rfl) (by rw [hF]; kernel_rfl)
   · exact Reg.doesV_skip (by rw [hF]; kernel_rfl) (by rw [hF]; kernel_rfl)
   · exact Reg.doesV_val (ev_pick false rfl (by rw [hF]; kernel_rfl)) (by rw [hF]; kernel_rfl) (by rw [hF]; kernel_rfl)
   · exact Reg.doesV_val (ev_pick false rfl (by rw [hF]; kernel_rfl)) (by rw [hF]; kernel_rfl) (by rw [hF]; kernel_rfl)
   · exact Reg.doesV_val (ev_move rfl) (by rw [hF]; kernel_rfl) (by rw [hF]; kernel_rfl)
   · exact Reg.doesV_val (ev_fa rfl (by rw [hF]; kernel_rfl) (fa_val1 w' (w.heap.size + 1))) (by rw [hF]; kernel_rfl) (by rw [hF]; kernel_rfl)
   · exact Reg.doesV_val (ev_ld rfl (by rw [hF]; kernel_rfl) byy.ldN) (by rw [hF]; kernel_rfl) (by rw [hF]; kernel_rfl)
   · exact Reg.doesV_val (by rw [ev_ltC (a := y.n) rfl (by rw [hF]; kernel_rfl), h31]) (by rw [hF]; kernel_rfl) (by rw [hF]; kernel_rfl)
   · exact Reg.doesV_val (ev_move rfl) (by rw [hF]; kernel_rfl) (by rw [hF]; kernel_rfl)
   · exact Reg.doesV_skip (by rw [hF]; kernel_rfl) (by rw [hF]; kernel_rfl)
   · exact Reg.doesV_skip (by rw [hF]; kernel_rfl) (by rw [hF]; kernel_rfl)
   · exact Reg.doesV_skip (by rw [hF]; kernel_rfl) (by rw [hF]; kernel_rfl)
   · exact Reg.doesV_skip (by rw [hF]; kernel_rfl) (by rw [hF]; kernel_rfl)
   · exact Reg.doesV_skip (by rw [hF]; kernel_rfl) (by rw [hF]; kernel_rfl)
   · exact Reg.doesV_skip (by rw [hF]; kernel_rfl) (by rw [hF]; kernel_rfl)
   · exact Reg.doesV_skip (by rw [hF]; kernel_rfl) (by rw [hF]; kernel_rfl)
   · exact Reg.doesV_val (ev_pick false rfl (by rw [hF]; kernel_rfl)) (by rw [hF]; kernel_rfl) (by rw [hF]; kernel_rfl)
   · exact Reg.doesV_val (ev_pick false rfl (by rw [hF]; kernel_rfl)) (by rw [hF]; kernel_rfl) (by rw [hF]; kernel_rfl)
 · intro w2 hB'
   simp only [Reg.putAll, Act.put, List.setIfInBounds_toArray, List.set_cons_zero, List.set_cons_succ]
   clear h12 h17 h31
   have c1 := b1.after hB'
   have c2 := b2.after hB'
   have c3 := b3.after hB'
   have hb2 := hb.trans (hB'.mono hb.size)
   clear hB' b1 b2 b3 hb
   have x1 := c1.cell1
   have y1 := c2.cell1
   go_wp2_with fail
   refine (rint_c _ _).mono ?_
   rintro e w3 ⟨rfl, hb3⟩
   have d3 := c3.after hb3
   have hb4 := hb2.trans (hb3.mono hb2.size)
   obtain ⟨R, hR⟩ : ∃ R, iv (wrap64 (x.n + y.n)) = R := ⟨_, rfl⟩
   rw [hR]
   have HR := Lib.hid hR
   clear hb3 hR x1 y1 c1 c2 c3
   have g0 := d3.cell0
   have g1 := d3.cell1
   have g2 := d3.cell2
   have f0 := d3.frozen 0
   have f1 := d3.frozen 1
   have f2 := d3.frozen 2
   go_wp2
   exact ret_valX (a := R) (z := .bool true) Tryz.results17 rfl rfl (d3.put R) rfl ⟨by rw [← HR.out], put3_below hb4 (by omega) R⟩
set_option maxHeartbeats 1000000 in
theorem radd_null (x y : Val) (w : World) (h0 : (x.k == 0 || y.k == 0) = true) : Calls Tryz.prog 17 #[x.v, y.v] w fun e w' => e = .returned (.tuple #[nl.v, .bool true]) ∧ Below w.heap.size w w' := by
 have H0 := Lib.hid h0
 clear h0
 go_enter Tryz.func17, Tryz.ntmps17
 go_wp2_with fail
 refine (rnulls_c x y _).mono ?_
 rintro e w1 ⟨rfl, hb1⟩
 rw [H0.out]
 have c3 : Bx w1 (w.heap.size + 2) nl := (Bx.new2 w nl _ _).after hb1
 have hb : Below w.heap.size w w1 := (below_three _ _ _ _).trans (hb1.mono (by simp; omega))
 clear hb1
 have g0 := c3.cell0
 have g1 := c3.cell1
 have g2 := c3.cell2
 have f0 := c3.frozen 0
 have f1 := c3.frozen 1
 have f2 := c3.frozen 2
 go_wp2
 exact ret_valX (a := nl) (z := .bool true) Tryz.results17 rfl rfl (c3.put nl) rfl ⟨rfl, put3_below hb (by omega) nl⟩
theorem r1add_c (x y : Val) (w : World) (hx : I6n x.n) (hy : I6n y.n) : Calls Tryz.prog 17 #[x.v, y.v] w fun e w' => e = .returned (.tuple #[(addR x y).1.v, .bool (addR x y).2]) ∧ Below w.heap.size w w' := by
 unfold addR
 cases h0 : (x.k == 0 || y.k == 0)
 · cases h12 : (x.k == 2 && y.k == 2)
   · rw [comp_none x y _ _ h0 h12]
     exact radd_I x y w h0 h12
   · rw [comp_ints x y _ _ h0 h12]
     obtain ⟨F, hF⟩ : ∃ F, (decide (x.n < wrap64 (x.n + y.n)) == decide (0 < y.n)) = F := ⟨_, rfl⟩
     rw [hF]
     have over : ¬ I6n (x.n + y.n) → F = false := fun h => by rw [← hF]; exact add_over x.n y.n hx hy h
     have fit : I6n (x.n + y.n) → F = true := fun h => by rw [← hF]; exact (add_fit x.n y.n h).1
     clear hF
     unfold I6n at hx hy over fit
     cases h17 : decide (0 < y.n)
     · cases h31 : decide (y.n < 0)
       · obtain rfl := fit (by simp at h17 h31; omega)
         exact radd_Z x y w h0 h12 h17 h31
       · have e38 : wrap64 ((-9223372036854775808) - y.n) = (-9223372036854775808) - y.n := by simp at h31; unfold wrap64; omega
         cases h39 : decide (x.n < wrap64 ((-9223372036854775808) - y.n))
         · obtain rfl := fit (by rw [e38] at h39; simp at h17 h31 h39; omega)
           exact radd_Q0 x y w h0 h12 h17 h31 h39
         · obtain rfl := over (by rw [e38] at h39; simp at h17 h31 h39; omega)
           exact radd_Q1 x y w h0 h12 h17 h31 h39
     · have e24 : wrap64 (9223372036854775807 - y.n) = 9223372036854775807 - y.n := by simp at h17; unfold wrap64; omega
       cases h25 : decide (wrap64 (9223372036854775807 - y.n) < x.n)
       · obtain rfl := fit (by rw [e24] at h25; simp at h17 h25; omega)
         exact radd_P0 x y w h0 h12 h17 h25 (by simp at h17 ⊢; omega)
       · obtain rfl := over (by rw [e24] at h25; simp at h17 h25; omega)
         exact radd_P1 x y w h0 h12 h17 h25
 · rw [comp_nulls x y _ _ h0]
   exact radd_null x y w h0
set_option maxRecDepth 100000
theorem sameB_iff : ∀ a b : Bg, sameB a b = true ↔ a = b
 | [], [] => by simp [sameB]
 | [], y :: b => by simp [sameB]
 | x :: a, [] => by simp [sameB]
 | x :: a, y :: b => by
   rw [sameB]
   simp only [Bool.and_eq_true, beq_iff_eq, sameB_iff a b]
   constructor
   · rintro ⟨h1, h2, h3⟩
     rw [h3, show x = y from Prod.ext (cmpL_iff.1 h2) h1]
   · intro h
     injection h with h1 h2
     subst h1 h2
     exact ⟨rfl, cmpL_same _, rfl⟩
theorem sameB_self (a : Bg) : sameB a a = true := (sameB_iff a a).2 rfl
end Go.Proofs.YtldaoepemofhlaaGreatDoor
