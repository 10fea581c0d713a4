/-
  Slices of whatever elements: how one reads, one that the call owns, append onto it. Of no function of the program; no condition.
-/
import Derived.Test.YtmgmdkagnhmihaaDoorVal
namespace Go.Proofs.YtmgmdkagnhmihaaDoor
open Go Go.RowKit

section
variable {α : Type} {rd : α → List Value} {S : Nat}
/-- The slice at A reads as the elements xs, each of which is S cells. -/
def SlG (W : World) (A : Option Addr) (S : Nat) (rd : α → List Value) (xs : List α) : Prop :=
  xs = [] ∨ ∃ b off, A = some ⟨b, off, none⟩ ∧ b < W.heap.size ∧ ∀ i x, xs[i]? = some x → ∀ j u, (rd x)[j]? = some u → W.cell? ⟨b, off + i * S + j, none⟩ = some u
theorem SlG.after {w w' : World} {A : Option Addr} {xs : List α} (h : SlG w A S rd xs) (hb : Below w.heap.size w w') : SlG w' A S rd xs := by
  rcases h with h | ⟨b, off, hA, hlt, h⟩
  · exact .inl h
  · exact .inr ⟨b, off, hA, Nat.lt_of_lt_of_le hlt hb.size, fun i x hx j u hu => (hb.cell hlt).trans (h i x hx j u hu)⟩
theorem SlG.alloc {w : World} {A : Option Addr} {xs : List α} (h : SlG w A S rd xs) (o : Obj) : SlG (w.alloc o) A S rd xs := h.after (below_one w o)
/-- Cell for cell. -/
theorem flat_at (hl : ∀ x, (rd x).length = S) : ∀ (xs : List α) (i j : Nat) (x : α), xs[i]? = some x → j < S → (xs.flatMap rd)[i * S + j]? = (rd x)[j]?
  | [], i, j, x, h, _ => by simp at h
  | y :: r, 0, j, x, h, hj => by
    simp at h; subst h
    rw [List.flatMap_cons, Nat.zero_mul, Nat.zero_add, List.getElem?_append_left (by rw [hl]; exact hj)]
  | y :: r, i + 1, j, x, h, hj => by
    rw [List.flatMap_cons, List.getElem?_append_right (by rw [hl, Nat.succ_mul]; omega), hl, show (i + 1) * S + j - S = i * S + j by rw [Nat.succ_mul]; omega]
    exact flat_at hl r i j x (by simpa using h) hj
theorem flat_len (hl : ∀ x, (rd x).length = S) : ∀ xs : List α, (xs.flatMap rd).length = xs.length * S
  | [] => by simp
  | x :: r => by rw [List.flatMap_cons, List.length_append, hl, flat_len hl r, List.length_cons, Nat.succ_mul]; omega
theorem SlG.flat {w : World} {xs : List α} {b off : Nat} (hl : ∀ x, (rd x).length = S) (hS : 0 < S) (h : ∀ i x, xs[i]? = some x → ∀ j u, (rd x)[j]? = some u → w.cell? ⟨b, off + i * S + j, none⟩ = some u) :
    ∀ j u, (xs.flatMap rd)[j]? = some u → w.cell? ⟨b, off + j, none⟩ = some u := by
  intro j u hj
  have hlt : j < xs.length * S := by
    have := (List.getElem?_eq_some_iff.1 hj).1
    rwa [flat_len hl] at this
  have hi : j / S < xs.length := (Nat.div_lt_iff_lt_mul hS).2 hlt
  have hx : xs[j / S]? = some xs[j / S] := List.getElem?_eq_getElem hi
  have e : j / S * S + j % S = j := by rw [Nat.mul_comm]; exact Nat.div_add_mod j S
  have h1 := flat_at hl xs (j / S) (j % S) _ hx (Nat.mod_lt _ hS)
  rw [e] at h1
  have h2 := h (j / S) _ hx (j % S) u (h1.symm.trans hj)
  rwa [Nat.add_assoc, e] at h2
theorem SlG.new {w : World} {cs : Array Value} {E : TypeId} (hl : ∀ x, (rd x).length = S) (xs : List α) (h : cs = (xs.flatMap rd).toArray) : SlG (w.alloc (.cells cs E)) (some ⟨w.heap.size, 0, none⟩) S rd xs := by
  subst h
  refine .inr ⟨w.heap.size, 0, rfl, by simp, fun i x hx j u hu => ?_⟩
  have e0 : (w.alloc (.cells (xs.flatMap rd).toArray E)).heap[w.heap.size]? = some (.cells (xs.flatMap rd).toArray E (0, 0)) := by
    show (w.heap.push _)[w.heap.size]? = _
    simp
  have hj : j < S := by have := (List.getElem?_eq_some_iff.1 hu).1; rwa [hl] at this
  simp only [World.cell?, e0, Option.isSome_none, Bool.false_eq_true, if_false, List.getElem?_toArray]
  rw [Nat.zero_add, flat_at hl xs i j x hx hj]
  exact hu

/-- What must be known of the elements of a slice of type T. -/
structure ElOk (P : Program) (T E : TypeId) (S bytes : Nat) (z : Value) (rd : α → List Value) : Prop where
  under : P.underlying T = some (.slice E)
  info : (P.info? E).map (fun i => (i.zero, i.size, i.bytes)) = some (some z, S, bytes)
  zs : z.cells.size = S
  pos : 0 < S
  len : ∀ x, (rd x).length = S
  one : ∀ x u, u ∈ rd x → u.oneCell' = true

/-- The slice v is the call's own, and reads as xs; it may be nil. -/
def OwnG (w : World) (B : Nat) (E : TypeId) (S : Nat) (rd : α → List Value) (v : Value) (xs : List α) : Prop := w.ownsRow B E S v xs.length (xs.flatMap rd)
theorem OwnG.nil (w : World) (B : Nat) (E : TypeId) : OwnG w B E S rd (.slice none 0 0) [] := World.ownsRow_nil w B E S
theorem OwnG.made (w : World) (B : Nat) (E : TypeId) (cur : Array Value) (cap : Nat) (hB : B ≤ w.heap.size) (hm : cap ≤ maxLen) (hs : cur.size = cap * S) : OwnG (w.alloc (.cells cur E)) B E S rd (.slice (some ⟨w.heap.size, 0, none⟩) 0 cap) [] :=
  World.ownsRow_made w cur cap hB hm hs
theorem OwnG.lt {w : World} {B : Nat} {E : TypeId} {v : Value} {xs : List α} (h : OwnG w B E S rd v xs) : ∀ k, v.ownBlock = some k → B ≤ k ∧ k < w.heap.size := fun k hk => World.ownsRow.lt h k hk
theorem OwnG.same {w w' : World} {B : Nat} {E : TypeId} {v : Value} {xs : List α} (h : OwnG w B E S rd v xs) (hb : ∀ k, v.ownBlock = some k → w'.heap[k]? = w.heap[k]?) : OwnG w' B E S rd v xs := by
  obtain ⟨h1, h2⟩ := h
  refine ⟨h1, ?_⟩
  rcases h2 with h2 | ⟨g', cap, cur, hv, hB, hh, h3⟩
  · exact .inl h2
  · exact .inr ⟨g', cap, cur, hv, hB, (hb g' (by rw [hv]; rfl)).trans hh, h3⟩
theorem OwnG.after {w w' : World} {B : Nat} {E : TypeId} {v : Value} {xs : List α} (h : OwnG w B E S rd v xs) (hb : Below w.heap.size w w') : OwnG w' B E S rd v xs := h.same fun k hk => hb.block k (h.lt k hk).2
theorem OwnG.alloc {w : World} {B : Nat} {E : TypeId} {v : Value} {xs : List α} (h : OwnG w B E S rd v xs) (o : Obj) : OwnG (w.alloc o) B E S rd v xs := h.after (below_one w o)
theorem OwnG.mono {w : World} {B B' : Nat} {E : TypeId} {v : Value} {xs : List α} (h : OwnG w B E S rd v xs) (hB : B' ≤ B) : OwnG w B' E S rd v xs := by
  obtain ⟨h1, h2⟩ := h
  refine ⟨h1, ?_⟩
  rcases h2 with h2 | ⟨g', cap, cur, hv, hb, h3⟩
  · exact .inl h2
  · exact .inr ⟨g', cap, cur, hv, by omega, h3⟩
theorem OwnG.sl {w : World} {B : Nat} {E : TypeId} {v : Value} {xs : List α} (hl : ∀ x, (rd x).length = S) (h : OwnG w B E S rd v xs) : ∃ A c, v = .slice A xs.length c ∧ xs.length ≤ c ∧ c ≤ maxLen ∧ SlG w A S rd xs := by
  rcases h.2 with ⟨rfl, hn⟩ | ⟨g, cap, cur, rfl, hB, hh, hle, hm, _⟩
  · obtain rfl : xs = [] := List.eq_nil_of_length_eq_zero hn
    exact ⟨none, 0, rfl, Nat.le_refl _, Nat.zero_le _, .inl rfl⟩
  · refine ⟨some ⟨g, 0, none⟩, cap, rfl, hle, hm, .inr ⟨g, 0, rfl, (h.lt g rfl).2, fun i x hx j u hu => ?_⟩⟩
    have hj : j < S := by have := (List.getElem?_eq_some_iff.1 hu).1; rwa [hl] at this
    have := World.ownsRow.cells (g := g) h rfl (i * S + j) u ((flat_at hl xs i j x hx hj).trans hu)
    rwa [Go.WideShapes.add_plain, ← Nat.add_assoc] at this
theorem OwnG.isSlice {w : World} {B : Nat} {E : TypeId} {v : Value} {xs : List α} (h : OwnG w B E S rd v xs) : ∃ A c, v = .slice A xs.length c := by
  rcases h.2 with ⟨rfl, hn⟩ | ⟨g, cap, cur, rfl, _⟩
  · exact ⟨none, 0, by rw [hn]⟩
  · exact ⟨_, cap, rfl⟩

variable {P : Program} {T E : TypeId} {bytes : Nat} {z : Value}
theorem ElOk.parts (h : ElOk P T E S bytes z rd) : ∃ i : TypeInfo, P.info? E = some i ∧ i.zero = some z ∧ i.size = S ∧ i.bytes = bytes := by
  have hi := h.info
  cases e : P.info? E with
  | none => rw [e] at hi; cases hi
  | some i =>
    rw [e] at hi
    simp at hi
    exact ⟨i, rfl, hi.1, hi.2.1, hi.2.2⟩
theorem app_none (he : ElOk P T E S bytes z rd) (w : World) (v : Value) (B c : Nat) (ty : TypeId) (xs : List α) (h : OwnG w B E S rd v xs) : (Builtin.append_ #[T, T] ty #[v, .slice none 0 c]).run P w = .ok v w := by
  obtain ⟨i0, hi, hz0, hz1, hz2⟩ := he.parts
  rcases h.2 with ⟨rfl, _⟩ | ⟨g, cap, cur, rfl, _, _, hnc, _⟩
  · simp [Builtin.append_, run_underlying he.under, sizeOf, typeInfo, hi, Builtin.lenOf, Builtin.firstCells]
  · simp [Builtin.append_, run_underlying he.under, sizeOf, typeInfo, hi, Builtin.lenOf, Builtin.firstCells, hnc, storeCells]
/-- APPEND of a slice that reads as ys, onto one of the call's own. -/
theorem wpList_appG {ops : Array Oper} {rest : List Oper} {o : Oper} {a : Act} {Q : Exit → Act → World → Prop} {w : World} (he : ElOk P T E S bytes z rd) (hgd : o.guard = none) (s x : Operand) (ho : o.op = .call { callee := .builtin .append, args := #[s, x], argTypes := #[T, T] })
    (B : Nat) (v : Value) (xs ys : List α) (A : Option Addr) (n c : Nat) (hs : a.eval s = v) (hb : OwnG w B E S rd v xs) (hx : a.eval x = .slice A n c) (hn : ys.length = n) (hsl : SlG w A S rd ys)
    (hmax : xs.length + ys.length ≤ maxLen) (hbytes : (xs.length + ys.length) * bytes ≤ 140737488355328) (hB : B ≤ w.heap.size)
    (h : ∀ v' w', OwnG w' B E S rd v' (xs ++ ys) → w.grownBy w' v.ownBlock → wpList P ops Q rest (a.put o.dst v') w') : wpList P ops Q (o :: rest) a w := by
  obtain ⟨i0, hi, hz0, hz1, hz2⟩ := he.parts
  subst hn
  have some_case : ∀ (ad : Addr), A = some ad → (∀ j u, (ys.flatMap rd)[j]? = some u → w.cell? (ad.add j) = some u) → wpList P ops Q (o :: rest) a w := by
    intro ad hA hcells
    subst hA
    refine wpList_append_own_at _ hgd s x T ho B E i0 z S bytes he.under hi hz0 hz1 hz2 he.zs he.pos v xs.length (xs.flatMap rd) hs hb ad ys.length c (ys.flatMap rd) hx (flat_len he.len ys) hcells (fun u hu => by obtain ⟨q, _, hq⟩ := List.mem_flatMap.1 hu; exact he.one q u hq) hmax hbytes hB ?_
    intro v' w' hown' hgrow _ _
    refine h v' w' ?_ hgrow
    unfold OwnG
    rw [List.flatMap_append, List.length_append]
    exact hown'
  rcases hsl with rfl | ⟨b, off, hA, hlt, hc⟩
  · cases A with
    | some ad => exact some_case ad rfl (fun j u hj => by simp at hj)
    | none =>
      refine wpList_plain hgd fun K hK => ?_
      have hr := app_none he w v B c o.type xs hb
      unfold Oper.wp execOp
      have hx' : a.eval x = .slice none 0 c := hx
      simp only [ho, resolve, invoke, builtin, Sem.run_bind, Sem.run_pure, Result.andThen_ok, List.map_toArray, List.map_cons, List.map_nil, hs, hx', hr]
      exact hK _ _ (h v w (by rw [List.append_nil]; exact hb) (World.grownBy.refl w _))
  · refine some_case ⟨b, off, none⟩ hA fun j u hj => ?_
    rw [Go.WideShapes.add_plain]
    exact SlG.flat he.len he.pos hc j u hj
/-- append of one element or more, in a statement whose order Go leaves open. -/
theorem step_appG {ops : Array Oper} {o : Oper} {a : Act} {w : World} {K : Act → World → Prop} {Q : Exit → Act → World → Prop} {F : Prop} (he : ElOk P T E S bytes z rd) (hgd : o.guard = none) (s y : Operand) (ho : o.op = .call { callee := .builtin .append, args := #[s, y], argTypes := #[T, T] })
    (B : Nat) (v : Value) (xs ys : List α) (hs : a.eval s = v) (hb : OwnG w B E S rd v xs) (A : Option Addr) (n c : Nat) (hy : a.eval y = .slice A n c) (hn : ys.length = n) (hn0 : ys ≠ []) (hsl : SlG w A S rd ys)
    (hmax : xs.length + ys.length ≤ maxLen) (hbytes : (xs.length + ys.length) * bytes ≤ 140737488355328) (hB : B ≤ w.heap.size)
    (h : ∀ g' cap w', OwnG w' B E S rd (.slice (some ⟨g', 0, none⟩) (xs.length + ys.length) cap) (xs ++ ys) → w.grownBy w' v.ownBlock → K (a.put o.dst (.slice (some ⟨g', 0, none⟩) (xs.length + ys.length) cap)) w') :
    if Region.wanted o (yielded ops a.tmps) = true then Oper.wp P o a w K Q else F := by
  obtain ⟨i0, hi, hz0, hz1, hz2⟩ := he.parts
  subst hn
  rcases hsl with h0 | ⟨b, off, rfl, hlt, hc⟩
  · exact absurd h0 hn0
  refine step_append_lies w hgd s y T ho B E i0 z S bytes he.under hi hz0 hz1 hz2 he.zs he.pos v xs.length (xs.flatMap rd) hs hb ⟨b, off, none⟩ ys.length c (ys.flatMap rd) hy (flat_len he.len ys) (fun j u hj => by rw [Go.WideShapes.add_plain]; exact SlG.flat he.len he.pos hc j u hj) (fun u hu => by obtain ⟨q, _, hq⟩ := List.mem_flatMap.1 hu; exact he.one q u hq) (List.length_pos_iff.2 hn0) hmax hbytes hB _ rfl ?_
  intro g' cap w' hown' hgrow _ _
  refine h g' cap w' ?_ hgrow
  unfold OwnG
  rw [List.flatMap_append, List.length_append]
  exact hown'
end
end Go.Proofs.YtmgmdkagnhmihaaDoor
