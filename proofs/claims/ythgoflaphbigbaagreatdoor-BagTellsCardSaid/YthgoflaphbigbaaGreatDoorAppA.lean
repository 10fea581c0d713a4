/-
  append in a statement whose order Go leaves open, of nothing or of some; parts of slices. Of no function; no condition.
-/
import Derived.Test.YthgoflaphbigbaaGreatDoorHd
namespace Go.Proofs.YthgoflaphbigbaaGreatDoor
open Go Go.RowKit
set_option maxRecDepth 100000

theorem step_appG0 {α : Type} {rd : α → List Value} {S : Nat} {P : Program} {T E : TypeId} {bytes : Nat} {z : Value} {ops : Array Oper} {o : Oper} {a : Act} {w : World} {K : Act → World → Prop} {Q : Exit → Act → World → Prop} {F : Prop} (he : ElOk P T E S bytes z rd) (hgd : o.guard = none) (s y : Operand) (ho : o.op = .call { callee := .builtin .append, args := #[s, y], argTypes := #[T, T] })
    (B : Nat) (v : Value) (xs : List α) (hs : a.eval s = v) (hb : OwnG w B E S rd v xs) (A : Option Addr) (c : Nat) (hy : a.eval y = .slice A 0 c)
    (h : K (a.put o.dst v) w) : if Region.wanted o (yielded ops a.tmps) = true then Oper.wp P o a w K Q else F := by
  have hw : Region.wanted o (yielded ops a.tmps) = true := by simp [Region.wanted, hgd]
  rw [if_pos hw]
  have hr : (Builtin.append_ #[T, T] o.type #[v, .slice A 0 c]).run P w = .ok v w := by
    obtain ⟨i0, hi, hz0, hz1, hz2⟩ := he.parts
    cases A with
    | none => exact app_none he w v B c o.type xs hb
    | some ad =>
      have hl : (loadCells ad 0).run P w = .ok #[] w := by simp [loadCells, loadCellsFrom]
      rcases hb.2 with ⟨rfl, _⟩ | ⟨g, cap, cur, rfl, _, _, hnc, _⟩
      · simp [Builtin.append_, run_underlying he.under, sizeOf, typeInfo, hi, Builtin.lenOf, Builtin.firstCells, hl]
      · simp [Builtin.append_, run_underlying he.under, sizeOf, typeInfo, hi, Builtin.lenOf, Builtin.firstCells, hnc, storeCells, hl]
  unfold Oper.wp execOp
  simp only [ho, resolve, invoke, builtin, Sem.run_bind, Sem.run_pure, Result.andThen_ok, List.map_toArray, List.map_cons, List.map_nil, hs, hy, hr]
  exact h
/-- append, of nothing or of some. -/
theorem step_appA {α : Type} {rd : α → List Value} {S : Nat} {P : Program} {T E : TypeId} {bytes : Nat} {z : Value} {ops : Array Oper} {o : Oper} {a : Act} {w : World} {K : Act → World → Prop} {Q : Exit → Act → World → Prop} {F : Prop} (he : ElOk P T E S bytes z rd) (hgd : o.guard = none) (s y : Operand) (ho : o.op = .call { callee := .builtin .append, args := #[s, y], argTypes := #[T, T] })
    (B : Nat) (v : Value) (xs ys : List α) (hs : a.eval s = v) (hb : OwnG w B E S rd v xs) (A : Option Addr) (n c : Nat) (hy : a.eval y = .slice A n c) (hn : ys.length = n) (hsl : SlG w A S rd ys)
    (hmax : xs.length + ys.length ≤ maxLen) (hbytes : (xs.length + ys.length) * bytes ≤ 140737488355328) (hB : B ≤ w.heap.size)
    (h : ∀ A' c' w', OwnG w' B E S rd (.slice A' (xs.length + ys.length) c') (xs ++ ys) → w.grownBy w' v.ownBlock → K (a.put o.dst (.slice A' (xs.length + ys.length) c')) w') :
    if Region.wanted o (yielded ops a.tmps) = true then Oper.wp P o a w K Q else F := by
  by_cases hne : ys = []
  · subst hne
    subst hn
    obtain ⟨A', c', rfl⟩ := hb.isSlice
    refine step_appG0 he hgd s y ho B _ xs hs hb A c hy ?_
    have := h A' c' w (by rw [List.append_nil]; exact hb) (World.grownBy.refl w _)
    exact this
  · exact step_appG he hgd s y ho B v xs ys hs hb A n c hy hn hne hsl hmax hbytes hB (fun g cap w' h1 h2 => h _ cap w' h1 h2)
theorem SlG.dropK {α : Type} {rd : α → List Value} {w : World} {b off : Nat} {xs : List α} (h : SlG w (some ⟨b, off, none⟩) 1 rd xs) (k : Nat) : SlG w (some ⟨b, off + k, none⟩) 1 rd (xs.drop k) := by
  rcases h with rfl | ⟨b', off', hA, hlt, h⟩
  · exact .inl (by simp)
  · injection hA with hA
    injection hA with e1 e2
    subst e1 e2
    refine .inr ⟨b, off + k, rfl, hlt, fun i x hx j u hu => ?_⟩
    rw [List.getElem?_drop] at hx
    have := h (k + i) x hx j u hu
    rwa [Nat.mul_one, ← Nat.add_assoc, ← Nat.mul_one (n := i)] at this
theorem SlG.takeK {α : Type} {rd : α → List Value} {S : Nat} {w : World} {A : Option Addr} {xs : List α} (h : SlG w A S rd xs) (k : Nat) : SlG w A S rd (xs.take k) := by
  rcases h with rfl | ⟨b, off, hA, hlt, h⟩
  · exact .inl (by simp)
  · refine .inr ⟨b, off, hA, hlt, fun i x hx j u hu => ?_⟩
    by_cases hk : i < k
    · rw [List.getElem?_take_of_lt hk] at hx
      exact h i x hx j u hu
    · rw [List.getElem?_take_eq_none (by omega)] at hx
      cases hx
section
variable {α : Type} {rd : α → List Value} {S : Nat} {P : Program} {T E : TypeId} {bytes : Nat} {z : Value}
/-- APPEND of a slice that reads as ys, onto one of the call's own. -/
theorem wpList_appL {ops : Array Oper} {rest : List Oper} {o : Oper} {a : Act} {Q : Exit → Act → World → Prop} {w : World} (he : ElOk P T E S bytes z rd) (hgd : o.guard = none) (s x : Operand) (ho : o.op = .call { callee := .builtin .append, args := #[s, x], argTypes := #[T, T] })
    (B : Nat) (v : Value) (xs ys : List α) (A : Option Addr) (n c : Nat) (hs : a.eval s = v) (hb : OwnG w B E S rd v xs) (hx : a.eval x = .slice A n c) (hn : ys.length = n) (hsl : SlG w A S rd ys)
    (hmax : xs.length + ys.length ≤ maxLen) (hbytes : (xs.length + ys.length) * bytes ≤ 140737488355328) (hB : B ≤ w.heap.size)
    (h : ∀ v' w', OwnG w' B E S rd v' (xs ++ ys) → w.grownBy w' v.ownBlock → (v'.ownBlock = v.ownBlock ∨ v'.ownBlock = some w.heap.size) → wpList P ops Q rest (a.put o.dst v') w') : wpList P ops Q (o :: rest) a w := by
  obtain ⟨i0, hi, hz0, hz1, hz2⟩ := he.parts
  subst hn
  have some_case : ∀ (ad : Addr), A = some ad → (∀ j u, (ys.flatMap rd)[j]? = some u → w.cell? (ad.add j) = some u) → wpList P ops Q (o :: rest) a w := by
    intro ad hA hcells
    subst hA
    refine wpList_append_own_at _ hgd s x T ho B E i0 z S bytes he.under hi hz0 hz1 hz2 he.zs he.pos v xs.length (xs.flatMap rd) hs hb ad ys.length c (ys.flatMap rd) hx (flat_len he.len ys) hcells (fun u hu => by obtain ⟨q, _, hq⟩ := List.mem_flatMap.1 hu; exact he.one q u hq) hmax hbytes hB ?_
    intro v' w' hown' hgrow _ hlies
    refine h v' w' ?_ hgrow hlies
    unfold OwnG
    rw [List.flatMap_append, List.length_append]
    exact hown'
  rcases hsl with rfl | ⟨b, off, hA, hlt, hc⟩
  · cases A with
    | some ad => exact some_case ad rfl (fun j u hj => by simp at hj)
    | none =>
      refine wpList_plain hgd fun K hK => ?_
      have hr := app_none he w v B c o.type xs hb
      unfold Oper.wp execOp
      have hx' : a.eval x = .slice none 0 c := hx
      simp only [ho, resolve, invoke, builtin, Sem.run_bind, Sem.run_pure, Result.andThen_ok, List.map_toArray, List.map_cons, List.map_nil, hs, hx', hr]
      exact hK _ _ (h v w (by rw [List.append_nil]; exact hb) (World.grownBy.refl w _) (.inl rfl))
  · refine some_case ⟨b, off, none⟩ hA fun j u hj => ?_
    rw [Go.WideShapes.add_plain]
    exact SlG.flat he.len he.pos hc j u hj
/-- append, of nothing or of some, in a statement whose order Go leaves open; where the new slice lies. -/
theorem step_appL {ops : Array Oper} {o : Oper} {a : Act} {w : World} {K : Act → World → Prop} {Q : Exit → Act → World → Prop} {F : Prop} (he : ElOk P T E S bytes z rd) (hgd : o.guard = none) (s y : Operand) (ho : o.op = .call { callee := .builtin .append, args := #[s, y], argTypes := #[T, T] })
    (B : Nat) (v : Value) (xs ys : List α) (hs : a.eval s = v) (hb : OwnG w B E S rd v xs) (A : Option Addr) (n c : Nat) (hy : a.eval y = .slice A n c) (hn : ys.length = n) (hsl : SlG w A S rd ys)
    (hmax : xs.length + ys.length ≤ maxLen) (hbytes : (xs.length + ys.length) * bytes ≤ 140737488355328) (hB : B ≤ w.heap.size)
    (h : ∀ A' c' w', OwnG w' B E S rd (.slice A' (xs.length + ys.length) c') (xs ++ ys) → w.grownBy w' v.ownBlock → ((Value.slice A' (xs.length + ys.length) c').ownBlock = v.ownBlock ∨ (Value.slice A' (xs.length + ys.length) c').ownBlock = some w.heap.size) → K (a.put o.dst (.slice A' (xs.length + ys.length) c')) w') :
    if Region.wanted o (yielded ops a.tmps) = true then Oper.wp P o a w K Q else F := by
  by_cases hne : ys = []
  · subst hne
    subst hn
    obtain ⟨A', c', rfl⟩ := hb.isSlice
    refine step_appG0 he hgd s y ho B _ xs hs hb A c hy ?_
    exact h A' c' w (by rw [List.append_nil]; exact hb) (World.grownBy.refl w _) (.inl rfl)
  · obtain ⟨i0, hi, hz0, hz1, hz2⟩ := he.parts
    subst hn
    rcases hsl with h0 | ⟨b, off, rfl, hlt, hc⟩
    · exact absurd h0 hne
    refine step_append_lies w hgd s y T ho B E i0 z S bytes he.under hi hz0 hz1 hz2 he.zs he.pos v xs.length (xs.flatMap rd) hs hb ⟨b, off, none⟩ ys.length c (ys.flatMap rd) hy (flat_len he.len ys) (fun j u hj => by rw [Go.WideShapes.add_plain]; exact SlG.flat he.len he.pos hc j u hj) (fun u hu => by obtain ⟨q, _, hq⟩ := List.mem_flatMap.1 hu; exact he.one q u hq) (List.length_pos_iff.2 hne) hmax hbytes hB _ rfl ?_
    intro g' cap w' hown' hgrow hl _
    refine h (some ⟨g', 0, none⟩) cap w' ?_ hgrow ?_
    · unfold OwnG
      rw [List.flatMap_append, List.length_append]
      exact hown'
    · rcases hl with hl | hl
      · exact .inl hl.symm
      · exact .inr (by rw [hl]; rfl)
end
/-- Two slices in blocks of their own. -/
def Apart (u v : Value) : Prop := ∀ k, u.ownBlock = some k → v.ownBlock ≠ some k
section
variable {α β : Type} {rd : α → List Value} {rd' : β → List Value} {S S' : Nat} {E E' : TypeId}
theorem Apart.app {w X : World} {B : Nat} {u v v' : Value} {us : List α} (hu : OwnG w B E S rd u us) (hap : Apart u v) (hX : w.heap.size ≤ X.heap.size) (hl : v'.ownBlock = v.ownBlock ∨ v'.ownBlock = some X.heap.size) : Apart u v' := by
  intro k hk
  have := hu.lt k hk
  rcases hl with hl | hl
  · rw [hl]; exact hap k hk
  · rw [hl]
    intro e
    injection e with e
    omega
theorem Apart.symm {u v : Value} (h : Apart u v) : Apart v u := fun k hv hu => h k hu hv
/-- What lies apart stays. -/
theorem OwnG.keep {w X w' : World} {B : Nat} {u v : Value} {us : List α} (hu : OwnG w B E S rd u us) (hg : X.grownBy w' v.ownBlock) (hX : ∀ k, k < w.heap.size → X.heap[k]? = w.heap[k]?) (hs : w.heap.size ≤ X.heap.size) (hap : Apart u v) : OwnG w' B E S rd u us := by
  refine hu.same fun k hk => ?_
  have hlt := (hu.lt k hk).2
  rw [hg.block k (Nat.lt_of_lt_of_le hlt hs) (fun e => hap k hk e.symm), hX k hlt]
end
end Go.Proofs.YthgoflaphbigbaaGreatDoor
