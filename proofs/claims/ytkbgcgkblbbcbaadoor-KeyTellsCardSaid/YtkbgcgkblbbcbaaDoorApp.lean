/-
  append, of a slice of values that came in, onto one that the call owns. No condition beyond the lengths.
-/
import Derived.Test.YtkbgcgkblbbcbaaDoorKeyP
namespace Go.Proofs.YtkbgcgkblbbcbaaDoor
open Go Go.RowKit

theorem own_none (w : World) (v : Value) (B n c : Nat) (ty : TypeId) (xs : List Value) (h : w.ownsRow B 32 3 v n xs) : (Builtin.append_ #[22, 22] ty #[v, .slice none 0 c]).run Tryd.prog w = .ok v w := by
  obtain ⟨i0, hi, hz0, hz1, hz2⟩ := info_parts valInfo
  rcases h.2 with ⟨rfl, _⟩ | ⟨g, cap, cur, rfl, _, _, hnc, _⟩
  · simp [Builtin.append_, run_underlying Tryd.underlying22, sizeOf, typeInfo, hi, Builtin.lenOf, Builtin.firstCells]
  · simp [Builtin.append_, run_underlying Tryd.underlying22, sizeOf, typeInfo, hi, Builtin.lenOf, Builtin.firstCells, hnc, storeCells]

theorem sl_cells {w : World} {b : Nat} : ∀ (ys : List Val) (off : Nat), (∀ i (a : Val), ys[i]? = some a → w.cell? ⟨b, off + i * 3, none⟩ = some (.int .i64 a.k) ∧ w.cell? ⟨b, off + i * 3 + 1, none⟩ = some (.int .i64 a.n) ∧ w.cell? ⟨b, off + i * 3 + 2, none⟩ = some (.string a.s)) →
    ∀ j u, (cellsL ys)[j]? = some u → w.cell? ⟨b, off + j, none⟩ = some u
  | [], _, _, j, u, hj => by simp [cellsL] at hj
  | x :: ys, off, h, j, u, hj => by
    obtain ⟨c0, c1, c2⟩ := h 0 x rfl
    match j, hj with
    | 0, hj => simp [cellsL] at hj; subst hj; simpa using c0
    | 1, hj => simp [cellsL] at hj; subst hj; simpa using c1
    | 2, hj => simp [cellsL] at hj; subst hj; simpa using c2
    | j + 3, hj =>
      have := sl_cells ys (off + 3) (fun i a ha => by
        obtain ⟨e0, e1, e2⟩ := h (i + 1) a (by simpa using ha)
        have e : off + (i + 1) * 3 = off + 3 + i * 3 := by omega
        rw [e] at e0 e1 e2
        exact ⟨e0, e1, e2⟩) j u (by simpa [cellsL] using hj)
      have e : off + 3 + j = off + (j + 3) := by omega
      rwa [e] at this

/-- append, of a slice that reads as ys. -/
theorem wpList_appSl {ops : Array Oper} {rest : List Oper} {o : Oper} {a : Act} {Q : Exit → Act → World → Prop} {w : World} (hgd : o.guard = none) (s x : Operand) (ho : o.op = .call { callee := .builtin .append, args := #[s, x], argTypes := #[22, 22] })
    (B : Nat) (v : Value) (xs ys : List Val) (A : Option Addr) (n c : Nat) (hs : a.eval s = v) (hb : OwnV w B v xs) (hx : a.eval x = .slice A n c) (hn : ys.length = n) (hsl : Sl w A ys)
    (hmax : xs.length + ys.length ≤ 1000000) (hB : B ≤ w.heap.size)
    (h : ∀ v' w', OwnV w' B v' (xs ++ ys) → w.grownBy w' v.ownBlock → wpList Tryd.prog ops Q rest (a.put o.dst v') w') : wpList Tryd.prog ops Q (o :: rest) a w := by
  obtain ⟨i0, hi, hz0, hz1, hz2⟩ := info_parts valInfo
  subst hn
  have some_case : ∀ (ad : Addr), A = some ad → (∀ j u, (cellsL ys)[j]? = some u → w.cell? (ad.add j) = some u) → wpList Tryd.prog ops Q (o :: rest) a w := by
    intro ad hA hcells
    subst hA
    refine wpList_append_own_at _ hgd s x 22 ho B 32 i0 nl.v 3 32 Tryd.underlying22 hi hz0 hz1 hz2 (by decide) (by decide) v xs.length (cellsL xs) hs hb ad ys.length c (cellsL ys) hx (cellsL_length ys) hcells (cellsL_one ys) (by unfold maxLen; omega) (by omega) hB ?_
    intro v' w' hown' hgrow _ _
    refine h v' w' ?_ hgrow
    unfold OwnV
    rw [cellsL_append, List.length_append]
    exact hown'
  rcases hsl with rfl | ⟨b, off, hA, hlt, hc⟩
  · cases A with
    | some ad => exact some_case ad rfl (fun j u hj => by simp [cellsL] at hj)
    | none =>
      refine wpList_plain hgd fun K hK => ?_
      have hr := own_none w v B xs.length c o.type (cellsL xs) hb
      unfold Oper.wp execOp
      have hx' : a.eval x = .slice none 0 c := hx
      simp only [ho, resolve, invoke, builtin, Sem.run_bind, Sem.run_pure, Result.andThen_ok, List.map_toArray, List.map_cons, List.map_nil, hs, hx', hr]
      exact hK _ _ (h v w (by rw [List.append_nil]; exact hb) (World.grownBy.refl w _))
  · refine some_case ⟨b, off, none⟩ hA fun j u hj => ?_
    rw [Go.WideShapes.add_plain]
    exact sl_cells ys off hc j u hj
theorem ownV_empty (w : World) (B : Nat) (hB : B ≤ w.heap.size) : OwnV (w.alloc (.cells #[] 32)) B (.slice (some ⟨w.heap.size, 0, none⟩) 0 0) [] := by
  refine ⟨rfl, .inr ⟨w.heap.size, 0, #[], rfl, hB, ?_, Nat.le_refl _, Nat.zero_le _, rfl, rfl⟩⟩
  show (w.heap.push _)[w.heap.size]? = _
  simp
theorem OwnV.sl' {w : World} {B : Nat} {v : Value} {xs : List Val} (h : OwnV w B v xs) : ∃ A N c, v = .slice A N c ∧ xs.length = N ∧ Sl w A xs := by
  obtain ⟨A, c, hv, hs⟩ := h.sl
  exact ⟨A, xs.length, c, hv, rfl, hs⟩
end Go.Proofs.YtkbgcgkblbbcbaaDoor
