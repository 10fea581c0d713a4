/-
  APPEND onto a slice of the call's own, in an operation with a guard that holds, of whatever elements. Of no function of the program; no condition.
-/
import Derived.Test.YtmgmdkagnhmihaaDoorOwnG
namespace Go.Proofs.YtmgmdkagnhmihaaDoor
open Go Go.RowKit

theorem wpList_want {P : Program} {ops : Array Oper} {Q : Exit → Act → World → Prop} {a : Act} {w : World} {rest : List Oper} {o : Oper} (hw : Region.wanted o (yielded ops a.tmps) = true) (h : ∀ K : Act → World → Prop, (∀ a w, wpList P ops Q rest a w → K a w) → o.wp P a w K Q) : wpList P ops Q (o :: rest) a w :=
  wpList_step fun K hK => by rw [if_pos hw]; exact h K hK
section
variable {α : Type} {rd : α → List Value} {S : Nat} {P : Program} {T E : TypeId} {bytes : Nat} {z : Value}
/-- APPEND where its guard holds. -/
theorem wpList_appGW {ops : Array Oper} {rest : List Oper} {o : Oper} {a : Act} {Q : Exit → Act → World → Prop} {w : World} (he : ElOk P T E S bytes z rd) (hw : Region.wanted o (yielded ops a.tmps) = true) (s x : Operand) (ho : o.op = .call { callee := .builtin .append, args := #[s, x], argTypes := #[T, T] })
    (B : Nat) (v : Value) (xs ys : List α) (A : Option Addr) (n c : Nat) (hs : a.eval s = v) (hb : OwnG w B E S rd v xs) (hx : a.eval x = .slice A n c) (hn : ys.length = n) (hsl : SlG w A S rd ys)
    (hmax : xs.length + ys.length ≤ maxLen) (hbytes : (xs.length + ys.length) * bytes ≤ 140737488355328) (hB : B ≤ w.heap.size)
    (h : ∀ v' w', OwnG w' B E S rd v' (xs ++ ys) → w.grownBy w' v.ownBlock → wpList P ops Q rest (a.put o.dst v') w') : wpList P ops Q (o :: rest) a w := by
  obtain ⟨i0, hi, hz0, hz1, hz2⟩ := he.parts
  subst hn
  have some_case : ∀ (ad : Addr), A = some ad → (∀ j u, (ys.flatMap rd)[j]? = some u → w.cell? (ad.add j) = some u) → wpList P ops Q (o :: rest) a w := by
    intro ad hA hcells
    subst hA
    refine wpList_want hw fun K hK => ?_
    obtain ⟨v', w', hr, h2, h3, h4, h5⟩ := run_append_own_at (P := P) w B T o.type E i0 z S bytes he.under hi hz0 hz1 hz2 he.zs he.pos v xs.length (xs.flatMap rd) hb ad ys.length c (ys.flatMap rd) (flat_len he.len ys) hcells (fun u hu => by obtain ⟨q, _, hq⟩ := List.mem_flatMap.1 hu; exact he.one q u hq) hmax hbytes hB
    unfold Oper.wp execOp
    simp only [ho, resolve, invoke, builtin, Sem.run_bind, Sem.run_pure, Result.andThen_ok, List.map_toArray, List.map_cons, List.map_nil, hs, hx, hr]
    refine hK _ _ (h v' w' ?_ h3)
    unfold OwnG
    rw [List.flatMap_append, List.length_append]
    exact h2
  rcases hsl with rfl | ⟨b, off, hA, hlt, hc⟩
  · cases A with
    | some ad => exact some_case ad rfl (fun j u hj => by simp at hj)
    | none =>
      refine wpList_want hw fun K hK => ?_
      have hr := app_none he w v B c o.type xs hb
      unfold Oper.wp execOp
      have hx' : a.eval x = .slice none 0 c := hx
      simp only [ho, resolve, invoke, builtin, Sem.run_bind, Sem.run_pure, Result.andThen_ok, List.map_toArray, List.map_cons, List.map_nil, hs, hx', hr]
      exact hK _ _ (h v w (by rw [List.append_nil]; exact hb) (World.grownBy.refl w _))
  · refine some_case ⟨b, off, none⟩ hA fun j u hj => ?_
    rw [Go.WideShapes.add_plain]
    exact SlG.flat he.len he.pos hc j u hj
end
end Go.Proofs.YtmgmdkagnhmihaaDoor
