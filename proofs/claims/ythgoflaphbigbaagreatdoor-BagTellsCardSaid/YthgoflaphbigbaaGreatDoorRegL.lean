/-
  The law for a statement whose order Go leaves open, all of whose values are known, and whose last operation, behind all others, writes. It has no condition beyond those that it names.
-/
import Derived.Test.YthgoflaphbigbaaGreatDoorRegS
namespace Go.Proofs.YthgoflaphbigbaaGreatDoor
open Go Go.RowKit

namespace RegS
open Reg

section
variable {P : Program} {ops : Array Oper} {Q : Exit → Act → World → Prop}
/-- What one operation owes: the last one turns the world. -/
def DoesL (P : Program) (ops : Array Oper) (i0 : Nat) (R : World → Prop) (F : Act) (w' : World) (i : Nat) (o : Oper) : Prop :=
  if i = i0 then (Region.wanted o (yielded ops F.tmps) = true ∧ o.dst = none ∧ ∃ w'', (execOp F.eval o).run P w' = .ok .skip w'' ∧ R w'') else DoesV P ops F F o w'
theorem doesL_of {i0 i : Nat} {R : World → Prop} {F : Act} {w' : World} {o : Oper} (hi : i ≠ i0) (h : DoesV P ops F F o w') : DoesL P ops i0 R F w' i o := by
  unfold DoesL
  rw [if_neg hi]
  exact h
theorem doesL_last {i0 i : Nat} {R : World → Prop} {F : Act} {w' w'' : World} {o : Oper} (hi : i = i0) (hw : Region.wanted o (yielded ops F.tmps) = true) (hd : o.dst = none) (hr : (execOp F.eval o).run P w' = .ok .skip w'') (hR : R w'') : DoesL P ops i0 R F w' i o := by
  unfold DoesL
  rw [if_pos hi]
  exact ⟨hw, hd, w'', hr, hR⟩
/-- A REGION THAT DRAWS ITS ORDER, EVERY VALUE OF IT KNOWN; operation i0 comes behind all others, and turns the world. -/
theorem wp_region_last {id : Nat} {a : Act} {w : World} (hm : P.follows .mixedOrders = true) (hs : Region.noSelect ops = true) (i0 : Nat) (hi0 : i0 < ops.size)
    (hafter : (match ops[i0]? with | some o => (List.range ops.size).all fun j => decide (j = i0) || (direct o).contains j | none => false) = true)
    (vals : List (Tmp × Value)) (n : Nat) (hn : a.tmps.size = n) (hok : planS ops n vals [] [] [] (fun _ => []) (fun _ => false) = true) (R : World → Prop)
    (hstep : ∀ F : Act, F = putAll a vals → ∀ w', Below w.heap.size w w' → Each (DoesL P ops i0 R F w') 0 ops.toList)
    (hend : ∀ w', R w' → Q .normal (putAll a vals) w') :
    (Code.region id ops true).wp P Q a w := by
  have hfin : ∀ g l, fin a l [] g = putAll a l := fun g l => by simp [fin]
  have hok' := hok
  simp only [planS, Bool.and_eq_true, List.all_eq_true, decide_eq_true_eq, List.contains_iff_mem, List.append_nil] at hok
  obtain ⟨⟨⟨⟨hk1, hk2⟩, hnod⟩, hdn⟩, hop⟩ := hok
  refine wp_region_run hm hs vals [] [] [] (fun t ht => by cases ht) (fun _ => []) (fun _ => false) (fun _ _ _ => True) n hn hok'
    (fun listed _ w' => (listed.getD i0 true = true → (∀ j, j < ops.size → listed.getD j true = true) ∧ R w') ∧ (listed.getD i0 true = false → Below w.heap.size w w')) [] (fun t ht => by cases ht) ?_ ?_ ?_
  · refine ⟨fun h => ?_, fun _ => (Below.refl _ _).drew⟩
    rw [Array.getD_eq_getD_getElem?, Array.getElem?_replicate, if_pos hi0] at h
    cases h
  · intro i o hi g w' listed hli hls hld hJ _ _
    have hilt : i < ops.size := (Array.getElem?_eq_some_iff.1 hi).1
    have hno : listed.getD i0 true = false := by
      cases h : listed.getD i0 true with
      | false => rfl
      | true =>
        have := (hJ.1 h).1 i hilt
        rw [this] at hli
        cases hli
    have hB := hJ.2 hno
    have hD := each_at ops.toList 0 i o (hstep _ rfl w' hB) (by simpa using hi)
    have hfr : fr a vals [] [] (fun _ => false) i g = putAll a vals := by
      unfold fr
      rw [if_neg (by simp), hfin, List.append_nil]
    rw [hfr]
    rw [Nat.zero_add] at hD
    unfold DoesL at hD
    have hset : ∀ j, (listed.setIfInBounds i true).getD j true = if j = i then true else listed.getD j true := by
      intro j
      rw [Array.getD_eq_getD_getElem?, Array.getD_eq_getD_getElem?, Array.getElem?_setIfInBounds]
      by_cases e : j = i
      · subst e
        rw [if_pos rfl, if_pos rfl]
        split <;> rfl
      · rw [if_neg (Ne.symm e), if_neg e]
    by_cases hi1 : i = i0
    · subst hi1
      rw [if_pos rfl] at hD
      obtain ⟨hw, hd, w'', hr, hR⟩ := hD
      unfold Does
      rw [if_pos hw]
      unfold Oper.wp
      rw [hr]
      refine ⟨undef, rfl, fun d u h _ => absurd (hd.symm.trans h) (by simp), trivial, ⟨fun _ => ⟨fun j hj => ?_, hR⟩, fun h => ?_⟩, fun _ _ _ _ => trivial⟩
      · rw [hset]
        split
        · rfl
        · rename_i hne
          rw [hi] at hafter
          simp only [List.all_eq_true, List.mem_range, Bool.or_eq_true, decide_eq_true_eq, List.contains_iff_mem] at hafter
          rcases hafter j hj with h | h
          · exact absurd h hne
          · exact hld j h
      · rw [hset, if_pos rfl] at h
        cases h
    · rw [if_neg hi1] at hD
      have hex : ∀ (v : Value), (putAll a vals).put o.dst v = putAll a vals → ∀ d u, o.dst = some d → (d, u) ∈ vals ++ [] → v = u := by
        intro v hv d u hd hu
        rw [List.append_nil] at hu
        have hdlt : d < n := (hk1 d (List.mem_map.2 ⟨_, hu, rfl⟩)).1
        rw [hd] at hv
        have h1 := put_slot _ d v (by rw [putAll_size, hn]; exact hdlt) hv
        rw [← h1, putAll_at vals d u a (by rw [hn]; exact hdlt) hnod hu]
      have hkeep : ∀ w'', Below w'.heap.size w' w'' → ((listed.setIfInBounds i true).getD i0 true = true → (∀ j, j < ops.size → (listed.setIfInBounds i true).getD j true = true) ∧ R w'') ∧ ((listed.setIfInBounds i true).getD i0 true = false → Below w.heap.size w w'') := by
        intro w'' hb
        rw [hset i0, if_neg (Ne.symm hi1), hno]
        exact ⟨fun h => Bool.noConfusion h, fun _ => hB.trans (hb.mono hB.size)⟩
      generalize putAll a vals = E at hD hex ⊢
      unfold DoesV at hD
      unfold Does
      split
      · rename_i hw
        rw [if_pos hw] at hD
        unfold Oper.wp at hD ⊢
        refine upon_congr (F := E) ?_ ?_ hD
        · rintro v w'' ⟨v', he, hF, hb⟩
          exact ⟨v', he, hex v' hF, trivial, hkeep w'' hb, fun _ _ _ _ => trivial⟩
        · rintro d w'' ⟨v, he, _⟩
          have h1 := congrArg (fun x => x.defers.length) he
          simp only [defers_put, List.length_cons] at h1
          omega
      · rename_i hw
        rw [if_neg hw] at hD
        exact ⟨⟨hex undef hD, trivial⟩, hkeep w' (Below.refl _ _)⟩
  · intro g w' listed hall hJ _
    rw [hfin, List.append_nil]
    exact hend w' (hJ.1 (hall i0 hi0)).2
end
end RegS
end Go.Proofs.YthgoflaphbigbaaGreatDoor
