/-
  Plain facts on how the document adds a row to a bag: what is laid so far. No condition.
-/
import Derived.Test.YthgoflaphbigbaaGreatDoorSame5
namespace Go.Proofs.YthgoflaphbigbaaGreatDoor
open Go Go.RowKit
set_option maxRecDepth 100000

theorem pl_app (a b : List Ct) : pl (a ++ b) = pl a ++ pl b := by unfold pl; rw [List.map_append]
theorem pl_one (c : Ct) : pl [c] = [(c.h.xs, c.N)] := rfl
/-- What is laid of a bag with a row so many times more, when k rows have been looked at; L: whether the row is laid. -/
structure AddSt (w : World) (cs : List Ct) (r : Hd) (n0 : Int) (k : Nat) (L : Bool) (ol : List Ct) : Prop where
  eq : addB (pl cs) r.xs n0 = pl ol ++ (if L then (pl cs).drop k else addB ((pl cs).drop k) r.xs n0)
  up : L = true → ∀ x ∈ (pl cs).drop k, cmpL r.xs x.1 = -1
  len : ol.length ≤ k + (if L then 1 else 0)
  each : ∀ c ∈ ol, Ct.In w c
theorem AddSt.start (w : World) (cs : List Ct) (r : Hd) (n0 : Int) : AddSt w cs r n0 0 false [] := ⟨rfl, nofun, Nat.zero_le _, nofun⟩
theorem each_snoc {w : World} {ol : List Ct} {x : Ct} (h : ∀ c ∈ ol, Ct.In w c) (hx : Ct.In w x) : ∀ c ∈ ol ++ [x], Ct.In w c := by
  intro c hc
  rcases List.mem_append.1 hc with h1 | h1
  · exact h c h1
  · cases List.mem_singleton.1 h1
    exact hx
theorem pl_drop {cs : List Ct} {k : Nat} {x : Ct} (h : cs[k]? = some x) : (pl cs).drop k = (x.h.xs, x.N) :: (pl cs).drop (k + 1) := by
  have h0 := pl_at h
  have h1 := List.drop_eq_getElem_cons (List.getElem?_eq_some_iff.1 h0).1
  rw [(List.getElem?_eq_some_iff.1 h0).2] at h1
  exact h1
theorem asc_drop {b : Bg} (h : Asc b) (k : Nat) : Asc (b.drop k) := List.Pairwise.sublist (List.drop_sublist k b) h
theorem cmpL_one' {a b : List Val} (h : cmpL a b = 1) : cmpL b a = -1 := by rw [cmpL_neg a b, h]
theorem AddSt.lt {w : World} {cs : List Ct} {r : Hd} {n0 : Int} {k : Nat} {ol : List Ct} {x : Ct} (h : AddSt w cs r n0 k false ol) (hx : cs[k]? = some x) (hc : cmpL x.h.xs r.xs = -1) (hi : Ct.In w x) : AddSt w cs r n0 (k + 1) false (ol ++ [x]) := by
  refine ⟨?_, nofun, by have := h.len; simp at this ⊢; omega, each_snoc h.each hi⟩
  rw [h.eq, if_neg (by decide), if_neg (by decide), pl_drop hx, addB, if_pos hc, pl_app, pl_one, List.append_assoc]
  rfl
theorem up_of {cs : List Ct} {r : Hd} {k : Nat} {x : Ct} (ha : Asc (pl cs)) (hx : cs[k]? = some x) (hc : cmpL x.h.xs r.xs ≠ -1) : ∀ y ∈ (pl cs).drop (k + 1), cmpL r.xs y.1 = -1 := by
  intro y hy
  have h1 := asc_drop ha k
  rw [pl_drop hx] at h1
  have h2 := asc_head h1 y hy
  rcases cmpL_range x.h.xs r.xs with e | e | e
  · exact absurd e hc
  · rw [← cmpL_iff.1 e]
    exact h2
  · exact cmpL_trans (cmpL_one' e) h2
theorem AddSt.eq0 {w : World} {cs : List Ct} {r : Hd} {n0 : Int} {k : Nat} {ol : List Ct} {x : Ct} (h : AddSt w cs r n0 k false ol) (ha : Asc (pl cs)) (hx : cs[k]? = some x) (hc : cmpL x.h.xs r.xs = 0) (hn : n0 + x.N = 0) : AddSt w cs r n0 (k + 1) true ol := by
  refine ⟨?_, fun _ => up_of ha hx (by rw [hc]; decide), by have := h.len; simp at this ⊢; omega, h.each⟩
  rw [h.eq, if_neg (by decide), if_pos rfl, pl_drop hx, addB, if_neg (by rw [hc]; decide), if_pos hc, if_pos hn]
theorem AddSt.eq1 {w : World} {cs : List Ct} {r : Hd} {n0 : Int} {k : Nat} {ol : List Ct} {x : Ct} (h : AddSt w cs r n0 k false ol) (ha : Asc (pl cs)) (hx : cs[k]? = some x) (hc : cmpL x.h.xs r.xs = 0) (hn : n0 + x.N ≠ 0) (hi : Ct.In w ⟨r, n0 + x.N⟩) : AddSt w cs r n0 (k + 1) true (ol ++ [⟨r, n0 + x.N⟩]) := by
  refine ⟨?_, fun _ => up_of ha hx (by rw [hc]; decide), by have := h.len; simp at this ⊢; omega, each_snoc h.each hi⟩
  rw [h.eq, if_neg (by decide), if_pos rfl, pl_drop hx, addB, if_neg (by rw [hc]; decide), if_pos hc, if_neg hn, pl_app, pl_one, List.append_assoc]
  rfl
theorem AddSt.gt0 {w : World} {cs : List Ct} {r : Hd} {n0 : Int} {k : Nat} {ol : List Ct} {x : Ct} (h : AddSt w cs r n0 k false ol) (ha : Asc (pl cs)) (hx : cs[k]? = some x) (hc : cmpL x.h.xs r.xs = 1) (hn : n0 = 0) (hi : Ct.In w x) : AddSt w cs r n0 (k + 1) true (ol ++ [x]) := by
  refine ⟨?_, fun _ => up_of ha hx (by rw [hc]; decide), by have := h.len; simp at this ⊢; omega, each_snoc h.each hi⟩
  rw [h.eq, if_neg (by decide), if_pos rfl, pl_drop hx, addB, if_neg (by rw [hc]; decide), if_neg (by rw [hc]; decide), if_pos hn, pl_app, pl_one, List.append_assoc]
  rfl
theorem AddSt.gt1 {w : World} {cs : List Ct} {r : Hd} {n0 : Int} {k : Nat} {ol : List Ct} {x : Ct} (h : AddSt w cs r n0 k false ol) (ha : Asc (pl cs)) (hx : cs[k]? = some x) (hc : cmpL x.h.xs r.xs = 1) (hn : n0 ≠ 0) (hr : Ct.In w ⟨r, n0⟩) (hi : Ct.In w x) : AddSt w cs r n0 (k + 1) true ((ol ++ [⟨r, n0⟩]) ++ [x]) := by
  refine ⟨?_, fun _ => up_of ha hx (by rw [hc]; decide), by have := h.len; simp at this ⊢; omega, each_snoc (each_snoc h.each hr) hi⟩
  rw [h.eq, if_neg (by decide), if_pos rfl, pl_drop hx, addB, if_neg (by rw [hc]; decide), if_neg (by rw [hc]; decide), if_neg hn, pl_app, pl_app, pl_one, pl_one, List.append_assoc, List.append_assoc]
  rfl
theorem AddSt.laid {w : World} {cs : List Ct} {r : Hd} {n0 : Int} {k : Nat} {ol : List Ct} {x : Ct} (h : AddSt w cs r n0 k true ol) (hx : cs[k]? = some x) (hi : Ct.In w x) : AddSt w cs r n0 (k + 1) true (ol ++ [x]) := by
  refine ⟨?_, fun _ y hy => h.up rfl y (by rw [pl_drop hx]; exact List.mem_cons_of_mem _ hy), by have := h.len; simp at this ⊢; omega, each_snoc h.each hi⟩
  rw [h.eq, if_pos rfl, if_pos rfl, pl_drop hx, pl_app, pl_one, List.append_assoc]
  rfl
theorem AddSt.cmp {w : World} {cs : List Ct} {r : Hd} {n0 : Int} {k : Nat} {ol : List Ct} {x : Ct} (h : AddSt w cs r n0 k true ol) (hx : cs[k]? = some x) : cmpL x.h.xs r.xs = 1 := by
  have := h.up rfl (x.h.xs, x.N) (by rw [pl_drop hx]; exact List.mem_cons_self)
  rw [cmpL_neg r.xs x.h.xs, this]
  rfl
theorem AddSt.done {w : World} {cs : List Ct} {r : Hd} {n0 : Int} {k : Nat} {ol : List Ct} (h : AddSt w cs r n0 k true ol) (hk : cs.length ≤ k) : pl ol = addB (pl cs) r.xs n0 := by
  rw [h.eq, if_pos rfl, List.drop_eq_nil_of_le (by rw [pl_len]; exact hk), List.append_nil]
theorem AddSt.done0 {w : World} {cs : List Ct} {r : Hd} {n0 : Int} {k : Nat} {ol : List Ct} (h : AddSt w cs r n0 k false ol) (hk : cs.length ≤ k) (hn : n0 = 0) : pl ol = addB (pl cs) r.xs n0 := by
  rw [h.eq, if_neg (by decide), List.drop_eq_nil_of_le (by rw [pl_len]; exact hk), addB, if_pos hn, List.append_nil]
theorem AddSt.done1 {w : World} {cs : List Ct} {r : Hd} {n0 : Int} {k : Nat} {ol : List Ct} (h : AddSt w cs r n0 k false ol) (hk : cs.length ≤ k) (hn : n0 ≠ 0) : pl (ol ++ [⟨r, n0⟩]) = addB (pl cs) r.xs n0 := by
  rw [h.eq, if_neg (by decide), List.drop_eq_nil_of_le (by rw [pl_len]; exact hk), addB, if_neg hn, pl_app, pl_one]
end Go.Proofs.YthgoflaphbigbaaGreatDoor
