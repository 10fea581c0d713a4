/-
  Plain facts on And and Or of lists of values: each turns into the other by Not, and they may be taken in parts. No condition.
-/
import Derived.Test.YtacmfjhmicgpnaaDoorOps
import Derived.Maps.AppendAt
import Derived.Deep.AppendLies
import Derived.OwnWalk
namespace Go.Proofs.YtacmfjhmicgpnaaDoor
open Go Go.RowKit

def pick3 (a b : Bool) (x y : Val) : Val := cond a x (cond b y nl)
theorem dec_char (s w : Val) : ∀ (xs : List Val) (ans : Val), dec s w ans xs = pick3 (xs.any fun v => v.eq s) (xs.all fun v => v.eq w) s ans
  | [], ans => rfl
  | v :: r, ans => by
    rw [dec, dec_char s w r]
    unfold pick3
    simp only [List.any_cons, List.all_cons]
    generalize (r.any fun v => v.eq s) = A
    generalize (r.all fun v => v.eq w) = B
    cases h1 : v.eq s
    · cases h2 : v.eq w
      · cases A <;> cases B <;> rfl
      · cases A <;> cases B <;> rfl
    · rfl
theorem andV_char (xs : List Val) : andV xs = pick3 (xs.any fun v => v.eq ff) (xs.all fun v => v.eq tt) ff tt := by
  unfold andV; rw [nt_ff]; exact dec_char ff tt xs tt
theorem orV_char (xs : List Val) : orV xs = pick3 (xs.any fun v => v.eq tt) (xs.all fun v => v.eq ff) tt ff := by
  unfold orV; rw [nt_tt]; exact dec_char tt ff xs ff
theorem tt_ff : tt.eq ff = false := Val.eq_false (Ne.symm ff_ne_tt)
theorem ff_tt : ff.eq tt = false := Val.eq_false ff_ne_tt
theorem nl_tt : nl.eq tt = false := Val.eq_false nl_ne_tt
theorem nl_ff : nl.eq ff = false := Val.eq_false nl_ne_ff
theorem nt_eq_tt (v : Val) : (nt v).eq tt = v.eq ff := by
  unfold nt
  cases h1 : v.eq tt
  · cases h2 : v.eq ff
    · exact nl_tt
    · exact Val.eq_self tt
  · rw [Val.eq_iff.1 h1, tt_ff]; exact ff_tt
theorem nt_eq_ff (v : Val) : (nt v).eq ff = v.eq tt := by
  unfold nt
  cases h1 : v.eq tt
  · cases h2 : v.eq ff
    · exact nl_ff
    · exact tt_ff
  · exact Val.eq_self ff
theorem any_rev (p : Val → Bool) (l : List Val) : l.reverse.any p = l.any p := by simp
theorem all_rev (p : Val → Bool) (l : List Val) : l.reverse.all p = l.all p := by simp
theorem nt_and (xs : List Val) : nt (andV xs) = orV (xs.map nt).reverse := by
  rw [andV_char, orV_char, any_rev, all_rev, List.any_map, List.all_map]
  have e1 : (xs.any ((fun v => v.eq tt) ∘ nt)) = xs.any fun v => v.eq ff := by congr 1; funext v; exact nt_eq_tt v
  have e2 : (xs.all ((fun v => v.eq ff) ∘ nt)) = xs.all fun v => v.eq tt := by congr 1; funext v; exact nt_eq_ff v
  rw [e1, e2]
  cases (xs.any fun v => v.eq ff)
  · cases (xs.all fun v => v.eq tt)
    · exact nt_nl
    · exact nt_tt
  · exact nt_ff
theorem nt_or (xs : List Val) : nt (orV xs) = andV (xs.map nt).reverse := by
  rw [andV_char, orV_char, any_rev, all_rev, List.any_map, List.all_map]
  have e1 : (xs.any ((fun v => v.eq ff) ∘ nt)) = xs.any fun v => v.eq tt := by congr 1; funext v; exact nt_eq_ff v
  have e2 : (xs.all ((fun v => v.eq tt) ∘ nt)) = xs.all fun v => v.eq ff := by congr 1; funext v; exact nt_eq_tt v
  rw [e1, e2]
  cases (xs.any fun v => v.eq tt)
  · cases (xs.all fun v => v.eq ff)
    · exact nt_nl
    · exact nt_ff
  · exact nt_tt
theorem and_parts (l m : List Val) : andV (l ++ m) = andV [andV l, andV m] := by
  rw [andV_char (l ++ m), andV_char [andV l, andV m], andV_char l, andV_char m]
  simp only [List.any_append, List.all_append, List.any_cons, List.any_nil, List.all_cons, List.all_nil]
  cases (l.any fun v => v.eq ff) <;> cases (l.all fun v => v.eq tt) <;> cases (m.any fun v => v.eq ff) <;> cases (m.all fun v => v.eq tt) <;> simp [pick3, tt_ff, nl_tt, nl_ff, Val.eq_self]
theorem or_parts (l m : List Val) : orV (l ++ m) = orV [orV m, orV l] := by
  rw [orV_char (l ++ m), orV_char [orV m, orV l], orV_char l, orV_char m]
  simp only [List.any_append, List.all_append, List.any_cons, List.any_nil, List.all_cons, List.all_nil]
  cases (l.any fun v => v.eq tt) <;> cases (l.all fun v => v.eq ff) <;> cases (m.any fun v => v.eq tt) <;> cases (m.all fun v => v.eq ff) <;> simp [pick3, ff_tt, nl_tt, nl_ff, Val.eq_self]

/-! ### Slices that the call itself has made -/
def cellsL : List Val → List Value
  | [] => []
  | a :: l => .int .i64 a.k :: .int .i64 a.n :: .string a.s :: cellsL l
theorem cellsL_length : ∀ l : List Val, (cellsL l).length = l.length * 3
  | [] => rfl
  | a :: l => by simp only [cellsL, List.length_cons, cellsL_length l]; omega
theorem cellsL_append : ∀ l r : List Val, cellsL (l ++ r) = cellsL l ++ cellsL r
  | [], _ => rfl
  | a :: l, r => by simp only [cellsL, List.cons_append, cellsL_append l r]
theorem cellsL_one : ∀ (l : List Val) (u : Value), u ∈ cellsL l → u.oneCell' = true
  | [], u, h => by cases h
  | a :: l, u, h => by
    simp only [cellsL, List.mem_cons] at h
    rcases h with rfl | rfl | rfl | h
    · rfl
    · rfl
    · rfl
    · exact cellsL_one l u h
theorem cellsL_at : ∀ (l : List Val) (i : Nat) (a : Val), l[i]? = some a → (cellsL l)[i * 3]? = some (.int .i64 a.k) ∧ (cellsL l)[i * 3 + 1]? = some (.int .i64 a.n) ∧ (cellsL l)[i * 3 + 2]? = some (.string a.s)
  | [], i, a, h => by simp at h
  | x :: l, 0, a, h => by simp at h; subst h; exact ⟨rfl, rfl, rfl⟩
  | x :: l, i + 1, a, h => by
    have := cellsL_at l i a (by simpa using h)
    have e : (i + 1) * 3 = i * 3 + 1 + 1 + 1 := by omega
    simp only [cellsL]
    rw [e]
    simpa using this

/-- The slice v is the call's own, and reads as xs. -/
def Own (w : World) (B : Nat) (v : Value) (xs : List Val) : Prop := (∃ g c, v = .slice (some ⟨g, 0, none⟩) xs.length c) ∧ w.ownsRow B 25 3 v xs.length (cellsL xs)
theorem Own.after {w w' : World} {B : Nat} {v : Value} {xs : List Val} (h : Own w B v xs) (hb : Below w.heap.size w w') : Own w' B v xs := by
  obtain ⟨⟨g, c, rfl⟩, h1, h2⟩ := h
  refine ⟨⟨g, c, rfl⟩, h1, ?_⟩
  rcases h2 with h2 | ⟨g', cap, cur, hv, hB, hh, h3⟩
  · exact .inl h2
  · have hlt : g' < w.heap.size := by
      rcases Nat.lt_or_ge g' w.heap.size with hlt | hge
      · exact hlt
      · rw [Array.getElem?_eq_none hge] at hh; cases hh
    exact .inr ⟨g', cap, cur, hv, hB, (hb.block g' hlt).trans hh, h3⟩
theorem Own.sl {w : World} {B g c : Nat} {xs : List Val} (h : Own w B (.slice (some ⟨g, 0, none⟩) xs.length c) xs) : Sl w (some ⟨g, 0, none⟩) xs := by
  cases xs with
  | nil => exact .inl rfl
  | cons x l =>
    have hc := h.2.cells (g := g) rfl
    have key : ∀ j u, (cellsL (x :: l))[j]? = some u → w.cell? ⟨g, 0 + j, none⟩ = some u := fun j u hu => by
      have := hc j u hu
      rwa [Go.WideShapes.add_plain] at this
    refine .inr ⟨g, 0, rfl, ?_, fun i a ha => ?_⟩
    · exact (h.2.lt g rfl).2
    · obtain ⟨e0, e1, e2⟩ := cellsL_at _ i a ha
      exact ⟨key _ _ e0, by simpa [Nat.add_assoc] using key _ _ e1, by simpa [Nat.add_assoc] using key _ _ e2⟩
theorem valInfo : (Tryd.prog.info? 25).map (fun i => (i.zero, i.size, i.bytes)) = some (some nl.v, 3, 32) := by kernel_rfl
theorem Bx.kept {w w' : World} {b : Nat} {a : Val} {row : Option Nat} (h : Bx w b a) (hg : w.grownBy w' row) (hne : some b ≠ row) : Bx w' b a := (hg.block b h.lt hne).trans h
theorem Own.kept {w w' : World} {B : Nat} {v : Value} {xs : List Val} {row : Option Nat} (h : Own w B v xs) (hg : w.grownBy w' row) (hne : v.ownBlock ≠ row) : Own w' B v xs := ⟨h.1, h.2.kept hg (.inr hne)⟩
theorem Own.alloc {w : World} {B : Nat} {v : Value} {xs : List Val} (h : Own w B v xs) (o : Obj) : Own (w.alloc o) B v xs := ⟨h.1, h.2.alloc o⟩
theorem Own.lt {w : World} {B : Nat} {v : Value} {xs : List Val} (h : Own w B v xs) : ∃ k, v.ownBlock = some k ∧ B ≤ k ∧ k < w.heap.size := by
  obtain ⟨⟨g, c, rfl⟩, h2⟩ := h
  exact ⟨g, rfl, h2.lt g rfl⟩
theorem own_empty (w : World) (B g : Nat) (hB : B ≤ g) (h : w.heap[g]? = some (.cells #[] 25 (0, 0))) : Own w B (.slice (some ⟨g, 0, none⟩) 0 0) [] :=
  ⟨⟨g, 0, rfl⟩, rfl, .inr ⟨g, 0, #[], rfl, hB, h, Nat.le_refl _, Nat.zero_le _, rfl, rfl⟩⟩
theorem own_one (w : World) (B : Nat) (a : Val) (hB : B ≤ w.heap.size) : Own (w.alloc (.cells #[.int .i64 a.k, .int .i64 a.n, .string a.s] 25)) B (.slice (some ⟨w.heap.size, 0, none⟩) 1 1) [a] :=
  ⟨⟨_, 1, rfl⟩, rfl, .inr ⟨w.heap.size, 1, #[.int .i64 a.k, .int .i64 a.n, .string a.s], rfl, hB, Bx.new w a, Nat.le_refl _, by decide, rfl, rfl⟩⟩

/-- append, of two slices of the call's own. -/
theorem wpList_app {ops : Array Oper} {rest : List Oper} {o : Oper} {a : Act} {Q : Exit → Act → World → Prop} {w : World} (hgd : o.guard = none) (s x : Operand) (ho : o.op = .call { callee := .builtin .append, args := #[s, x], argTypes := #[22, 22] })
    (B : Nat) (v : Value) (xs ys : List Val) (g c : Nat) (hs : a.eval s = v) (hown : Own w B v xs) (hx : a.eval x = .slice (some ⟨g, 0, none⟩) ys.length c) (hsrc : Own w B (.slice (some ⟨g, 0, none⟩) ys.length c) ys)
    (hmax : xs.length + ys.length ≤ 1000) (hB : B ≤ w.heap.size)
    (h : ∀ v' w', Own w' B v' (xs ++ ys) → w.grownBy w' v.ownBlock → (v'.ownBlock = v.ownBlock ∨ v'.ownBlock = some w.heap.size) → wpList Tryd.prog ops Q rest (a.put o.dst v') w') : wpList Tryd.prog ops Q (o :: rest) a w := by
  obtain ⟨i0, hi, hz0, hz1, hz2⟩ := info_parts valInfo
  refine wpList_append_own_at _ hgd s x 22 ho B 25 i0 nl.v 3 32 Tryd.underlying22 hi hz0 hz1 hz2 (by decide) (by decide) v xs.length (cellsL xs) hs hown.2 ⟨g, 0, none⟩ ys.length c (cellsL ys) hx (cellsL_length ys) (hsrc.2.cells rfl) (cellsL_one ys) (by unfold maxLen; omega) (by omega) hB ?_
  intro v' w' hown' hgrow hnil hat
  refine h v' w' ⟨?_, ?_⟩ hgrow hat
  · rcases hown'.2 with ⟨hv, _⟩ | ⟨g', cap, cur, hv, _⟩
    · have := (hnil.1 hv).1
      obtain ⟨g, c, e⟩ := hown.1
      rw [e] at this
      cases this
    · exact ⟨g', cap, by rw [hv, List.length_append]⟩
  · rw [cellsL_append, List.length_append]
    exact hown'
end Go.Proofs.YtacmfjhmicgpnaaDoor
