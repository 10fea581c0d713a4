/-
  Plain facts on bags, further: bags together may be, if the sums are low; in any order and any grouping they are the same; the rows of a bag of rows are these, sorted; texts of bags tell them apart. No condition.
-/
import Derived.Test.YthgoflaphbigbaaGreatDoorBagP
import Derived.Test.YthgoflaphbigbaaGreatDoorTextQ
namespace Go.Proofs.YthgoflaphbigbaaGreatDoor
open Go

theorem look_mem : ∀ (b : Bg) (x : List Val × Int), Asc b → x ∈ b → lookB b x.1 = x.2
  | [], x, _, hx => by cases hx
  | y :: b, x, h, hx => by
    rcases List.mem_cons.1 hx with rfl | hx
    · rw [lookB, if_pos (cmpL_same _)]
    · rw [look_cons_ne (cmpL_lt_ne (asc_head h x hx)), look_mem b x (asc_tail h) hx]
theorem key_add (P : List Val → Prop) : ∀ (b : Bg) (r : List Val) (n : Int), (∀ x ∈ b, P x.1) → P r → ∀ x ∈ addB b r n, P x.1
  | [], r, n, _, hr, x, hx => by
    rw [addB] at hx
    split at hx
    · cases hx
    · rw [List.mem_singleton] at hx; rw [hx]; exact hr
  | y :: b, r, n, hb, hr, x, hx => by
    have hb' : ∀ z ∈ b, P z.1 := fun z hz => hb z (List.mem_cons_of_mem _ hz)
    rw [addB] at hx
    split at hx
    · rcases List.mem_cons.1 hx with rfl | hx
      · exact hb x (by simp)
      · exact key_add P b r n hb' hr x hx
    · split at hx
      · split at hx
        · exact hb' x hx
        · rcases List.mem_cons.1 hx with rfl | hx
          · exact hr
          · exact hb' x hx
      · split at hx
        · exact hb x hx
        · rcases List.mem_cons.1 hx with rfl | hx
          · exact hr
          · exact hb x hx
theorem key_both (P : List Val → Prop) : ∀ (b a : Bg), (∀ x ∈ a, P x.1) → (∀ x ∈ b, P x.1) → ∀ x ∈ bothB a b, P x.1
  | [], _, ha, _ => ha
  | y :: b, a, ha, hb => key_both P b _ (key_add P a y.1 y.2 ha (hb y (by simp))) (fun x hx => hb x (List.mem_cons_of_mem _ hx))
theorem key_go (P : List Val → Prop) : ∀ (l : List Bg) (a : Bg), (∀ x ∈ a, P x.1) → (∀ b ∈ l, ∀ x ∈ b, P x.1) → ∀ x ∈ l.foldl bothB a, P x.1
  | [], _, ha, _ => ha
  | b :: l, a, ha, hl => key_go P l _ (key_both P b a ha (hl b (by simp))) (fun c hc => hl c (List.mem_cons_of_mem _ hc))
theorem key_plus (P : List Val → Prop) (l : List Bg) (h : ∀ b ∈ l, ∀ x ∈ b, P x.1) : ∀ x ∈ plusL l, P x.1 := key_go P l [] (fun x hx => by cases hx) h
theorem okC_of {x : List Val × Int} (h1 : x.2 ≠ 0) (h2 : -1000000000 ≤ x.2) (h3 : x.2 ≤ 1000000000) (h4 : mayR x.1 = true) : okC x = true := by
  unfold okC
  rw [beq_eq_false_iff_ne.2 h1, decide_eq_true h2, decide_eq_true h3, h4]
  rfl
theorem may_of {b : Bg} (h1 : Asc b) (h2 : ∀ x ∈ b, okC x = true) : mayBag b = true := by
  unfold mayBag
  rw [asc_rises b h1, Bool.and_true, List.all_eq_true]
  exact h2
/-- Bags together may be, if no sum is too large. -/
theorem may_plus (l : List Bg) (hl : ∀ b ∈ l, mayBag b = true) (hs : ∀ s, -1000000000 ≤ sumL l s ∧ sumL l s ≤ 1000000000) : mayBag (plusL l) = true := by
  refine may_of (asc_plus l) fun x hx => ?_
  have h1 := nz_plus l x hx
  have h2 := look_mem _ x (asc_plus l) hx
  rw [look_plus] at h2
  have h3 := hs x.1
  rw [h2] at h3
  exact okC_of h1 h3.1 h3.2 (key_plus (fun r => mayR r = true) l (fun b hb y hy => (okC_parts (may_okC (hl b hb) y hy)).2.2.2) x hx)
theorem may_neg {b : Bg} (h : mayBag b = true) : mayBag (negB b) = true := by
  refine may_of (asc_neg (may_asc h)) fun x hx => ?_
  obtain ⟨y, hy, rfl⟩ := List.mem_map.1 hx
  obtain ⟨h1, h2, h3, h4⟩ := okC_parts (may_okC h y hy)
  refine okC_of ?_ ?_ ?_ h4
  · show -y.2 ≠ 0; omega
  · show -1000000000 ≤ -y.2; omega
  · show -y.2 ≤ 1000000000; omega
theorem look_low (M : Int) (hM : 0 ≤ M) : ∀ (b : Bg) (s : List Val), (∀ x ∈ b, -M ≤ x.2 ∧ x.2 ≤ M) → -M ≤ lookB b s ∧ lookB b s ≤ M
  | [], _, _ => by rw [lookB]; omega
  | x :: b, s, h => by
    rw [lookB]
    split
    · exact h x (by simp)
    · exact look_low M hM b s fun y hy => h y (List.mem_cons_of_mem _ hy)
/-- What Plus answers. -/
def plusR (l : List Bg) : Bg := if l.all mayBag && mayBag (plusL l) then plusL l else []
theorem plusR_of {l : List Bg} (h1 : ∀ b ∈ l, mayBag b = true) (h2 : mayBag (plusL l) = true) : plusR l = plusL l := by
  unfold plusR
  rw [h2, List.all_eq_true.2 h1]
  rfl
theorem plus_ext {l m : List Bg} (h : ∀ s, sumL l s = sumL m s) : plusL l = plusL m :=
  bag_ext _ _ (asc_plus l) (asc_plus m) (nz_plus l) (nz_plus m) fun s => by rw [look_plus, look_plus, h s]
theorem sum_plus (l : List Bg) (s : List Val) : sumB (plusL l) s = sumL l s := by rw [sum_look _ s (asc_plus l), look_plus]

/-- The rows of a bag, each as often as its count says. -/
def rowsB (b : Bg) : List (List Val) := b.flatMap fun x => List.replicate x.2.toNat x.1
theorem rows_cons (x : List Val × Int) (b : Bg) : rowsB (x :: b) = List.replicate x.2.toNat x.1 ++ rowsB b := rfl
theorem rows_add : ∀ (b : Bg) (r : List Val), (∀ x ∈ b, 0 < x.2) → (rowsB (addB b r 1)).Perm (r :: rowsB b)
  | [], r, _ => by
    rw [addB, if_neg (by decide)]
    exact List.Perm.refl _
  | x :: b, r, h => by
    have hb : ∀ y ∈ b, 0 < y.2 := fun y hy => h y (List.mem_cons_of_mem _ hy)
    have hx := h x (by simp)
    rw [addB]
    by_cases h1 : cmpL x.1 r = -1
    · rw [if_pos h1, rows_cons, rows_cons]
      exact ((rows_add b r hb).append_left _).trans List.perm_middle
    · rw [if_neg h1]
      by_cases h2 : cmpL x.1 r = 0
      · have e := cmpL_iff.1 h2
        rw [if_pos h2, if_neg (by omega), rows_cons, rows_cons, e, show (1 + x.2).toNat = x.2.toNat + 1 by omega, List.replicate_succ]
        exact List.Perm.refl _
      · rw [if_neg h2, if_neg (by decide), rows_cons]
        exact List.Perm.refl _
theorem pos_add : ∀ (b : Bg) (r : List Val), (∀ x ∈ b, 0 < x.2) → ∀ x ∈ addB b r 1, 0 < x.2
  | [], r, _, x, hx => by
    rw [addB, if_neg (by decide), List.mem_singleton] at hx
    rw [hx]
    exact Int.one_pos
  | y :: b, r, h, x, hx => by
    have hb : ∀ z ∈ b, 0 < z.2 := fun z hz => h z (List.mem_cons_of_mem _ hz)
    have hy := h y (by simp)
    rw [addB] at hx
    by_cases h1 : cmpL y.1 r = -1
    · rw [if_pos h1] at hx
      rcases List.mem_cons.1 hx with rfl | hx
      · exact hy
      · exact pos_add b r hb x hx
    · rw [if_neg h1] at hx
      by_cases h2 : cmpL y.1 r = 0
      · rw [if_pos h2, if_neg (by omega)] at hx
        rcases List.mem_cons.1 hx with rfl | hx
        · show 0 < 1 + y.2; omega
        · exact hb x hx
      · rw [if_neg h2, if_neg (by decide)] at hx
        rcases List.mem_cons.1 hx with rfl | hx
        · exact Int.one_pos
        · exact h x hx
theorem rows_go : ∀ (l : List (List Val)) (a : Bg), (∀ x ∈ a, 0 < x.2) → (∀ x ∈ bothB a (l.map fun r => (r, 1)), 0 < x.2) ∧ (rowsB (bothB a (l.map fun r => (r, 1)))).Perm (rowsB a ++ l)
  | [], a, h => ⟨h, by rw [List.append_nil]; exact List.Perm.refl _⟩
  | r :: l, a, h => by
    have h2 := rows_go l (addB a r 1) (pos_add a r h)
    refine ⟨h2.1, ?_⟩
    show (rowsB (bothB (addB a r 1) (l.map fun r => (r, 1)))).Perm _
    refine h2.2.trans ?_
    refine ((rows_add a r h).append_right l).trans ?_
    exact (List.perm_middle (l₁ := rowsB a)).symm
theorem of_pos (l : List (List Val)) : ∀ x ∈ ofL l, 0 < x.2 := (rows_go l [] (fun x hx => by cases hx)).1
theorem of_perm (l : List (List Val)) : (rowsB (ofL l)).Perm l := (rows_go l [] (fun x hx => by cases hx)).2
theorem rows_above : ∀ (b : Bg) (k : List Val), (∀ x ∈ b, cmpL k x.1 = -1) → ∀ r ∈ rowsB b, leR k r = true := by
  intro b k h r hr
  obtain ⟨x, hx, hr⟩ := List.mem_flatMap.1 hr
  rw [(List.mem_replicate.1 hr).2]
  unfold leR
  rw [h x hx]
  rfl
theorem rows_sorted : ∀ b : Bg, Asc b → (rowsB b).Pairwise fun x y => leR x y = true
  | [], _ => List.Pairwise.nil
  | x :: b, h => by
    rw [rows_cons, List.pairwise_append]
    refine ⟨?_, rows_sorted b (asc_tail h), fun u hu v hv => ?_⟩
    · rw [List.pairwise_replicate]
      right
      unfold leR
      rw [cmpL_same]
      rfl
    · rw [(List.mem_replicate.1 hu).2]
      exact rows_above b x.1 (asc_head h) v hv
theorem asc_of (l : List (List Val)) : Asc (ofL l) := asc_both _ [] List.Pairwise.nil
theorem nz_of (l : List (List Val)) : NZ (ofL l) := nz_both _ [] (fun x hx => by cases hx)
/-- A bag of rows has just these rows, sorted. -/
theorem rows_of (l : List (List Val)) : rowsB (ofL l) = sortR l := sortR_of (of_perm l) (rows_sorted _ (asc_of l))
theorem of_append (l m : List (List Val)) : ofL (l ++ m) = plusL [ofL l, ofL m] :=
  bag_ext _ _ (asc_of _) (asc_plus _) (nz_of _) (nz_plus _) fun s => by
    rw [look_of, look_plus, List.map_append, sum_append, sumL, sumL, sumL, sum_look _ s (asc_of l), sum_look _ s (asc_of m), look_of, look_of, Int.add_zero]
theorem sum_ones : ∀ (l : List (List Val)) (s : List Val), 0 ≤ sumB (l.map fun r => (r, 1)) s ∧ sumB (l.map fun r => (r, 1)) s ≤ l.length
  | [], _ => by rw [List.map_nil, sumB]; exact ⟨Int.le_refl _, Int.le_refl _⟩
  | r :: l, s => by
    have h := sum_ones l s
    rw [List.map_cons, sumB, List.length_cons]
    split <;> constructor <;> (try push_cast) <;> omega
theorem may_ofL (l : List (List Val)) (h : ∀ r ∈ l, mayR r = true) (hl : l.length ≤ 1000000) : mayBag (ofL l) = true := by
  refine may_of (asc_of l) fun x hx => ?_
  have h2 := look_mem _ x (asc_of l) hx
  rw [look_of] at h2
  have h3 := sum_ones l x.1
  have h4 := of_pos l x hx
  rw [h2] at h3
  refine okC_of (by omega) (by omega) (by omega) ?_
  exact key_both (fun r => mayR r = true) (l.map fun r => (r, 1)) [] (fun y hy => by cases hy) (fun y hy => by
    obtain ⟨r, hr, rfl⟩ := List.mem_map.1 hy
    exact h r hr) x hx
end Go.Proofs.YthgoflaphbigbaaGreatDoor
