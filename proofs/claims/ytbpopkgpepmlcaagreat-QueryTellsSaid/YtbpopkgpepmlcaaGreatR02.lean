/-
  Part 2 of 11 of what the proof leans on: each part below says what it proves, and of what; no condition besides.
-/
import Derived.Test.YtbpopkgpepmlcaaGreatR01
import Derived.Lib.ItoaNum
import Derived.Lib.Join
set_option linter.unusedVariables false
set_option linter.unusedSimpArgs false
namespace Go.Proofs.YtbpopkgpepmlcaaGreat
open Go
def textL (x : Val) : List UInt8 :=
 if x.k == 0 then [110, 117, 108, 108] else if x.k == 1 then (if x.n == 0 then [102, 97, 108, 115, 101] else [116, 114, 117, 101]) else if x.k == 2 then Lib.itoa x.n else if x.k == 3 then [39] ++ sub1 39 [39, 39] x.s.data.toList ++ [39] else [63]
def Stop (r : List UInt8) : Prop := r = [] ∨ ∃ l, r = 44 :: l
def bodyL (l : List Val) : List UInt8 := Lib.join (l.map textL) [44, 32]
def rowT (l : List Val) : List UInt8 := [40] ++ bodyL l ++ [41]
theorem sub1_le (c : UInt8) : ∀ l : List UInt8, (sub1 c [c, c] l).length ≤ 2 * l.length
 | [] => Nat.le_refl _
 | b :: l => by
   rw [sub1]
   have := sub1_le c l
   split <;> simp <;> omega
theorem dec_len (u : Nat) (k : Nat) (h : u < 10 ^ (k + 1)) : (Lib.decDigits u).length ≤ k + 1 := by
 induction k generalizing u with
 | zero =>
   rw [Lib.decDigits, dif_pos (by simpa using h)]
   simp
 | succ k ih =>
   rw [Lib.decDigits]
   by_cases h10 : u < 10
   · rw [dif_pos h10]; simp
   · rw [dif_neg h10]
     have : u / 10 < 10 ^ (k + 1) := by
      rw [Nat.pow_succ] at h
      exact (Nat.div_lt_iff_lt_mul (by decide)).2 h
     have := ih (u / 10) this
     simp
     omega
theorem itoa_len (a : Int) (h : -9223372036854775808 ≤ a ∧ a ≤ 9223372036854775807) : (Lib.itoa a).length ≤ 21 := by
 unfold Lib.itoa
 split
 · rw [List.length_cons]
   exact Nat.succ_le_succ (dec_len _ 19 (by omega))
 · exact Nat.le_trans (dec_len _ 19 (by omega)) (by decide)
theorem text_len (x : Val) (hn : -9223372036854775808 ≤ x.n ∧ x.n ≤ 9223372036854775807) (hs : x.s.size ≤ 2000) : (textL x).length ≤ 5000 := by
 unfold textL
 split
 · simp
 split
 · split <;> simp
 split
 · have := itoa_len x.n hn
   omega
 split
 · have h1 := sub1_le 39 x.s.data.toList
   have h2 : x.s.data.toList.length = x.s.size := rfl
   simp only [List.length_append, List.length_cons, List.length_nil]
   omega
 · simp
end Go.Proofs.YtbpopkgpepmlcaaGreat
namespace Go.Proofs.YtbpopkgpepmlcaaGreat
open Go
theorem look_mem : ∀ (b : Bg) (x : List Val × Int), Asc b → x ∈ b → lookB b x.1 = x.2
 | [], x, _, hx => by cases hx
 | y :: b, x, h, hx => by
   rcases List.mem_cons.1 hx with rfl | hx
   · rw [lookB, if_pos (cmpL_same _)]
   · rw [look_cons_ne (cmpL_lt_ne (asc_head h x hx)), look_mem b x (asc_tail h) hx]
theorem key_add (P : List Val → Prop) : ∀ (b : Bg) (r : List Val) (n : Int), (∀ x ∈ b, P x.1) → P r → ∀ x ∈ addB b r n, P x.1
 | [], r, n, _, hr, x, hx => by
   rw [addB] at hx
   split at hx
   · cases hx
   · rw [List.mem_singleton] at hx; rw [hx]; exact hr
 | y :: b, r, n, hb, hr, x, hx => by
   have hb' : ∀ z ∈ b, P z.1 := fun z hz => hb z (List.mem_cons_of_mem _ hz)
   rw [addB] at hx
   split at hx
   · rcases List.mem_cons.1 hx with rfl | hx
     · exact hb x (by simp)
     · exact key_add P b r n hb' hr x hx
   · split at hx
     · split at hx
       · exact hb' x hx
       · rcases List.mem_cons.1 hx with rfl | hx
         · exact hr
         · exact hb' x hx
     · split at hx
       · exact hb x hx
       · rcases List.mem_cons.1 hx with rfl | hx
         · exact hr
         · exact hb x hx
theorem key_both (P : List Val → Prop) : ∀ (b a : Bg), (∀ x ∈ a, P x.1) → (∀ x ∈ b, P x.1) → ∀ x ∈ bothB a b, P x.1
 | [], _, ha, _ => ha
 | y :: b, a, ha, hb => key_both P b _ (key_add P a y.1 y.2 ha (hb y (by simp))) (fun x hx => hb x (List.mem_cons_of_mem _ hx))
theorem key_go (P : List Val → Prop) : ∀ (l : List Bg) (a : Bg), (∀ x ∈ a, P x.1) → (∀ b ∈ l, ∀ x ∈ b, P x.1) → ∀ x ∈ l.foldl bothB a, P x.1
 | [], _, ha, _ => ha
 | b :: l, a, ha, hl => key_go P l _ (key_both P b a ha (hl b (by simp))) (fun c hc => hl c (List.mem_cons_of_mem _ hc))
theorem key_plus (P : List Val → Prop) (l : List Bg) (h : ∀ b ∈ l, ∀ x ∈ b, P x.1) : ∀ x ∈ plusL l, P x.1 := key_go P l [] (fun x hx => by cases hx) h
theorem okC_of {x : List Val × Int} (h1 : x.2 ≠ 0) (h2 : -1000000000 ≤ x.2) (h3 : x.2 ≤ 1000000000) (h4 : mayR x.1 = true) : okC x = true := by
 unfold okC
 rw [beq_eq_false_iff_ne.2 h1, decide_eq_true h2, decide_eq_true h3, h4]
 rfl
theorem may_of {b : Bg} (h1 : Asc b) (h2 : ∀ x ∈ b, okC x = true) : mayBag b = true := by
 unfold mayBag
 rw [asc_rises b h1, Bool.and_true, List.all_eq_true]
 exact h2
theorem may_plus (l : List Bg) (hl : ∀ b ∈ l, mayBag b = true) (hs : ∀ s, -1000000000 ≤ sumL l s ∧ sumL l s ≤ 1000000000) : mayBag (plusL l) = true := by
 refine may_of (asc_plus l) fun x hx => ?_
 have h1 := nz_plus l x hx
 have h2 := look_mem _ x (asc_plus l) hx
 rw [look_plus] at h2
 have h3 := hs x.1
 rw [h2] at h3
 exact okC_of h1 h3.1 h3.2 (key_plus (fun r => mayR r = true) l (fun b hb y hy => (okC_parts (may_okC (hl b hb) y hy)).2.2.2) x hx)
theorem may_neg {b : Bg} (h : mayBag b = true) : mayBag (negB b) = true := by
 refine may_of (asc_neg (may_asc h)) fun x hx => ?_
 obtain ⟨y, hy, rfl⟩ := List.mem_map.1 hx
 obtain ⟨h1, h2, h3, h4⟩ := okC_parts (may_okC h y hy)
 refine okC_of ?_ ?_ ?_ h4
 · show -y.2 ≠ 0; omega
 · show -1000000000 ≤ -y.2; omega
 · show -y.2 ≤ 1000000000; omega
theorem look_low (M : Int) (hM : 0 ≤ M) : ∀ (b : Bg) (s : List Val), (∀ x ∈ b, -M ≤ x.2 ∧ x.2 ≤ M) → -M ≤ lookB b s ∧ lookB b s ≤ M
 | [], _, _ => by rw [lookB]; omega
 | x :: b, s, h => by
   rw [lookB]
   split
   · exact h x (by simp)
   · exact look_low M hM b s fun y hy => h y (List.mem_cons_of_mem _ hy)
def plusR (l : List Bg) : Bg := if l.all mayBag && mayBag (plusL l) then plusL l else []
theorem plusR_of {l : List Bg} (h1 : ∀ b ∈ l, mayBag b = true) (h2 : mayBag (plusL l) = true) : plusR l = plusL l := by
 unfold plusR
 rw [h2, List.all_eq_true.2 h1]
 rfl
theorem plus_ext {l m : List Bg} (h : ∀ s, sumL l s = sumL m s) : plusL l = plusL m :=
 bag_ext _ _ (asc_plus l) (asc_plus m) (nz_plus l) (nz_plus m) fun s => by rw [look_plus, look_plus, h s]
theorem sum_plus (l : List Bg) (s : List Val) : sumB (plusL l) s = sumL l s := by rw [sum_look _ s (asc_plus l), look_plus]
def rowsB (b : Bg) : List (List Val) := b.flatMap fun x => List.replicate x.2.toNat x.1
theorem rows_cons (x : List Val × Int) (b : Bg) : rowsB (x :: b) = List.replicate x.2.toNat x.1 ++ rowsB b := rfl
theorem rows_add : ∀ (b : Bg) (r : List Val), (∀ x ∈ b, 0 < x.2) → (rowsB (addB b r 1)).Perm (r :: rowsB b)
 | [], r, _ => by
   rw [addB, if_neg (by decide)]
   exact List.Perm.refl _
 | x :: b, r, h => by
   have hb : ∀ y ∈ b, 0 < y.2 := fun y hy => h y (List.mem_cons_of_mem _ hy)
   have hx := h x (by simp)
   rw [addB]
   by_cases h1 : cmpL x.1 r = -1
   · rw [if_pos h1, rows_cons, rows_cons]
     exact ((rows_add b r hb).append_left _).trans List.perm_middle
   · rw [if_neg h1]
     by_cases h2 : cmpL x.1 r = 0
     · have e := cmpL_iff.1 h2
       rw [if_pos h2, if_neg (by omega), rows_cons, rows_cons, e, show (1 + x.2).toNat = x.2.toNat + 1 by omega, List.replicate_succ]
       exact List.Perm.refl _
     · rw [if_neg h2, if_neg (by decide), rows_cons]
       exact List.Perm.refl _
theorem pos_add : ∀ (b : Bg) (r : List Val), (∀ x ∈ b, 0 < x.2) → ∀ x ∈ addB b r 1, 0 < x.2
 | [], r, _, x, hx => by
   rw [addB, if_neg (by decide), List.mem_singleton] at hx
   rw [hx]
   exact Int.one_pos
 | y :: b, r, h, x, hx => by
   have hb : ∀ z ∈ b, 0 < z.2 := fun z hz => h z (List.mem_cons_of_mem _ hz)
   have hy := h y (by simp)
   rw [addB] at hx
   by_cases h1 : cmpL y.1 r = -1
   · rw [if_pos h1] at hx
     rcases List.mem_cons.1 hx with rfl | hx
     · exact hy
     · exact pos_add b r hb x hx
   · rw [if_neg h1] at hx
     by_cases h2 : cmpL y.1 r = 0
     · rw [if_pos h2, if_neg (by omega)] at hx
       rcases List.mem_cons.1 hx with rfl | hx
       · show 0 < 1 + y.2; omega
       · exact hb x hx
     · rw [if_neg h2, if_neg (by decide)] at hx
       rcases List.mem_cons.1 hx with rfl | hx
       · exact Int.one_pos
       · exact h x hx
theorem rows_go : ∀ (l : List (List Val)) (a : Bg), (∀ x ∈ a, 0 < x.2) → (∀ x ∈ bothB a (l.map fun r => (r, 1)), 0 < x.2) ∧ (rowsB (bothB a (l.map fun r => (r, 1)))).Perm (rowsB a ++ l)
 | [], a, h => ⟨h, by rw [List.append_nil]; exact List.Perm.refl _⟩
 | r :: l, a, h => by
   have h2 := rows_go l (addB a r 1) (pos_add a r h)
   refine ⟨h2.1, ?_⟩
   show (rowsB (bothB (addB a r 1) (l.map fun r => (r, 1)))).Perm _
   refine h2.2.trans ?_
   refine ((rows_add a r h).append_right l).trans ?_
   exact (List.perm_middle (l₁ := rowsB a)).symm
theorem of_pos (l : List (List Val)) : ∀ x ∈ ofL l, 0 < x.2 := (rows_go l [] (fun x hx => by cases hx)).1
theorem of_perm (l : List (List Val)) : (rowsB (ofL l)).Perm l := (rows_go l [] (fun x hx => by cases hx)).2
theorem rows_above : ∀ (b : Bg) (k : List Val), (∀ x ∈ b, cmpL k x.1 = -1) → ∀ r ∈ rowsB b, leR k r = true := by
 intro b k h r hr
 obtain ⟨x, hx, hr⟩ := List.mem_flatMap.1 hr
 rw [(List.mem_replicate.1 hr).2]
 unfold leR
 rw [h x hx]
 rfl
theorem rows_sorted : ∀ b : Bg, Asc b → (rowsB b).Pairwise fun x y => leR x y = true
 | [], _ => List.Pairwise.nil
 | x :: b, h => by
   rw [rows_cons, List.pairwise_append]
   refine ⟨?_, rows_sorted b (asc_tail h), fun u hu v hv => ?_⟩
   · rw [List.pairwise_replicate]
     right
     unfold leR
     rw [cmpL_same]
     rfl
   · rw [(List.mem_replicate.1 hu).2]
     exact rows_above b x.1 (asc_head h) v hv
theorem asc_of (l : List (List Val)) : Asc (ofL l) := asc_both _ [] List.Pairwise.nil
theorem nz_of (l : List (List Val)) : NZ (ofL l) := nz_both _ [] (fun x hx => by cases hx)
theorem rows_of (l : List (List Val)) : rowsB (ofL l) = sortR l := sortR_of (of_perm l) (rows_sorted _ (asc_of l))
theorem of_append (l m : List (List Val)) : ofL (l ++ m) = plusL [ofL l, ofL m] :=
 bag_ext _ _ (asc_of _) (asc_plus _) (nz_of _) (nz_plus _) fun s => by
  rw [look_of, look_plus, List.map_append, sum_append, sumL, sumL, sumL, sum_look _ s (asc_of l), sum_look _ s (asc_of m), look_of, look_of, Int.add_zero]
theorem sum_ones : ∀ (l : List (List Val)) (s : List Val), 0 ≤ sumB (l.map fun r => (r, 1)) s ∧ sumB (l.map fun r => (r, 1)) s ≤ l.length
 | [], _ => by rw [List.map_nil, sumB]; exact ⟨Int.le_refl _, Int.le_refl _⟩
 | r :: l, s => by
   have h := sum_ones l s
   rw [List.map_cons, sumB, List.length_cons]
   split <;> constructor <;> (try push_cast) <;> omega
theorem may_ofL (l : List (List Val)) (h : ∀ r ∈ l, mayR r = true) (hl : l.length ≤ 1000000) : mayBag (ofL l) = true := by
 refine may_of (asc_of l) fun x hx => ?_
 have h2 := look_mem _ x (asc_of l) hx
 rw [look_of] at h2
 have h3 := sum_ones l x.1
 have h4 := of_pos l x hx
 rw [h2] at h3
 refine okC_of (by omega) (by omega) (by omega) ?_
 exact key_both (fun r => mayR r = true) (l.map fun r => (r, 1)) [] (fun y hy => by cases hy) (fun y hy => by
  obtain ⟨r, hr, rfl⟩ := List.mem_map.1 hy
  exact h r hr) x hx
end Go.Proofs.YtbpopkgpepmlcaaGreat
namespace Go.Proofs.YtbpopkgpepmlcaaGreat
open Go
def wt (f : List Val → Int) : Bg → Int
 | [] => 0
 | x :: b => f x.1 * x.2 + wt f b
theorem wt_add (f : List Val → Int) : ∀ (b : Bg) (r : List Val) (n : Int), wt f (addB b r n) = wt f b + f r * n
 | [], r, n => by
   rw [addB]
   by_cases hn : n = 0
   · simp [hn, wt]
   · simp [hn, wt]
 | x :: b, r, n => by
   rw [addB]
   by_cases h1 : cmpL x.1 r = -1
   · rw [if_pos h1, wt, wt, wt_add f b r n]; omega
   · rw [if_neg h1]
     by_cases h2 : cmpL x.1 r = 0
     · rw [if_pos h2]
       have e := cmpL_iff.1 h2
       by_cases h3 : n + x.2 = 0
       · rw [if_pos h3, wt, e]
         have : f r * x.2 + f r * n = 0 := by rw [← Int.mul_add, Int.add_comm, h3, Int.mul_zero]
         omega
       · rw [if_neg h3, wt, wt, e]
         show f r * (n + x.2) + wt f b = _
         rw [Int.mul_add]; omega
     · rw [if_neg h2]
       by_cases h3 : n = 0
       · rw [if_pos h3, h3, Int.mul_zero, Int.add_zero]
       · rw [if_neg h3, wt, wt]
         show f r * n + _ = _
         omega
theorem wt_both (f : List Val → Int) : ∀ (b a : Bg), wt f (bothB a b) = wt f a + wt f b
 | [], a => by rw [wt, Int.add_zero]; rfl
 | x :: b, a => by rw [both_cons, wt_both f b, wt_add, wt]; omega
theorem wt_app (f : List Val → Int) : ∀ a b : Bg, wt f (a ++ b) = wt f a + wt f b
 | [], b => by rw [List.nil_append, wt, Int.zero_add]
 | x :: a, b => by rw [List.cons_append, wt, wt, wt_app f a b]; omega
theorem wt_neg (f : List Val → Int) : ∀ b : Bg, wt f (negB b) = -wt f b
 | [] => rfl
 | x :: b => by
   have ih := wt_neg f b
   show f x.1 * -x.2 + wt f (negB b) = -(f x.1 * x.2 + wt f b)
   rw [ih, Int.mul_neg]; omega
theorem wt_plus (f g : List Val → Int) : ∀ b : Bg, wt (fun r => f r + g r) b = wt f b + wt g b
 | [] => rfl
 | x :: b => by rw [wt, wt, wt, wt_plus f g b, Int.add_mul]; omega
theorem wt_mul (c : Int) (f : List Val → Int) : ∀ b : Bg, wt (fun r => c * f r) b = c * wt f b
 | [] => by rw [wt, wt, Int.mul_zero]
 | x :: b => by rw [wt, wt, wt_mul c f b, Int.mul_add, Int.mul_assoc]
theorem wt_mulr (c : Int) (f : List Val → Int) : ∀ b : Bg, wt (fun r => f r * c) b = wt f b * c
 | [] => by rw [wt, wt, Int.zero_mul]
 | x :: b => by rw [wt, wt, wt_mulr c f b, Int.add_mul, Int.mul_assoc, Int.mul_comm c, ← Int.mul_assoc]
theorem wt_zero : ∀ b : Bg, wt (fun _ => 0) b = 0
 | [] => rfl
 | x :: b => by rw [wt, wt_zero b]; simp
theorem wt_congr {f g : List Val → Int} : ∀ b : Bg, (∀ x ∈ b, f x.1 = g x.1) → wt f b = wt g b
 | [], _ => rfl
 | x :: b, h => by rw [wt, wt, h x (by simp), wt_congr b (fun y hy => h y (List.mem_cons_of_mem _ hy))]
theorem wt_swap (f : List Val → List Val → Int) : ∀ a b : Bg, wt (fun x => wt (fun y => f x y) b) a = wt (fun y => wt (fun x => f x y) a) b
 | [], b => (wt_zero b).symm
 | x :: a, b => by
   have e : (fun y => wt (fun x => f x y) (x :: a)) = fun y => f x.1 y * x.2 + wt (fun x => f x y) a := rfl
   rw [e, wt_plus, wt_mulr, wt, wt_swap f a b]
instance : DecidableEq Val := fun _ _ => decidable_of_iff _ Val.eq_iff
def ind (p : Prop) [Decidable p] : Int := if p then 1 else 0
theorem sum_wt (s : List Val) : ∀ b : Bg, sumB b s = wt (fun r => ind (cmpL r s = 0)) b
 | [] => rfl
 | x :: b => by
   rw [sumB, wt, sum_wt s b]
   unfold ind
   split
   · rw [Int.one_mul]
   · rw [Int.zero_mul]
theorem look_wt {b : Bg} (h : Asc b) (s : List Val) : lookB b s = wt (fun r => ind (cmpL r s = 0)) b := by rw [← sum_look b s h, sum_wt]
def mapB (F : List Val → List (List Val × Int)) (b : Bg) (o : Bg) : Bg := b.foldl (fun o x => (F x.1).foldl (fun o y => addB o y.1 (y.2 * x.2)) o) o
theorem fold_asc (k : Int) : ∀ (l : List (List Val × Int)) (o : Bg), Asc o → Asc (l.foldl (fun o y => addB o y.1 (y.2 * k)) o)
 | [], _, h => h
 | y :: l, o, h => fold_asc k l _ (asc_add o y.1 _ h)
theorem fold_nz (k : Int) : ∀ (l : List (List Val × Int)) (o : Bg), NZ o → NZ (l.foldl (fun o y => addB o y.1 (y.2 * k)) o)
 | [], _, h => h
 | y :: l, o, h => fold_nz k l _ (nz_add o y.1 _ h)
theorem fold_wt (f : List Val → Int) (k : Int) : ∀ (l : List (List Val × Int)) (o : Bg), wt f (l.foldl (fun o y => addB o y.1 (y.2 * k)) o) = wt f o + wt f l * k
 | [], o => by rw [List.foldl_nil, wt, Int.zero_mul, Int.add_zero]
 | y :: l, o => by rw [List.foldl_cons, fold_wt f k l, wt_add, wt, Int.add_mul, Int.mul_assoc]; omega
theorem map_asc (F : List Val → List (List Val × Int)) : ∀ (b o : Bg), Asc o → Asc (mapB F b o)
 | [], _, h => h
 | x :: b, o, h => map_asc F b _ (fold_asc x.2 _ o h)
theorem map_nz (F : List Val → List (List Val × Int)) : ∀ (b o : Bg), NZ o → NZ (mapB F b o)
 | [], _, h => h
 | x :: b, o, h => map_nz F b _ (fold_nz x.2 _ o h)
theorem map_wt (f : List Val → Int) (F : List Val → List (List Val × Int)) : ∀ (b o : Bg), wt f (mapB F b o) = wt f o + wt (fun r => wt f (F r)) b
 | [], o => by rw [wt, Int.add_zero]; rfl
 | x :: b, o => by
   show wt f (mapB F b _) = _
   rw [map_wt f F b, fold_wt, wt]; omega
theorem map_one (F : List Val → List (List Val × Int)) (b : Bg) : Asc (mapB F b []) ∧ NZ (mapB F b []) ∧ ∀ s, lookB (mapB F b []) s = wt (fun r => wt (fun q => ind (cmpL q s = 0)) (F r)) b := by
 have h1 := map_asc F b [] List.Pairwise.nil
 refine ⟨h1, map_nz F b [] (fun x hx => by cases hx), fun s => ?_⟩
 rw [look_wt h1, map_wt, wt, Int.zero_add]
theorem map_both (F : List Val → List (List Val × Int)) (a b : Bg) : mapB F (bothB a b) [] = bothB (mapB F a []) (mapB F b []) := by
 obtain ⟨a1, a2, a3⟩ := map_one F a
 obtain ⟨b1, b2, b3⟩ := map_one F b
 obtain ⟨c1, c2, c3⟩ := map_one F (bothB a b)
 refine bag_ext _ _ c1 (asc_both _ _ a1) c2 (nz_both _ _ a2) (fun s => ?_)
 rw [look_both _ _ s a1, sum_look _ s b1, c3, a3, b3, wt_both]
theorem both_nil {b : Bg} (h1 : Asc b) (h2 : NZ b) : bothB [] b = b :=
 bag_ext _ _ (asc_both _ _ List.Pairwise.nil) h1 (nz_both _ _ (fun x hx => by cases hx)) h2 (fun s => by rw [look_both _ _ s List.Pairwise.nil, sum_look _ s h1]; simp [lookB])
theorem both_comm {a b : Bg} (ha : Asc a) (hb : Asc b) (na : NZ a) (nb : NZ b) : bothB a b = bothB b a :=
 bag_ext _ _ (asc_both _ _ ha) (asc_both _ _ hb) (nz_both _ _ na) (nz_both _ _ nb) (fun s => by rw [look_both _ _ s ha, look_both _ _ s hb, sum_look _ s ha, sum_look _ s hb]; omega)
theorem both_assoc {a : Bg} (b c : Bg) (ha : Asc a) (na : NZ a) (hb : Asc b) : bothB (bothB a b) c = bothB a (bothB b c) :=
 bag_ext _ _ (asc_both _ _ (asc_both _ _ ha)) (asc_both _ _ ha) (nz_both _ _ (nz_both _ _ na)) (nz_both _ _ na) (fun s => by rw [look_both _ _ s (asc_both _ _ ha), look_both _ _ s ha, look_both _ _ s ha, sum_look _ s (asc_both _ _ hb), look_both _ _ s hb, sum_look _ s hb]; omega)
def pairB (F : List Val → List Val → List (List Val × Int)) (a b : Bg) : Bg := a.foldl (fun o x => b.foldl (fun o y => (F x.1 y.1).foldl (fun o z => addB o z.1 (z.2 * (x.2 * y.2))) o) o) []
theorem inner_asc (F : List Val → List Val → List (List Val × Int)) (x : List Val × Int) : ∀ (b o : Bg), Asc o → Asc (b.foldl (fun o y => (F x.1 y.1).foldl (fun o z => addB o z.1 (z.2 * (x.2 * y.2))) o) o)
 | [], _, h => h
 | _ :: b, o, h => inner_asc F x b _ (fold_asc _ _ o h)
theorem inner_nz (F : List Val → List Val → List (List Val × Int)) (x : List Val × Int) : ∀ (b o : Bg), NZ o → NZ (b.foldl (fun o y => (F x.1 y.1).foldl (fun o z => addB o z.1 (z.2 * (x.2 * y.2))) o) o)
 | [], _, h => h
 | _ :: b, o, h => inner_nz F x b _ (fold_nz _ _ o h)
theorem inner_wt (f : List Val → Int) (F : List Val → List Val → List (List Val × Int)) (x : List Val × Int) : ∀ (b o : Bg), wt f (b.foldl (fun o y => (F x.1 y.1).foldl (fun o z => addB o z.1 (z.2 * (x.2 * y.2))) o) o) = wt f o + wt (fun q => wt f (F x.1 q)) b * x.2
 | [], o => by rw [List.foldl_nil, wt, Int.zero_mul, Int.add_zero]
 | y :: b, o => by
   rw [List.foldl_cons, inner_wt f F x b, fold_wt, wt, Int.add_mul]
   have : wt f (F x.1 y.1) * (x.2 * y.2) = wt f (F x.1 y.1) * y.2 * x.2 := by rw [Int.mul_comm x.2, ← Int.mul_assoc]
   omega
theorem outer (f : List Val → Int) (F : List Val → List Val → List (List Val × Int)) (b : Bg) : ∀ (a o : Bg), (Asc o → Asc (a.foldl (fun o x => b.foldl (fun o y => (F x.1 y.1).foldl (fun o z => addB o z.1 (z.2 * (x.2 * y.2))) o) o) o)) ∧
 (NZ o → NZ (a.foldl (fun o x => b.foldl (fun o y => (F x.1 y.1).foldl (fun o z => addB o z.1 (z.2 * (x.2 * y.2))) o) o) o)) ∧
 wt f (a.foldl (fun o x => b.foldl (fun o y => (F x.1 y.1).foldl (fun o z => addB o z.1 (z.2 * (x.2 * y.2))) o) o) o) = wt f o + wt (fun p => wt (fun q => wt f (F p q)) b) a
 | [], o => ⟨id, id, by rw [List.foldl_nil, wt, Int.add_zero]⟩
 | x :: a, o => by
   obtain ⟨h1, h2, h3⟩ := outer f F b a (b.foldl (fun o y => (F x.1 y.1).foldl (fun o z => addB o z.1 (z.2 * (x.2 * y.2))) o) o)
   refine ⟨fun h => h1 (inner_asc F x b o h), fun h => h2 (inner_nz F x b o h), ?_⟩
   rw [List.foldl_cons, h3, inner_wt, wt]; omega
theorem pair_one (F : List Val → List Val → List (List Val × Int)) (a b : Bg) : Asc (pairB F a b) ∧ NZ (pairB F a b) ∧ (∀ f, wt f (pairB F a b) = wt (fun p => wt (fun q => wt f (F p q)) b) a) ∧ ∀ s, lookB (pairB F a b) s = wt (fun p => wt (fun q => wt (fun z => ind (cmpL z s = 0)) (F p q)) b) a := by
 have h := fun f => outer f F b a []
 have h1 : Asc (pairB F a b) := (h (fun _ => 0)).1 List.Pairwise.nil
 have h3 : ∀ f, wt f (pairB F a b) = wt (fun p => wt (fun q => wt f (F p q)) b) a := fun f => by
  have := (h f).2.2
  rw [wt, Int.zero_add] at this
  exact this
 refine ⟨h1, (h (fun _ => 0)).2.1 (fun x hx => by cases hx), h3, fun s => ?_⟩
 rw [look_wt h1, h3]
theorem pair_left (F : List Val → List Val → List (List Val × Int)) (a a' b : Bg) : pairB F (bothB a a') b = bothB (pairB F a b) (pairB F a' b) := by
 obtain ⟨a1, a2, _, a3⟩ := pair_one F a b
 obtain ⟨b1, b2, _, b3⟩ := pair_one F a' b
 obtain ⟨c1, c2, _, c3⟩ := pair_one F (bothB a a') b
 refine bag_ext _ _ c1 (asc_both _ _ a1) c2 (nz_both _ _ a2) (fun s => ?_)
 rw [look_both _ _ s a1, sum_look _ s b1, c3, a3, b3, wt_both]
theorem pair_right (F : List Val → List Val → List (List Val × Int)) (a b b' : Bg) : pairB F a (bothB b b') = bothB (pairB F a b) (pairB F a b') := by
 obtain ⟨a1, a2, _, a3⟩ := pair_one F a b
 obtain ⟨b1, b2, _, b3⟩ := pair_one F a b'
 obtain ⟨c1, c2, _, c3⟩ := pair_one F a (bothB b b')
 refine bag_ext _ _ c1 (asc_both _ _ a1) c2 (nz_both _ _ a2) (fun s => ?_)
 rw [look_both _ _ s a1, sum_look _ s b1, c3, a3, b3, ← wt_plus]
 exact wt_congr a (fun x _ => wt_both _ _ _)
theorem pair_nil_left (F : List Val → List Val → List (List Val × Int)) (b : Bg) : pairB F [] b = [] := rfl
theorem pair_nil_right (F : List Val → List Val → List (List Val × Int)) (a : Bg) : pairB F a [] = [] := by
 obtain ⟨a1, a2, _, a3⟩ := pair_one F a []
 refine bag_ext _ _ a1 List.Pairwise.nil a2 (fun x hx => by cases hx) (fun s => ?_)
 rw [a3, wt_congr (g := fun _ => 0) a (fun _ _ => rfl), wt_zero]
 rfl
theorem pair_delta (F : List Val → List Val → List (List Val × Int)) (a da b db : Bg) :
 pairB F (bothB a da) (bothB b db) = bothB (pairB F a b) (bothB (bothB (pairB F da b) (pairB F a db)) (pairB F da db)) := by
 have A := fun a b => (pair_one F a b).1
 have N := fun a b => (pair_one F a b).2.1
 rw [pair_left, pair_right, pair_right]
 refine bag_ext _ _ (asc_both _ _ (asc_both _ _ (A _ _))) (asc_both _ _ (A _ _)) (nz_both _ _ (nz_both _ _ (N _ _))) (nz_both _ _ (N _ _)) (fun s => ?_)
 rw [look_both _ _ s (asc_both _ _ (A _ _)), look_both _ _ s (A _ _), look_both _ _ s (A _ _), sum_look _ s (asc_both _ _ (A _ _)), look_both _ _ s (A _ _), sum_look _ s (A _ _), sum_look _ s (asc_both _ _ (asc_both _ _ (A _ _))), look_both _ _ s (asc_both _ _ (A _ _)), look_both _ _ s (A _ _), sum_look _ s (A _ _), sum_look _ s (A _ _)]
 omega
def stayB (p : List Val → Bool) (b : Bg) : Bg := b.filter fun x => p x.1
theorem stay_asc (p : List Val → Bool) {b : Bg} (h : Asc b) : Asc (stayB p b) := List.Pairwise.filter _ h
theorem stay_nz (p : List Val → Bool) {b : Bg} (h : NZ b) : NZ (stayB p b) := fun x hx => h x (List.mem_filter.1 hx).1
theorem stay_wt (p : List Val → Bool) (f : List Val → Int) : ∀ b : Bg, wt f (stayB p b) = wt (fun r => if p r then f r else 0) b
 | [] => rfl
 | x :: b => by
   have ih := stay_wt p f b
   unfold stayB at *
   rw [List.filter_cons]
   cases hp : p x.1
   · rw [wt, ← ih, hp]; simp
   · rw [wt, ← ih, hp]; simp [wt]
theorem stay_look (p : List Val → Bool) {b : Bg} (h : Asc b) (s : List Val) : lookB (stayB p b) s = if p s then lookB b s else 0 := by
 rw [look_wt (stay_asc p h), stay_wt, look_wt h]
 split
 · rename_i hp
   exact wt_congr b (fun x _ => by
    unfold ind
    by_cases e : cmpL x.1 s = 0
    · rw [cmpL_iff.1 e, if_pos hp]
    · simp [e])
 · rename_i hp
   refine (wt_congr (g := fun _ => 0) b (fun x _ => ?_)).trans (wt_zero b)
   unfold ind
   by_cases e : cmpL x.1 s = 0
   · rw [cmpL_iff.1 e, if_neg hp]
   · simp [e]
theorem stay_both (p : List Val → Bool) {a b : Bg} (ha : Asc a) (hb : Asc b) (na : NZ a) : stayB p (bothB a b) = bothB (stayB p a) (stayB p b) := by
 refine bag_ext _ _ (stay_asc p (asc_both _ _ ha)) (asc_both _ _ (stay_asc p ha)) (stay_nz p (nz_both _ _ na)) (nz_both _ _ (stay_nz p na)) (fun s => ?_)
 rw [stay_look p (asc_both _ _ ha), look_both _ _ s (stay_asc p ha), sum_look _ s (stay_asc p hb), stay_look p ha, stay_look p hb, look_both _ _ s ha, sum_look _ s hb]
 split <;> omega
theorem stay_stay (p : List Val → Bool) (b : Bg) : stayB p (stayB p b) = stayB p b := by
 unfold stayB
 rw [List.filter_filter]
 congr 1
 funext x
 cases p x.1 <;> rfl
end Go.Proofs.YtbpopkgpepmlcaaGreat
namespace Go.Proofs.YtbpopkgpepmlcaaGreat
open Go Go.RowKit
set_option maxRecDepth 100000
def pickR (xs : List Val) : List Int → Option (List Val)
 | [] => some []
 | c :: cs => if 0 ≤ c ∧ c < xs.length then (match xs[c.toNat]? with | some x => (pickR xs cs).map (x :: ·) | none => none) else none
def pickOk (xs : List Val) (cs : List Int) (h : Hd) (ok : Bool) : Prop := match pickR xs cs with | some l => ok = true ∧ h.xs = l | none => ok = false ∧ h.xs = []
theorem pickR_drop (xs : List Val) (cs : List Int) (k : Nat) (c : Int) (hc : cs[k]? = some c) : pickR xs (cs.drop k) = if 0 ≤ c ∧ c < xs.length then (match xs[c.toNat]? with | some x => (pickR xs (cs.drop (k + 1))).map (x :: ·) | none => none) else none := by
 have h1 := List.drop_eq_getElem_cons (List.getElem?_eq_some_iff.1 hc).1
 rw [(List.getElem?_eq_some_iff.1 hc).2] at h1
 rw [h1, pickR]
end Go.Proofs.YtbpopkgpepmlcaaGreat
namespace Go.Proofs.YtbpopkgpepmlcaaGreat
open Go
def atR (r : List Val) (n : Int) : Val := if 0 ≤ n then (r[n.toNat]?).getD nl else nl
def meetB (i j : Int) (a b : List Val) : Bool := (atR a i).eq (atR b j) && !((atR a i).k == 0)
def prodF (i j : Int) (a b : List Val) : List (List Val × Int) := if meetB i j a b then [(a ++ b, 1)] else []
def prodB (i j : Int) (a b : Bg) : Bg := pairB (prodF i j) a b
theorem look_prod (i j : Int) (a b : Bg) (s : List Val) : lookB (prodB i j a b) s = wt (fun p => wt (fun q => ind (meetB i j p q = true ∧ p ++ q = s)) b) a := by
 rw [prodB, (pair_one (prodF i j) a b).2.2.2 s]
 refine wt_congr a (fun x _ => wt_congr b (fun y _ => ?_))
 unfold prodF ind
 cases h : meetB i j x.1 y.1
 · simp [wt]
 · simp only [if_true, wt, true_and]
   by_cases e : x.1 ++ y.1 = s
   · rw [if_pos (cmpL_iff.2 e), if_pos e]; rfl
   · rw [if_neg (fun h => e (cmpL_iff.1 h)), if_neg e]; rfl
theorem prod_asc (i j : Int) (a b : Bg) : Asc (prodB i j a b) := (pair_one (prodF i j) a b).1
theorem prod_nz (i j : Int) (a b : Bg) : NZ (prodB i j a b) := (pair_one (prodF i j) a b).2.1
theorem wt_none {f : List Val → Int} (b : Bg) (h : ∀ x ∈ b, f x.1 = 0) : wt f b = 0 := (wt_congr (g := fun _ => 0) b h).trans (wt_zero b)
theorem look_prod_two (i j : Int) {a b : Bg} (ha : Asc a) (hb : Asc b) (n : Nat) (hn : ∀ x ∈ a, x.1.length = n) {x y : List Val} (hx : x.length = n) : lookB (prodB i j a b) (x ++ y) = if meetB i j x y then lookB a x * lookB b y else 0 := by
 rw [look_prod]
 have key : wt (fun p => wt (fun q => ind (meetB i j p q = true ∧ p ++ q = x ++ y)) b) a = wt (fun p => ind (cmpL p x = 0) * (if meetB i j x y then lookB b y else 0)) a := by
  refine wt_congr a (fun p hp => ?_)
  by_cases e : p.1 = x
  · rw [e]
    have e0 : ind (cmpL x x = 0) = 1 := by unfold ind; rw [if_pos (cmpL_same x)]
    rw [e0, Int.one_mul]
    split
    · rename_i hm
      rw [look_wt hb]
      refine wt_congr b (fun q _ => ?_)
      unfold ind
      by_cases e2 : q.1 = y
      · rw [e2, if_pos ⟨hm, rfl⟩, if_pos (cmpL_same y)]
      · rw [if_neg (fun h => e2 (List.append_cancel_left h.2)), if_neg (fun h => e2 (cmpL_iff.1 h))]
    · rename_i hm
      refine wt_none b (fun q _ => ?_)
      unfold ind
      by_cases e2 : q.1 = y
      · rw [e2, if_neg (fun h => hm h.1)]
      · rw [if_neg (fun h => e2 (List.append_cancel_left h.2))]
  · have e0 : ind (cmpL p.1 x = 0) = 0 := by unfold ind; rw [if_neg (fun h => e (cmpL_iff.1 h))]
    rw [e0, Int.zero_mul]
    refine wt_none b (fun q _ => ?_)
    unfold ind
    rw [if_neg]
    rintro ⟨_, h⟩
    exact e (List.append_inj_left h (by rw [hn p hp, hx]))
 rw [key, wt_mulr, look_wt ha]
 split
 · rfl
 · rw [Int.mul_zero]
theorem prod_mem (i j : Int) {a b : Bg} {r : List Val × Int} (h : r ∈ prodB i j a b) : ∃ x ∈ a, ∃ y ∈ b, r.1 = x.1 ++ y.1 ∧ meetB i j x.1 y.1 = true := by
 have hz := prod_nz i j a b r h
 have hl := look_mem _ r (prod_asc i j a b) h
 rw [look_prod] at hl
 by_cases ex : ∃ x ∈ a, ∃ y ∈ b, r.1 = x.1 ++ y.1 ∧ meetB i j x.1 y.1 = true
 · exact ex
 · exfalso
   apply hz
   rw [← hl]
   refine wt_none a (fun x hx => wt_none b (fun y hy => ?_))
   unfold ind
   rw [if_neg]
   rintro ⟨h1, h2⟩
   exact ex ⟨x, hx, y, hy, h2.symm, h1⟩
def pairsN (i j : Int) (a b : Bg) : Nat := (a.flatMap fun x => b.filter fun y => meetB i j x.1 y.1).length
theorem pairs_le (i j : Int) (a b : Bg) : pairsN i j a b ≤ a.length * b.length := by
 unfold pairsN
 induction a with
 | nil => simp
 | cons x a ih =>
   rw [List.flatMap_cons, List.length_append, List.length_cons, Nat.succ_mul]
   have := List.length_filter_le (fun y => meetB i j x.1 y.1) b
   omega
def fitQ (n : Int) : Bool := decide (-1000000000 ≤ n) && decide (n ≤ 1000000000)
def prodOk (i j : Int) (a b : Bg) : Bool := decide (pairsN i j a b ≤ 10000) && ((a.all fun x => b.all fun y => !meetB i j x.1 y.1 || (decide ((x.1 ++ y.1).length ≤ 40) && fitQ (x.2 * y.2))) && mayBag (prodB i j a b))
def productR (w : Bool) (i j : Int) (a b : Bg) : Option Bg := if !(mayBag a && mayBag b) then some [] else if w then some a else if prodOk i j a b then some (prodB i j a b) else none
theorem product_of {w : Bool} {i j : Int} {a b p : Bg} (ha : mayBag a = true) (hb : mayBag b = true) (h : productR w i j a b = some p) : p = if w then a else prodB i j a b := by
 unfold productR at h
 rw [ha, hb] at h
 simp only [Bool.and_self, Bool.not_true, Bool.false_eq_true, if_false] at h
 split at h
 · rename_i hw
   rw [if_pos hw]; exact (Option.some.inj h).symm
 · rename_i hw
   rw [if_neg hw]
   split at h
   · exact (Option.some.inj h).symm
   · cases h
theorem product_left {w : Bool} {i j : Int} {a a' c p q s : Bg} (ha : mayBag a = true) (ha' : mayBag a' = true) (hb : mayBag (bothB a a') = true) (hc : mayBag c = true) (h1 : productR w i j (bothB a a') c = some p) (h2 : productR w i j a c = some q) (h3 : productR w i j a' c = some s) : p = bothB q s := by
 rw [product_of hb hc h1, product_of ha hc h2, product_of ha' hc h3]
 split
 · rfl
 · exact pair_left _ _ _ _
theorem product_right {i j : Int} {a a' c p q s : Bg} (ha : mayBag a = true) (ha' : mayBag a' = true) (hb : mayBag (bothB a a') = true) (hc : mayBag c = true) (h1 : productR false i j c (bothB a a') = some p) (h2 : productR false i j c a = some q) (h3 : productR false i j c a' = some s) : p = bothB q s := by
 rw [product_of hc hb h1, product_of hc ha h2, product_of hc ha' h3]
 exact pair_right _ _ _ _
def pickF (cs : List Int) (r : List Val) : List (List Val × Int) := match pickR r cs with
 | some q => if q.length ≤ 40 then [(q, 1)] else []
 | none => []
def pickB (cs : List Int) (b : Bg) : Bg := mapB (pickF cs) b []
theorem pick_both (cs : List Int) (a b : Bg) : pickB cs (bothB a b) = bothB (pickB cs a) (pickB cs b) := map_both _ _ _
theorem pick_asc (cs : List Int) (b : Bg) : Asc (pickB cs b) := (map_one (pickF cs) b).1
theorem pick_nz (cs : List Int) (b : Bg) : NZ (pickB cs b) := (map_one (pickF cs) b).2.1
theorem pick_wt (cs : List Int) (f : List Val → Int) (b : Bg) : wt f (pickB cs b) = wt (fun r => wt f (pickF cs r)) b := by
 rw [pickB, map_wt, wt, Int.zero_add]
theorem pick_look (cs : List Int) (b : Bg) (s : List Val) : lookB (pickB cs b) s = wt (fun r => wt (fun q => ind (cmpL q s = 0)) (pickF cs r)) b := (map_one (pickF cs) b).2.2 s
theorem pick_len : ∀ (cs : List Int) (r q : List Val), pickR r cs = some q → q.length = cs.length := by
 intro cs
 induction cs with
 | nil => intro r q h; simp [pickR] at h; simp [h]
 | cons c cs ih =>
   intro r q h
   rw [pickR] at h
   repeat' split at h
   all_goals first
    | (cases h; done)
    | (cases e : pickR r cs with
       | none => rw [e] at h; cases h
       | some l => rw [e] at h; simp at h; rw [← h]; simp [ih r l e])
theorem pick_none {cs : List Int} {b : Bg} (h : ∀ x ∈ b, pickF cs x.1 = []) : pickB cs b = [] := by
 refine bag_ext _ _ (pick_asc cs b) List.Pairwise.nil (pick_nz cs b) (fun x hx => by cases hx) (fun s => ?_)
 rw [pick_look]
 exact wt_none b (fun x hx => by rw [h x hx]; rfl)
theorem pick_all {cs : List Int} {b : Bg} (h1 : Asc b) (h2 : NZ b) (h : ∀ x ∈ b, pickF cs x.1 = [(x.1, 1)]) : pickB cs b = b := by
 refine bag_ext _ _ (pick_asc cs b) h1 (pick_nz cs b) h2 (fun s => ?_)
 rw [pick_look, look_wt h1]
 exact wt_congr b (fun x hx => by rw [h x hx]; simp [wt])
end Go.Proofs.YtbpopkgpepmlcaaGreat
namespace Go.Proofs.YtbpopkgpepmlcaaGreat
open Go
def pairL (i j : Int) (a b : Bg) : Bg := a.flatMap fun x => (b.filter fun y => meetB i j x.1 y.1).map fun y => (x.1 ++ y.1, x.2 * y.2)
theorem pairL_cons (i j : Int) (x : List Val × Int) (a b : Bg) : pairL i j (x :: a) b = ((b.filter fun y => meetB i j x.1 y.1).map fun y => (x.1 ++ y.1, x.2 * y.2)) ++ pairL i j a b := rfl
theorem pairL_len (i j : Int) : ∀ a b : Bg, (pairL i j a b).length = pairsN i j a b
 | [], _ => rfl
 | x :: a, b => by
   have ih := pairL_len i j a b
   unfold pairsN at ih ⊢
   rw [pairL_cons, List.length_append, List.length_map, List.flatMap_cons, List.length_append, ih]
theorem pairL_mem {i j : Int} {a b : Bg} {r : List Val × Int} : r ∈ pairL i j a b ↔ ∃ x ∈ a, ∃ y ∈ b, meetB i j x.1 y.1 = true ∧ r = (x.1 ++ y.1, x.2 * y.2) := by
 unfold pairL
 simp only [List.mem_flatMap, List.mem_map, List.mem_filter]
 constructor
 · rintro ⟨x, hx, y, ⟨hy, hm⟩, rfl⟩
   exact ⟨x, hx, y, hy, hm, rfl⟩
 · rintro ⟨x, hx, y, hy, hm, rfl⟩
   exact ⟨x, hx, y, ⟨hy, hm⟩, rfl⟩
theorem sum_pairs1 (i j : Int) (x : List Val × Int) (s : List Val) : ∀ b : Bg, sumB ((b.filter fun y => meetB i j x.1 y.1).map fun y => (x.1 ++ y.1, x.2 * y.2)) s = wt (fun q => ind (meetB i j x.1 q = true ∧ x.1 ++ q = s)) b * x.2
 | [] => by rw [wt, Int.zero_mul]; rfl
 | y :: b => by
   have ih := sum_pairs1 i j x s b
   rw [wt, Int.add_mul, ← ih]
   unfold ind
   cases hm : meetB i j x.1 y.1
   · rw [List.filter_cons_of_neg (by rw [hm]; simp), if_neg (by simp)]
     rw [Int.zero_mul, Int.zero_mul, Int.zero_add]
   · rw [List.filter_cons_of_pos (p := fun y : List Val × Int => meetB i j x.1 y.1) hm, List.map_cons, sumB]
     by_cases e : x.1 ++ y.1 = s
     · rw [if_pos (cmpL_iff.2 e), if_pos ⟨rfl, e⟩, Int.one_mul, Int.mul_comm]
     · rw [if_neg (fun h => e (cmpL_iff.1 h)), if_neg (fun h => e h.2), Int.zero_mul, Int.zero_mul]
theorem sum_pairs (i j : Int) (s : List Val) (b : Bg) : ∀ a : Bg, sumB (pairL i j a b) s = wt (fun p => wt (fun q => ind (meetB i j p q = true ∧ p ++ q = s)) b) a
 | [] => rfl
 | x :: a => by rw [pairL_cons, sum_append, sum_pairs1, sum_pairs i j s b a, wt]
def ones (l : Bg) : List Bg := l.map fun p => [p]
theorem sumL_ones : ∀ (l : Bg) (s : List Val), sumL (ones l) s = sumB l s
 | [], _ => rfl
 | x :: l, s => by
   show sumB [x] s + sumL (ones l) s = _
   rw [sumL_ones l s, sumB, sumB, sumB, Int.add_zero]
theorem plus_pairs (i j : Int) (a b : Bg) : plusL (ones (pairL i j a b)) = prodB i j a b :=
 bag_ext _ _ (asc_plus _) (prod_asc i j a b) (nz_plus _) (prod_nz i j a b) fun s => by rw [look_plus, sumL_ones, sum_pairs, look_prod]
theorem exists_max {α : Type} (f : α → Nat) (p : α → Prop) : ∀ l : List α, (∃ x ∈ l, p x) → ∃ x ∈ l, p x ∧ ∀ y ∈ l, p y → f y ≤ f x
 | [], h => by obtain ⟨x, hx, _⟩ := h; cases hx
 | z :: l, h => by
   by_cases hl : ∃ x ∈ l, p x
   · obtain ⟨x, hx, hp, hm⟩ := exists_max f p l hl
     by_cases hz : p z ∧ f x < f z
     · refine ⟨z, by simp, hz.1, fun y hy hpy => ?_⟩
       rcases List.mem_cons.1 hy with rfl | hy
       · exact Nat.le_refl _
       · have := hm y hy hpy
         omega
     · refine ⟨x, List.mem_cons_of_mem _ hx, hp, fun y hy hpy => ?_⟩
       rcases List.mem_cons.1 hy with rfl | hy
       · exact Nat.le_of_not_lt fun h => hz ⟨hpy, h⟩
       · exact hm y hy hpy
   · obtain ⟨x, hx, hp⟩ := h
     rcases List.mem_cons.1 hx with rfl | hx
     · refine ⟨x, by simp, hp, fun y hy hpy => ?_⟩
       rcases List.mem_cons.1 hy with rfl | hy
       · exact Nat.le_refl _
       · exact absurd ⟨y, hy, hpy⟩ hl
     · exact absurd ⟨x, hx, hp⟩ hl
theorem meet_parts {i j : Int} {a b : List Val} (h : meetB i j a b = true) : atR a i = atR b j ∧ (atR a i).k ≠ 0 := by
 unfold meetB at h
 simp only [Bool.and_eq_true, Bool.not_eq_true', beq_eq_false_iff_ne] at h
 exact ⟨Val.eq_iff.1 h.1, h.2⟩
theorem meet_of {i j : Int} {a b : List Val} (h1 : atR a i = atR b j) (h2 : (atR a i).k ≠ 0) : meetB i j a b = true := by
 unfold meetB
 rw [h1, Val.eq_self]
 rw [h1] at h2
 simp [h2]
theorem at_lt {r : List Val} {i : Int} (h : (atR r i).k ≠ 0) : 0 ≤ i ∧ i.toNat < r.length := by
 unfold atR at h
 split at h
 · rename_i h0
   refine ⟨h0, ?_⟩
   rcases Nat.lt_or_ge i.toNat r.length with hl | hl
   · exact hl
   · rw [List.getElem?_eq_none hl] at h
     exact absurd rfl h
 · exact absurd rfl h
theorem at_app {r q : List Val} {i : Int} (h : (atR r i).k ≠ 0) : atR (r ++ q) i = atR r i := by
 obtain ⟨h0, hl⟩ := at_lt h
 unfold atR
 rw [if_pos h0, if_pos h0, List.getElem?_append_left hl]
theorem prod_some {i j : Int} {a b : Bg} (ha : Asc a) (hb : Asc b) (na : NZ a) (nb : NZ b) (h : pairL i j a b ≠ []) : prodB i j a b ≠ [] := by
 obtain ⟨r, hr⟩ := List.exists_mem_of_ne_nil _ h
 obtain ⟨x0, hx0, y0, hy0, hm0, _⟩ := pairL_mem.1 hr
 obtain ⟨x, hx, ⟨y1, hy1, hm1⟩, hmx⟩ := exists_max (fun x : List Val × Int => x.1.length) (fun x => ∃ y ∈ b, meetB i j x.1 y.1 = true) a ⟨x0, hx0, y0, hy0, hm0⟩
 obtain ⟨y, hy, hm, hmy⟩ := exists_max (fun y : List Val × Int => y.1.length) (fun y => meetB i j x.1 y.1 = true) b ⟨y1, hy1, hm1⟩
 have key : ∀ p ∈ a, ∀ q ∈ b, (meetB i j p.1 q.1 = true ∧ p.1 ++ q.1 = x.1 ++ y.1) → p.1 = x.1 ∧ q.1 = y.1 := by
  rintro p hp q hq ⟨hpq, he⟩
  have h1 : p.1.length ≤ x.1.length := hmx p hp ⟨q, hq, hpq⟩
  have hlen := congrArg List.length he
  rw [List.length_append, List.length_append] at hlen
  obtain ⟨e1, e2⟩ := meet_parts hpq
  obtain ⟨f1, f2⟩ := meet_parts hm
  have e3 : atR x.1 i = atR p.1 i := by rw [← at_app (q := y.1) f2, ← he, at_app e2]
  have h2 : meetB i j x.1 q.1 = true := meet_of (e3.trans e1) f2
  have h3 : q.1.length ≤ y.1.length := hmy q hq h2
  have h4 : p.1.length = x.1.length := by omega
  exact ⟨List.append_inj_left he h4, List.append_inj_right he h4⟩
 have hl : lookB (prodB i j a b) (x.1 ++ y.1) = lookB a x.1 * lookB b y.1 := by
  rw [look_prod, look_wt ha, ← wt_mulr]
  refine wt_congr a fun p hp => ?_
  rw [look_wt hb, ← wt_mul]
  refine wt_congr b fun q hq => ?_
  unfold ind
  by_cases e : meetB i j p.1 q.1 = true ∧ p.1 ++ q.1 = x.1 ++ y.1
  · obtain ⟨e1, e2⟩ := key p hp q hq e
    rw [if_pos e, if_pos (cmpL_iff.2 e1), if_pos (cmpL_iff.2 e2), Int.one_mul]
  · rw [if_neg e]
    by_cases e1 : p.1 = x.1
    · by_cases e2 : q.1 = y.1
      · exact absurd ⟨by rw [e1, e2]; exact hm, by rw [e1, e2]⟩ e
      · rw [if_neg (c := cmpL q.1 y.1 = 0) (fun h => e2 (cmpL_iff.1 h)), Int.mul_zero]
    · rw [if_neg (c := cmpL p.1 x.1 = 0) (fun h => e1 (cmpL_iff.1 h)), Int.zero_mul]
 intro hn
 rw [hn, look_mem a x ha hx, look_mem b y hb hy] at hl
 have := Int.mul_ne_zero (na x hx) (nb y hy)
 exact this hl.symm
def joinedR (l : Bg) : Option Bg := if (plusR (ones l)).length = 0 ∧ 0 < l.length then none else some (plusR (ones l))
theorem mayB_one (r : List Val) (n : Int) : mayBag [(r, n)] = okC (r, n) := by
 unfold mayBag
 simp [risesB]
theorem mayR_iff_len {a b : List Val} (ha : mayR a = true) (hb : mayR b = true) : mayR (a ++ b) = decide ((a ++ b).length ≤ 40) := by
 unfold mayR at ha hb ⊢
 simp only [Bool.and_eq_true, decide_eq_true_eq] at ha hb
 rw [List.all_append, ha.2, hb.2]
 simp
theorem ok_pair {x y : List Val × Int} (hx : okC x = true) (hy : okC y = true) : okC (x.1 ++ y.1, x.2 * y.2) = (decide ((x.1 ++ y.1).length ≤ 40) && fitQ (x.2 * y.2)) := by
 obtain ⟨h1, _, _, h4⟩ := okC_parts hx
 obtain ⟨k1, _, _, k4⟩ := okC_parts hy
 unfold okC fitQ
 simp only
 rw [mayR_iff_len h4 k4, beq_eq_false_iff_ne.2 (Int.mul_ne_zero h1 k1)]
 cases decide ((x.1 ++ y.1).length ≤ 40) <;> cases decide (-1000000000 ≤ x.2 * y.2) <;> cases decide (x.2 * y.2 ≤ 1000000000) <;> rfl
theorem all_ones (l : Bg) : (ones l).all mayBag = l.all okC := by
 unfold ones
 rw [List.all_map]
 congr 1
 funext p
 exact mayB_one p.1 p.2
theorem all_pairs {i j : Int} {a b : Bg} (ha : mayBag a = true) (hb : mayBag b = true) :
 (pairL i j a b).all okC = (a.all fun x => b.all fun y => !meetB i j x.1 y.1 || (decide ((x.1 ++ y.1).length ≤ 40) && fitQ (x.2 * y.2))) := by
 rw [Bool.eq_iff_iff, List.all_eq_true, List.all_eq_true]
 constructor
 · intro h x hx
   rw [List.all_eq_true]
   intro y hy
   cases hm : meetB i j x.1 y.1
   · rfl
   · rw [← ok_pair (may_okC ha x hx) (may_okC hb y hy), h _ (pairL_mem.2 ⟨x, hx, y, hy, hm, rfl⟩)]; rfl
 · intro h r hr
   obtain ⟨x, hx, y, hy, hm, rfl⟩ := pairL_mem.1 hr
   have h1 := List.all_eq_true.1 (h x hx) y hy
   rw [hm] at h1
   rw [ok_pair (may_okC ha x hx) (may_okC hb y hy)]
   exact h1
theorem joined_product {i j : Int} {a b : Bg} (ha : mayBag a = true) (hb : mayBag b = true) (hn : (pairL i j a b).length ≤ 10000) : joinedR (pairL i j a b) = productR false i j a b := by
 have hp : productR false i j a b = if prodOk i j a b then some (prodB i j a b) else none := by
  unfold productR
  rw [ha, hb]
  rfl
 have ho : prodOk i j a b = ((ones (pairL i j a b)).all mayBag && mayBag (plusL (ones (pairL i j a b)))) := by
  unfold prodOk
  rw [← pairL_len, decide_eq_true hn, Bool.true_and, all_ones, all_pairs ha hb, plus_pairs]
 have hr : plusR (ones (pairL i j a b)) = if prodOk i j a b then prodB i j a b else [] := by
  unfold plusR
  rw [← ho, plus_pairs]
 rw [hp]
 unfold joinedR
 rw [hr]
 cases hk : prodOk i j a b
 · simp only [Bool.false_eq_true, if_false]
   rw [if_pos]
   refine ⟨rfl, List.length_pos_iff.2 fun hl => ?_⟩
   have hz : prodB i j a b = [] := by rw [← plus_pairs, hl]; rfl
   rw [ho, plus_pairs, hz, hl] at hk
   cases hk
 · simp only [if_true]
   rw [if_neg]
   rintro ⟨h1, h2⟩
   exact prod_some (may_asc ha) (may_asc hb) (may_nz ha) (may_nz hb) (List.length_pos_iff.1 h2) (List.eq_nil_of_length_eq_zero h1)
theorem product_many {i j : Int} {a b : Bg} (ha : mayBag a = true) (hb : mayBag b = true) (hn : 10000 < (pairL i j a b).length) : productR false i j a b = none := by
 unfold productR prodOk
 rw [ha, hb, ← pairL_len, decide_eq_false (by omega)]
 rfl
def errW (f : List Val → Bool × Int) : Bg → Int
 | [] => 0
 | x :: b => if (f x.1).2 = 0 then errW f b else (f x.1).2
def whereR (f : List Val → Bool × Int) (b : Bg) : Bg := if errW f b = 0 then stayB (fun r => (f r).1) b else []
theorem errW_drop (f : List Val → Bool × Int) (b : Bg) (k : Nat) (x : List Val × Int) (h : b[k]? = some x) : errW f (b.drop k) = if (f x.1).2 = 0 then errW f (b.drop (k + 1)) else (f x.1).2 := by
 have h1 := List.drop_eq_getElem_cons (List.getElem?_eq_some_iff.1 h).1
 rw [(List.getElem?_eq_some_iff.1 h).2] at h1
 rw [h1, errW]
theorem errW_iff (f : List Val → Bool × Int) : ∀ b : Bg, errW f b = 0 ↔ ∀ x ∈ b, (f x.1).2 = 0
 | [] => by simp [errW]
 | x :: b => by
   rw [errW]
   by_cases h : (f x.1).2 = 0
   · rw [if_pos h, errW_iff f b]; simp [h]
   · rw [if_neg h]; simp [h]
theorem errW_stay (f : List Val → Bool × Int) (p : List Val → Bool) {b : Bg} (h : errW f b = 0) : errW f (stayB p b) = 0 :=
 (errW_iff f _).2 fun x hx => (errW_iff f b).1 h x (List.mem_filter.1 hx).1
theorem stay_take (p : List Val → Bool) {b : Bg} {k : Nat} {x : List Val × Int} (h : b[k]? = some x) : stayB p (b.take (k + 1)) = stayB p (b.take k) ++ if p x.1 then [x] else [] := by
 unfold stayB
 rw [List.take_add_one, h, List.filter_append]
 simp [List.filter_cons]
theorem stay_all (b : Bg) : stayB (fun _ => true) b = b := by unfold stayB; simp
theorem stay_may (p : List Val → Bool) {b : Bg} (h : mayBag b = true) : mayBag (stayB p b) = true :=
 may_of (stay_asc p (may_asc h)) fun x hx => may_okC h x (List.mem_filter.1 hx).1
theorem where_both (f : List Val → Bool × Int) {a b : Bg} (ha : Asc a) (hb : Asc b) (na : NZ a) (h1 : errW f (bothB a b) = 0) (h2 : errW f a = 0) (h3 : errW f b = 0) : whereR f (bothB a b) = bothB (whereR f a) (whereR f b) := by
 unfold whereR
 rw [if_pos h1, if_pos h2, if_pos h3, stay_both _ ha hb na]
end Go.Proofs.YtbpopkgpepmlcaaGreat
namespace Go.Proofs.YtbpopkgpepmlcaaGreat
open Go Go.RowKit
set_option maxRecDepth 100000
theorem dig_one : ∀ d : Nat, d < 10 → (⟨#[48, 49, 50, 51, 52, 53, 54, 55, 56, 57]⟩ : ByteArray).extract d (d + 1) = ⟨#[48 + UInt8.ofNat d]⟩
 | 0, _ => rfl
 | 1, _ => rfl
 | 2, _ => rfl
 | 3, _ => rfl
 | 4, _ => rfl
 | 5, _ => rfl
 | 6, _ => rfl
 | 7, _ => rfl
 | 8, _ => rfl
 | 9, _ => rfl
 | n + 10, h => absurd h (by omega)
theorem dec_small {u : Nat} (h : u < 10) : Lib.decDigits u = [48 + UInt8.ofNat u] := by rw [Lib.decDigits, dif_pos h, UInt8.ofNat_add]; rfl
theorem dec_big {u : Nat} (h : ¬ u < 10) : Lib.decDigits u = Lib.decDigits (u / 10) ++ [48 + UInt8.ofNat (u % 10)] := by rw [Lib.decDigits, dif_neg h, UInt8.ofNat_add]; rfl
theorem cat_one (a : UInt8) (l : List UInt8) : (⟨#[a]⟩ : ByteArray) ++ ⟨l.toArray⟩ = ⟨(a :: l).toArray⟩ := by
 apply ByteArray.ext
 simp
theorem dec_64 (u : Nat) (h : u < 18446744073709551616) : (Lib.decDigits u).length ≤ 20 := dec_len u 19 (by omega)
set_option maxHeartbeats 1000000 in
theorem rdigits_c (u : Nat) (w : World) (hu : u < 18446744073709551616) :
 Calls Tryz.prog 52 #[.int .u64 u] w fun e w' => e = .returned (.string ⟨(Lib.decDigits u).toArray⟩) ∧ Below w.heap.size w w' := by
 obtain ⟨R, hR⟩ : ∃ R, Lib.decDigits u = R := ⟨_, rfl⟩
 rw [hR]
 have HR := Lib.hid hR
 have HRl : Hid (R.length ≤ 20) := Lib.hid (by rw [← hR]; exact dec_64 u hu)
 clear hR
 go_enter Tryz.func52, Tryz.ntmps52
 go_wp2_with fail
 go_loopw [0, 3] (fun v s wr => ∃ (m : Nat) (l : List UInt8), m ≤ u ∧ v = .int .u64 m ∧ s = .string ⟨l.toArray⟩ ∧ Hid (Below w.heap.size w wr) ∧ Hid (Lib.decDigits m ++ l = R)) (fun v _ _ => (intOf v).toNat)
 case atStart => exact ⟨u, [], Nat.le_refl _, rfl, rfl, Lib.hid (Below.refl _ _), Lib.hid (by rw [List.append_nil]; exact HR.out)⟩
 case round =>
  obtain ⟨m, l, hm, rfl, rfl, hb, hinv⟩ := hrel
  have hl : l.length ≤ 20 := by
   have h1 := HRl.out
   rw [← hinv.out, List.length_append] at h1
   omega
  have hsz : (⟨l.toArray⟩ : ByteArray).size = l.length := by show l.toArray.size = _; simp
  clear HR HRl
  by_cases hlt : m < 10
  · have hlt' : ¬ (9 : Int) < m := by omega
    have hd := dig_one m hlt
    have Hr : Hid ((⟨#[48 + UInt8.ofNat m]⟩ : ByteArray) ++ ⟨l.toArray⟩ = ⟨R.toArray⟩) := Lib.hid (by
     rw [cat_one, ← hinv.out, dec_small hlt]
     rfl)
    have hs1 : (⟨#[48 + UInt8.ofNat m]⟩ : ByteArray).size = 1 := rfl
    clear hinv
    go_wp2
    go_ret
    exact ⟨congrArg (fun z => Ending.returned (Value.string z)) Hr.out, hb.out⟩
  · have hlt' : (9 : Int) < m := by omega
    have Hbig := Lib.hid (dec_big hlt)
    have Hlt := Lib.hid hlt
    obtain ⟨d, hdd⟩ : ∃ d, m % 10 = d := ⟨_, rfl⟩
    obtain ⟨q, hqq⟩ : ∃ q, m / 10 = q := ⟨_, rfl⟩
    have hd10 : d < 10 := by omega
    have hmd : (m : Int) % 10 = (d : Nat) := by omega
    have hmq : (m : Int) / 10 = (q : Nat) := by omega
    have hd := dig_one d hd10
    have hs1 : (⟨#[48 + UInt8.ofNat d]⟩ : ByteArray).size = 1 := rfl
    have hbig := Hbig.out
    rw [hdd, hqq] at hbig
    have Hi2 : Hid (Lib.decDigits q ++ ((48 + UInt8.ofNat d) :: l) = R) := Lib.hid (by
     rw [← hinv.out, hbig, List.append_assoc]
     rfl)
    have Hqm : Hid (q < m) := Lib.hid (by omega)
    clear hbig Hbig hinv hlt hdd hqq
    go_wp2
    go_roundw
    case rel => exact ⟨q, _, by have := Hqm.out; omega, rfl, by rw [cat_one], hb, Hi2⟩
    case measure => have := Hqm.out; simp [intOf]; omega
set_option maxHeartbeats 1000000 in
theorem rsigned_c (n : Int) (w : World) (hn : -9223372036854775808 ≤ n ∧ n ≤ 9223372036854775807) :
 Calls Tryz.prog 34 #[.int .i64 n] w fun e w' => e = .returned (.string ⟨(Lib.itoa n).toArray⟩) ∧ Below w.heap.size w w' := by
 by_cases h0 : n < 0
 · obtain ⟨k, rfl⟩ : ∃ k : Nat, n = -(k : Int) - 1 := ⟨(-n - 1).toNat, by omega⟩
   obtain ⟨R, hR⟩ : ∃ R, Lib.itoa (-(k : Int) - 1) = R := ⟨_, rfl⟩
   rw [hR]
   have hk : k < 9223372036854775808 := by omega
   have hD := rdigits_c (k + 1) w (by omega)
   obtain ⟨D, hd⟩ : ∃ D, Lib.decDigits (k + 1) = D := ⟨_, rfl⟩
   have HRd : Hid ((⟨#[45]⟩ : ByteArray) ++ ⟨D.toArray⟩ = ⟨R.toArray⟩) := Lib.hid (by
    rw [cat_one, ← hR]
    unfold Lib.itoa
    rw [if_pos (by omega), show (-(k : Int) - 1).natAbs = k + 1 by omega, hd])
   have hDl : D.length ≤ 20 := by rw [← hd]; exact dec_64 _ (by omega)
   have hsz : (⟨D.toArray⟩ : ByteArray).size = D.length := by show D.toArray.size = _; simp
   rw [hd, show ((k + 1 : Nat) : Int) = (k : Int) + 1 by omega] at hD
   have HD := Lib.hid hD
   have hs1 : (⟨#[45]⟩ : ByteArray).size = 1 := rfl
   have hw0 : IntKind.i64.wrap (-(k : Int) - 1 + 1) = -(k : Int) := by rw [IntKind.wrap_i64]; omega
   have hw1 : IntKind.i64.wrap (-(k : Int)) = -(k : Int) := by rw [IntKind.wrap_i64]; omega
   have hw2 : IntKind.i64.wrap (k : Int) = k := by rw [IntKind.wrap_i64]; omega
   have hw3 : IntKind.u64.wrap (k : Int) = k := by rw [IntKind.wrap_u64]; omega
   have hw4 : IntKind.u64.wrap ((k : Int) + 1) = (k : Int) + 1 := by rw [IntKind.wrap_u64]; omega
   clear hR hD hd
   go_enter Tryz.func34, Tryz.ntmps34
   go_wp2_with fail
   refine HD.out.mono ?_
   rintro e w1 ⟨rfl, hb1⟩
   have Hb1 := Lib.hid hb1
   clear hb1 HD
   go_wp2
   go_ret
   exact ⟨congrArg (fun z => Ending.returned (Value.string z)) HRd.out, Hb1.out⟩
 · obtain ⟨k, rfl⟩ : ∃ k : Nat, n = k := ⟨n.toNat, by omega⟩
   have he : Lib.itoa (k : Int) = Lib.decDigits k := by
    unfold Lib.itoa
    rw [if_neg h0, Int.toNat_natCast]
   rw [he]
   have HD := Lib.hid (rdigits_c k w (by omega))
   obtain ⟨D, hd⟩ : ∃ D, Lib.decDigits k = D := ⟨_, rfl⟩
   rw [hd] at HD ⊢
   have hw3 : IntKind.u64.wrap (k : Int) = k := by rw [IntKind.wrap_u64]; omega
   clear he hd
   go_enter Tryz.func34, Tryz.ntmps34
   go_wp2_with fail
   refine HD.out.mono ?_
   rintro e w1 ⟨rfl, hb1⟩
   have Hb1 := Lib.hid hb1
   clear hb1 HD
   go_wp2
   go_ret
   exact ⟨rfl, Hb1.out⟩
set_option maxHeartbeats 400000 in
theorem rtext_null (x : Val) (w : World) (h : (x.k == 0) = true) : Calls Tryz.prog 51 #[x.v] w fun e w' => e = .returned (.string ⟨#[110, 117, 108, 108]⟩) ∧ Below w.heap.size w w' := by
 go_enter Tryz.func51, Tryz.ntmps51
 go_wp2
 go_ret
 exact ⟨rfl, below_one _ _⟩
set_option maxHeartbeats 400000 in
theorem rtext_false (x : Val) (w : World) (h0 : (x.k == 0) = false) (h : (x.k == 1) = true) (hn : (x.n == 0) = true) : Calls Tryz.prog 51 #[x.v] w fun e w' => e = .returned (.string ⟨#[102, 97, 108, 115, 101]⟩) ∧ Below w.heap.size w w' := by
 go_enter Tryz.func51, Tryz.ntmps51
 go_wp2
 go_ret
 exact ⟨rfl, below_one _ _⟩
set_option maxHeartbeats 400000 in
theorem rtext_true (x : Val) (w : World) (h0 : (x.k == 0) = false) (h : (x.k == 1) = true) (hn : (x.n == 0) = false) : Calls Tryz.prog 51 #[x.v] w fun e w' => e = .returned (.string ⟨#[116, 114, 117, 101]⟩) ∧ Below w.heap.size w w' := by
 go_enter Tryz.func51, Tryz.ntmps51
 go_wp2
 go_ret
 exact ⟨rfl, below_one _ _⟩
set_option maxHeartbeats 400000 in
theorem rtext_other (x : Val) (w : World) (h0 : (x.k == 0) = false) (h1 : (x.k == 1) = false) (h2 : (x.k == 2) = false) (h3 : (x.k == 3) = false) : Calls Tryz.prog 51 #[x.v] w fun e w' => e = .returned (.string ⟨#[63]⟩) ∧ Below w.heap.size w w' := by
 go_enter Tryz.func51, Tryz.ntmps51
 go_wp2
 go_ret
 exact ⟨rfl, below_one _ _⟩
set_option maxHeartbeats 400000 in
theorem rtext_int (x : Val) (w : World) (h0 : (x.k == 0) = false) (h1 : (x.k == 1) = false) (h : (x.k == 2) = true) (hn : -9223372036854775808 ≤ x.n ∧ x.n ≤ 9223372036854775807) :
 Calls Tryz.prog 51 #[x.v] w fun e w' => e = .returned (.string ⟨(Lib.itoa x.n).toArray⟩) ∧ Below w.heap.size w w' := by
 have Hn := Lib.hid hn
 clear hn
 go_enter Tryz.func51, Tryz.ntmps51
 go_wp2_with fail
 refine (rsigned_c x.n _ Hn.out).mono ?_
 rintro e w1 ⟨rfl, hb1⟩
 have hb := below_via (below_one w _) hb1
 clear hb1
 go_wp2
 go_ret
 exact ⟨rfl, hb⟩
theorem sub1_snoc (c : UInt8) (r : List UInt8) : ∀ (l : List UInt8) (b : UInt8), sub1 c r (l ++ [b]) = sub1 c r l ++ (if b = c then r else [b])
 | [], b => by
   rw [List.nil_append, sub1, sub1]
   split <;> simp [sub1]
 | a :: l, b => by
   rw [List.cons_append, sub1, sub1, sub1_snoc c r l b]
   split <;> simp
theorem cat_two (a b : List UInt8) : (⟨a.toArray⟩ : ByteArray) ++ ⟨b.toArray⟩ = ⟨(a ++ b).toArray⟩ := by
 apply ByteArray.ext
 simp
theorem drop_at5 (s : ByteArray) (a : Nat) (h : a < s.size) : s.data.toList.drop a = s[a] :: s.data.toList.drop (a + 1) := List.drop_eq_getElem_cons h
theorem extract_one5 (s : ByteArray) (k : Nat) (h : k < s.size) : s.extract k (k + 1) = ⟨[s[k]].toArray⟩ := by
 have e : (s.data.toList.drop k).take (k + 1 - k) = [s[k]] := by
  rw [show k + 1 - k = 1 by omega, drop_at5 s k h]
  rfl
 rw [Lib.extract_eq, e]
theorem take_at5 (s : ByteArray) (k : Nat) (h : k < s.size) : s.data.toList.take (k + 1) = s.data.toList.take k ++ [s[k]] := by
 rw [List.take_add_one, List.getElem?_eq_getElem (show k < s.data.toList.length from h)]
 rfl
set_option maxHeartbeats 2000000 in
theorem rtext_text (x : Val) (w : World) (h0 : (x.k == 0) = false) (h1 : (x.k == 1) = false) (h2 : (x.k == 2) = false) (h3 : (x.k == 3) = true) (hs : x.s.size ≤ 2000) :
 Calls Tryz.prog 51 #[x.v] w fun e w' => e = .returned (.string ⟨([39] ++ sub1 39 [39, 39] x.s.data.toList ++ [39]).toArray⟩) ∧ Below w.heap.size w w' := by
 obtain ⟨xk, xn, s⟩ := x
 simp only [] at h0 h1 h2 h3 hs ⊢
 obtain ⟨R, hR⟩ : ∃ R, [39] ++ sub1 39 [39, 39] s.data.toList ++ [39] = R := ⟨_, rfl⟩
 rw [hR]
 have HR := Lib.hid hR
 clear hR
 go_enter Tryz.func51, Tryz.ntmps51
 go_wp2_with fail
 have Hb1 := Lib.hid (below_one w (.cells #[.int .i64 xk, .int .i64 xn, .string s] 46))
 have Hc2 : Hid ((w.alloc (.cells #[.int .i64 xk, .int .i64 xn, .string s] 46)).cell? ⟨w.heap.size, 2, none⟩ = some (.string s)) := Lib.hid (Bx.new w ⟨xk, xn, s⟩).cell2
 obtain ⟨g, hg⟩ : ∃ g, w.heap.size = g := ⟨_, rfl⟩
 obtain ⟨W, hW⟩ : ∃ W, w.alloc (.cells #[.int .i64 xk, .int .i64 xn, .string s] 46) = W := ⟨_, rfl⟩
 rw [hW] at Hb1 Hc2 ⊢
 have hg2 : Hid (Below w.heap.size w W) := Hb1
 rw [hg] at Hc2 ⊢
 clear hW Hb1
 go_loopw [3, 4] (fun v i wr => ∃ (k : Nat) (l : List UInt8), k ≤ s.size ∧ i = .int .i64 k ∧ v = .string ⟨l.toArray⟩ ∧ W = wr ∧ Hid (l = [39] ++ sub1 39 [39, 39] (s.data.toList.take k))) (fun _ i _ => s.size - (intOf i).toNat)
 case atStart => exact ⟨0, [39], Nat.zero_le _, rfl, rfl, rfl, Lib.hid rfl⟩
 case round =>
  obtain ⟨k, l, hk, rfl, rfl, rfl, hl⟩ := hrel
  have d2 := Hc2.out
  have hll : l.length ≤ 5000 := by
   have h1 := sub1_le 39 (s.data.toList.take k)
   rw [hl.out, List.length_append]
   have h2 : (s.data.toList.take k).length ≤ k := List.length_take_le _ _
   simp only [List.length_cons, List.length_nil]
   omega
  have hsz : (⟨l.toArray⟩ : ByteArray).size = l.length := by show l.toArray.size = _; simp
  by_cases hlt : k < s.size
  · have hlt' : (k : Int) < s.size := by omega
    have hx := extract_one5 s k hlt
    have Hta := Lib.hid (take_at5 s k hlt)
    by_cases hc : s[k] = 39
    · have hc' : (s[k].toNat : Int) = 39 := by rw [hc]; rfl
      have Hl2 : Hid (l ++ [39] ++ [39] = [39] ++ sub1 39 [39, 39] (s.data.toList.take (k + 1))) := Lib.hid (by
       rw [Hta.out, sub1_snoc, if_pos hc, hl.out]
       simp)
      go_wp2
      go_roundw
      case rel => exact ⟨k + 1, _, by omega, by go_num, congrArg Value.string (by rw [show (⟨#[39]⟩ : ByteArray) = ⟨[39].toArray⟩ from rfl, cat_two, cat_two]), trivial, Hl2⟩
      case measure => simp [intOf]; omega
    · have hc' : ¬ (s[k].toNat : Int) = 39 := fun h => hc (UInt8.toNat_inj.1 (by have : (39 : UInt8).toNat = 39 := rfl; omega))
      have Hl2 : Hid (l ++ [s[k]] = [39] ++ sub1 39 [39, 39] (s.data.toList.take (k + 1))) := Lib.hid (by
       rw [Hta.out, sub1_snoc, if_neg hc, hl.out]
       simp)
      go_wp2
      go_roundw
      case rel => exact ⟨k + 1, _, by omega, by go_num, congrArg Value.string (by rw [show (⟨#[s[k]]⟩ : ByteArray) = ⟨[s[k]].toArray⟩ from rfl, cat_two]), trivial, Hl2⟩
      case measure => simp [intOf]; omega
  · obtain rfl : k = s.size := by omega
    have Hr : Hid ((⟨l.toArray⟩ : ByteArray) ++ ⟨#[39]⟩ = ⟨R.toArray⟩) := Lib.hid (by
     rw [show (⟨#[39]⟩ : ByteArray) = ⟨[39].toArray⟩ from rfl, cat_two, ← HR.out, hl.out, show s.data.toList.take s.size = s.data.toList from List.take_of_length_le (Nat.le_refl _)])
    clear hl HR
    go_wp2
    go_ret
    exact ⟨congrArg (fun z => Ending.returned (Value.string z)) Hr.out, hg2.out⟩
theorem rtextV_c (x : Val) (w : World) (hn : -9223372036854775808 ≤ x.n ∧ x.n ≤ 9223372036854775807) (hs : x.s.size ≤ 2000) :
 Calls Tryz.prog 51 #[x.v] w fun e w' => e = .returned (.string ⟨(textL x).toArray⟩) ∧ Below w.heap.size w w' := by
 unfold textL
 cases h0 : x.k == 0
 · cases h1 : x.k == 1
   · cases h2 : x.k == 2
     · cases h3 : x.k == 3
       · exact rtext_other x w h0 h1 h2 h3
       · exact rtext_text x w h0 h1 h2 h3 hs
     · exact rtext_int x w h0 h1 h2 hn
   · cases hz : x.n == 0
     · exact rtext_true x w h0 h1 hz
     · exact rtext_false x w h0 h1 hz
 · exact rtext_null x w h0
end Go.Proofs.YtbpopkgpepmlcaaGreat
namespace Go.Proofs.YtbpopkgpepmlcaaGreat
open Go
def cntT (n : Int) : List UInt8 := if n = 1 then [] else 42 :: Lib.itoa n
def entT (x : List Val × Int) : List UInt8 := rowT x.1 ++ cntT x.2
def bagT (b : Bg) : List UInt8 := Lib.join (b.map entT) [32]
end Go.Proofs.YtbpopkgpepmlcaaGreat
namespace Go.Proofs.YtbpopkgpepmlcaaGreat
open Go Go.RowKit
set_option maxRecDepth 100000
theorem join_snoc (sep x : List UInt8) : ∀ l : List (List UInt8), l ≠ [] → Lib.join (l ++ [x]) sep = Lib.join l sep ++ (sep ++ x)
 | [], h => absurd rfl h
 | a :: l, _ => by
   rw [List.cons_append, Lib.join_cons, Lib.join_cons]
   simp [Lib.joinTail]
theorem body_next (xs : List Val) (k : Nat) (x : Val) (hx : xs[k]? = some x) : bodyL (xs.take (k + 1)) = bodyL (xs.take k) ++ ((if k = 0 then [] else [44, 32]) ++ textL x) := by
 unfold bodyL
 rw [List.take_add_one, hx, List.map_append]
 by_cases h : k = 0
 · subst h
   simp [Lib.join_one, Lib.join_nil]
 · rw [if_neg h]
   have hk : k < xs.length := (List.getElem?_eq_some_iff.1 hx).1
   exact join_snoc _ _ _ (fun e => by
    have := congrArg List.length e
    rw [List.length_map, List.length_take, List.length_nil] at this
    omega)
theorem body_len5 (xs : List Val) (h6 : ∀ x ∈ xs, -9223372036854775808 ≤ x.n ∧ x.n ≤ 9223372036854775807) (hz : ∀ x ∈ xs, x.s.size ≤ 2000) : ∀ k, k ≤ xs.length → (bodyL (xs.take k)).length ≤ k * 5002
 | 0, _ => by simp [bodyL, Lib.join_nil]
 | k + 1, hk => by
   have ih := body_len5 xs h6 hz k (by omega)
   have hx : xs[k]? = some (xs[k]'(by omega)) := List.getElem?_eq_getElem _
   have hm := List.mem_of_getElem? hx
   have ht := text_len _ (h6 _ hm) (hz _ hm)
   rw [body_next xs k _ hx, List.length_append, List.length_append]
   have : (if k = 0 then ([] : List UInt8) else [44, 32]).length ≤ 2 := by split <;> simp
   omega
theorem rowT_len (xs : List Val) (h6 : ∀ x ∈ xs, -9223372036854775808 ≤ x.n ∧ x.n ≤ 9223372036854775807) (hz : ∀ x ∈ xs, x.s.size ≤ 2000) (hn : xs.length ≤ 200) : (rowT xs).length ≤ 1000500 := by
 have h := body_len5 xs h6 hz xs.length (Nat.le_refl _)
 rw [List.take_of_length_le (Nat.le_refl _)] at h
 unfold rowT
 rw [List.length_append, List.length_append]
 simp only [List.length_cons, List.length_nil]
 omega
theorem bagT_next (b : Bg) (k : Nat) (x : List Val × Int) (hx : b[k]? = some x) : bagT (b.take (k + 1)) = bagT (b.take k) ++ ((if k = 0 then [] else [32]) ++ entT x) := by
 unfold bagT
 rw [List.take_add_one, hx, List.map_append]
 by_cases h : k = 0
 · subst h
   simp [Lib.join_one, Lib.join_nil]
 · rw [if_neg h]
   have hk : k < b.length := (List.getElem?_eq_some_iff.1 hx).1
   exact join_snoc _ _ _ (fun e => by
    have := congrArg List.length e
    rw [List.length_map, List.length_take, List.length_nil] at this
    omega)
def bagTR (b : Bg) : List UInt8 := if mayBag b then bagT b else []
theorem ev_index {F : Act} {w : World} {t u : Tmp} {b off n c k : Nat} {o : Oper} (hk : k < n) (ho : o.op = .indexAddr 41 (.tmp t) (.tmp u)) (ht : Reg.slot F t = .slice (some ⟨b, off, none⟩) n c) (hu : Reg.slot F u = .int .i64 k) :
 (execOp F.eval o).run Tryz.prog w = .ok (.value (.pointer (some ⟨b, off + k * 3, none⟩))) w := by
 have e1 : F.eval (.tmp t) = .slice (some ⟨b, off, none⟩) n c := ht
 have e2 : F.eval (.tmp u) = .int .i64 k := hu
 have e0 : (execOp F.eval o).run Tryz.prog w = ((Instr.indexAt 41 (.slice (some ⟨b, off, none⟩) n c) (.int .i64 k)).run Tryz.prog w).andThen fun v w' => .ok (.value v) w' := by
  simp only [execOp, ho, e1, e2, Sem.run_bind, Sem.run_pure]
 rw [e0]
 go_simp
theorem ev_load3 {F : Act} {w : World} {b off : Nat} {a : Val} {t : Tmp} {o : Oper} (h0 : w.cell? ⟨b, off, none⟩ = some (.int .i64 a.k)) (h1 : w.cell? ⟨b, off + 1, none⟩ = some (.int .i64 a.n)) (h2 : w.cell? ⟨b, off + 2, none⟩ = some (.string a.s))
 (ho : o.op = .load 46 (.tmp t)) (ht : Reg.slot F t = .pointer (some ⟨b, off, none⟩)) :
 (execOp F.eval o).run Tryz.prog w = .ok (.value a.v) w := by
 have e : F.eval (.tmp t) = .pointer (some ⟨b, off, none⟩) := ht
 have e0 : (execOp F.eval o).run Tryz.prog w = ((Instr.loadAt 46 (.pointer (some ⟨b, off, none⟩))).run Tryz.prog w).andThen fun v w' => .ok (.value v) w' := by
  simp only [execOp, ho, e, Sem.run_bind, Sem.run_pure]
 rw [e0]
 go_simp
theorem enrCompare : ∀ args w, (callFunc 50 args).run Tryz.prog w = .ok (.enter 50 args) w := fun _ _ => by kernel_rfl
set_option maxHeartbeats 2000000 in
theorem rcompareL_c (A B : Option Addr) (n m c d : Nat) (xs ys : List Val) (w : World) (hn : xs.length = n) (hm : ys.length = m) (hn1 : n ≤ maxLen) (hm1 : m ≤ maxLen) (hs : Sl w A xs) (ht : Sl w B ys) :
 Calls Tryz.prog 29 #[.slice A n c, .slice B m d] w fun e w' => e = .returned (.int .i64 (cmpL xs ys)) ∧ Below w.heap.size w w' := by
 unfold maxLen at hn1 hm1
 have Hn := Lib.hid hn
 have Hm := Lib.hid hm
 have Hs := Lib.hid hs
 have Ht := Lib.hid ht
 clear hn hm hs ht
 go_enter Tryz.func29, Tryz.ntmps29
 go_wp2_with fail
 go_loopw [5] (fun i wr => ∃ k : Nat, k ≤ n ∧ k ≤ m ∧ i = .int .i64 k ∧ Below w.heap.size w wr ∧ Hid (cmpL (xs.drop k) (ys.drop k) = cmpL xs ys)) (fun i _ => n - (intOf i).toNat)
 case atStart => exact ⟨0, Nat.zero_le _, Nat.zero_le _, rfl, Below.refl _ _, rfl⟩
 case round =>
  obtain ⟨k, hk, hkm, rfl, hb, hinv⟩ := hrel
  by_cases hlt : k < n
  · by_cases hlt2 : k < m
    · obtain ⟨b, off, x, rfl, hblt, hx, c0, c1, c2⟩ := Hs.out.at (by rw [Hn.out]; exact hlt)
      have d0 : Hid _ := (hb.cell (p := ⟨b, off + k * 3, none⟩) hblt).trans c0
      have d1 : Hid _ := (hb.cell (p := ⟨b, off + k * 3 + 1, none⟩) hblt).trans c1
      have d2 : Hid _ := (hb.cell (p := ⟨b, off + k * 3 + 2, none⟩) hblt).trans c2
      have Hx := Lib.hid hx
      clear c0 c1 c2 hx
      have l1 := hb.size
      obtain ⟨b', off', y, rfl, hblt', hy, c0, c1, c2⟩ := Ht.out.at (by rw [Hm.out]; exact hlt2)
      have d3 : Hid _ := (hb.cell (p := ⟨b', off' + k * 3, none⟩) hblt').trans c0
      have d4 : Hid _ := (hb.cell (p := ⟨b', off' + k * 3 + 1, none⟩) hblt').trans c1
      have d5 : Hid _ := (hb.cell (p := ⟨b', off' + k * 3 + 2, none⟩) hblt').trans c2
      have Hy := Lib.hid hy
      clear c0 c1 c2 hy
      have l2 : b' < wr.heap.size := by omega
      have l3 : b < wr.heap.size := by omega
      have hstep := cmpL_drop xs ys k x y Hx.out Hy.out
      have Hst := Lib.hid (hstep.symm.trans hinv.out)
      clear hstep hinv
      go_wp2_with fail
      refine Reg.wp_region_vals mixed (by kernel_rfl) [(19, .slice (some ⟨b, off, none⟩) n c), (20, .int .i64 k), (21, .pointer (some ⟨b, off + k * 3, none⟩)), (22, x.v), (23, .slice (some ⟨b', off', none⟩) m d), (24, .int .i64 k), (25, .pointer (some ⟨b', off' + k * 3, none⟩)), (26, y.v), (27, .int .i64 (cmpV x y)), (6, .int .i64 (cmpV x y))] 41 rfl (by kernel_rfl) ?_ ?_
      · intro F hF w' hB
        have e0 := (hB.cell (p := ⟨b, off + k * 3, none⟩) l3).trans d0.out
        have e1 := (hB.cell (p := ⟨b, off + k * 3 + 1, none⟩) l3).trans d1.out
        have e2 := (hB.cell (p := ⟨b, off + k * 3 + 2, none⟩) l3).trans d2.out
        have e3 := (hB.cell (p := ⟨b', off' + k * 3, none⟩) l2).trans d3.out
        have e4 := (hB.cell (p := ⟨b', off' + k * 3 + 1, none⟩) l2).trans d4.out
        have e5 := (hB.cell (p := ⟨b', off' + k * 3 + 2, none⟩) l2).trans d5.out
        refine ⟨?_, ?_, ?_, ?_, ?_, ?_, ?_, ?_, ?_, ?_, trivial⟩
        · exact Reg.doesV_val (ev_move rfl) (by rw [hF]; kernel_rfl) (by rw [hF]; kernel_rfl)
        · exact Reg.doesV_val (ev_move rfl) (by rw [hF]; kernel_rfl) (by rw [hF]; kernel_rfl)
        · exact Reg.doesV_val (ev_index (b := b) (off := off) (c := c) hlt rfl (by rw [hF]; kernel_rfl) (by rw [hF]; kernel_rfl)) (by rw [hF]; kernel_rfl) (by rw [hF]; kernel_rfl)
        · exact Reg.doesV_val (ev_load3 e0 e1 e2 rfl (by rw [hF]; kernel_rfl)) (by rw [hF]; kernel_rfl) (by rw [hF]; kernel_rfl)
        · exact Reg.doesV_val (ev_move rfl) (by rw [hF]; kernel_rfl) (by rw [hF]; kernel_rfl)
        · exact Reg.doesV_val (ev_move rfl) (by rw [hF]; kernel_rfl) (by rw [hF]; kernel_rfl)
        · exact Reg.doesV_val (ev_index (b := b') (off := off') (c := d) hlt2 rfl (by rw [hF]; kernel_rfl) (by rw [hF]; kernel_rfl)) (by rw [hF]; kernel_rfl) (by rw [hF]; kernel_rfl)
        · exact Reg.doesV_val (ev_load3 e3 e4 e5 rfl (by rw [hF]; kernel_rfl)) (by rw [hF]; kernel_rfl) (by rw [hF]; kernel_rfl)
        · exact Reg.doesV_call (rcompare_c x y w') (ev_call enrCompare rfl (by rw [hF]; kernel_rfl)) (by rw [hF]; kernel_rfl) (by rw [hF]; kernel_rfl)
        · exact Reg.doesV_val (ev_assign rfl) (by rw [hF]; kernel_rfl) (by rw [hF]; kernel_rfl)
      · intro w2 hB
        simp only [Reg.putAll, Act.put, List.setIfInBounds_toArray, List.set_cons_zero, List.set_cons_succ]
        have hb2 := hb.trans (hB.mono hb.size)
        clear hB hb l1 l2 l3 d0 d1 d2 d3 d4 d5
        cases hc : cmpV x y != 0
        · have Hst' : Hid (cmpL (xs.drop (k + 1)) (ys.drop (k + 1)) = cmpL xs ys) := by have := Hst.out; rw [hc] at this; exact this
          clear Hst
          go_wp2
          go_roundw
          case rel => exact ⟨k + 1, by omega, by omega, by go_num, hb2, Hst'.out⟩
          case measure => simp [intOf]; omega
        · have Hst' : Hid (cmpV x y = cmpL xs ys) := by have := Hst.out; rw [hc] at this; exact this
          clear Hst
          go_wp2
          go_ret
          exact ⟨congrArg (fun z => Ending.returned (Value.int .i64 z)) Hst'.out, hb2⟩
    · obtain rfl : k = m := by omega
      have Hst : Hid (1 = cmpL xs ys) := by
       have := hinv.out
       rw [show ys.drop k = [] from List.drop_eq_nil_of_le (by rw [Hm.out]; omega), cmpL_nil_right, if_neg (by rw [List.length_drop, Hn.out]; omega)] at this
       exact this
      clear hinv
      go_wp2
      go_ret
      exact ⟨congrArg (fun z => Ending.returned (Value.int .i64 z)) Hst.out, hb⟩
  · obtain rfl : k = n := by omega
    by_cases hlt2 : k < m
    · have Hst : Hid (-1 = cmpL xs ys) := by
       have := hinv.out
       rw [show xs.drop k = [] from List.drop_eq_nil_of_le (by rw [Hn.out]; omega), cmpL_nil_left, if_neg (by rw [List.length_drop, Hm.out]; omega)] at this
       exact this
      clear hinv
      go_wp2
      go_ret
      exact ⟨congrArg (fun z => Ending.returned (Value.int .i64 z)) Hst.out, hb⟩
    · have Hst : Hid (0 = cmpL xs ys) := by
       have := hinv.out
       rw [show xs.drop k = [] from List.drop_eq_nil_of_le (by rw [Hn.out]; omega), cmpL_nil_left, if_pos (by rw [List.length_drop, Hm.out]; omega)] at this
       exact this
      obtain rfl : k = m := by omega
      clear hinv
      go_wp2
      go_ret
      exact ⟨congrArg (fun z => Ending.returned (Value.int .i64 z)) Hst.out, hb⟩
def shortB (xs : List Val) : Bool := xs.all (fun x => decide (x.s.size ≤ 1000)) && decide (xs.length ≤ 40)
theorem all_dropV (p : Val → Bool) (xs : List Val) (k : Nat) (x : Val) (hx : xs[k]? = some x) : (xs.drop k).all p = (p x && (xs.drop (k + 1)).all p) := by
 have h1 := List.drop_eq_getElem_cons (List.getElem?_eq_some_iff.1 hx).1
 rw [(List.getElem?_eq_some_iff.1 hx).2] at h1
 rw [h1, List.all_cons]
set_option maxHeartbeats 2000000 in
theorem short_c (A : Option Addr) (n c : Nat) (xs : List Val) (w : World) (hn : xs.length = n) (hn1 : n ≤ maxLen) (hs : Sl w A xs) (hz : ∀ x ∈ xs, x.s.size ≤ maxLen) :
 Calls Tryz.prog 13 #[.slice A n c] w fun e w' => e = .returned (.bool (shortB xs)) ∧ Below w.heap.size w w' := by
 unfold maxLen at hn1 hz
 have Hn := Lib.hid hn
 have Hs := Lib.hid hs
 have Hz := Lib.hid hz
 clear hn hs hz
 go_enter Tryz.func13, Tryz.ntmps13
 go_wp2_with fail
 go_loop [3] (fun i => ∃ k : Nat, k ≤ n ∧ i = .int .i64 k ∧ Hid ((xs.drop k).all (fun x => decide (x.s.size ≤ 1000)) = xs.all (fun x => decide (x.s.size ≤ 1000)))) (fun i => n - (intOf i).toNat)
 case atStart => exact ⟨0, Nat.zero_le _, rfl, rfl⟩
 case round =>
  obtain ⟨k, hk, rfl, hinv⟩ := hrel
  by_cases hlt : k < n
  · obtain ⟨b, off, x, rfl, hblt, hx, c0, c1, c2⟩ := Hs.out.at (by rw [Hn.out]; exact hlt)
    have hxz := Hz.out x (List.mem_of_getElem? hx)
    have Hst := Lib.hid ((all_dropV (fun x => decide (x.s.size ≤ 1000)) xs k x hx).symm.trans hinv.out)
    clear hinv hx
    by_cases hz : x.s.size ≤ 1000
    · have hz2 : decide (1000 < (x.s.size : Int)) = false := decide_eq_false (by omega)
      have Hst' : Hid ((xs.drop (k + 1)).all (fun x => decide (x.s.size ≤ 1000)) = xs.all (fun x => decide (x.s.size ≤ 1000))) := by
       have := Hst.out
       rw [show decide (x.s.size ≤ 1000) = true from decide_eq_true hz, Bool.true_and] at this
       exact this
      clear Hst
      go_wp2
      go_round
      case rel => exact ⟨k + 1, by omega, by go_num, Hst'.out⟩
      case measure => simp [intOf]; omega
    · have hz2 : decide (1000 < (x.s.size : Int)) = true := decide_eq_true (by omega)
      have Hst' : Hid (false = shortB xs) := by
       have := Hst.out
       rw [show decide (x.s.size ≤ 1000) = false from decide_eq_false hz, Bool.false_and] at this
       unfold shortB
       rw [← this]
       rfl
      clear Hst
      go_wp2
      go_ret
      exact ⟨congrArg (fun z => Ending.returned (Value.bool z)) Hst'.out, Below.refl _ _⟩
  · obtain rfl : k = n := by omega
    have Hst' : Hid (decide ((k : Int) ≤ 40) = shortB xs) := by
     have := hinv.out
     rw [show xs.drop k = [] from List.drop_eq_nil_of_le (by rw [Hn.out]; omega)] at this
     unfold shortB
     rw [← this, Hn.out]
     simp only [List.all_nil, Bool.true_and]
     exact decide_eq_decide.2 (by omega)
    clear hinv
    go_wp2
    go_ret
    exact ⟨congrArg (fun z => Ending.returned (Value.bool z)) Hst'.out, Below.refl _ _⟩
set_option maxHeartbeats 2000000 in
theorem rmayL_c (A : Option Addr) (n c : Nat) (xs : List Val) (w : World) (hn : xs.length = n) (hn1 : n ≤ maxLen) (hs : Sl w A xs) (hz : ∀ x ∈ xs, x.s.size ≤ maxLen) :
 Calls Tryz.prog 59 #[.slice A n c] w fun e w' => e = .returned (.bool (xs.all rmB)) ∧ Below w.heap.size w w' := by
 unfold maxLen at hn1
 have Hn := Lib.hid hn
 have Hs := Lib.hid hs
 have Hz := Lib.hid hz
 clear hn hs hz
 go_enter Tryz.func59, Tryz.ntmps59
 go_wp2_with fail
 go_loopw [3] (fun i wr => ∃ k : Nat, k ≤ n ∧ i = .int .i64 k ∧ Below w.heap.size w wr ∧ Hid ((xs.drop k).all rmB = xs.all rmB)) (fun i _ => n - (intOf i).toNat)
 case atStart => exact ⟨0, Nat.zero_le _, rfl, Below.refl _ _, rfl⟩
 case round =>
  obtain ⟨k, hk, rfl, hb, hinv⟩ := hrel
  by_cases hlt : k < n
  · obtain ⟨b, off, x, rfl, hblt, hx, c0, c1, c2⟩ := Hs.out.at (by rw [Hn.out]; exact hlt)
    have d0 := (hb.cell (p := ⟨b, off + k * 3, none⟩) hblt).trans c0
    have d1 := (hb.cell (p := ⟨b, off + k * 3 + 1, none⟩) hblt).trans c1
    have d2 := (hb.cell (p := ⟨b, off + k * 3 + 2, none⟩) hblt).trans c2
    have Hxz := Lib.hid (Hz.out x (List.mem_of_getElem? hx))
    have Hst := Lib.hid ((all_dropV rmB xs k x hx).symm.trans hinv.out)
    clear hinv hx c0 c1 c2
    cases hm : rmB x
    · have Hst' : Hid (false = xs.all rmB) := by
       have := Hst.out
       rw [hm, Bool.false_and] at this
       exact this
      clear Hst
      go_wp2_with fail
      refine (rmay_c x wr Hxz.out).mono ?_
      rintro e w1 ⟨rfl, hb1⟩
      have hb2 := hb.trans (hb1.mono hb.size)
      clear hb1 hb
      go_wp2
      go_ret
      exact ⟨congrArg (fun z => Ending.returned (Value.bool z)) Hst'.out, hb2⟩
    · have Hst' : Hid ((xs.drop (k + 1)).all rmB = xs.all rmB) := by
       have := Hst.out
       rw [hm, Bool.true_and] at this
       exact this
      clear Hst
      go_wp2_with fail
      refine (rmay_c x wr Hxz.out).mono ?_
      rintro e w1 ⟨rfl, hb1⟩
      have hb2 := hb.trans (hb1.mono hb.size)
      clear hb1 hb
      go_wp2
      go_roundw
      case rel => exact ⟨k + 1, by omega, by go_num, hb2, Hst'.out⟩
      case measure => simp [intOf]; omega
  · obtain rfl : k = n := by omega
    have Hst' : Hid (true = xs.all rmB) := by
     have := hinv.out
     rw [show xs.drop k = [] from List.drop_eq_nil_of_le (by rw [Hn.out]; omega)] at this
     exact this
    clear hinv
    go_wp2
    go_ret
    exact ⟨congrArg (fun z => Ending.returned (Value.bool z)) Hst'.out, hb⟩
theorem ev_neIC {F : Act} {w : World} {t : Tmp} {o : Oper} (a b : Int) (ho : o.op = .binOp .neq 3 (.tmp t) (.const (.int .i64 b)) 3) (ht : Reg.slot F t = .int .i64 a) :
 (execOp F.eval o).run Tryz.prog w = .ok (.value (.bool (a != b))) w := by
 have e1 : F.eval (.tmp t) = .int .i64 a := ht
 have e2 : F.eval (.const (.int .i64 b)) = .int .i64 b := rfl
 have e0 : (execOp F.eval o).run Tryz.prog w = ((do eqGuard .neq 3 (.tmp t) (.const (.int .i64 b)) (.int .i64 a) (.int .i64 b); binOp .neq 3 (.int .i64 a) (.int .i64 b)).run Tryz.prog w).andThen fun v w' => .ok (.value v) w' := by
  simp only [execOp, ho, e1, e2, Sem.run_bind, Sem.run_pure]
 rw [e0]
 go_simp
theorem enRCompareL : ∀ args w, (callFunc 29 args).run Tryz.prog w = .ok (.enter 29 args) w := fun _ _ => by kernel_rfl
def rmayR (xs : List Val) : Bool := decide (xs.length ≤ 40) && xs.all rmB
set_option maxHeartbeats 1000000 in
theorem rmayRow_c (A : Option Addr) (n c : Nat) (xs : List Val) (w : World) (hn : xs.length = n) (hn1 : n ≤ maxLen) (hs : Sl w A xs) (hz : ∀ x ∈ xs, x.s.size ≤ maxLen) :
 Calls Tryz.prog 44 #[.slice A n c] w fun e w' => e = .returned (.bool (rmayR xs)) ∧ Below w.heap.size w w' := by
 have HM := Lib.hid (rmayL_c A n c xs w hn hn1 hs hz)
 unfold maxLen at hn1
 unfold rmayR
 rw [hn]
 clear hn hs hz
 by_cases h40 : n ≤ 40
 · rw [decide_eq_true h40, Bool.true_and]
   obtain ⟨R, hR⟩ : ∃ R, xs.all rmB = R := ⟨_, rfl⟩
   rw [hR] at HM ⊢
   clear hR
   go_enter Tryz.func44, Tryz.ntmps44
   go_wp2_with fail
   refine HM.out.mono ?_
   rintro e w1 ⟨rfl, hb1⟩
   go_wp2
   go_ret
   exact ⟨rfl, hb1⟩
 · rw [decide_eq_false h40, Bool.false_and]
   clear HM
   go_enter Tryz.func44, Tryz.ntmps44
   go_wp2
   go_ret
   exact ⟨rfl, Below.refl _ _⟩
theorem ev_idxC {F : Act} {w : World} {t u : Tmp} {b off n c k : Nat} {o : Oper} (hk : k < n) (ho : o.op = .indexAddr 30 (.tmp t) (.tmp u)) (ht : Reg.slot F t = .slice (some ⟨b, off, none⟩) n c) (hu : Reg.slot F u = .int .i64 k) :
 (execOp F.eval o).run Tryz.prog w = .ok (.value (.pointer (some ⟨b, off + k * 2, none⟩))) w := by
 have e1 : F.eval (.tmp t) = .slice (some ⟨b, off, none⟩) n c := ht
 have e2 : F.eval (.tmp u) = .int .i64 k := hu
 have e0 : (execOp F.eval o).run Tryz.prog w = ((Instr.indexAt 30 (.slice (some ⟨b, off, none⟩) n c) (.int .i64 k)).run Tryz.prog w).andThen fun v w' => .ok (.value v) w' := by
  simp only [execOp, ho, e1, e2, Sem.run_bind, Sem.run_pure]
 rw [e0]
 go_simp
theorem ev_c0 {F : Act} {w : World} {b off : Nat} {t : Tmp} {o : Oper} (ho : o.op = .fieldAddr 44 (.tmp t) 0) (ht : Reg.slot F t = .pointer (some ⟨b, off, none⟩)) :
 (execOp F.eval o).run Tryz.prog w = .ok (.value (.pointer (some ⟨b, off, none⟩))) w := by
 have e : F.eval (.tmp t) = .pointer (some ⟨b, off, none⟩) := ht
 have e0 : (execOp F.eval o).run Tryz.prog w = ((Instr.fieldAt 44 (.pointer (some ⟨b, off, none⟩)) 0).run Tryz.prog w).andThen fun v w' => .ok (.value v) w' := by
  simp only [execOp, ho, e, Sem.run_bind, Sem.run_pure]
 rw [e0]
 go_simp
theorem ev_c1 {F : Act} {w : World} {b off : Nat} {t : Tmp} {o : Oper} (ho : o.op = .fieldAddr 44 (.tmp t) 1) (ht : Reg.slot F t = .pointer (some ⟨b, off, none⟩)) :
 (execOp F.eval o).run Tryz.prog w = .ok (.value (.pointer (some ⟨b, off + 1, none⟩))) w := by
 have e : F.eval (.tmp t) = .pointer (some ⟨b, off, none⟩) := ht
 have e0 : (execOp F.eval o).run Tryz.prog w = ((Instr.fieldAt 44 (.pointer (some ⟨b, off, none⟩)) 1).run Tryz.prog w).andThen fun v w' => .ok (.value v) w' := by
  simp only [execOp, ho, e, Sem.run_bind, Sem.run_pure]
 rw [e0]
 go_simp
theorem ev_ldR {F : Act} {w : World} {b off : Nat} {A : Option Addr} {n c : Nat} {t : Tmp} {o : Oper} (h0 : w.cell? ⟨b, off, none⟩ = some (.slice A n c)) (ho : o.op = .load 42 (.tmp t)) (ht : Reg.slot F t = .pointer (some ⟨b, off, none⟩)) :
 (execOp F.eval o).run Tryz.prog w = .ok (.value (.slice A n c)) w := by
 have e : F.eval (.tmp t) = .pointer (some ⟨b, off, none⟩) := ht
 have e0 : (execOp F.eval o).run Tryz.prog w = ((Instr.loadAt 42 (.pointer (some ⟨b, off, none⟩))).run Tryz.prog w).andThen fun v w' => .ok (.value v) w' := by
  simp only [execOp, ho, e, Sem.run_bind, Sem.run_pure]
 rw [e0]
 go_simp
theorem ev_ldI {F : Act} {w : World} {b off : Nat} {k : Int} {t : Tmp} {o : Oper} (h0 : w.cell? ⟨b, off, none⟩ = some (.int .i64 k)) (ho : o.op = .load 3 (.tmp t)) (ht : Reg.slot F t = .pointer (some ⟨b, off, none⟩)) :
 (execOp F.eval o).run Tryz.prog w = .ok (.value (.int .i64 k)) w := by
 have e : F.eval (.tmp t) = .pointer (some ⟨b, off, none⟩) := ht
 have e0 : (execOp F.eval o).run Tryz.prog w = ((Instr.loadAt 3 (.pointer (some ⟨b, off, none⟩))).run Tryz.prog w).andThen fun v w' => .ok (.value v) w' := by
  simp only [execOp, ho, e, Sem.run_bind, Sem.run_pure]
 rw [e0]
 go_simp
theorem ev_eqC5 {F : Act} {w : World} {t : Tmp} {o : Oper} (a b : Int) (ho : o.op = .binOp .eql 3 (.tmp t) (.const (.int .i64 b)) 3) (ht : Reg.slot F t = .int .i64 a) :
 (execOp F.eval o).run Tryz.prog w = .ok (.value (.bool (a == b))) w := by
 have e1 : F.eval (.tmp t) = .int .i64 a := ht
 have e2 : F.eval (.const (.int .i64 b)) = .int .i64 b := rfl
 have e0 : (execOp F.eval o).run Tryz.prog w = ((do eqGuard .eql 3 (.tmp t) (.const (.int .i64 b)) (.int .i64 a) (.int .i64 b); binOp .eql 3 (.int .i64 a) (.int .i64 b)).run Tryz.prog w).andThen fun v w' => .ok (.value v) w' := by
  simp only [execOp, ho, e1, e2, Sem.run_bind, Sem.run_pure]
 rw [e0]
 go_simp
theorem ev_gtC5 {F : Act} {w : World} {t : Tmp} {o : Oper} (a b : Int) (ho : o.op = .binOp .gtr 3 (.tmp t) (.const (.int .i64 b)) 3) (ht : Reg.slot F t = .int .i64 a) :
 (execOp F.eval o).run Tryz.prog w = .ok (.value (.bool (decide (b < a)))) w := by
 have e1 : F.eval (.tmp t) = .int .i64 a := ht
 have e2 : F.eval (.const (.int .i64 b)) = .int .i64 b := rfl
 have e0 : (execOp F.eval o).run Tryz.prog w = ((do eqGuard .gtr 3 (.tmp t) (.const (.int .i64 b)) (.int .i64 a) (.int .i64 b); binOp .gtr 3 (.int .i64 a) (.int .i64 b)).run Tryz.prog w).andThen fun v w' => .ok (.value v) w' := by
  simp only [execOp, ho, e1, e2, Sem.run_bind, Sem.run_pure]
 rw [e0]
 go_simp
theorem ev_geC5 {F : Act} {w : World} {t : Tmp} {o : Oper} (a b : Int) (ho : o.op = .binOp .geq 3 (.tmp t) (.const (.int .i64 b)) 3) (ht : Reg.slot F t = .int .i64 a) :
 (execOp F.eval o).run Tryz.prog w = .ok (.value (.bool (decide (b ≤ a)))) w := by
 have e1 : F.eval (.tmp t) = .int .i64 a := ht
 have e2 : F.eval (.const (.int .i64 b)) = .int .i64 b := rfl
 have e0 : (execOp F.eval o).run Tryz.prog w = ((do eqGuard .geq 3 (.tmp t) (.const (.int .i64 b)) (.int .i64 a) (.int .i64 b); binOp .geq 3 (.int .i64 a) (.int .i64 b)).run Tryz.prog w).andThen fun v w' => .ok (.value v) w' := by
  simp only [execOp, ho, e1, e2, Sem.run_bind, Sem.run_pure]
 rw [e0]
 go_simp
theorem ev_neT5 {F : Act} {w : World} {t u : Tmp} {o : Oper} (a b : Int) (ho : o.op = .binOp .neq 3 (.tmp t) (.tmp u) 3) (ht : Reg.slot F t = .int .i64 a) (hu : Reg.slot F u = .int .i64 b) :
 (execOp F.eval o).run Tryz.prog w = .ok (.value (.bool (a != b))) w := by
 have e1 : F.eval (.tmp t) = .int .i64 a := ht
 have e2 : F.eval (.tmp u) = .int .i64 b := hu
 have e0 : (execOp F.eval o).run Tryz.prog w = ((do eqGuard .neq 3 (.tmp t) (.tmp u) (.int .i64 a) (.int .i64 b); binOp .neq 3 (.int .i64 a) (.int .i64 b)).run Tryz.prog w).andThen fun v w' => .ok (.value v) w' := by
  simp only [execOp, ho, e1, e2, Sem.run_bind, Sem.run_pure]
 rw [e0]
 go_simp
theorem ev_subC5 {F : Act} {w : World} {t : Tmp} {o : Oper} (a b : Int) (hab : -9223372036854775808 ≤ a - b ∧ a - b ≤ 9223372036854775807) (ho : o.op = .binOp .sub 3 (.tmp t) (.const (.int .i64 b)) 3) (ht : Reg.slot F t = .int .i64 a) :
 (execOp F.eval o).run Tryz.prog w = .ok (.value (.int .i64 (a - b))) w := by
 have e1 : F.eval (.tmp t) = .int .i64 a := ht
 have e2 : F.eval (.const (.int .i64 b)) = .int .i64 b := rfl
 have hw : IntKind.i64.wrap (a - b) = a - b := by rw [IntKind.wrap_i64]; omega
 have e0 : (execOp F.eval o).run Tryz.prog w = ((do eqGuard .sub 3 (.tmp t) (.const (.int .i64 b)) (.int .i64 a) (.int .i64 b); binOp .sub 3 (.int .i64 a) (.int .i64 b)).run Tryz.prog w).andThen fun v w' => .ok (.value v) w' := by
  simp only [execOp, ho, e1, e2, Sem.run_bind, Sem.run_pure]
 rw [e0]
 go_simp
theorem ev_dec5 {F : Act} {w : World} {t : Tmp} {o : Oper} (k j : Nat) (hkj : k = j + 1) (hk : k ≤ 9223372036854775807) (ho : o.op = .binOp .sub 3 (.tmp t) (.const (.int .i64 1)) 3) (ht : Reg.slot F t = .int .i64 k) :
 (execOp F.eval o).run Tryz.prog w = .ok (.value (.int .i64 j)) w := by
 have h := ev_subC5 (w := w) (k : Int) 1 (by omega) ho ht
 rw [show (k : Int) - 1 = j by omega] at h
 exact h
theorem enRFits : ∀ args w, (callFunc 24 args).run Tryz.prog w = .ok (.enter 24 args) w := fun _ _ => by kernel_rfl
theorem enR4May : ∀ args w, (callFunc 44 args).run Tryz.prog w = .ok (.enter 44 args) w := fun _ _ => by kernel_rfl
structure Ct where
 h : Hd
 N : Int
def rdC (c : Ct) : List Value := [.slice c.h.A c.h.n c.h.c, .int .i64 c.N]
theorem cOk : ElOk Tryz.prog 30 44 2 32 (.agg #[.slice none 0 0, .int .i64 0]) rdC where
 under := Tryz.underlying30
 info := by kernel_rfl
 zs := rfl
 pos := by decide
 len := fun _ => rfl
 one := fun x u hu => by
  simp [rdC] at hu
  rcases hu with rfl | rfl <;> rfl
def pl (cs : List Ct) : Bg := cs.map fun c => (c.h.xs, c.N)
structure Ct.In (w : World) (c : Ct) : Prop where
 hd : Hd.In w c.h
 sz : ∀ x ∈ c.h.xs, x.s.size ≤ maxLen
 n64 : ∀ x ∈ c.h.xs, -9223372036854775808 ≤ x.n ∧ x.n ≤ 9223372036854775807
 N64 : -9223372036854775808 ≤ c.N ∧ c.N ≤ 9223372036854775807
 room : c.h.n ≤ c.h.c
theorem Ct.In.after {w w' : World} {c : Ct} (h : Ct.In w c) (hb : Below w.heap.size w w') : Ct.In w' c := ⟨h.hd.after hb, h.sz, h.n64, h.N64, h.room⟩
structure BgIn (w : World) (A : Option Addr) (n : Nat) (cs : List Ct) : Prop where
 len : cs.length = n
 max : n ≤ maxLen
 sl : SlG w A 2 rdC cs
 each : ∀ c ∈ cs, Ct.In w c
theorem BgIn.after {w w' : World} {A : Option Addr} {n : Nat} {cs : List Ct} (h : BgIn w A n cs) (hb : Below w.heap.size w w') : BgIn w' A n cs := ⟨h.len, h.max, h.sl.after hb, fun c hc => (h.each c hc).after hb⟩
theorem SlG.at2 {w : World} {A : Option Addr} {xs : List Ct} (h : SlG w A 2 rdC xs) {k : Nat} (hk : k < xs.length) :
 ∃ b off x, A = some ⟨b, off, none⟩ ∧ b < w.heap.size ∧ xs[k]? = some x ∧ w.cell? ⟨b, off + k * 2, none⟩ = some (.slice x.h.A x.h.n x.h.c) ∧ w.cell? ⟨b, off + k * 2 + 1, none⟩ = some (.int .i64 x.N) := by
 rcases h with rfl | ⟨b, off, hA, hlt, h⟩
 · simp at hk
 · refine ⟨b, off, xs[k], hA, hlt, List.getElem?_eq_getElem hk, ?_, ?_⟩
   · exact h k xs[k] (List.getElem?_eq_getElem hk) 0 _ rfl
   · exact h k xs[k] (List.getElem?_eq_getElem hk) 1 _ rfl
theorem SlG.some2 {w : World} {A : Option Addr} {xs : List Ct} (h : SlG w A 2 rdC xs) {k : Nat} (hk : k < xs.length) : ∃ b off, A = some ⟨b, off, none⟩ := by
 obtain ⟨b, off, _, hA, _⟩ := h.at2 hk
 exact ⟨b, off, hA⟩
theorem SlG.cell2 {w : World} {b off : Nat} {xs : List Ct} (h : SlG w (some ⟨b, off, none⟩) 2 rdC xs) {k : Nat} {x : Ct} (hx : xs[k]? = some x) :
 b < w.heap.size ∧ w.cell? ⟨b, off + k * 2, none⟩ = some (.slice x.h.A x.h.n x.h.c) ∧ w.cell? ⟨b, off + k * 2 + 1, none⟩ = some (.int .i64 x.N) := by
 obtain ⟨b', off', y, hA, h1, h2, h3, h4⟩ := h.at2 (List.getElem?_eq_some_iff.1 hx).1
 rw [hx] at h2
 cases h2
 cases hA
 exact ⟨h1, h3, h4⟩
theorem pl_at {cs : List Ct} {k : Nat} {c : Ct} (h : cs[k]? = some c) : (pl cs)[k]? = some (c.h.xs, c.N) := by
 unfold pl
 rw [List.getElem?_map, h]
 rfl
theorem pl_len (cs : List Ct) : (pl cs).length = cs.length := by simp [pl]
def mayFrom : Option (List Val) → Bg → Bool
 | _, [] => true
 | none, x :: b => okC x && mayFrom (some x.1) b
 | some q, x :: b => okC x && (decide (cmpL q x.1 < 0) && mayFrom (some x.1) b)
theorem mayFrom_nil (q : Option (List Val)) : mayFrom q [] = true := by cases q <;> rfl
theorem mayFrom_some : ∀ (b : Bg) (q : List Val × Int), mayFrom (some q.1) b = (b.all okC && risesB (q :: b))
 | [], q => rfl
 | x :: b, q => by
   rw [mayFrom, mayFrom_some b x, List.all_cons, risesB]
   cases okC x <;> cases decide (cmpL q.1 x.1 < 0) <;> cases b.all okC <;> rfl
theorem mayFrom_none : ∀ b : Bg, mayFrom none b = mayBag b
 | [] => rfl
 | x :: b => by
   unfold mayBag
   rw [mayFrom, mayFrom_some b x, List.all_cons, Bool.and_assoc]
def prevOf (b : Bg) : Nat → Option (List Val)
 | 0 => none
 | k + 1 => (b[k]?).map (·.1)
theorem prev_succ {b : Bg} {k : Nat} {x : List Val × Int} (h : b[k]? = some x) : prevOf b (k + 1) = some x.1 := by rw [prevOf, h]; rfl
theorem mayFrom_drop (b : Bg) (k : Nat) (x : List Val × Int) (h : b[k]? = some x) :
 mayFrom (prevOf b k) (b.drop k) = (okC x && ((match prevOf b k with | none => true | some q => decide (cmpL q x.1 < 0)) && mayFrom (prevOf b (k + 1)) (b.drop (k + 1)))) := by
 have h1 := List.drop_eq_getElem_cons (List.getElem?_eq_some_iff.1 h).1
 rw [(List.getElem?_eq_some_iff.1 h).2] at h1
 rw [h1, prev_succ h]
 cases prevOf b k with
 | none => rw [mayFrom, Bool.true_and]
 | some q => rw [mayFrom]
theorem rmay_mayR (xs : List Val) : rmayR xs = mayR xs := by
 unfold rmayR mayR
 rw [show mayB = rmB from funext may_rm]
theorem fits5_c (n : Int) (w : World) : Calls Tryz.prog 24 #[.int .i64 n] w fun e w' => e = .returned (.bool (decide (-1000000000 ≤ n) && decide (n ≤ 1000000000))) ∧ Below w.heap.size w w' := by
 cases h1 : decide (-1000000000 ≤ n)
 · go_enter Tryz.func24, Tryz.ntmps24
   go_wp2
   go_ret
   exact ⟨rfl, Below.refl _ _⟩
 · go_enter Tryz.func24, Tryz.ntmps24
   go_wp2
   go_ret
   exact ⟨rfl, Below.refl _ _⟩
theorem okC_and (xs : List Val) (N : Int) : okC (xs, N) = (!(N == 0) && ((decide (-1000000000 ≤ N) && decide (N ≤ 1000000000)) && mayR xs)) := by
 unfold okC
 simp only [Bool.and_assoc]
set_option maxHeartbeats 4000000 in
theorem rmayBag_c (A : Option Addr) (n c : Nat) (cs : List Ct) (w : World) (hB : BgIn w A n cs) :
 Calls Tryz.prog 21 #[.slice A n c] w fun e w' => e = .returned (.bool (mayBag (pl cs))) ∧ Below w.heap.size w w' := by
 obtain ⟨R, hR⟩ : ∃ R, mayBag (pl cs) = R := ⟨_, rfl⟩
 rw [hR]
 rw [← mayFrom_none] at hR
 have HR := Lib.hid hR
 have HB := Lib.hid hB
 have hmx : n ≤ 9223372036854775807 := hB.max
 clear hB hR
 go_enter Tryz.func21, Tryz.ntmps21
 go_wp2_with fail
 go_loopw [3] (fun i wr => ∃ k : Nat, k ≤ n ∧ i = .int .i64 k ∧ Hid (Below w.heap.size w wr) ∧ Hid (mayFrom (prevOf (pl cs) k) ((pl cs).drop k) = R)) (fun i _ => n - (intOf i).toNat)
 case atStart => exact ⟨0, Nat.zero_le _, rfl, Lib.hid (Below.refl _ _), HR⟩
 case round =>
  obtain ⟨k, hk, rfl, hb, hinv⟩ := hrel
  clear HR
  by_cases hlt : k < n
  · obtain ⟨b, off, rfl⟩ := HB.out.sl.some2 (k := k) (by rw [HB.out.len]; exact hlt)
    obtain ⟨x, hx⟩ : ∃ x, cs[k]? = some x := ⟨_, List.getElem?_eq_getElem (by rw [HB.out.len]; exact hlt)⟩
    obtain ⟨hblt, c0, c1⟩ := HB.out.sl.cell2 hx
    have d0 := Lib.hid ((hb.out.cell (p := ⟨b, off + k * 2, none⟩) hblt).trans c0)
    have d1 := Lib.hid ((hb.out.cell (p := ⟨b, off + k * 2 + 1, none⟩) hblt).trans c1)
    have l0 : b < wr.heap.size := Nat.lt_of_lt_of_le hblt hb.out.size
    have Hx := Lib.hid ((HB.out.each x (List.mem_of_getElem? hx)).after hb.out)
    have Hst := Lib.hid ((mayFrom_drop (pl cs) k _ (pl_at hx)).symm.trans hinv.out)
    clear hinv c0 c1 hx
    obtain ⟨⟨xA, xn, xc, xs⟩, N⟩ := x
    have hprev : Hid (∀ j, k = j + 1 → ∃ y : Ct, prevOf (pl cs) k = some y.h.xs ∧ Ct.In wr y ∧ wr.cell? ⟨b, off + j * 2, none⟩ = some (.slice y.h.A y.h.n y.h.c)) := Lib.hid (by
     rintro j rfl
     obtain ⟨y, hy⟩ : ∃ y, cs[j]? = some y := ⟨_, List.getElem?_eq_getElem (by rw [HB.out.len]; omega)⟩
     obtain ⟨hblt, c0, c1⟩ := HB.out.sl.cell2 hy
     exact ⟨y, prev_succ (pl_at hy), (HB.out.each y (List.mem_of_getElem? hy)).after hb.out, (hb.out.cell (p := ⟨b, off + j * 2, none⟩) hblt).trans c0⟩)
    have hgo : (k : Int) < n := by omega
    go_wp2_with fail
    cases hN0 : N == 0
    · cases hF1 : (decide (-1000000000 ≤ N) && decide (N ≤ 1000000000))
      · have Hst2 : Hid (false = R) := by
         have := Hst.out
         rw [okC_and] at this
         simp only [hN0, hF1, Bool.not_false, Bool.true_and, Bool.false_and] at this
         exact Lib.hid this
        clear Hst
        refine Reg.wp_region_vals mixed (by kernel_rfl) [(10, .slice (some ⟨b, off, none⟩) n c), (11, .int .i64 (k : Nat)), (12, .pointer (some ⟨b, off + k * 2, none⟩)), (13, .pointer (some ⟨b, off + k * 2 + 1, none⟩)), (14, .int .i64 N), (15, .bool false), (16, .bool false), (17, .slice (some ⟨b, off, none⟩) n c), (18, .int .i64 (k : Nat)), (19, .pointer (some ⟨b, off + k * 2, none⟩)), (20, .pointer (some ⟨b, off + k * 2 + 1, none⟩)), (21, .int .i64 N), (22, .bool false), (23, .bool true), (24, .bool true), (25, .bool true), (26, undef), (27, undef), (28, undef), (29, undef), (30, undef), (31, undef), (32, undef), (33, .bool true), (34, .bool true), (35, undef), (36, undef), (37, undef), (38, undef), (39, undef), (40, undef), (41, undef), (42, undef), (43, undef), (44, undef), (45, undef), (46, undef), (47, undef), (48, undef), (49, undef), (50, undef), (51, undef), (52, .bool true)] 53 rfl (by kernel_rfl) ?_ ?_
        · intro F hF w' hB
          have j0 := (hB.cell (p := ⟨b, off + k * 2, none⟩) l0).trans d0.out
          have j1 := (hB.cell (p := ⟨b, off + k * 2 + 1, none⟩) l0).trans d1.out
          have ix := Hx.out.after hB
          refine ⟨?_, ?_, ?_, ?_, ?_, ?_, ?_, ?_, ?_, ?_, ?_, ?_, ?_, ?_, ?_, ?_, ?_, ?_, ?_, ?_, ?_, ?_, ?_, ?_, ?_, ?_, ?_, ?_, ?_, ?_, ?_, ?_, ?_, ?_, ?_, ?_, ?_, ?_, ?_, ?_, ?_, ?_, ?_, trivial⟩
          · exact Reg.doesV_val (ev_move rfl) (by rw [hF]; kernel_rfl) (by rw [hF]; kernel_rfl)
          · exact Reg.doesV_val (ev_move rfl) (by rw [hF]; kernel_rfl) (by rw [hF]; kernel_rfl)
          · exact Reg.doesV_val (ev_idxC (b := b) (off := off) (n := n) (c := c) (k := k) hlt rfl (by rw [hF]; kernel_rfl) (by rw [hF]; kernel_rfl)) (by rw [hF]; kernel_rfl) (by rw [hF]; kernel_rfl)
          · exact Reg.doesV_val (ev_c1 (b := b) (off := off + k * 2) rfl (by rw [hF]; kernel_rfl)) (by rw [hF]; kernel_rfl) (by rw [hF]; kernel_rfl)
          · exact Reg.doesV_val (ev_ldI (k := N) j1 rfl (by rw [hF]; kernel_rfl)) (by rw [hF]; kernel_rfl) (by rw [hF]; kernel_rfl)
          · exact Reg.doesV_val (by rw [ev_eqC5 N 0 rfl (by rw [hF]; kernel_rfl), hN0]) (by rw [hF]; kernel_rfl) (by rw [hF]; kernel_rfl)
          · exact Reg.doesV_val (ev_move rfl) (by rw [hF]; kernel_rfl) (by rw [hF]; kernel_rfl)
          · exact Reg.doesV_val (ev_move rfl) (by rw [hF]; kernel_rfl) (by rw [hF]; kernel_rfl)
          · exact Reg.doesV_val (ev_move rfl) (by rw [hF]; kernel_rfl) (by rw [hF]; kernel_rfl)
          · exact Reg.doesV_val (ev_idxC (b := b) (off := off) (n := n) (c := c) (k := k) hlt rfl (by rw [hF]; kernel_rfl) (by rw [hF]; kernel_rfl)) (by rw [hF]; kernel_rfl) (by rw [hF]; kernel_rfl)
          · exact Reg.doesV_val (ev_c1 (b := b) (off := off + k * 2) rfl (by rw [hF]; kernel_rfl)) (by rw [hF]; kernel_rfl) (by rw [hF]; kernel_rfl)
          · exact Reg.doesV_val (ev_ldI (k := N) j1 rfl (by rw [hF]; kernel_rfl)) (by rw [hF]; kernel_rfl) (by rw [hF]; kernel_rfl)
          · exact Reg.doesV_call (by have h := fits5_c N w'; rw [hF1] at h; exact h) (ev_call enRFits rfl (by rw [hF]; kernel_rfl)) (by rw [hF]; kernel_rfl) (by rw [hF]; kernel_rfl)
          · exact Reg.doesV_val (ev_not false rfl (by rw [hF]; kernel_rfl)) (by rw [hF]; kernel_rfl) (by rw [hF]; kernel_rfl)
          · exact Reg.doesV_val (ev_pick false rfl (by rw [hF]; kernel_rfl)) (by rw [hF]; kernel_rfl) (by rw [hF]; kernel_rfl)
          · exact Reg.doesV_val (ev_move rfl) (by rw [hF]; kernel_rfl) (by rw [hF]; kernel_rfl)
          · exact Reg.doesV_skip (by rw [hF]; kernel_rfl) (by rw [hF]; kernel_rfl)
          · exact Reg.doesV_skip (by rw [hF]; kernel_rfl) (by rw [hF]; kernel_rfl)
          · exact Reg.doesV_skip (by rw [hF]; kernel_rfl) (by rw [hF]; kernel_rfl)
          · exact Reg.doesV_skip (by rw [hF]; kernel_rfl) (by rw [hF]; kernel_rfl)
          · exact Reg.doesV_skip (by rw [hF]; kernel_rfl) (by rw [hF]; kernel_rfl)
          · exact Reg.doesV_skip (by rw [hF]; kernel_rfl) (by rw [hF]; kernel_rfl)
          · exact Reg.doesV_skip (by rw [hF]; kernel_rfl) (by rw [hF]; kernel_rfl)
          · exact Reg.doesV_val (ev_pick true rfl (by rw [hF]; kernel_rfl)) (by rw [hF]; kernel_rfl) (by rw [hF]; kernel_rfl)
          · exact Reg.doesV_val (ev_move rfl) (by rw [hF]; kernel_rfl) (by rw [hF]; kernel_rfl)
          · exact Reg.doesV_skip (by rw [hF]; kernel_rfl) (by rw [hF]; kernel_rfl)
          · exact Reg.doesV_skip (by rw [hF]; kernel_rfl) (by rw [hF]; kernel_rfl)
          · exact Reg.doesV_skip (by rw [hF]; kernel_rfl) (by rw [hF]; kernel_rfl)
          · exact Reg.doesV_skip (by rw [hF]; kernel_rfl) (by rw [hF]; kernel_rfl)
          · exact Reg.doesV_skip (by rw [hF]; kernel_rfl) (by rw [hF]; kernel_rfl)
          · exact Reg.doesV_skip (by rw [hF]; kernel_rfl) (by rw [hF]; kernel_rfl)
          · exact Reg.doesV_skip (by rw [hF]; kernel_rfl) (by rw [hF]; kernel_rfl)
          · exact Reg.doesV_skip (by rw [hF]; kernel_rfl) (by rw [hF]; kernel_rfl)
          · exact Reg.doesV_skip (by rw [hF]; kernel_rfl) (by rw [hF]; kernel_rfl)
          · exact Reg.doesV_skip (by rw [hF]; kernel_rfl) (by rw [hF]; kernel_rfl)
          · exact Reg.doesV_skip (by rw [hF]; kernel_rfl) (by rw [hF]; kernel_rfl)
          · exact Reg.doesV_skip (by rw [hF]; kernel_rfl) (by rw [hF]; kernel_rfl)
          · exact Reg.doesV_skip (by rw [hF]; kernel_rfl) (by rw [hF]; kernel_rfl)
          · exact Reg.doesV_skip (by rw [hF]; kernel_rfl) (by rw [hF]; kernel_rfl)
          · exact Reg.doesV_skip (by rw [hF]; kernel_rfl) (by rw [hF]; kernel_rfl)
          · exact Reg.doesV_skip (by rw [hF]; kernel_rfl) (by rw [hF]; kernel_rfl)
          · exact Reg.doesV_skip (by rw [hF]; kernel_rfl) (by rw [hF]; kernel_rfl)
          · exact Reg.doesV_val (ev_pick true rfl (by rw [hF]; kernel_rfl)) (by rw [hF]; kernel_rfl) (by rw [hF]; kernel_rfl)
        · intro w8 hB
          simp only [Reg.putAll, Act.put, List.setIfInBounds_toArray, List.set_cons_zero, List.set_cons_succ]
          have Hb2 := Lib.hid (hb.out.trans (hB.mono hb.out.size))
          clear hB
          go_wp2
          go_ret
          exact ⟨congrArg (fun z => Ending.returned (Value.bool z)) Hst2.out, Hb2.out⟩
      · cases hM : mayR xs
        · have Hst2 : Hid (false = R) := by
           have := Hst.out
           rw [okC_and] at this
           simp only [hN0, hF1, hM, Bool.not_false, Bool.true_and, Bool.false_and] at this
           exact Lib.hid this
          clear Hst
          refine Reg.wp_region_vals mixed (by kernel_rfl) [(10, .slice (some ⟨b, off, none⟩) n c), (11, .int .i64 (k : Nat)), (12, .pointer (some ⟨b, off + k * 2, none⟩)), (13, .pointer (some ⟨b, off + k * 2 + 1, none⟩)), (14, .int .i64 N), (15, .bool false), (16, .bool false), (17, .slice (some ⟨b, off, none⟩) n c), (18, .int .i64 (k : Nat)), (19, .pointer (some ⟨b, off + k * 2, none⟩)), (20, .pointer (some ⟨b, off + k * 2 + 1, none⟩)), (21, .int .i64 N), (22, .bool true), (23, .bool false), (24, .bool false), (25, .bool false), (26, .slice (some ⟨b, off, none⟩) n c), (27, .int .i64 (k : Nat)), (28, .pointer (some ⟨b, off + k * 2, none⟩)), (29, .pointer (some ⟨b, off + k * 2, none⟩)), (30, .slice xA xn xc), (31, .bool false), (32, .bool true), (33, .bool true), (34, .bool true), (35, undef), (36, undef), (37, undef), (38, undef), (39, undef), (40, undef), (41, undef), (42, undef), (43, undef), (44, undef), (45, undef), (46, undef), (47, undef), (48, undef), (49, undef), (50, undef), (51, undef), (52, .bool true)] 53 rfl (by kernel_rfl) ?_ ?_
          · intro F hF w' hB
            have j0 := (hB.cell (p := ⟨b, off + k * 2, none⟩) l0).trans d0.out
            have j1 := (hB.cell (p := ⟨b, off + k * 2 + 1, none⟩) l0).trans d1.out
            have ix := Hx.out.after hB
            refine ⟨?_, ?_, ?_, ?_, ?_, ?_, ?_, ?_, ?_, ?_, ?_, ?_, ?_, ?_, ?_, ?_, ?_, ?_, ?_, ?_, ?_, ?_, ?_, ?_, ?_, ?_, ?_, ?_, ?_, ?_, ?_, ?_, ?_, ?_, ?_, ?_, ?_, ?_, ?_, ?_, ?_, ?_, ?_, trivial⟩
            · exact Reg.doesV_val (ev_move rfl) (by rw [hF]; kernel_rfl) (by rw [hF]; kernel_rfl)
            · exact Reg.doesV_val (ev_move rfl) (by rw [hF]; kernel_rfl) (by rw [hF]; kernel_rfl)
            · exact Reg.doesV_val (ev_idxC (b := b) (off := off) (n := n) (c := c) (k := k) hlt rfl (by rw [hF]; kernel_rfl) (by rw [hF]; kernel_rfl)) (by rw [hF]; kernel_rfl) (by rw [hF]; kernel_rfl)
            · exact Reg.doesV_val (ev_c1 (b := b) (off := off + k * 2) rfl (by rw [hF]; kernel_rfl)) (by rw [hF]; kernel_rfl) (by rw [hF]; kernel_rfl)
            · exact Reg.doesV_val (ev_ldI (k := N) j1 rfl (by rw [hF]; kernel_rfl)) (by rw [hF]; kernel_rfl) (by rw [hF]; kernel_rfl)
            · exact Reg.doesV_val (by rw [ev_eqC5 N 0 rfl (by rw [hF]; kernel_rfl), hN0]) (by rw [hF]; kernel_rfl) (by rw [hF]; kernel_rfl)
            · exact Reg.doesV_val (ev_move rfl) (by rw [hF]; kernel_rfl) (by rw [hF]; kernel_rfl)
            · exact Reg.doesV_val (ev_move rfl) (by rw [hF]; kernel_rfl) (by rw [hF]; kernel_rfl)
            · exact Reg.doesV_val (ev_move rfl) (by rw [hF]; kernel_rfl) (by rw [hF]; kernel_rfl)
            · exact Reg.doesV_val (ev_idxC (b := b) (off := off) (n := n) (c := c) (k := k) hlt rfl (by rw [hF]; kernel_rfl) (by rw [hF]; kernel_rfl)) (by rw [hF]; kernel_rfl) (by rw [hF]; kernel_rfl)
            · exact Reg.doesV_val (ev_c1 (b := b) (off := off + k * 2) rfl (by rw [hF]; kernel_rfl)) (by rw [hF]; kernel_rfl) (by rw [hF]; kernel_rfl)
            · exact Reg.doesV_val (ev_ldI (k := N) j1 rfl (by rw [hF]; kernel_rfl)) (by rw [hF]; kernel_rfl) (by rw [hF]; kernel_rfl)
            · exact Reg.doesV_call (by have h := fits5_c N w'; rw [hF1] at h; exact h) (ev_call enRFits rfl (by rw [hF]; kernel_rfl)) (by rw [hF]; kernel_rfl) (by rw [hF]; kernel_rfl)
            · exact Reg.doesV_val (ev_not true rfl (by rw [hF]; kernel_rfl)) (by rw [hF]; kernel_rfl) (by rw [hF]; kernel_rfl)
            · exact Reg.doesV_val (ev_pick false rfl (by rw [hF]; kernel_rfl)) (by rw [hF]; kernel_rfl) (by rw [hF]; kernel_rfl)
            · exact Reg.doesV_val (ev_move rfl) (by rw [hF]; kernel_rfl) (by rw [hF]; kernel_rfl)
            · exact Reg.doesV_val (ev_move rfl) (by rw [hF]; kernel_rfl) (by rw [hF]; kernel_rfl)
            · exact Reg.doesV_val (ev_move rfl) (by rw [hF]; kernel_rfl) (by rw [hF]; kernel_rfl)
            · exact Reg.doesV_val (ev_idxC (b := b) (off := off) (n := n) (c := c) (k := k) hlt rfl (by rw [hF]; kernel_rfl) (by rw [hF]; kernel_rfl)) (by rw [hF]; kernel_rfl) (by rw [hF]; kernel_rfl)
            · exact Reg.doesV_val (ev_c0 (b := b) (off := off + k * 2) rfl (by rw [hF]; kernel_rfl)) (by rw [hF]; kernel_rfl) (by rw [hF]; kernel_rfl)
            · exact Reg.doesV_val (ev_ldR (A := xA) (n := xn) (c := xc) j0 rfl (by rw [hF]; kernel_rfl)) (by rw [hF]; kernel_rfl) (by rw [hF]; kernel_rfl)
            · exact Reg.doesV_call (by have h := rmayRow_c xA xn xc xs w' ix.hd.len ix.hd.max ix.hd.sl ix.sz; rw [rmay_mayR, hM] at h; exact h) (ev_call enR4May rfl (by rw [hF]; kernel_rfl)) (by rw [hF]; kernel_rfl) (by rw [hF]; kernel_rfl)
            · exact Reg.doesV_val (ev_not false rfl (by rw [hF]; kernel_rfl)) (by rw [hF]; kernel_rfl) (by rw [hF]; kernel_rfl)
            · exact Reg.doesV_val (ev_pick false rfl (by rw [hF]; kernel_rfl)) (by rw [hF]; kernel_rfl) (by rw [hF]; kernel_rfl)
            · exact Reg.doesV_val (ev_move rfl) (by rw [hF]; kernel_rfl) (by rw [hF]; kernel_rfl)
            · exact Reg.doesV_skip (by rw [hF]; kernel_rfl) (by rw [hF]; kernel_rfl)
            · exact Reg.doesV_skip (by rw [hF]; kernel_rfl) (by rw [hF]; kernel_rfl)
            · exact Reg.doesV_skip (by rw [hF]; kernel_rfl) (by rw [hF]; kernel_rfl)
            · exact Reg.doesV_skip (by rw [hF]; kernel_rfl) (by rw [hF]; kernel_rfl)
            · exact Reg.doesV_skip (by rw [hF]; kernel_rfl) (by rw [hF]; kernel_rfl)
            · exact Reg.doesV_skip (by rw [hF]; kernel_rfl) (by rw [hF]; kernel_rfl)
            · exact Reg.doesV_skip (by rw [hF]; kernel_rfl) (by rw [hF]; kernel_rfl)
            · exact Reg.doesV_skip (by rw [hF]; kernel_rfl) (by rw [hF]; kernel_rfl)
            · exact Reg.doesV_skip (by rw [hF]; kernel_rfl) (by rw [hF]; kernel_rfl)
            · exact Reg.doesV_skip (by rw [hF]; kernel_rfl) (by rw [hF]; kernel_rfl)
            · exact Reg.doesV_skip (by rw [hF]; kernel_rfl) (by rw [hF]; kernel_rfl)
            · exact Reg.doesV_skip (by rw [hF]; kernel_rfl) (by rw [hF]; kernel_rfl)
            · exact Reg.doesV_skip (by rw [hF]; kernel_rfl) (by rw [hF]; kernel_rfl)
            · exact Reg.doesV_skip (by rw [hF]; kernel_rfl) (by rw [hF]; kernel_rfl)
            · exact Reg.doesV_skip (by rw [hF]; kernel_rfl) (by rw [hF]; kernel_rfl)
            · exact Reg.doesV_skip (by rw [hF]; kernel_rfl) (by rw [hF]; kernel_rfl)
            · exact Reg.doesV_skip (by rw [hF]; kernel_rfl) (by rw [hF]; kernel_rfl)
            · exact Reg.doesV_val (ev_pick true rfl (by rw [hF]; kernel_rfl)) (by rw [hF]; kernel_rfl) (by rw [hF]; kernel_rfl)
          · intro w8 hB
            simp only [Reg.putAll, Act.put, List.setIfInBounds_toArray, List.set_cons_zero, List.set_cons_succ]
            have Hb2 := Lib.hid (hb.out.trans (hB.mono hb.out.size))
            clear hB
            go_wp2
            go_ret
            exact ⟨congrArg (fun z => Ending.returned (Value.bool z)) Hst2.out, Hb2.out⟩
        · cases hk0 : decide (0 < (k : Int))
          · have hk1 : k = 0 := by have := of_decide_eq_false hk0; omega
            have hp0 : prevOf (pl cs) k = none := by rw [hk1]; rfl
            have Hst2 : Hid (mayFrom (prevOf (pl cs) (k + 1)) ((pl cs).drop (k + 1)) = R) := by
             have := Hst.out
             rw [okC_and] at this
             simp only [hN0, hF1, hM, hp0, Bool.not_false, Bool.true_and] at this
             exact Lib.hid this
            clear Hst
            clear hp0 hk1
            refine Reg.wp_region_vals mixed (by kernel_rfl) [(10, .slice (some ⟨b, off, none⟩) n c), (11, .int .i64 (k : Nat)), (12, .pointer (some ⟨b, off + k * 2, none⟩)), (13, .pointer (some ⟨b, off + k * 2 + 1, none⟩)), (14, .int .i64 N), (15, .bool false), (16, .bool false), (17, .slice (some ⟨b, off, none⟩) n c), (18, .int .i64 (k : Nat)), (19, .pointer (some ⟨b, off + k * 2, none⟩)), (20, .pointer (some ⟨b, off + k * 2 + 1, none⟩)), (21, .int .i64 N), (22, .bool true), (23, .bool false), (24, .bool false), (25, .bool false), (26, .slice (some ⟨b, off, none⟩) n c), (27, .int .i64 (k : Nat)), (28, .pointer (some ⟨b, off + k * 2, none⟩)), (29, .pointer (some ⟨b, off + k * 2, none⟩)), (30, .slice xA xn xc), (31, .bool true), (32, .bool false), (33, .bool false), (34, .bool false), (35, .int .i64 (k : Nat)), (36, .bool false), (37, .bool false), (38, undef), (39, undef), (40, undef), (41, undef), (42, undef), (43, undef), (44, undef), (45, undef), (46, undef), (47, undef), (48, undef), (49, undef), (50, undef), (51, .bool false), (52, .bool false)] 53 rfl (by kernel_rfl) ?_ ?_
            · intro F hF w' hB
              have j0 := (hB.cell (p := ⟨b, off + k * 2, none⟩) l0).trans d0.out
              have j1 := (hB.cell (p := ⟨b, off + k * 2 + 1, none⟩) l0).trans d1.out
              have ix := Hx.out.after hB
              refine ⟨?_, ?_, ?_, ?_, ?_, ?_, ?_, ?_, ?_, ?_, ?_, ?_, ?_, ?_, ?_, ?_, ?_, ?_, ?_, ?_, ?_, ?_, ?_, ?_, ?_, ?_, ?_, ?_, ?_, ?_, ?_, ?_, ?_, ?_, ?_, ?_, ?_, ?_, ?_, ?_, ?_, ?_, ?_, trivial⟩
              · exact Reg.doesV_val (ev_move rfl) (by rw [hF]; kernel_rfl) (by rw [hF]; kernel_rfl)
              · exact Reg.doesV_val (ev_move rfl) (by rw [hF]; kernel_rfl) (by rw [hF]; kernel_rfl)
              · exact Reg.doesV_val (ev_idxC (b := b) (off := off) (n := n) (c := c) (k := k) hlt rfl (by rw [hF]; kernel_rfl) (by rw [hF]; kernel_rfl)) (by rw [hF]; kernel_rfl) (by rw [hF]; kernel_rfl)
              · exact Reg.doesV_val (ev_c1 (b := b) (off := off + k * 2) rfl (by rw [hF]; kernel_rfl)) (by rw [hF]; kernel_rfl) (by rw [hF]; kernel_rfl)
              · exact Reg.doesV_val (ev_ldI (k := N) j1 rfl (by rw [hF]; kernel_rfl)) (by rw [hF]; kernel_rfl) (by rw [hF]; kernel_rfl)
              · exact Reg.doesV_val (by rw [ev_eqC5 N 0 rfl (by rw [hF]; kernel_rfl), hN0]) (by rw [hF]; kernel_rfl) (by rw [hF]; kernel_rfl)
              · exact Reg.doesV_val (ev_move rfl) (by rw [hF]; kernel_rfl) (by rw [hF]; kernel_rfl)
              · exact Reg.doesV_val (ev_move rfl) (by rw [hF]; kernel_rfl) (by rw [hF]; kernel_rfl)
              · exact Reg.doesV_val (ev_move rfl) (by rw [hF]; kernel_rfl) (by rw [hF]; kernel_rfl)
              · exact Reg.doesV_val (ev_idxC (b := b) (off := off) (n := n) (c := c) (k := k) hlt rfl (by rw [hF]; kernel_rfl) (by rw [hF]; kernel_rfl)) (by rw [hF]; kernel_rfl) (by rw [hF]; kernel_rfl)
              · exact Reg.doesV_val (ev_c1 (b := b) (off := off + k * 2) rfl (by rw [hF]; kernel_rfl)) (by rw [hF]; kernel_rfl) (by rw [hF]; kernel_rfl)
              · exact Reg.doesV_val (ev_ldI (k := N) j1 rfl (by rw [hF]; kernel_rfl)) (by rw [hF]; kernel_rfl) (by rw [hF]; kernel_rfl)
              · exact Reg.doesV_call (by have h := fits5_c N w'; rw [hF1] at h; exact h) (ev_call enRFits rfl (by rw [hF]; kernel_rfl)) (by rw [hF]; kernel_rfl) (by rw [hF]; kernel_rfl)
              · exact Reg.doesV_val (ev_not true rfl (by rw [hF]; kernel_rfl)) (by rw [hF]; kernel_rfl) (by rw [hF]; kernel_rfl)
              · exact Reg.doesV_val (ev_pick false rfl (by rw [hF]; kernel_rfl)) (by rw [hF]; kernel_rfl) (by rw [hF]; kernel_rfl)
              · exact Reg.doesV_val (ev_move rfl) (by rw [hF]; kernel_rfl) (by rw [hF]; kernel_rfl)
              · exact Reg.doesV_val (ev_move rfl) (by rw [hF]; kernel_rfl) (by rw [hF]; kernel_rfl)
              · exact Reg.doesV_val (ev_move rfl) (by rw [hF]; kernel_rfl) (by rw [hF]; kernel_rfl)
              · exact Reg.doesV_val (ev_idxC (b := b) (off := off) (n := n) (c := c) (k := k) hlt rfl (by rw [hF]; kernel_rfl) (by rw [hF]; kernel_rfl)) (by rw [hF]; kernel_rfl) (by rw [hF]; kernel_rfl)
              · exact Reg.doesV_val (ev_c0 (b := b) (off := off + k * 2) rfl (by rw [hF]; kernel_rfl)) (by rw [hF]; kernel_rfl) (by rw [hF]; kernel_rfl)
              · exact Reg.doesV_val (ev_ldR (A := xA) (n := xn) (c := xc) j0 rfl (by rw [hF]; kernel_rfl)) (by rw [hF]; kernel_rfl) (by rw [hF]; kernel_rfl)
              · exact Reg.doesV_call (by have h := rmayRow_c xA xn xc xs w' ix.hd.len ix.hd.max ix.hd.sl ix.sz; rw [rmay_mayR, hM] at h; exact h) (ev_call enR4May rfl (by rw [hF]; kernel_rfl)) (by rw [hF]; kernel_rfl) (by rw [hF]; kernel_rfl)
              · exact Reg.doesV_val (ev_not true rfl (by rw [hF]; kernel_rfl)) (by rw [hF]; kernel_rfl) (by rw [hF]; kernel_rfl)
              · exact Reg.doesV_val (ev_pick false rfl (by rw [hF]; kernel_rfl)) (by rw [hF]; kernel_rfl) (by rw [hF]; kernel_rfl)
              · exact Reg.doesV_val (ev_move rfl) (by rw [hF]; kernel_rfl) (by rw [hF]; kernel_rfl)
              · exact Reg.doesV_val (ev_move rfl) (by rw [hF]; kernel_rfl) (by rw [hF]; kernel_rfl)
              · exact Reg.doesV_val (by rw [ev_gtC5 (k : Int) 0 rfl (by rw [hF]; kernel_rfl), hk0]) (by rw [hF]; kernel_rfl) (by rw [hF]; kernel_rfl)
              · exact Reg.doesV_val (ev_move rfl) (by rw [hF]; kernel_rfl) (by rw [hF]; kernel_rfl)
              · exact Reg.doesV_skip (by rw [hF]; kernel_rfl) (by rw [hF]; kernel_rfl)
              · exact Reg.doesV_skip (by rw [hF]; kernel_rfl) (by rw [hF]; kernel_rfl)
              · exact Reg.doesV_skip (by rw [hF]; kernel_rfl) (by rw [hF]; kernel_rfl)
              · exact Reg.doesV_skip (by rw [hF]; kernel_rfl) (by rw [hF]; kernel_rfl)
              · exact Reg.doesV_skip (by rw [hF]; kernel_rfl) (by rw [hF]; kernel_rfl)
              · exact Reg.doesV_skip (by rw [hF]; kernel_rfl) (by rw [hF]; kernel_rfl)
              · exact Reg.doesV_skip (by rw [hF]; kernel_rfl) (by rw [hF]; kernel_rfl)
              · exact Reg.doesV_skip (by rw [hF]; kernel_rfl) (by rw [hF]; kernel_rfl)
              · exact Reg.doesV_skip (by rw [hF]; kernel_rfl) (by rw [hF]; kernel_rfl)
              · exact Reg.doesV_skip (by rw [hF]; kernel_rfl) (by rw [hF]; kernel_rfl)
              · exact Reg.doesV_skip (by rw [hF]; kernel_rfl) (by rw [hF]; kernel_rfl)
              · exact Reg.doesV_skip (by rw [hF]; kernel_rfl) (by rw [hF]; kernel_rfl)
              · exact Reg.doesV_skip (by rw [hF]; kernel_rfl) (by rw [hF]; kernel_rfl)
              · exact Reg.doesV_val (ev_pick false rfl (by rw [hF]; kernel_rfl)) (by rw [hF]; kernel_rfl) (by rw [hF]; kernel_rfl)
              · exact Reg.doesV_val (ev_pick false rfl (by rw [hF]; kernel_rfl)) (by rw [hF]; kernel_rfl) (by rw [hF]; kernel_rfl)
            · intro w8 hB
              simp only [Reg.putAll, Act.put, List.setIfInBounds_toArray, List.set_cons_zero, List.set_cons_succ]
              have Hb2 := Lib.hid (hb.out.trans (hB.mono hb.out.size))
              clear hB
              go_wp2
              go_roundw
              case rel => exact ⟨k + 1, by omega, by go_num, Hb2, Hst2⟩
              case measure => simp [intOf]; omega
          · obtain ⟨j, hkj⟩ : ∃ j, k = j + 1 := ⟨k - 1, by have := of_decide_eq_true hk0; omega⟩
            have hjn : j < n := by omega
            have hjx : k ≤ 9223372036854775807 := by omega
            obtain ⟨⟨⟨yA, yn, yc, ys⟩, yN⟩, hp, hy, dq⟩ := hprev.out j hkj
            have Hy := Lib.hid hy
            have dq := Lib.hid dq
            clear hy
            cases hC : decide (0 ≤ cmpL ys xs)
            · have hC2 : decide (cmpL ys xs < 0) = true := by have := of_decide_eq_false hC; exact decide_eq_true (by omega)
              have Hst2 : Hid (mayFrom (prevOf (pl cs) (k + 1)) ((pl cs).drop (k + 1)) = R) := by
               have := Hst.out
               rw [okC_and] at this
               simp only [hN0, hF1, hM, hp, hC2, Bool.not_false, Bool.true_and] at this
               exact Lib.hid this
              clear Hst
              clear hp hC2
              refine Reg.wp_region_vals mixed (by kernel_rfl) [(10, .slice (some ⟨b, off, none⟩) n c), (11, .int .i64 (k : Nat)), (12, .pointer (some ⟨b, off + k * 2, none⟩)), (13, .pointer (some ⟨b, off + k * 2 + 1, none⟩)), (14, .int .i64 N), (15, .bool false), (16, .bool false), (17, .slice (some ⟨b, off, none⟩) n c), (18, .int .i64 (k : Nat)), (19, .pointer (some ⟨b, off + k * 2, none⟩)), (20, .pointer (some ⟨b, off + k * 2 + 1, none⟩)), (21, .int .i64 N), (22, .bool true), (23, .bool false), (24, .bool false), (25, .bool false), (26, .slice (some ⟨b, off, none⟩) n c), (27, .int .i64 (k : Nat)), (28, .pointer (some ⟨b, off + k * 2, none⟩)), (29, .pointer (some ⟨b, off + k * 2, none⟩)), (30, .slice xA xn xc), (31, .bool true), (32, .bool false), (33, .bool false), (34, .bool false), (35, .int .i64 (k : Nat)), (36, .bool true), (37, .bool true), (38, .slice (some ⟨b, off, none⟩) n c), (39, .int .i64 (k : Nat)), (40, .int .i64 (j : Nat)), (41, .pointer (some ⟨b, off + j * 2, none⟩)), (42, .pointer (some ⟨b, off + j * 2, none⟩)), (43, .slice yA yn yc), (44, .slice (some ⟨b, off, none⟩) n c), (45, .int .i64 (k : Nat)), (46, .pointer (some ⟨b, off + k * 2, none⟩)), (47, .pointer (some ⟨b, off + k * 2, none⟩)), (48, .slice xA xn xc), (49, .int .i64 (cmpL ys xs)), (50, .bool false), (51, .bool false), (52, .bool false)] 53 rfl (by kernel_rfl) ?_ ?_
              · intro F hF w' hB
                have j0 := (hB.cell (p := ⟨b, off + k * 2, none⟩) l0).trans d0.out
                have j1 := (hB.cell (p := ⟨b, off + k * 2 + 1, none⟩) l0).trans d1.out
                have ix := Hx.out.after hB
                have q0 := (hB.cell (p := ⟨b, off + j * 2, none⟩) l0).trans dq.out
                have iy := Hy.out.after hB
                refine ⟨?_, ?_, ?_, ?_, ?_, ?_, ?_, ?_, ?_, ?_, ?_, ?_, ?_, ?_, ?_, ?_, ?_, ?_, ?_, ?_, ?_, ?_, ?_, ?_, ?_, ?_, ?_, ?_, ?_, ?_, ?_, ?_, ?_, ?_, ?_, ?_, ?_, ?_, ?_, ?_, ?_, ?_, ?_, trivial⟩
                · exact Reg.doesV_val (ev_move rfl) (by rw [hF]; kernel_rfl) (by rw [hF]; kernel_rfl)
                · exact Reg.doesV_val (ev_move rfl) (by rw [hF]; kernel_rfl) (by rw [hF]; kernel_rfl)
                · exact Reg.doesV_val (ev_idxC (b := b) (off := off) (n := n) (c := c) (k := k) hlt rfl (by rw [hF]; kernel_rfl) (by rw [hF]; kernel_rfl)) (by rw [hF]; kernel_rfl) (by rw [hF]; kernel_rfl)
                · exact Reg.doesV_val (ev_c1 (b := b) (off := off + k * 2) rfl (by rw [hF]; kernel_rfl)) (by rw [hF]; kernel_rfl) (by rw [hF]; kernel_rfl)
                · exact Reg.doesV_val (ev_ldI (k := N) j1 rfl (by rw [hF]; kernel_rfl)) (by rw [hF]; kernel_rfl) (by rw [hF]; kernel_rfl)
                · exact Reg.doesV_val (by rw [ev_eqC5 N 0 rfl (by rw [hF]; kernel_rfl), hN0]) (by rw [hF]; kernel_rfl) (by rw [hF]; kernel_rfl)
                · exact Reg.doesV_val (ev_move rfl) (by rw [hF]; kernel_rfl) (by rw [hF]; kernel_rfl)
                · exact Reg.doesV_val (ev_move rfl) (by rw [hF]; kernel_rfl) (by rw [hF]; kernel_rfl)
                · exact Reg.doesV_val (ev_move rfl) (by rw [hF]; kernel_rfl) (by rw [hF]; kernel_rfl)
                · exact Reg.doesV_val (ev_idxC (b := b) (off := off) (n := n) (c := c) (k := k) hlt rfl (by rw [hF]; kernel_rfl) (by rw [hF]; kernel_rfl)) (by rw [hF]; kernel_rfl) (by rw [hF]; kernel_rfl)
                · exact Reg.doesV_val (ev_c1 (b := b) (off := off + k * 2) rfl (by rw [hF]; kernel_rfl)) (by rw [hF]; kernel_rfl) (by rw [hF]; kernel_rfl)
                · exact Reg.doesV_val (ev_ldI (k := N) j1 rfl (by rw [hF]; kernel_rfl)) (by rw [hF]; kernel_rfl) (by rw [hF]; kernel_rfl)
                · exact Reg.doesV_call (by have h := fits5_c N w'; rw [hF1] at h; exact h) (ev_call enRFits rfl (by rw [hF]; kernel_rfl)) (by rw [hF]; kernel_rfl) (by rw [hF]; kernel_rfl)
                · exact Reg.doesV_val (ev_not true rfl (by rw [hF]; kernel_rfl)) (by rw [hF]; kernel_rfl) (by rw [hF]; kernel_rfl)
                · exact Reg.doesV_val (ev_pick false rfl (by rw [hF]; kernel_rfl)) (by rw [hF]; kernel_rfl) (by rw [hF]; kernel_rfl)
                · exact Reg.doesV_val (ev_move rfl) (by rw [hF]; kernel_rfl) (by rw [hF]; kernel_rfl)
                · exact Reg.doesV_val (ev_move rfl) (by rw [hF]; kernel_rfl) (by rw [hF]; kernel_rfl)
                · exact Reg.doesV_val (ev_move rfl) (by rw [hF]; kernel_rfl) (by rw [hF]; kernel_rfl)
                · exact Reg.doesV_val (ev_idxC (b := b) (off := off) (n := n) (c := c) (k := k) hlt rfl (by rw [hF]; kernel_rfl) (by rw [hF]; kernel_rfl)) (by rw [hF]; kernel_rfl) (by rw [hF]; kernel_rfl)
                · exact Reg.doesV_val (ev_c0 (b := b) (off := off + k * 2) rfl (by rw [hF]; kernel_rfl)) (by rw [hF]; kernel_rfl) (by rw [hF]; kernel_rfl)
                · exact Reg.doesV_val (ev_ldR (A := xA) (n := xn) (c := xc) j0 rfl (by rw [hF]; kernel_rfl)) (by rw [hF]; kernel_rfl) (by rw [hF]; kernel_rfl)
                · exact Reg.doesV_call (by have h := rmayRow_c xA xn xc xs w' ix.hd.len ix.hd.max ix.hd.sl ix.sz; rw [rmay_mayR, hM] at h; exact h) (ev_call enR4May rfl (by rw [hF]; kernel_rfl)) (by rw [hF]; kernel_rfl) (by rw [hF]; kernel_rfl)
                · exact Reg.doesV_val (ev_not true rfl (by rw [hF]; kernel_rfl)) (by rw [hF]; kernel_rfl) (by rw [hF]; kernel_rfl)
                · exact Reg.doesV_val (ev_pick false rfl (by rw [hF]; kernel_rfl)) (by rw [hF]; kernel_rfl) (by rw [hF]; kernel_rfl)
                · exact Reg.doesV_val (ev_move rfl) (by rw [hF]; kernel_rfl) (by rw [hF]; kernel_rfl)
                · exact Reg.doesV_val (ev_move rfl) (by rw [hF]; kernel_rfl) (by rw [hF]; kernel_rfl)
                · exact Reg.doesV_val (by rw [ev_gtC5 (k : Int) 0 rfl (by rw [hF]; kernel_rfl), hk0]) (by rw [hF]; kernel_rfl) (by rw [hF]; kernel_rfl)
                · exact Reg.doesV_val (ev_move rfl) (by rw [hF]; kernel_rfl) (by rw [hF]; kernel_rfl)
                · exact Reg.doesV_val (ev_move rfl) (by rw [hF]; kernel_rfl) (by rw [hF]; kernel_rfl)
                · exact Reg.doesV_val (ev_move rfl) (by rw [hF]; kernel_rfl) (by rw [hF]; kernel_rfl)
                · exact Reg.doesV_val (ev_dec5 k j hkj hjx rfl (by rw [hF]; kernel_rfl)) (by rw [hF]; kernel_rfl) (by rw [hF]; kernel_rfl)
                · exact Reg.doesV_val (ev_idxC (b := b) (off := off) (n := n) (c := c) (k := j) hjn rfl (by rw [hF]; kernel_rfl) (by rw [hF]; kernel_rfl)) (by rw [hF]; kernel_rfl) (by rw [hF]; kernel_rfl)
                · exact Reg.doesV_val (ev_c0 (b := b) (off := off + j * 2) rfl (by rw [hF]; kernel_rfl)) (by rw [hF]; kernel_rfl) (by rw [hF]; kernel_rfl)
                · exact Reg.doesV_val (ev_ldR (A := yA) (n := yn) (c := yc) q0 rfl (by rw [hF]; kernel_rfl)) (by rw [hF]; kernel_rfl) (by rw [hF]; kernel_rfl)
                · exact Reg.doesV_val (ev_move rfl) (by rw [hF]; kernel_rfl) (by rw [hF]; kernel_rfl)
                · exact Reg.doesV_val (ev_move rfl) (by rw [hF]; kernel_rfl) (by rw [hF]; kernel_rfl)
                · exact Reg.doesV_val (ev_idxC (b := b) (off := off) (n := n) (c := c) (k := k) hlt rfl (by rw [hF]; kernel_rfl) (by rw [hF]; kernel_rfl)) (by rw [hF]; kernel_rfl) (by rw [hF]; kernel_rfl)
                · exact Reg.doesV_val (ev_c0 (b := b) (off := off + k * 2) rfl (by rw [hF]; kernel_rfl)) (by rw [hF]; kernel_rfl) (by rw [hF]; kernel_rfl)
                · exact Reg.doesV_val (ev_ldR (A := xA) (n := xn) (c := xc) j0 rfl (by rw [hF]; kernel_rfl)) (by rw [hF]; kernel_rfl) (by rw [hF]; kernel_rfl)
                · exact Reg.doesV_call (rcompareL_c yA xA yn xn yc xc ys xs w' iy.hd.len ix.hd.len iy.hd.max ix.hd.max iy.hd.sl ix.hd.sl) (ev_call enRCompareL rfl (by rw [hF]; kernel_rfl)) (by rw [hF]; kernel_rfl) (by rw [hF]; kernel_rfl)
                · exact Reg.doesV_val (by rw [ev_geC5 (cmpL ys xs) 0 rfl (by rw [hF]; kernel_rfl), hC]) (by rw [hF]; kernel_rfl) (by rw [hF]; kernel_rfl)
                · exact Reg.doesV_val (ev_pick true rfl (by rw [hF]; kernel_rfl)) (by rw [hF]; kernel_rfl) (by rw [hF]; kernel_rfl)
                · exact Reg.doesV_val (ev_pick false rfl (by rw [hF]; kernel_rfl)) (by rw [hF]; kernel_rfl) (by rw [hF]; kernel_rfl)
              · intro w8 hB
                simp only [Reg.putAll, Act.put, List.setIfInBounds_toArray, List.set_cons_zero, List.set_cons_succ]
                have Hb2 := Lib.hid (hb.out.trans (hB.mono hb.out.size))
                clear hB
                go_wp2
                go_roundw
                case rel => exact ⟨k + 1, by omega, by go_num, Hb2, Hst2⟩
                case measure => simp [intOf]; omega
            · have hC2 : decide (cmpL ys xs < 0) = false := by have := of_decide_eq_true hC; exact decide_eq_false (by omega)
              have Hst2 : Hid (false = R) := by
               have := Hst.out
               rw [okC_and] at this
               simp only [hN0, hF1, hM, hp, hC2, Bool.not_false, Bool.true_and, Bool.false_and] at this
               exact Lib.hid this
              clear Hst
              clear hp hC2
              refine Reg.wp_region_vals mixed (by kernel_rfl) [(10, .slice (some ⟨b, off, none⟩) n c), (11, .int .i64 (k : Nat)), (12, .pointer (some ⟨b, off + k * 2, none⟩)), (13, .pointer (some ⟨b, off + k * 2 + 1, none⟩)), (14, .int .i64 N), (15, .bool false), (16, .bool false), (17, .slice (some ⟨b, off, none⟩) n c), (18, .int .i64 (k : Nat)), (19, .pointer (some ⟨b, off + k * 2, none⟩)), (20, .pointer (some ⟨b, off + k * 2 + 1, none⟩)), (21, .int .i64 N), (22, .bool true), (23, .bool false), (24, .bool false), (25, .bool false), (26, .slice (some ⟨b, off, none⟩) n c), (27, .int .i64 (k : Nat)), (28, .pointer (some ⟨b, off + k * 2, none⟩)), (29, .pointer (some ⟨b, off + k * 2, none⟩)), (30, .slice xA xn xc), (31, .bool true), (32, .bool false), (33, .bool false), (34, .bool false), (35, .int .i64 (k : Nat)), (36, .bool true), (37, .bool true), (38, .slice (some ⟨b, off, none⟩) n c), (39, .int .i64 (k : Nat)), (40, .int .i64 (j : Nat)), (41, .pointer (some ⟨b, off + j * 2, none⟩)), (42, .pointer (some ⟨b, off + j * 2, none⟩)), (43, .slice yA yn yc), (44, .slice (some ⟨b, off, none⟩) n c), (45, .int .i64 (k : Nat)), (46, .pointer (some ⟨b, off + k * 2, none⟩)), (47, .pointer (some ⟨b, off + k * 2, none⟩)), (48, .slice xA xn xc), (49, .int .i64 (cmpL ys xs)), (50, .bool true), (51, .bool true), (52, .bool true)] 53 rfl (by kernel_rfl) ?_ ?_
              · intro F hF w' hB
                have j0 := (hB.cell (p := ⟨b, off + k * 2, none⟩) l0).trans d0.out
                have j1 := (hB.cell (p := ⟨b, off + k * 2 + 1, none⟩) l0).trans d1.out
                have ix := Hx.out.after hB
                have q0 := (hB.cell (p := ⟨b, off + j * 2, none⟩) l0).trans dq.out
                have iy := Hy.out.after hB
                refine ⟨?_, ?_, ?_, ?_, ?_, ?_, ?_, ?_, ?_, ?_, ?_, ?_, ?_, ?_, ?_, ?_, ?_, ?_, ?_, ?_, ?_, ?_, ?_, ?_, ?_, ?_, ?_, ?_, ?_, ?_, ?_, ?_, ?_, ?_, ?_, ?_, ?_, ?_, ?_, ?_, ?_, ?_, ?_, trivial⟩
                · exact Reg.doesV_val (ev_move rfl) (by rw [hF]; kernel_rfl) (by rw [hF]; kernel_rfl)
                · exact Reg.doesV_val (ev_move rfl) (by rw [hF]; kernel_rfl) (by rw [hF]; kernel_rfl)
                · exact Reg.doesV_val (ev_idxC (b := b) (off := off) (n := n) (c := c) (k := k) hlt rfl (by rw [hF]; kernel_rfl) (by rw [hF]; kernel_rfl)) (by rw [hF]; kernel_rfl) (by rw [hF]; kernel_rfl)
                · exact Reg.doesV_val (ev_c1 (b := b) (off := off + k * 2) rfl (by rw [hF]; kernel_rfl)) (by rw [hF]; kernel_rfl) (by rw [hF]; kernel_rfl)
                · exact Reg.doesV_val (ev_ldI (k := N) j1 rfl (by rw [hF]; kernel_rfl)) (by rw [hF]; kernel_rfl) (by rw [hF]; kernel_rfl)
                · exact Reg.doesV_val (by rw [ev_eqC5 N 0 rfl (by rw [hF]; kernel_rfl), hN0]) (by rw [hF]; kernel_rfl) (by rw [hF]; kernel_rfl)
                · exact Reg.doesV_val (ev_move rfl) (by rw [hF]; kernel_rfl) (by rw [hF]; kernel_rfl)
                · exact Reg.doesV_val (ev_move rfl) (by rw [hF]; kernel_rfl) (by rw [hF]; kernel_rfl)
                · exact Reg.doesV_val (ev_move rfl) (by rw [hF]; kernel_rfl) (by rw [hF]; kernel_rfl)
                · exact Reg.doesV_val (ev_idxC (b := b) (off := off) (n := n) (c := c) (k := k) hlt rfl (by rw [hF]; kernel_rfl) (by rw [hF]; kernel_rfl)) (by rw [hF]; kernel_rfl) (by rw [hF]; kernel_rfl)
                · exact Reg.doesV_val (ev_c1 (b := b) (off := off + k * 2) rfl (by rw [hF]; kernel_rfl)) (by rw [hF]; kernel_rfl) (by rw [hF]; kernel_rfl)
                · exact Reg.doesV_val (ev_ldI (k := N) j1 rfl (by rw [hF]; kernel_rfl)) (by rw [hF]; kernel_rfl) (by rw [hF]; kernel_rfl)
                · exact Reg.doesV_call (by have h := fits5_c N w'; rw [hF1] at h; exact h) (ev_call enRFits rfl (by rw [hF]; kernel_rfl)) (by rw [hF]; kernel_rfl) (by rw [hF]; kernel_rfl)
                · exact Reg.doesV_val (ev_not true rfl (by rw [hF]; kernel_rfl)) (by rw [hF]; kernel_rfl) (by rw [hF]; kernel_rfl)
                · exact Reg.doesV_val (ev_pick false rfl (by rw [hF]; kernel_rfl)) (by rw [hF]; kernel_rfl) (by rw [hF]; kernel_rfl)
                · exact Reg.doesV_val (ev_move rfl) (by rw [hF]; kernel_rfl) (by rw [hF]; kernel_rfl)
                · exact Reg.doesV_val (ev_move rfl) (by rw [hF]; kernel_rfl) (by rw [hF]; kernel_rfl)
                · exact Reg.doesV_val (ev_move rfl) (by rw [hF]; kernel_rfl) (by rw [hF]; kernel_rfl)
                · exact Reg.doesV_val (ev_idxC (b := b) (off := off) (n := n) (c := c) (k := k) hlt rfl (by rw [hF]; kernel_rfl) (by rw [hF]; kernel_rfl)) (by rw [hF]; kernel_rfl) (by rw [hF]; kernel_rfl)
                · exact Reg.doesV_val (ev_c0 (b := b) (off := off + k * 2) rfl (by rw [hF]; kernel_rfl)) (by rw [hF]; kernel_rfl) (by rw [hF]; kernel_rfl)
                · exact Reg.doesV_val (ev_ldR (A := xA) (n := xn) (c := xc) j0 rfl (by rw [hF]; kernel_rfl)) (by rw [hF]; kernel_rfl) (by rw [hF]; kernel_rfl)
                · exact Reg.doesV_call (by have h := rmayRow_c xA xn xc xs w' ix.hd.len ix.hd.max ix.hd.sl ix.sz; rw [rmay_mayR, hM] at h; exact h) (ev_call enR4May rfl (by rw [hF]; kernel_rfl)) (by rw [hF]; kernel_rfl) (by rw [hF]; kernel_rfl)
                · exact Reg.doesV_val (ev_not true rfl (by rw [hF]; kernel_rfl)) (by rw [hF]; kernel_rfl) (by rw [hF]; kernel_rfl)
                · exact Reg.doesV_val (ev_pick false rfl (by rw [hF]; kernel_rfl)) (by rw [hF]; kernel_rfl) (by rw [hF]; kernel_rfl)
                · exact Reg.doesV_val (ev_move rfl) (by rw [hF]; kernel_rfl) (by rw [hF]; kernel_rfl)
                · exact Reg.doesV_val (ev_move rfl) (by rw [hF]; kernel_rfl) (by rw [hF]; kernel_rfl)
                · exact Reg.doesV_val (by rw [ev_gtC5 (k : Int) 0 rfl (by rw [hF]; kernel_rfl), hk0]) (by rw [hF]; kernel_rfl) (by rw [hF]; kernel_rfl)
                · exact Reg.doesV_val (ev_move rfl) (by rw [hF]; kernel_rfl) (by rw [hF]; kernel_rfl)
                · exact Reg.doesV_val (ev_move rfl) (by rw [hF]; kernel_rfl) (by rw [hF]; kernel_rfl)
                · exact Reg.doesV_val (ev_move rfl) (by rw [hF]; kernel_rfl) (by rw [hF]; kernel_rfl)
                · exact Reg.doesV_val (ev_dec5 k j hkj hjx rfl (by rw [hF]; kernel_rfl)) (by rw [hF]; kernel_rfl) (by rw [hF]; kernel_rfl)
                · exact Reg.doesV_val (ev_idxC (b := b) (off := off) (n := n) (c := c) (k := j) hjn rfl (by rw [hF]; kernel_rfl) (by rw [hF]; kernel_rfl)) (by rw [hF]; kernel_rfl) (by rw [hF]; kernel_rfl)
                · exact Reg.doesV_val (ev_c0 (b := b) (off := off + j * 2) rfl (by rw [hF]; kernel_rfl)) (by rw [hF]; kernel_rfl) (by rw [hF]; kernel_rfl)
                · exact Reg.doesV_val (ev_ldR (A := yA) (n := yn) (c := yc) q0 rfl (by rw [hF]; kernel_rfl)) (by rw [hF]; kernel_rfl) (by rw [hF]; kernel_rfl)
                · exact Reg.doesV_val (ev_move rfl) (by rw [hF]; kernel_rfl) (by rw [hF]; kernel_rfl)
                · exact Reg.doesV_val (ev_move rfl) (by rw [hF]; kernel_rfl) (by rw [hF]; kernel_rfl)
                · exact Reg.doesV_val (ev_idxC (b := b) (off := off) (n := n) (c := c) (k := k) hlt rfl (by rw [hF]; kernel_rfl) (by rw [hF]; kernel_rfl)) (by rw [hF]; kernel_rfl) (by rw [hF]; kernel_rfl)
                · exact Reg.doesV_val (ev_c0 (b := b) (off := off + k * 2) rfl (by rw [hF]; kernel_rfl)) (by rw [hF]; kernel_rfl) (by rw [hF]; kernel_rfl)
                · exact Reg.doesV_val (ev_ldR (A := xA) (n := xn) (c := xc) j0 rfl (by rw [hF]; kernel_rfl)) (by rw [hF]; kernel_rfl) (by rw [hF]; kernel_rfl)
                · exact Reg.doesV_call (rcompareL_c yA xA yn xn yc xc ys xs w' iy.hd.len ix.hd.len iy.hd.max ix.hd.max iy.hd.sl ix.hd.sl) (ev_call enRCompareL rfl (by rw [hF]; kernel_rfl)) (by rw [hF]; kernel_rfl) (by rw [hF]; kernel_rfl)
                · exact Reg.doesV_val (by rw [ev_geC5 (cmpL ys xs) 0 rfl (by rw [hF]; kernel_rfl), hC]) (by rw [hF]; kernel_rfl) (by rw [hF]; kernel_rfl)
                · exact Reg.doesV_val (ev_pick true rfl (by rw [hF]; kernel_rfl)) (by rw [hF]; kernel_rfl) (by rw [hF]; kernel_rfl)
                · exact Reg.doesV_val (ev_pick false rfl (by rw [hF]; kernel_rfl)) (by rw [hF]; kernel_rfl) (by rw [hF]; kernel_rfl)
              · intro w8 hB
                simp only [Reg.putAll, Act.put, List.setIfInBounds_toArray, List.set_cons_zero, List.set_cons_succ]
                have Hb2 := Lib.hid (hb.out.trans (hB.mono hb.out.size))
                clear hB
                go_wp2
                go_ret
                exact ⟨congrArg (fun z => Ending.returned (Value.bool z)) Hst2.out, Hb2.out⟩
    · have Hst2 : Hid (false = R) := by
       have := Hst.out
       rw [okC_and] at this
       simp only [hN0, Bool.not_true, Bool.false_and] at this
       exact Lib.hid this
      clear Hst
      refine Reg.wp_region_vals mixed (by kernel_rfl) [(10, .slice (some ⟨b, off, none⟩) n c), (11, .int .i64 (k : Nat)), (12, .pointer (some ⟨b, off + k * 2, none⟩)), (13, .pointer (some ⟨b, off + k * 2 + 1, none⟩)), (14, .int .i64 N), (15, .bool true), (16, .bool true), (17, undef), (18, undef), (19, undef), (20, undef), (21, undef), (22, undef), (23, undef), (24, .bool true), (25, .bool true), (26, undef), (27, undef), (28, undef), (29, undef), (30, undef), (31, undef), (32, undef), (33, .bool true), (34, .bool true), (35, undef), (36, undef), (37, undef), (38, undef), (39, undef), (40, undef), (41, undef), (42, undef), (43, undef), (44, undef), (45, undef), (46, undef), (47, undef), (48, undef), (49, undef), (50, undef), (51, undef), (52, .bool true)] 53 rfl (by kernel_rfl) ?_ ?_
      · intro F hF w' hB
        have j0 := (hB.cell (p := ⟨b, off + k * 2, none⟩) l0).trans d0.out
        have j1 := (hB.cell (p := ⟨b, off + k * 2 + 1, none⟩) l0).trans d1.out
        have ix := Hx.out.after hB
        refine ⟨?_, ?_, ?_, ?_, ?_, ?_, ?_, ?_, ?_, ?_, ?_, ?_, ?_, ?_, ?_, ?_, ?_, ?_, ?_, ?_, ?_, ?_, ?_, ?_, ?_, ?_, ?_, ?_, ?_, ?_, ?_, ?_, ?_, ?_, ?_, ?_, ?_, ?_, ?_, ?_, ?_, ?_, ?_, trivial⟩
        · exact Reg.doesV_val (ev_move rfl) (by rw [hF]; kernel_rfl) (by rw [hF]; kernel_rfl)
        · exact Reg.doesV_val (ev_move rfl) (by rw [hF]; kernel_rfl) (by rw [hF]; kernel_rfl)
        · exact Reg.doesV_val (ev_idxC (b := b) (off := off) (n := n) (c := c) (k := k) hlt rfl (by rw [hF]; kernel_rfl) (by rw [hF]; kernel_rfl)) (by rw [hF]; kernel_rfl) (by rw [hF]; kernel_rfl)
        · exact Reg.doesV_val (ev_c1 (b := b) (off := off + k * 2) rfl (by rw [hF]; kernel_rfl)) (by rw [hF]; kernel_rfl) (by rw [hF]; kernel_rfl)
        · exact Reg.doesV_val (ev_ldI (k := N) j1 rfl (by rw [hF]; kernel_rfl)) (by rw [hF]; kernel_rfl) (by rw [hF]; kernel_rfl)
        · exact Reg.doesV_val (by rw [ev_eqC5 N 0 rfl (by rw [hF]; kernel_rfl), hN0]) (by rw [hF]; kernel_rfl) (by rw [hF]; kernel_rfl)
        · exact Reg.doesV_val (ev_move rfl) (by rw [hF]; kernel_rfl) (by rw [hF]; kernel_rfl)
        · exact Reg.doesV_skip (by rw [hF]; kernel_rfl) (by rw [hF]; kernel_rfl)
        · exact Reg.doesV_skip (by rw [hF]; kernel_rfl) (by rw [hF]; kernel_rfl)
        · exact Reg.doesV_skip (by rw [hF]; kernel_rfl) (by rw [hF]; kernel_rfl)
        · exact Reg.doesV_skip (by rw [hF]; kernel_rfl) (by rw [hF]; kernel_rfl)
        · exact Reg.doesV_skip (by rw [hF]; kernel_rfl) (by rw [hF]; kernel_rfl)
        · exact Reg.doesV_skip (by rw [hF]; kernel_rfl) (by rw [hF]; kernel_rfl)
        · exact Reg.doesV_skip (by rw [hF]; kernel_rfl) (by rw [hF]; kernel_rfl)
        · exact Reg.doesV_val (ev_pick true rfl (by rw [hF]; kernel_rfl)) (by rw [hF]; kernel_rfl) (by rw [hF]; kernel_rfl)
        · exact Reg.doesV_val (ev_move rfl) (by rw [hF]; kernel_rfl) (by rw [hF]; kernel_rfl)
        · exact Reg.doesV_skip (by rw [hF]; kernel_rfl) (by rw [hF]; kernel_rfl)
        · exact Reg.doesV_skip (by rw [hF]; kernel_rfl) (by rw [hF]; kernel_rfl)
        · exact Reg.doesV_skip (by rw [hF]; kernel_rfl) (by rw [hF]; kernel_rfl)
        · exact Reg.doesV_skip (by rw [hF]; kernel_rfl) (by rw [hF]; kernel_rfl)
        · exact Reg.doesV_skip (by rw [hF]; kernel_rfl) (by rw [hF]; kernel_rfl)
        · exact Reg.doesV_skip (by rw [hF]; kernel_rfl) (by rw [hF]; kernel_rfl)
        · exact Reg.doesV_skip (by rw [hF]; kernel_rfl) (by rw [hF]; kernel_rfl)
        · exact Reg.doesV_val (ev_pick true rfl (by rw [hF]; kernel_rfl)) (by rw [hF]; kernel_rfl) (by rw [hF]; kernel_rfl)
        · exact Reg.doesV_val (ev_move rfl) (by rw [hF]; kernel_rfl) (by rw [hF]; kernel_rfl)
        · exact Reg.doesV_skip (by rw [hF]; kernel_rfl) (by rw [hF]; kernel_rfl)
        · exact Reg.doesV_skip (by rw [hF]; kernel_rfl) (by rw [hF]; kernel_rfl)
        · exact Reg.doesV_skip (by rw [hF]; kernel_rfl) (by rw [hF]; kernel_rfl)
        · exact Reg.doesV_skip (by rw [hF]; kernel_rfl) (by rw [hF]; kernel_rfl)
        · exact Reg.doesV_skip (by rw [hF]; kernel_rfl) (by rw [hF]; kernel_rfl)
        · exact Reg.doesV_skip (by rw [hF]; kernel_rfl) (by rw [hF]; kernel_rfl)
        · exact Reg.doesV_skip (by rw [hF]; kernel_rfl) (by rw [hF]; kernel_rfl)
        · exact Reg.doesV_skip (by rw [hF]; kernel_rfl) (by rw [hF]; kernel_rfl)
        · exact Reg.doesV_skip (by rw [hF]; kernel_rfl) (by rw [hF]; kernel_rfl)
        · exact Reg.doesV_skip (by rw [hF]; kernel_rfl) (by rw [hF]; kernel_rfl)
        · exact Reg.doesV_skip (by rw [hF]; kernel_rfl) (by rw [hF]; kernel_rfl)
        · exact Reg.doesV_skip (by rw [hF]; kernel_rfl) (by rw [hF]; kernel_rfl)
        · exact Reg.doesV_skip (by rw [hF]; kernel_rfl) (by rw [hF]; kernel_rfl)
        · exact Reg.doesV_skip (by rw [hF]; kernel_rfl) (by rw [hF]; kernel_rfl)
        · exact Reg.doesV_skip (by rw [hF]; kernel_rfl) (by rw [hF]; kernel_rfl)
        · exact Reg.doesV_skip (by rw [hF]; kernel_rfl) (by rw [hF]; kernel_rfl)
        · exact Reg.doesV_skip (by rw [hF]; kernel_rfl) (by rw [hF]; kernel_rfl)
        · exact Reg.doesV_val (ev_pick true rfl (by rw [hF]; kernel_rfl)) (by rw [hF]; kernel_rfl) (by rw [hF]; kernel_rfl)
      · intro w8 hB
        simp only [Reg.putAll, Act.put, List.setIfInBounds_toArray, List.set_cons_zero, List.set_cons_succ]
        have Hb2 := Lib.hid (hb.out.trans (hB.mono hb.out.size))
        clear hB
        go_wp2
        go_ret
        exact ⟨congrArg (fun z => Ending.returned (Value.bool z)) Hst2.out, Hb2.out⟩
  · obtain rfl : k = n := by omega
    have Hst' : Hid (true = R) := by
     have := hinv.out
     rw [show (pl cs).drop k = [] from List.drop_eq_nil_of_le (by rw [pl_len, HB.out.len]; omega)] at this
     rw [← this]
     exact Lib.hid (mayFrom_nil _).symm
    clear hinv
    go_wp2
    go_ret
    exact ⟨congrArg (fun z => Ending.returned (Value.bool z)) Hst'.out, hb.out⟩
end Go.Proofs.YtbpopkgpepmlcaaGreat
