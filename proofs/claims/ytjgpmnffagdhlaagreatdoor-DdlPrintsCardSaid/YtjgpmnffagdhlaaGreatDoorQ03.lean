/-
  Part 3 of 9 of what the proof leans on: each part below says what it proves, and of what; no condition besides.
-/
import Derived.Test.YtjgpmnffagdhlaaGreatDoorQ02
import Derived.KernelRfl
import Derived.Laws.OwnMore
import Derived.Deep.RegionLaw
set_option linter.unusedVariables false
set_option linter.unusedSimpArgs false
namespace Go.Proofs.YtjgpmnffagdhlaaGreatDoor
open Go
set_option maxRecDepth 100000
def N64 (x : Nd) : Prop := -9223372036854775808 ≤ x.v.n ∧ x.v.n ≤ 9223372036854775807
def D64 (d : Df) : Prop := (∀ e ∈ d.t.checks, ∀ x ∈ e, N64 x) ∧ ∀ x ∈ d.v.whr, N64 x
def Gd (t : Tk) : Prop := mayT t = true ∧ T64 t
theorem gd_tN {b : ByteArray} (h : nameB b.data.toList = true) : Gd (tN b) := by
 unfold nameB at h
 simp only [Bool.and_eq_true] at h
 refine ⟨?_, (by decide : (-9223372036854775808 : Int) ≤ 0), (by decide : (0 : Int) ≤ 9223372036854775807)⟩
 unfold mayT tN
 simp [h.1, Val.eq_self]
theorem gd_tW {l : List UInt8} (h : wordB l = true) : Gd (tW l) := by
 refine ⟨?_, (by decide : (-9223372036854775808 : Int) ≤ 0), (by decide : (0 : Int) ≤ 9223372036854775807)⟩
 unfold mayT tW
 simp [h, Val.eq_self]
theorem gd_tS {l : List UInt8} (h : signB l = true) : Gd (tS l) := by
 refine ⟨?_, (by decide : (-9223372036854775808 : Int) ≤ 0), (by decide : (0 : Int) ≤ 9223372036854775807)⟩
 unfold mayT tS
 simp [h, Val.eq_self]
theorem gd_int {n : Int} (h : colB n = true) : Gd (intT n) := by
 unfold colB at h
 simp only [Bool.and_eq_true, decide_eq_true_eq] at h
 refine ⟨by kernel_rfl, ?_⟩
 unfold T64 intT iv
 simp only
 omega
theorem word_c100 : ∀ n, n < 100 → wordB (cWord n) = true := by decide +kernel
theorem gd_nd {x : Nd} (h : mayNd x = true) (h6 : N64 x) : ∀ t ∈ ndT x, Gd t := by
 obtain ⟨op, n, v⟩ := x
 unfold mayNd at h
 simp only at h
 unfold ndT
 simp only
 by_cases h0 : op = 0
 · subst h0
   simp only [if_true, Bool.and_eq_true] at h
   have hn := h.1
   unfold colB at hn
   simp only [Bool.and_eq_true, decide_eq_true_eq] at hn
   rw [if_neg (by decide), if_neg (by decide), if_pos rfl]
   intro t ht
   simp at ht
   subst ht
   exact gd_tW (word_c100 _ (by omega))
 · rw [if_neg h0] at h
   by_cases h1 : op = 1
   · subst h1
     simp only [if_true, Bool.and_eq_true] at h
     have hv := valid_of_may _ h.2
     rw [if_neg (by decide), if_pos rfl]
     split
     · intro t ht; simp at ht; subst ht; exact gd_tW (by decide)
     split
     · intro t ht; simp at ht; subst ht; exact gd_tW (by decide)
     split
     · intro t ht; simp at ht; subst ht; exact gd_tW (by decide)
     · rename_i n1 n2 n3
       intro t ht
       simp at ht
       subst ht
       refine ⟨?_, h6⟩
       have hk : v.k = 2 ∨ v.k = 3 := by
        rcases hv with ⟨h1, h2, h3⟩ | ⟨h1, h2, h3⟩ | ⟨h1, _⟩ | ⟨h1, _⟩
        · exact absurd (Val.eq_iff.2 (by cases v; simp_all [nl])) n1
        · rcases h2 with h2 | h2
          · exact absurd (Val.eq_iff.2 (by cases v; simp_all [ff])) n3
          · exact absurd (Val.eq_iff.2 (by cases v; simp_all [tt])) n2
        · exact .inl h1
        · exact .inr h1
       unfold mayT
       simp only
       rw [if_neg (by decide), if_pos (by decide)]
       rw [h.2]
       have he : emp.toList.isEmpty = true := by kernel_rfl
       rw [he]
       rcases hk with hk | hk <;> simp [hk]
   · rw [if_neg h1] at h
     simp only [Bool.and_eq_true, decide_eq_true_eq] at h
     obtain ⟨h2, h3, _⟩ := h
     have : op = 2 ∨ op = 3 ∨ op = 4 ∨ op = 5 ∨ op = 6 ∨ op = 7 ∨ op = 8 ∨ op = 9 ∨ op = 10 := by omega
     have a1 : Gd (tS s_pl) := gd_tS (by decide)
     have a2 : Gd (tS s_mi) := gd_tS (by decide)
     have a3 : Gd (tS s_st) := gd_tS (by decide)
     have a4 : Gd (tS s_eq) := gd_tS (by decide)
     have a5 : Gd (tS s_lt) := gd_tS (by decide)
     have a6 : Gd (tW w_and) := gd_tW (by decide)
     have a7 : Gd (tW w_or) := gd_tW (by decide)
     have a8 : Gd (tW w_not) := gd_tW (by decide)
     have a9 : Gd (tW w_null) := gd_tW (by decide)
     have a10 : Gd (tS s_qm) := gd_tS (by decide)
     rcases this with rfl | rfl | rfl | rfl | rfl | rfl | rfl | rfl | rfl <;> simp <;> simp [a1, a2, a3, a4, a5, a6, a7, a8, a9, a10]
theorem gd_expr {e : List Nd} (h : mayE e = true) (h6 : ∀ x ∈ e, N64 x) : ∀ t ∈ exprT e, Gd t := by
 unfold mayE at h
 simp only [Bool.and_eq_true, List.all_eq_true] at h
 intro t ht
 unfold exprT at ht
 simp only [List.mem_cons, List.mem_append, List.mem_flatMap, List.not_mem_nil, or_false] at ht
 rcases ht with rfl | ⟨x, hx, ht⟩ | rfl
 · exact gd_tS (by decide)
 · exact gd_nd (h.2 x hx) (h6 x hx) t ht
 · exact gd_tS (by decide)
theorem gd_sep {α : Type} {f : α → List Tk} : ∀ l : List α, (∀ a ∈ l, ∀ t ∈ f a, Gd t) → ∀ t ∈ sepT f l, Gd t
 | [], _, t, ht => by simp [sepT] at ht
 | a :: l, h, t, ht => by
   rw [sepT] at ht
   rcases List.mem_append.1 ht with ht | ht
   · exact h a (by simp) t ht
   · split at ht
     · simp at ht
     · rcases List.mem_cons.1 ht with rfl | ht
       · exact gd_tS (by decide)
       · exact gd_sep l (fun b hb => h b (List.mem_cons_of_mem _ hb)) t ht
theorem gd_cl {c : Cl} (h : mayCl c = true) : ∀ t ∈ clT c, Gd t := by
 unfold mayCl at h
 simp only [Bool.and_eq_true, decide_eq_true_eq] at h
 obtain ⟨h1, h2, h3, h4⟩ := h
 intro t ht
 unfold clT at ht
 simp only [List.mem_cons, List.mem_append] at ht
 rcases ht with rfl | rfl | ht | ht | ht
 · exact gd_tN h1
 · unfold kindW; split
   · exact gd_tW (by decide)
   split
   · exact gd_tW (by decide)
   · exact gd_tW (by decide)
 · split at ht <;> simp at ht
   subst ht; exact gd_tW (by decide)
 · split at ht <;> simp at ht
   subst ht; exact gd_tW (by decide)
 · split at ht
   · simp at ht
   · rename_i hr
     rw [if_neg hr] at h4
     simp only [Bool.and_eq_true] at h4
     simp at ht
     rcases ht with rfl | rfl | rfl
     · exact gd_tW (by decide)
     · exact gd_tN h4.1
     · unfold actW; split
       · exact gd_tW (by decide)
       split
       · exact gd_tW (by decide)
       · exact gd_tW (by decide)
theorem gd_ag {a : Ag} (h : mayAg a = true) : ∀ t ∈ agT a, Gd t := by
 unfold mayAg at h
 intro t ht
 unfold agT at ht
 rcases List.mem_cons.1 ht with rfl | ht
 · unfold fnW; split
   · exact gd_tW (by decide)
   split
   · exact gd_tW (by decide)
   split
   · exact gd_tW (by decide)
   · exact gd_tW (by decide)
 · split at ht
   · simp at ht
   · rename_i hf
     rw [if_neg hf] at h
     simp only [Bool.and_eq_true] at h
     simp at ht
     subst ht
     exact gd_int h.2.2
theorem toks_gd {d : Df} (h : MayD d) (h6 : D64 d) : ∀ t ∈ toksD d, Gd t := by
 obtain ⟨k, t, v⟩ := d
 rcases h with ⟨rfl, h1, rfl⟩ | ⟨rfl, rfl, h1⟩
 · unfold mayTb at h1
   simp only [Bool.and_eq_true, List.all_eq_true] at h1
   obtain ⟨a1, a2, a3, a4, a5, a6⟩ := h1
   intro u hu
   unfold toksD tbT at hu
   simp only [if_true, List.mem_cons, List.mem_append, List.mem_flatMap] at hu
   rcases hu with rfl | rfl | rfl | hu | rfl | ⟨e, he, rfl | hu⟩
   · exact gd_tW (by decide)
   · exact gd_tN a1
   · exact gd_tS (by decide)
   · exact gd_sep t.cols (fun c hc => gd_cl (a5 c hc)) u hu
   · exact gd_tS (by decide)
   · exact gd_tW (by decide)
   · exact gd_expr (a6 e he) (h6.1 e he) u hu
 · unfold mayVw at h1
   simp only [Bool.and_eq_true, List.all_eq_true] at h1
   obtain ⟨a1, a2, a3, a4, a5, a6, a7, a8, a9⟩ := h1
   intro u hu
   unfold toksD vwT at hu
   have n1 : ¬ (1 : Int) = 0 := by decide
   simp only [if_neg n1, List.mem_cons, List.mem_append] at hu
   rcases hu with rfl | rfl | rfl | rfl | hu | hu | rfl | hu | hu
   · exact gd_tW (by decide)
   · exact gd_tN a1
   · exact gd_tW (by decide)
   · exact gd_tN a2
   · split at hu
     · simp at hu
     · rename_i hw
       rw [if_neg hw] at a3
       simp only [Bool.and_eq_true] at a3
       simp at hu
       rcases hu with rfl | rfl | rfl | rfl | rfl | rfl
       · exact gd_tW (by decide)
       · exact gd_tN a3.1
       · exact gd_tW (by decide)
       · exact gd_int a3.2.1
       · exact gd_tS (by decide)
       · exact gd_int a3.2.2
   · split at hu
     · simp at hu
     · rcases List.mem_cons.1 hu with rfl | hu
       · exact gd_tW (by decide)
       · exact gd_expr a4 h6.2 u hu
   · exact gd_tW (by decide)
   · exact gd_sep v.pick (fun n hn t ht => by simp at ht; subst ht; exact gd_int (a6 n hn)) u hu
   · split at hu
     · rcases List.mem_cons.1 hu with rfl | hu
       · exact gd_tW (by decide)
       · exact gd_sep v.aggs (fun a ha => gd_ag (a8 a ha)) u hu
     · simp at hu
theorem print_read {d : Df} (h : MayD d) (h6 : D64 d) : (lexL (printL (toksD d))).bind parseD = some d := by
 have hg := toks_gd h h6
 rw [lex_print _ (fun t ht => (hg t ht).1) (fun t ht => (hg t ht).2)]
 exact parse_toks h
end Go.Proofs.YtjgpmnffagdhlaaGreatDoor
namespace Go.Proofs.YtjgpmnffagdhlaaGreatDoor
open Go
set_option maxRecDepth 100000
def sz : List Tk → Nat
 | [] => 0
 | t :: r => (txtT t).length + 1 + sz r
theorem sz_cons (t : Tk) (r : List Tk) : sz (t :: r) = (txtT t).length + 1 + sz r := rfl
theorem sz_app : ∀ l r : List Tk, sz (l ++ r) = sz l + sz r
 | [], r => by simp [sz]
 | t :: l, r => by rw [List.cons_append, sz_cons, sz_cons, sz_app l r]; omega
theorem sz_tW (l : List UInt8) : (txtT (tW l)).length = l.length := rfl
theorem sz_tS (l : List UInt8) : (txtT (tS l)).length = l.length := rfl
def G (l : List Tk) : Prop := ∀ t ∈ l, Gd t
theorem G.tail {t : Tk} {r : List Tk} (h : G (t :: r)) : G r := fun x hx => h x (List.mem_cons_of_mem _ hx)
theorem G.head {t : Tk} {r : List Tk} (h : G (t :: r)) : Gd t := h t (by simp)
theorem isW_len {s : List UInt8} {t : Tk} (h : isW s t = true) : (txtT t).length = s.length := by
 unfold isW at h
 simp only [Bool.and_eq_true, bne_iff_ne, ne_eq, beq_iff_eq] at h
 unfold txtT
 rw [if_neg (by simpa using h.1), h.2]
theorem name_acc {l r : List Tk} {b : ByteArray} (h : nameP l = some (b, r)) (hg : G l) : nameB b.data.toList = true ∧ G r ∧ sz [tN b] + sz r = sz l := by
 cases l with
 | nil => cases h
 | cons t q =>
   rw [nameP] at h
   split at h
   · rename_i hc
     simp only [Bool.and_eq_true, beq_iff_eq] at hc
     simp only [Option.some.injEq, Prod.mk.injEq] at h
     obtain ⟨rfl, rfl⟩ := h
     refine ⟨hc.2, hg.tail, ?_⟩
     have e : (txtT t).length = (txtT (tN t.t)).length := by
      unfold txtT tN
      rw [if_neg (by rw [hc.1]; decide), if_neg (by simp)]
     rw [sz_cons, sz_cons, e]
     simp [sz]
   · cases h
theorem col_acc {l r : List Tk} {n : Int} (h : colP l = some (n, r)) (hg : G l) : colB n = true ∧ G r ∧ sz [intT n] + sz r = sz l := by
 cases l with
 | nil => cases h
 | cons t q =>
   rw [colP] at h
   split at h
   · rename_i hc
     simp only [Bool.and_eq_true, beq_iff_eq] at hc
     simp only [Option.some.injEq, Prod.mk.injEq] at h
     obtain ⟨rfl, rfl⟩ := h
     refine ⟨by unfold colB; simp [hc.2.2.1, hc.2.2.2], hg.tail, ?_⟩
     have e : (txtT t).length = (txtT (intT t.v.n)).length := by
      unfold txtT intT
      rw [if_pos (by rw [hc.1]; decide), if_pos (by simp)]
      have hk := hc.2.1
      unfold textL
      rw [hk]
      rfl
     rw [sz_cons, sz_cons, e]
     simp [sz]
   · cases h
theorem need_acc {s : List UInt8} {l r : List Tk} (h : needP s l = some r) (hg : G l) : G r ∧ s.length + 1 + sz r = sz l := by
 cases l with
 | nil => cases h
 | cons t q =>
   rw [needP] at h
   split at h
   · rename_i hc
     simp only [Option.some.injEq] at h
     subst h
     exact ⟨hg.tail, by rw [sz_cons, isW_len hc]⟩
   · cases h
theorem take_acc (s : List UInt8) (l : List Tk) (hg : G l) : G (takeP s l).2 ∧ (if (takeP s l).1 then s.length + 1 else 0) + sz (takeP s l).2 = sz l := by
 cases l with
 | nil => exact ⟨hg, by simp [takeP, sz]⟩
 | cons t q =>
   rw [takeP]
   split
   · rename_i hc
     exact ⟨hg.tail, by simp [sz_cons, isW_len hc]⟩
   · exact ⟨hg, by simp⟩
theorem one3 {a b c : List UInt8} {l r : List Tk} {k : Int} (h : oneP [a, b, c] l = some (k, r)) (hg : G l) : G r ∧ ((k = 0 ∧ a.length + 1 + sz r = sz l) ∨ (k = 1 ∧ b.length + 1 + sz r = sz l) ∨ (k = 2 ∧ c.length + 1 + sz r = sz l)) := by
 cases l with
 | nil => cases h
 | cons t q =>
   rw [oneP] at h
   simp only [oneF] at h
   rw [sz_cons]
   split at h
   · rename_i hc
     simp at h
     obtain ⟨rfl, rfl⟩ := h
     exact ⟨hg.tail, .inl ⟨rfl, by rw [isW_len hc]⟩⟩
   split at h
   · rename_i hc
     simp at h
     obtain ⟨rfl, rfl⟩ := h
     exact ⟨hg.tail, .inr (.inl ⟨rfl, by rw [isW_len hc]⟩)⟩
   split at h
   · rename_i hc
     simp at h
     obtain ⟨rfl, rfl⟩ := h
     exact ⟨hg.tail, .inr (.inr ⟨rfl, by rw [isW_len hc]⟩)⟩
   · cases h
theorem one4 {a b c d : List UInt8} {l r : List Tk} {k : Int} (h : oneP [a, b, c, d] l = some (k, r)) (hg : G l) : G r ∧ ((k = 0 ∧ a.length + 1 + sz r = sz l) ∨ (k = 1 ∧ b.length + 1 + sz r = sz l) ∨ (k = 2 ∧ c.length + 1 + sz r = sz l) ∨ (k = 3 ∧ d.length + 1 + sz r = sz l)) := by
 cases l with
 | nil => cases h
 | cons t q =>
   rw [oneP] at h
   simp only [oneF] at h
   rw [sz_cons]
   split at h
   · rename_i hc
     simp at h
     obtain ⟨rfl, rfl⟩ := h
     exact ⟨hg.tail, .inl ⟨rfl, by rw [isW_len hc]⟩⟩
   split at h
   · rename_i hc
     simp at h
     obtain ⟨rfl, rfl⟩ := h
     exact ⟨hg.tail, .inr (.inl ⟨rfl, by rw [isW_len hc]⟩)⟩
   split at h
   · rename_i hc
     simp at h
     obtain ⟨rfl, rfl⟩ := h
     exact ⟨hg.tail, .inr (.inr (.inl ⟨rfl, by rw [isW_len hc]⟩))⟩
   split at h
   · rename_i hc
     simp at h
     obtain ⟨rfl, rfl⟩ := h
     exact ⟨hg.tail, .inr (.inr (.inr ⟨rfl, by rw [isW_len hc]⟩))⟩
   · cases h
theorem one2 {a b : List UInt8} {l r : List Tk} {k : Int} (h : oneP [a, b] l = some (k, r)) (hg : G l) : G r ∧ ((k = 0 ∧ a.length + 1 + sz r = sz l) ∨ (k = 1 ∧ b.length + 1 + sz r = sz l)) := by
 cases l with
 | nil => cases h
 | cons t q =>
   rw [oneP] at h
   simp only [oneF] at h
   rw [sz_cons]
   split at h
   · rename_i hc
     simp at h
     obtain ⟨rfl, rfl⟩ := h
     exact ⟨hg.tail, .inl ⟨rfl, by rw [isW_len hc]⟩⟩
   split at h
   · rename_i hc
     simp at h
     obtain ⟨rfl, rfl⟩ := h
     exact ⟨hg.tail, .inr ⟨rfl, by rw [isW_len hc]⟩⟩
   · cases h
theorem op_acc {t : Tk} {i : Int} (h : oneF opWs 2 t = some i) : mayNd ⟨i, 0, nl⟩ = true ∧ N64 ⟨i, 0, nl⟩ ∧ sz (ndT ⟨i, 0, nl⟩) = (txtT t).length + 1 := by
 have hn : N64 ⟨i, 0, nl⟩ := ⟨(by decide : (-9223372036854775808 : Int) ≤ 0), (by decide : (0 : Int) ≤ 9223372036854775807)⟩
 unfold opWs at h
 simp only [oneF] at h
 repeat' split at h
 all_goals first
  | (cases h; done)
  | (rename_i hc
     simp only [Option.some.injEq] at h
     subst h
     refine ⟨by kernel_rfl, hn, ?_⟩
     rw [isW_len hc]
     rfl)
theorem step_acc {l r : List Tk} {x : Nd} (h : stepP l = some (x, r)) (hg : G l) : mayNd x = true ∧ N64 x ∧ G r ∧ sz (ndT x) + sz r = sz l := by
 have z0 : (-9223372036854775808 : Int) ≤ 0 := by decide
 have z1 : (0 : Int) ≤ 9223372036854775807 := by decide
 cases l with
 | nil => cases h
 | cons t q =>
   rw [stepP] at h
   have hq := take_acc s_qm q hg.tail
   split at h
   · rename_i hc
     split at h
     · rename_i hq1
       simp only [Option.some.injEq, Prod.mk.injEq] at h
       obtain ⟨rfl, rfl⟩ := h
       refine ⟨by kernel_rfl, ⟨z0, z1⟩, hq.1, ?_⟩
       have h2 := hq.2
       rw [hq1] at h2
       rw [sz_cons, isW_len hc, ← h2]
       show sz [tW w_null, tS s_qm] + _ = _
       simp only [sz, sz_tW, sz_tS, if_true]
       omega
     · simp only [Option.some.injEq, Prod.mk.injEq] at h
       obtain ⟨rfl, rfl⟩ := h
       refine ⟨by kernel_rfl, ⟨z0, z1⟩, hg.tail, ?_⟩
       rw [sz_cons, isW_len hc]
       have e : ndT ⟨1, 0, nl⟩ = [tW w_null] := by kernel_rfl
       rw [e]
       simp only [sz, sz_tW]
   split at h
   · rename_i hc
     simp only [Option.some.injEq, Prod.mk.injEq] at h
     obtain ⟨rfl, rfl⟩ := h
     refine ⟨by kernel_rfl, ⟨(by decide : (-9223372036854775808 : Int) ≤ 1), (by decide : (1 : Int) ≤ 9223372036854775807)⟩, hg.tail, ?_⟩
     rw [sz_cons, isW_len hc]
     have e : ndT ⟨1, 0, tt⟩ = [tW w_true] := by kernel_rfl
     rw [e]
     simp only [sz, sz_tW]
   split at h
   · rename_i hc
     simp only [Option.some.injEq, Prod.mk.injEq] at h
     obtain ⟨rfl, rfl⟩ := h
     refine ⟨by kernel_rfl, ⟨z0, z1⟩, hg.tail, ?_⟩
     rw [sz_cons, isW_len hc]
     have e : ndT ⟨1, 0, ff⟩ = [tW w_false] := by kernel_rfl
     rw [e]
     simp only [sz, sz_tW]
   split at h
   · rename_i i hi
     simp only [Option.some.injEq, Prod.mk.injEq] at h
     obtain ⟨rfl, rfl⟩ := h
     obtain ⟨h1, h2, h3⟩ := op_acc hi
     exact ⟨h1, h2, hg.tail, by rw [sz_cons, h3]⟩
   split at h
   · rename_i hk
     simp only [Option.some.injEq, Prod.mk.injEq] at h
     obtain ⟨rfl, rfl⟩ := h
     obtain ⟨hm, h6⟩ := hg.head
     obtain ⟨k, s, v⟩ := t
     simp only [beq_iff_eq] at hk
     subst hk
     unfold mayT at hm
     simp only at hm
     rw [if_neg (by decide), if_pos (by decide)] at hm
     simp only [Bool.and_eq_true, Bool.or_eq_true, beq_iff_eq] at hm
     obtain ⟨hs, hk, hv⟩ := hm
     refine ⟨by unfold mayNd; simp [hv], h6, hg.tail, ?_⟩
     have e : ndT ⟨1, 0, v⟩ = [⟨1, emp, v⟩] := by
      unfold ndT
      have n1 : v ≠ nl := fun e => by rw [e] at hk; simp [nl] at hk
      have n2 : v ≠ tt := fun e => by rw [e] at hk; simp [tt] at hk
      have n3 : v ≠ ff := fun e => by rw [e] at hk; simp [ff] at hk
      rw [if_neg (by simp), if_pos rfl]
      simp only [Val.eq_false n1, Val.eq_false n2, Val.eq_false n3]
      rfl
     rw [e]
     simp only [sz]
     rfl
   split at h
   · rename_i hk
     cases hcn : cnum t.t.data.toList with
     | none => rw [hcn] at h; cases h
     | some n =>
       rw [hcn] at h
       simp only [Option.map_some, Option.some.injEq, Prod.mk.injEq] at h
       obtain ⟨rfl, rfl⟩ := h
       obtain ⟨hn, hl⟩ := cnum_lt hcn
       refine ⟨?_, ⟨z0, z1⟩, hg.tail, ?_⟩
       · unfold mayNd colB
         simp only [if_true, Bool.and_eq_true, decide_eq_true_eq]
         exact ⟨⟨by omega, by omega⟩, Val.eq_self _⟩
       · have e : ndT ⟨0, n, nl⟩ = [tW (cWord n)] := by
          unfold ndT
          rw [if_neg (by simp), if_neg (by simp), if_pos rfl, Int.toNat_natCast]
         rw [e, sz_cons]
         simp only [sz, sz_tW]
         have e2 : (txtT t).length = (cWord n).length := by
          unfold txtT
          rw [if_neg (by simp only [beq_iff_eq] at hk; rw [hk]; decide), hl]
         omega
   · cases h
theorem exprF_acc : ∀ (n : Nat) (l r : List Tk) (e : List Nd), exprF n l = some (e, r) → G l → (∀ x ∈ e, mayNd x = true ∧ N64 x) ∧ G r ∧ sz (e.flatMap ndT) + 2 + sz r = sz l
 | 0, _, _, _, h, _ => by cases h
 | n + 1, [], _, _, h, _ => by cases h
 | n + 1, t :: q, r, e, h, hg => by
   rw [exprF] at h
   split at h
   · rename_i hc
     simp only [Option.some.injEq, Prod.mk.injEq] at h
     obtain ⟨rfl, rfl⟩ := h
     refine ⟨fun x hx => (by cases hx), hg.tail, ?_⟩
     rw [sz_cons, isW_len hc]
     simp [sz, s_rb]
   · cases hs : stepP (t :: q) with
     | none => rw [hs] at h; cases h
     | some p =>
       obtain ⟨x, q1⟩ := p
       rw [hs] at h
       simp only [Option.bind_some] at h
       cases he : exprF n q1 with
       | none => rw [he] at h; cases h
       | some p2 =>
         obtain ⟨e2, q2⟩ := p2
         rw [he] at h
         simp only [Option.map_some, Option.some.injEq, Prod.mk.injEq] at h
         obtain ⟨rfl, rfl⟩ := h
         obtain ⟨h1, h2, h3, h4⟩ := step_acc hs hg
         obtain ⟨k1, k2, k3⟩ := exprF_acc n q1 q2 e2 he h3
         refine ⟨fun y hy => ?_, k2, ?_⟩
         · rcases List.mem_cons.1 hy with rfl | hy
           · exact ⟨h1, h2⟩
           · exact k1 y hy
         · rw [List.flatMap_cons, sz_app]
           omega
theorem expr_acc {l r : List Tk} {e : List Nd} (h : exprP l = some (e, r)) (hg : G l) : mayE e = true ∧ (∀ x ∈ e, N64 x) ∧ G r ∧ sz (exprT e) + sz r = sz l := by
 unfold exprP at h
 cases hn : needP s_lb l with
 | none => rw [hn] at h; cases h
 | some q =>
   rw [hn] at h
   simp only [Option.bind_some] at h
   obtain ⟨hg2, hz⟩ := need_acc hn hg
   cases he : exprF (q.length + 1) q with
   | none => rw [he] at h; cases h
   | some p =>
     rw [he] at h
     simp only [Option.bind_some] at h
     split at h
     · rename_i hl
       simp only [Option.some.injEq] at h
       subst h
       obtain ⟨h1, h2, h3⟩ := exprF_acc _ _ _ _ he hg2
       refine ⟨?_, fun x hx => (h1 x hx).2, h2, ?_⟩
       · unfold mayE
         simp only [Bool.and_eq_true, decide_eq_true_eq, List.all_eq_true]
         exact ⟨hl, fun x hx => (h1 x hx).1⟩
       · unfold exprT
         rw [sz_cons, sz_app]
         simp only [sz, sz_tS, s_lb, s_rb, List.length_cons, List.length_nil] at hz ⊢
         omega
     · cases h
theorem sepF_acc {α : Type} {p : List Tk → Option (α × List Tk)} {f : α → List Tk} {V : α → Prop} (hp : ∀ l r a, p l = some (a, r) → G l → V a ∧ G r ∧ sz (f a) + sz r = sz l) :
 ∀ (n : Nat) (l r : List Tk) (xs : List α), sepF p n l = some (xs, r) → G l → xs ≠ [] ∧ (∀ a ∈ xs, V a) ∧ G r ∧ sz (sepT f xs) + sz r = sz l
 | 0, _, _, _, h, _ => by cases h
 | n + 1, l, r, xs, h, hg => by
   rw [sepF] at h
   cases hs : p l with
   | none => rw [hs] at h; cases h
   | some q =>
     obtain ⟨a, q1⟩ := q
     rw [hs] at h
     simp only [Option.bind_some] at h
     obtain ⟨h1, h2, h3⟩ := hp _ _ _ hs hg
     obtain ⟨t1, t2⟩ := take_acc s_cm q1 h2
     split at h
     · rename_i hc
       cases he : sepF p n (takeP s_cm q1).2 with
       | none => rw [he] at h; cases h
       | some p2 =>
         obtain ⟨xs2, q2⟩ := p2
         rw [he] at h
         simp only [Option.map_some, Option.some.injEq, Prod.mk.injEq] at h
         obtain ⟨rfl, rfl⟩ := h
         obtain ⟨k0, k1, k2, k3⟩ := sepF_acc hp n _ _ _ he t1
         refine ⟨by simp, fun b hb => ?_, k2, ?_⟩
         · rcases List.mem_cons.1 hb with rfl | hb
           · exact h1
           · exact k1 b hb
         · rw [sepT]
           cases xs2 with
           | nil => exact absurd rfl k0
           | cons b bs =>
             simp only [List.isEmpty_cons, Bool.false_eq_true, if_false]
             rw [sz_app, sz_cons, sz_tS]
             rw [hc] at t2
             simp only [if_true] at t2
             omega
     · simp only [Option.some.injEq, Prod.mk.injEq] at h
       obtain ⟨rfl, rfl⟩ := h
       refine ⟨by simp, fun b hb => by simp at hb; rw [hb]; exact h1, h2, ?_⟩
       simp [sepT, h3]
theorem column_acc {l r : List Tk} {c : Cl} (h : columnP l = some (c, r)) (hg : G l) : mayCl c = true ∧ G r ∧ sz (clT c) + sz r = sz l := by
 unfold columnP at h
 cases hn : nameP l with
 | none => rw [hn] at h; cases h
 | some a =>
   obtain ⟨nm, q1⟩ := a
   rw [hn] at h
   simp only [Option.bind_some] at h
   obtain ⟨n1, n2, n3⟩ := name_acc hn hg
   cases hk : oneP [w_bool, w_int, w_text] q1 with
   | none => rw [hk] at h; cases h
   | some b =>
     obtain ⟨k, q2⟩ := b
     rw [hk] at h
     simp only [Option.bind_some] at h
     obtain ⟨k1, k2⟩ := one3 hk n2
     have hkz : 0 ≤ k ∧ k ≤ 2 ∧ sz [tW (kindW (k + 1))] + sz q2 = sz q1 := by
      rcases k2 with ⟨rfl, h2⟩ | ⟨rfl, h2⟩ | ⟨rfl, h2⟩
      · exact ⟨by decide, by decide, by rw [← h2]; rfl⟩
      · exact ⟨by decide, by decide, by rw [← h2]; rfl⟩
      · exact ⟨by decide, by decide, by rw [← h2]; rfl⟩
     obtain ⟨z0, z2, hkz⟩ := hkz
     obtain ⟨u1, u2⟩ := take_acc w_null q2 k1
     generalize takeP w_null q2 = T1 at h u1 u2
     obtain ⟨b1, q3⟩ := T1
     simp only at h u1 u2
     obtain ⟨v1, v2⟩ := take_acc w_unique q3 u1
     generalize takeP w_unique q3 = T2 at h v1 v2
     obtain ⟨b2, q4⟩ := T2
     simp only at h v1 v2
     obtain ⟨x1, x2⟩ := take_acc w_ref q4 v1
     have hb1 : sz (if b1 then [tW w_null] else []) = if b1 then w_null.length + 1 else 0 := by cases b1 <;> rfl
     have hb2 : sz (if b2 then [tW w_unique] else []) = if b2 then w_unique.length + 1 else 0 := by cases b2 <;> rfl
     split at h
     · rename_i hr
       rw [hr] at x2
       simp only [if_true] at x2
       cases hm : nameP (takeP w_ref q4).2 with
       | none => rw [hm] at h; cases h
       | some c1 =>
         obtain ⟨rf, q5⟩ := c1
         rw [hm] at h
         simp only [Option.bind_some] at h
         obtain ⟨m1, m2, m3⟩ := name_acc hm x1
         cases ho : oneP [w_restrict, w_cascade, w_setnull] q5 with
         | none => rw [ho] at h; cases h
         | some d1 =>
           obtain ⟨ac, q6⟩ := d1
           rw [ho] at h
           simp only [Option.map_some, Option.some.injEq, Prod.mk.injEq] at h
           obtain ⟨rfl, rfl⟩ := h
           obtain ⟨o1, o2⟩ := one3 ho m2
           have hoz : 0 ≤ ac ∧ ac ≤ 2 ∧ sz [tW (actW ac)] + sz q6 = sz q5 := by
            rcases o2 with ⟨rfl, h2⟩ | ⟨rfl, h2⟩ | ⟨rfl, h2⟩
            · exact ⟨by decide, by decide, by rw [← h2]; rfl⟩
            · exact ⟨by decide, by decide, by rw [← h2]; rfl⟩
            · exact ⟨by decide, by decide, by rw [← h2]; rfl⟩
           have hre : rf.toList.isEmpty = false := by
            cases e : rf.toList.isEmpty
            · rfl
            · have := emp_eq e
              subst this
              exact absurd m1 (by decide)
           refine ⟨?_, o1, ?_⟩
           · unfold mayCl
             simp only [hre, Bool.and_eq_true, decide_eq_true_eq, Bool.false_eq_true, if_false]
             exact ⟨n1, by omega, by omega, m1, hoz.1, hoz.2.1⟩
           · unfold clT
             simp only [hre, Bool.false_eq_true, if_false]
             rw [sz_cons, sz_cons, sz_app, sz_app, hb1, hb2]
             have e1 : sz [tW w_ref, tN rf, tW (actW ac)] = w_ref.length + 1 + sz [tN rf] + sz [tW (actW ac)] := by simp [sz, sz_tW]; omega
             have e2 : sz [tN nm] = (txtT (tN nm)).length + 1 := by simp [sz]
             have e3 : sz [tW (kindW (k + 1))] = (txtT (tW (kindW (k + 1)))).length + 1 := by simp [sz]
             rw [e1]
             omega
     · rename_i hr
       simp only [Option.some.injEq, Prod.mk.injEq] at h
       obtain ⟨rfl, rfl⟩ := h
       have hre : emp.toList.isEmpty = true := by kernel_rfl
       refine ⟨?_, v1, ?_⟩
       · unfold mayCl
         simp only [hre, Bool.and_eq_true, decide_eq_true_eq, if_true]
         exact ⟨n1, by omega, by omega, trivial⟩
       · unfold clT
         simp only [hre, if_true, List.append_nil]
         rw [sz_cons, sz_cons, sz_app, hb1, hb2]
         have e2 : sz [tN nm] = (txtT (tN nm)).length + 1 := by simp [sz]
         have e3 : sz [tW (kindW (k + 1))] = (txtT (tW (kindW (k + 1)))).length + 1 := by simp [sz]
         omega
theorem checksF_acc : ∀ (n : Nat) (l r : List Tk) (es : List (List Nd)), checksF n l = some (es, r) → G l → (∀ e ∈ es, mayE e = true ∧ ∀ x ∈ e, N64 x) ∧ G r ∧ sz (es.flatMap fun e => tW w_check :: exprT e) + sz r = sz l
 | 0, _, _, _, h, _ => by cases h
 | n + 1, l, r, es, h, hg => by
   rw [checksF] at h
   obtain ⟨t1, t2⟩ := take_acc w_check l hg
   split at h
   · rename_i hc
     rw [hc] at t2
     simp only [if_true] at t2
     cases he : exprP (takeP w_check l).2 with
     | none => rw [he] at h; cases h
     | some p =>
       obtain ⟨e, q⟩ := p
       rw [he] at h
       simp only [Option.bind_some] at h
       obtain ⟨e1, e2, e3, e4⟩ := expr_acc he t1
       cases hk : checksF n q with
       | none => rw [hk] at h; cases h
       | some p2 =>
         obtain ⟨es2, q2⟩ := p2
         rw [hk] at h
         simp only [Option.map_some, Option.some.injEq, Prod.mk.injEq] at h
         obtain ⟨rfl, rfl⟩ := h
         obtain ⟨k1, k2, k3⟩ := checksF_acc n q q2 es2 hk e3
         refine ⟨fun y hy => ?_, k2, ?_⟩
         · rcases List.mem_cons.1 hy with rfl | hy
           · exact ⟨e1, e2⟩
           · exact k1 y hy
         · rw [List.flatMap_cons, List.cons_append, sz_cons, sz_app, sz_tW]
           omega
   · simp only [Option.some.injEq, Prod.mk.injEq] at h
     obtain ⟨rfl, rfl⟩ := h
     exact ⟨fun x hx => (by cases hx), hg, by simp [sz]⟩
theorem table_acc {l r : List Tk} {t : Tb} (h : tableP l = some (t, r)) (hg : G l) : mayTb t = true ∧ (∀ e ∈ t.checks, ∀ x ∈ e, N64 x) ∧ G r ∧ sz (tbT t) + sz r = sz l := by
 unfold tableP at h
 cases hn : nameP l with
 | none => rw [hn] at h; cases h
 | some a =>
   obtain ⟨nm, q1⟩ := a
   rw [hn] at h
   simp only [Option.bind_some] at h
   obtain ⟨n1, n2, n3⟩ := name_acc hn hg
   cases hl : needP s_lp q1 with
   | none => rw [hl] at h; cases h
   | some q2 =>
     rw [hl] at h
     simp only [Option.bind_some] at h
     obtain ⟨l1, l2⟩ := need_acc hl n2
     cases hc : sepP columnP q2 with
     | none => rw [hc] at h; cases h
     | some b =>
       obtain ⟨cols, q3⟩ := b
       rw [hc] at h
       simp only [Option.bind_some] at h
       obtain ⟨c0, c1, c2, c3⟩ := sepF_acc (f := clT) (V := fun c => mayCl c = true) (fun l r a ha hg => column_acc ha hg) _ _ _ _ hc l1
       cases hr : needP s_rp q3 with
       | none => rw [hr] at h; cases h
       | some q4 =>
         rw [hr] at h
         simp only [Option.bind_some] at h
         obtain ⟨r1, r2⟩ := need_acc hr c2
         cases hk : checksF (q4.length + 1) q4 with
         | none => rw [hk] at h; cases h
         | some b2 =>
           obtain ⟨cks, q5⟩ := b2
           rw [hk] at h
           simp only [Option.bind_some] at h
           obtain ⟨k1, k2, k3⟩ := checksF_acc _ _ _ _ hk r1
           split at h
           · rename_i hle
             simp only [Option.some.injEq, Prod.mk.injEq] at h
             obtain ⟨rfl, rfl⟩ := h
             refine ⟨?_, fun e he => (k1 e he).2, k2, ?_⟩
             · unfold mayTb
               simp only [Bool.and_eq_true, decide_eq_true_eq, List.all_eq_true, Bool.not_eq_true', List.isEmpty_eq_false_iff]
               exact ⟨n1, c0, hle.1, hle.2, c1, fun e he => (k1 e he).1⟩
             · unfold tbT
               have e2 : sz [tN nm] = (txtT (tN nm)).length + 1 := by simp [sz]
               simp only [sz_cons, sz_app, sz_tS]
               omega
           · cases h
theorem agg_acc {l r : List Tk} {a : Ag} (h : aggP l = some (a, r)) (hg : G l) : mayAg a = true ∧ G r ∧ sz (agT a) + sz r = sz l := by
 unfold aggP at h
 cases hf : oneP [w_count, w_sum, w_min, w_max] l with
 | none => rw [hf] at h; cases h
 | some p =>
   obtain ⟨f, q⟩ := p
   rw [hf] at h
   simp only [Option.bind_some] at h
   obtain ⟨g1, g2⟩ := one4 hf hg
   have hfz : 0 ≤ f ∧ f ≤ 3 ∧ sz [tW (fnW f)] + sz q = sz l := by
    rcases g2 with ⟨rfl, h2⟩ | ⟨rfl, h2⟩ | ⟨rfl, h2⟩ | ⟨rfl, h2⟩
    · exact ⟨by decide, by decide, by rw [← h2]; rfl⟩
    · exact ⟨by decide, by decide, by rw [← h2]; rfl⟩
    · exact ⟨by decide, by decide, by rw [← h2]; rfl⟩
    · exact ⟨by decide, by decide, by rw [← h2]; rfl⟩
   have e1 : sz [tW (fnW f)] = (txtT (tW (fnW f))).length + 1 := by simp [sz]
   split at h
   · rename_i h0
     simp only [Option.some.injEq, Prod.mk.injEq] at h
     obtain ⟨rfl, rfl⟩ := h
     subst h0
     refine ⟨by kernel_rfl, g1, ?_⟩
     unfold agT
     simp only [if_true]
     exact hfz.2.2
   · rename_i h0
     cases hc : colP q with
     | none => rw [hc] at h; cases h
     | some p2 =>
       obtain ⟨c, q2⟩ := p2
       rw [hc] at h
       simp only [Option.map_some, Option.some.injEq, Prod.mk.injEq] at h
       obtain ⟨rfl, rfl⟩ := h
       obtain ⟨c1, c2, c3⟩ := col_acc hc g1
       refine ⟨?_, c2, ?_⟩
       · unfold mayAg
         simp only [if_neg h0, Bool.and_eq_true, decide_eq_true_eq]
         exact ⟨hfz.1, hfz.2.1, c1⟩
       · unfold agT
         simp only [if_neg h0]
         rw [sz_cons]
         omega
def joinB (w : ByteArray) (a b : Int) : Bool := if w.toList.isEmpty then decide (a = 0) && decide (b = 0) else nameB w.data.toList && (colB a && colB b)
def joinT (w : ByteArray) (a b : Int) : List Tk := if w.toList.isEmpty then [] else [tW w_join, tN w, tW w_on, intT a, tS s_eq, intT b]
theorem join_acc {l r : List Tk} {w : ByteArray} {a b : Int} (h : joinP l = some ((w, a, b), r)) (hg : G l) : joinB w a b = true ∧ G r ∧ sz (joinT w a b) + sz r = sz l := by
 unfold joinP at h
 obtain ⟨t1, t2⟩ := take_acc w_join l hg
 split at h
 · rename_i hc
   rw [hc] at t2
   simp only [if_true] at t2
   cases hn : nameP (takeP w_join l).2 with
   | none => rw [hn] at h; cases h
   | some p =>
     obtain ⟨nm, q1⟩ := p
     rw [hn] at h
     simp only [Option.bind_some] at h
     obtain ⟨n1, n2, n3⟩ := name_acc hn t1
     cases ho : needP w_on q1 with
     | none => rw [ho] at h; cases h
     | some q2 =>
       rw [ho] at h
       simp only [Option.bind_some] at h
       obtain ⟨o1, o2⟩ := need_acc ho n2
       cases hx : colP q2 with
       | none => rw [hx] at h; cases h
       | some p3 =>
         obtain ⟨x, q3⟩ := p3
         rw [hx] at h
         simp only [Option.bind_some] at h
         obtain ⟨x1, x2, x3⟩ := col_acc hx o1
         cases he : needP s_eq q3 with
         | none => rw [he] at h; cases h
         | some q4 =>
           rw [he] at h
           simp only [Option.bind_some] at h
           obtain ⟨e1, e2⟩ := need_acc he x2
           cases hy : colP q4 with
           | none => rw [hy] at h; cases h
           | some p5 =>
             obtain ⟨y, q5⟩ := p5
             rw [hy] at h
             simp only [Option.map_some, Option.some.injEq, Prod.mk.injEq] at h
             obtain ⟨⟨rfl, rfl, rfl⟩, rfl⟩ := h
             obtain ⟨y1, y2, y3⟩ := col_acc hy e1
             have hre : nm.toList.isEmpty = false := by
              cases e : nm.toList.isEmpty
              · rfl
              · have := emp_eq e
                subst this
                exact absurd n1 (by decide)
             refine ⟨?_, y2, ?_⟩
             · unfold joinB
               simp only [hre, Bool.false_eq_true, if_false, Bool.and_eq_true]
               exact ⟨n1, x1, y1⟩
             · unfold joinT
               simp only [hre, Bool.false_eq_true, if_false]
               have k1 : sz [tN nm] = (txtT (tN nm)).length + 1 := by simp [sz]
               have k2 : sz [intT x] = (txtT (intT x)).length + 1 := by simp [sz]
               have k3 : sz [intT y] = (txtT (intT y)).length + 1 := by simp [sz]
               simp only [sz_cons, sz_tW, sz_tS]
               simp only [sz] at *
               omega
 · simp only [Option.some.injEq, Prod.mk.injEq] at h
   obtain ⟨⟨rfl, rfl, rfl⟩, rfl⟩ := h
   exact ⟨by kernel_rfl, hg, by have e : joinT emp 0 0 = [] := by kernel_rfl
                                rw [e]; simp [sz]⟩
theorem where_acc {l r : List Tk} {e : List Nd} (h : whereP l = some (e, r)) (hg : G l) : mayE e = true ∧ (∀ x ∈ e, N64 x) ∧ G r ∧ sz (if e.isEmpty then [] else tW w_where :: exprT e) + sz r ≤ sz l := by
 unfold whereP at h
 obtain ⟨t1, t2⟩ := take_acc w_where l hg
 split at h
 · rename_i hc
   rw [hc] at t2
   simp only [if_true] at t2
   obtain ⟨e1, e2, e3, e4⟩ := expr_acc h t1
   refine ⟨e1, e2, e3, ?_⟩
   split
   · simp only [sz]; omega
   · rw [sz_cons, sz_tW]; omega
 · simp only [Option.some.injEq, Prod.mk.injEq] at h
   obtain ⟨rfl, rfl⟩ := h
   exact ⟨rfl, fun x hx => (by cases hx), hg, by simp [sz]⟩
theorem picks_acc {l r : List Tk} {pk : List Int} (h : picksP l = some (pk, r)) (hg : G l) : (∀ n ∈ pk, colB n = true) ∧ G r ∧ sz (sepT (fun n => [intT n]) pk) + sz r = sz l := by
 unfold picksP at h
 split at h
 · simp only [Option.some.injEq, Prod.mk.injEq] at h
   obtain ⟨rfl, rfl⟩ := h
   exact ⟨fun x hx => (by cases hx), hg, by simp [sepT, sz]⟩
 · obtain ⟨_, c1, c2, c3⟩ := sepF_acc (f := fun n => [intT n]) (V := fun n => colB n = true) (fun l r a ha hg => col_acc ha hg) _ _ _ _ h hg
   exact ⟨c1, c2, c3⟩
theorem aggs_acc {l r : List Tk} {g : Bool} {ag : List Ag} (h : aggsP l = some ((g, ag), r)) (hg : G l) : (∀ a ∈ ag, mayAg a = true) ∧ (g || ag.isEmpty) = true ∧ G r ∧ sz (grpT g ag) + sz r = sz l := by
 unfold aggsP at h
 obtain ⟨t1, t2⟩ := take_acc w_group l hg
 split at h
 · rename_i hc
   rw [hc] at t2
   simp only [if_true] at t2
   split at h
   · rename_i he
     simp only [Option.some.injEq, Prod.mk.injEq] at h
     obtain ⟨⟨rfl, rfl⟩, rfl⟩ := h
     have := List.isEmpty_iff.1 he
     rw [this] at t2
     refine ⟨fun x hx => (by cases hx), rfl, fun x hx => (by cases hx), ?_⟩
     rw [← t2]
     rfl
   · cases hs : sepP aggP (takeP w_group l).2 with
     | none => rw [hs] at h; cases h
     | some p =>
       obtain ⟨a2, q⟩ := p
       rw [hs] at h
       simp only [Option.map_some, Option.some.injEq, Prod.mk.injEq] at h
       obtain ⟨⟨rfl, rfl⟩, rfl⟩ := h
       obtain ⟨_, c1, c2, c3⟩ := sepF_acc (f := agT) (V := fun a => mayAg a = true) (fun l r a ha hg => agg_acc ha hg) _ _ _ _ hs t1
       refine ⟨c1, rfl, c2, ?_⟩
       unfold grpT
       simp only [if_true]
       rw [sz_cons, sz_tW]
       omega
 · simp only [Option.some.injEq, Prod.mk.injEq] at h
   obtain ⟨⟨rfl, rfl⟩, rfl⟩ := h
   exact ⟨fun x hx => (by cases hx), rfl, hg, by simp [grpT, sz]⟩
theorem view_acc {l r : List Tk} {v : Vw} (h : viewP l = some (v, r)) (hg : G l) : mayVw v = true ∧ (∀ x ∈ v.whr, N64 x) ∧ G r ∧ sz (vwT v) + sz r ≤ sz l := by
 unfold viewP at h
 cases hn : nameP l with
 | none => rw [hn] at h; cases h
 | some a =>
   obtain ⟨nm, q1⟩ := a
   rw [hn] at h
   simp only [Option.bind_some] at h
   obtain ⟨n1, n2, n3⟩ := name_acc hn hg
   cases hf : needP w_from q1 with
   | none => rw [hf] at h; cases h
   | some q2 =>
     rw [hf] at h
     simp only [Option.bind_some] at h
     obtain ⟨f1, f2⟩ := need_acc hf n2
     cases hm : nameP q2 with
     | none => rw [hm] at h; cases h
     | some b =>
       obtain ⟨fr, q3⟩ := b
       rw [hm] at h
       simp only [Option.bind_some] at h
       obtain ⟨m1, m2, m3⟩ := name_acc hm f1
       cases hj : joinP q3 with
       | none => rw [hj] at h; cases h
       | some c =>
         obtain ⟨⟨wt, x, y⟩, q4⟩ := c
         rw [hj] at h
         simp only [Option.bind_some] at h
         obtain ⟨j1, j2, j3⟩ := join_acc hj m2
         cases hw : whereP q4 with
         | none => rw [hw] at h; cases h
         | some d =>
           obtain ⟨e, q5⟩ := d
           rw [hw] at h
           simp only [Option.bind_some] at h
           obtain ⟨w1, w2, w3, w4⟩ := where_acc hw j2
           cases hp : needP w_pick q5 with
           | none => rw [hp] at h; cases h
           | some q6 =>
             rw [hp] at h
             simp only [Option.bind_some] at h
             obtain ⟨p1, p2⟩ := need_acc hp w3
             cases hk : picksP q6 with
             | none => rw [hk] at h; cases h
             | some g0 =>
               obtain ⟨pk, q7⟩ := g0
               rw [hk] at h
               simp only [Option.bind_some] at h
               obtain ⟨k1, k2, k3⟩ := picks_acc hk p1
               cases hq : aggsP q7 with
               | none => rw [hq] at h; cases h
               | some g3 =>
                 obtain ⟨⟨gr, ag⟩, q8⟩ := g3
                 rw [hq] at h
                 simp only [Option.bind_some] at h
                 obtain ⟨a1, a2, a3, a4⟩ := aggs_acc hq k2
                 split at h
                 · rename_i hle
                   simp only [Option.some.injEq, Prod.mk.injEq] at h
                   obtain ⟨rfl, rfl⟩ := h
                   refine ⟨?_, w2, a3, ?_⟩
                   · unfold mayVw
                     simp only [Bool.and_eq_true, decide_eq_true_eq, List.all_eq_true]
                     exact ⟨n1, m1, j1, w1, hle.1, k1, hle.2, a1, a2⟩
                   · have k1 : sz [tN nm] = (txtT (tN nm)).length + 1 := by simp [sz]
                     have k2 : sz [tN fr] = (txtT (tN fr)).length + 1 := by simp [sz]
                     have hv : vwT ⟨nm, fr, wt, x, y, e, pk, gr, ag⟩ = tN nm :: tW w_from :: tN fr :: (joinT wt x y ++ ((if e.isEmpty then [] else tW w_where :: exprT e) ++ tW w_pick :: (sepT (fun n => [intT n]) pk ++ grpT gr ag))) := rfl
                     rw [hv]
                     simp only [sz_cons, sz_app, sz_tW]
                     omega
                 · cases h
theorem parse_acc {l : List Tk} {d : Df} (h : parseD l = some d) (hg : G l) : MayD d ∧ D64 d ∧ sz (toksD d) ≤ sz l := by
 unfold parseD at h
 cases ho : oneP [w_table, w_view] l with
 | none => rw [ho] at h; cases h
 | some p =>
   obtain ⟨k, q⟩ := p
   rw [ho] at h
   simp only [Option.bind_some] at h
   obtain ⟨g1, g2⟩ := one2 ho hg
   split at h
   · rename_i h0
     rcases g2 with ⟨_, g2⟩ | ⟨h1, _⟩
     · cases ht : tableP q with
       | none => rw [ht] at h; cases h
       | some a =>
         obtain ⟨t, r⟩ := a
         rw [ht] at h
         simp only [Option.bind_some] at h
         obtain ⟨t1, t2, t3, t4⟩ := table_acc ht g1
         split at h
         · simp only [Option.some.injEq] at h
           subst h
           refine ⟨.inl ⟨rfl, t1, rfl⟩, ⟨t2, fun x hx => (by cases hx)⟩, ?_⟩
           unfold toksD
           simp only [if_true]
           rw [sz_cons, sz_tW]
           omega
         · cases h
     · omega
   · rename_i h0
     rcases g2 with ⟨h1, _⟩ | ⟨_, g2⟩
     · omega
     · cases ht : viewP q with
       | none => rw [ht] at h; cases h
       | some a =>
         obtain ⟨v, r⟩ := a
         rw [ht] at h
         simp only [Option.bind_some] at h
         obtain ⟨t1, t2, t3, t4⟩ := view_acc ht g1
         split at h
         · simp only [Option.some.injEq] at h
           subst h
           refine ⟨.inr ⟨rfl, rfl, t1⟩, ⟨fun e he => (by cases he), t2⟩, ?_⟩
           unfold toksD
           rw [if_neg (by simp), sz_cons, sz_tW]
           dsimp only
           omega
         · cases h
end Go.Proofs.YtjgpmnffagdhlaaGreatDoor
namespace Go.Proofs.YtjgpmnffagdhlaaGreatDoor
open Go
set_option maxRecDepth 100000
theorem quo_cost : ∀ (l : List UInt8) (b : Bool) (u q : List UInt8), quoF b l = some (u, q) → (sub1 39 [39, 39] u).length + (if b then 0 else 1) + q.length = l.length
 | [], false, u, q, h => by simp [quoF] at h
 | [], true, u, q, h => by simp [quoF] at h; simp [h.1, h.2, sub1]
 | c :: l, false, u, q, h => by
   rw [quoF] at h
   split at h
   · have := quo_cost l true u q h
     simp only [if_true] at this
     simp only [Bool.false_eq_true, if_false, List.length_cons]; omega
   · rename_i hc
     cases e : quoF false l with
     | none => rw [e] at h; cases h
     | some p =>
       rw [e] at h
       simp only [Option.map_some, Option.some.injEq, Prod.mk.injEq] at h
       have := quo_cost l false p.1 p.2 e
       simp only [Bool.false_eq_true, if_false] at this
       rw [← h.1, ← h.2, sub1, if_neg hc]
       simp only [Bool.false_eq_true, if_false, List.length_cons]; omega
 | c :: l, true, u, q, h => by
   rw [quoF] at h
   split at h
   · rename_i hc
     cases e : quoF false l with
     | none => rw [e] at h; cases h
     | some p =>
       rw [e] at h
       simp only [Option.map_some, Option.some.injEq, Prod.mk.injEq] at h
       have := quo_cost l false p.1 p.2 e
       simp only [Bool.false_eq_true, if_false] at this
       rw [← h.1, ← h.2, sub1, if_pos rfl]
       simp only [if_true, List.length_append, List.length_cons, List.length_nil]; omega
   · simp only [Option.some.injEq, Prod.mk.injEq] at h
     rw [← h.1, ← h.2]
     simp [sub1]
theorem num_txt {w : List UInt8} {t : Tk} (h : numT w = some t) : txtT t = w := by
 unfold numT at h
 split at h
 · split at h
   · rename_i v _ hv
     simp only [Option.some.injEq] at h
     subst h
     have e : txtT (intT v) = Lib.itoa v := rfl
     rw [e, hv]
   · cases h
 · cases h
theorem take_drop_len (p : UInt8 → Bool) (l : List UInt8) : (l.takeWhile p).length + (l.dropWhile p).length = l.length := by
 have := congrArg List.length (List.takeWhile_append_dropWhile (p := p) (l := l))
 rwa [List.length_append] at this
theorem tok_cost {l : List UInt8} {t : Tk} {q : List UInt8} (h : tokL l = some (t, q)) : (txtT t).length + q.length = l.length := by
 cases l with
 | nil => cases h
 | cons c l =>
   rw [tokL] at h
   split at h
   · simp only [Option.some.injEq, Prod.mk.injEq] at h
     rw [← h.1, ← h.2]
     exact take_drop_len inn (c :: l)
   split at h
   · cases e : numT ((c :: l).takeWhile dig) with
     | none => rw [e] at h; cases h
     | some u =>
       rw [e] at h
       simp only [Option.map_some, Option.some.injEq, Prod.mk.injEq] at h
       rw [← h.1, ← h.2, num_txt e]
       exact take_drop_len dig (c :: l)
   split at h
   · cases e : quoF false l with
     | none => rw [e] at h; cases h
     | some p =>
       rw [e] at h
       simp only [Option.map_some, Option.some.injEq, Prod.mk.injEq] at h
       have hc := quo_cost l false p.1 p.2 e
       simp only [Bool.false_eq_true, if_false] at hc
       have et : txtT (strT p.1) = 39 :: (sub1 39 [39, 39] p.1 ++ [39]) := rfl
       rw [← h.1, ← h.2, et]
       simp only [List.length_cons, List.length_append, List.length_nil]
       omega
   split at h
   · split at h
     · simp only [Option.some.injEq, Prod.mk.injEq] at h
       rw [← h.1, ← h.2]
       show 1 + l.length = l.length + 1
       omega
     · cases e : numT (c :: l.takeWhile dig) with
       | none => rw [e] at h; cases h
       | some u =>
         rw [e] at h
         simp only [Option.map_some, Option.some.injEq, Prod.mk.injEq] at h
         rw [← h.1, ← h.2, num_txt e]
         have := take_drop_len dig l
         simp only [List.length_cons]
         omega
   split at h
   · simp only [Option.some.injEq, Prod.mk.injEq] at h
     rw [← h.1, ← h.2]
     show 1 + l.length = l.length + 1
     omega
   · cases h
def tl : List Tk → Nat
 | [] => 0
 | t :: r => (txtT t).length + tl r
theorem lex_cost : ∀ (n : Nat) (s : List UInt8) (a : List Tk), s.length ≤ n → lexL s = some a → tl a ≤ s.length
 | n, [], a, _, h => by
   rw [lex_nil] at h
   simp only [Option.some.injEq] at h
   rw [← h]; exact Nat.zero_le _
 | 0, c :: s, a, hn, _ => by simp at hn
 | n + 1, c :: s, a, hn, h => by
   rw [List.length_cons] at hn
   by_cases hc : cls c = 1
   · rw [lex_blank hc] at h
     have := lex_cost n s a (by omega) h
     rw [List.length_cons]; omega
   · rw [lex_tok hc] at h
     cases e : tokL (c :: s) with
     | none => rw [e] at h; cases h
     | some p =>
       obtain ⟨u, q⟩ := p
       have hq := tok_lt e
       have hk := tok_cost e
       rw [List.length_cons] at hq
       rw [e] at h
       simp only at h
       split at h
       · cases e3 : lexL q with
         | none => rw [e3] at h; cases h
         | some b =>
           rw [e3] at h
           simp only [Option.map_some, Option.some.injEq] at h
           have := lex_cost n q b (by omega) e3
           rw [← h, tl]
           omega
       · cases h
theorem sz_tl : ∀ l : List Tk, G l → sz l ≤ 2 * tl l
 | [], _ => Nat.zero_le _
 | t :: r, hg => by
   have ih := sz_tl r hg.tail
   have h1 := txt_ne t hg.head.1 hg.head.2
   have h2 : 1 ≤ (txtT t).length := List.length_pos_iff.2 h1
   rw [sz, tl]
   omega
theorem print_sz : ∀ l : List Tk, (printL l).length ≤ sz l
 | [] => Nat.le_refl _
 | [t] => by rw [print_one, sz]; omega
 | t :: u :: l => by
   have ih := print_sz (u :: l)
   rw [print_cons t (u :: l) (by simp), sz, List.length_append, List.length_cons]
   omega
theorem read_print {s : List UInt8} {a : List Tk} {d : Df} (hs : lexL s = some a) (hp : parseD a = some d) : MayD d ∧ D64 d ∧ (printL (toksD d)).length ≤ 2 * s.length := by
 have hm := lex_may s.length s a (Nat.le_refl _) hs
 have hg : G a := fun t ht => hm t ht
 obtain ⟨h1, h2, h3⟩ := parse_acc hp hg
 have h4 := sz_tl a hg
 have h5 := lex_cost s.length s a (Nat.le_refl _) hs
 have h6 := print_sz (toksD d)
 exact ⟨h1, h2, by omega⟩
end Go.Proofs.YtjgpmnffagdhlaaGreatDoor
namespace Go.Proofs.YtjgpmnffagdhlaaGreatDoor
open Go
set_option maxRecDepth 100000
theorem name_len {l r : List Tk} {a : ByteArray} (h : nameP l = some (a, r)) : r.length < l.length := by
 cases l with
 | nil => cases h
 | cons t q =>
   rw [nameP] at h
   split at h
   · simp at h; rw [← h.2]; simp
   · cases h
theorem col_len {l r : List Tk} {a : Int} (h : colP l = some (a, r)) : r.length < l.length := by
 cases l with
 | nil => cases h
 | cons t q =>
   rw [colP] at h
   split at h
   · simp at h; rw [← h.2]; simp
   · cases h
theorem need_len {s : List UInt8} {l r : List Tk} (h : needP s l = some r) : r.length < l.length := by
 cases l with
 | nil => cases h
 | cons t q =>
   rw [needP] at h
   split at h
   · simp at h; rw [← h]; simp
   · cases h
theorem take_len (s : List UInt8) (l : List Tk) : (takeP s l).2.length ≤ l.length ∧ ((takeP s l).1 = true → (takeP s l).2.length < l.length) := by
 cases l with
 | nil => exact ⟨Nat.le_refl _, fun h => by cases h⟩
 | cons t q =>
   rw [takeP]
   split
   · simp
   · exact ⟨Nat.le_refl _, fun h => by cases h⟩
theorem one_len {ws : List (List UInt8)} {l r : List Tk} {a : Int} (h : oneP ws l = some (a, r)) : r.length < l.length := by
 cases l with
 | nil => cases h
 | cons t q =>
   rw [oneP] at h
   cases e : oneF ws 0 t with
   | none => rw [e] at h; cases h
   | some i => rw [e] at h; simp at h; rw [← h.2]; simp
theorem step_len {l r : List Tk} {x : Nd} (h : stepP l = some (x, r)) : r.length < l.length := by
 cases l with
 | nil => cases h
 | cons t q =>
   have ht := (take_len s_qm q).1
   rw [stepP] at h
   split at h
   · split at h
     · simp at h; rw [← h.2]; simp; omega
     · simp at h; rw [← h.2]; simp
   split at h
   · simp at h; rw [← h.2]; simp
   split at h
   · simp at h; rw [← h.2]; simp
   split at h
   · simp at h; rw [← h.2]; simp
   split at h
   · simp at h; rw [← h.2]; simp
   split at h
   · cases e : cnum t.t.data.toList with
     | none => rw [e] at h; cases h
     | some n => rw [e] at h; simp at h; rw [← h.2]; simp
   · cases h
theorem exprF_fuel : ∀ (n m : Nat) (l : List Tk), l.length < n → l.length < m → exprF n l = exprF m l
 | 0, _, _, h, _ => by omega
 | _, 0, _, _, h => by omega
 | n + 1, m + 1, [], _, _ => rfl
 | n + 1, m + 1, t :: r, hn, hm => by
   rw [exprF, exprF]
   split
   · rfl
   · cases e : stepP (t :: r) with
     | none => rfl
     | some p =>
       have := step_len (x := p.1) (r := p.2) e
       simp only [Option.bind_some]
       rw [exprF_fuel n m p.2 (by simp at this hn; omega) (by simp at this hm; omega)]
def exprG (l : List Tk) : Option (List Nd × List Tk) := exprF (l.length + 1) l
theorem exprG_eq (l : List Tk) : exprG l = if (takeP s_rb l).1 then some ([], (takeP s_rb l).2) else (stepP l).bind fun p => (exprG p.2).map fun q => (p.1 :: q.1, q.2) := by
 cases l with
 | nil => rfl
 | cons t r =>
   unfold exprG
   rw [exprF, takeP]
   cases isW s_rb t
   · simp only [Bool.false_eq_true, if_false]
     cases e : stepP (t :: r) with
     | none => rfl
     | some p =>
       have := step_len (x := p.1) (r := p.2) e
       simp only [Option.bind_some]
       rw [exprF_fuel _ (p.2.length + 1) p.2 this (by omega)]
   · rfl
theorem exprG_len : ∀ (n : Nat) (l r : List Tk) (e : List Nd), l.length ≤ n → exprG l = some (e, r) → r.length < l.length ∧ e.length + r.length < l.length
 | 0, [], _, _, _, h => by rw [exprG_eq] at h; cases h
 | 0, _ :: _, _, _, hn, _ => by simp at hn
 | n + 1, l, r, e, hn, h => by
   rw [exprG_eq] at h
   have ht := take_len s_rb l
   cases hq : (takeP s_rb l).1
   · rw [hq] at h
     simp only [Bool.false_eq_true, if_false] at h
     cases hs : stepP l with
     | none => rw [hs] at h; cases h
     | some p =>
       rw [hs] at h
       simp only [Option.bind_some] at h
       have h1 := step_len (x := p.1) (r := p.2) hs
       cases hg : exprG p.2 with
       | none => rw [hg] at h; cases h
       | some q =>
         rw [hg] at h
         simp at h
         have := exprG_len n p.2 q.2 q.1 (by omega) hg
         rw [← h.1, ← h.2]
         simp; omega
   · rw [hq] at h
     simp at h
     have := ht.2 hq
     rw [h.1, ← h.2]
     simp; omega
theorem exprP_eq (l : List Tk) : exprP l = (needP s_lb l).bind fun r => (exprG r).bind fun p => if p.1.length ≤ 100 then some p else none := rfl
theorem expr_len {l r : List Tk} {e : List Nd} (h : exprP l = some (e, r)) : r.length < l.length := by
 rw [exprP_eq] at h
 cases hn : needP s_lb l with
 | none => rw [hn] at h; cases h
 | some q =>
   rw [hn] at h
   simp only [Option.bind_some] at h
   have h1 := need_len hn
   cases hg : exprG q with
   | none => rw [hg] at h; cases h
   | some p =>
     rw [hg] at h
     simp only [Option.bind_some] at h
     split at h
     · simp at h
       have := exprG_len _ q p.2 p.1 (Nat.le_refl _) hg
       rw [h] at this
       simp at this
       omega
     · cases h
def tailG {α : Type} (p : List Tk → Option (α × List Tk)) (l : List Tk) : Option (List α × List Tk) := if (takeP s_cm l).1 then sepP p (takeP s_cm l).2 else some ([], l)
theorem sepF_fuel {α : Type} {p : List Tk → Option (α × List Tk)} (hp : ∀ l a, p l = some a → a.2.length ≤ l.length) : ∀ (n m : Nat) (l : List Tk), l.length < n → l.length < m → sepF p n l = sepF p m l
 | 0, _, _, h, _ => by omega
 | _, 0, _, _, h => by omega
 | n + 1, m + 1, l, hn, hm => by
   rw [sepF, sepF]
   cases e : p l with
   | none => rfl
   | some a =>
     have h1 := hp l a e
     have h2 := take_len s_cm a.2
     simp only [Option.bind_some]
     cases hq : (takeP s_cm a.2).1
     · rfl
     · have h3 := h2.2 hq
       simp only [if_true]
       rw [sepF_fuel hp n m _ (by omega) (by omega)]
theorem sepP_eq {α : Type} {p : List Tk → Option (α × List Tk)} (hp : ∀ l a, p l = some a → a.2.length ≤ l.length) (l : List Tk) : sepP p l = (p l).bind fun a => (tailG p a.2).map fun q => (a.1 :: q.1, q.2) := by
 unfold sepP
 rw [sepF]
 cases e : p l with
 | none => rfl
 | some a =>
   have h1 := hp l a e
   have h2 := take_len s_cm a.2
   simp only [Option.bind_some]
   unfold tailG
   cases hq : (takeP s_cm a.2).1
   · rfl
   · have h3 := h2.2 hq
     simp only [if_true]
     unfold sepP
     rw [sepF_fuel hp _ ((takeP s_cm a.2).2.length + 1) _ (by omega) (by omega)]
def checksG (l : List Tk) : Option (List (List Nd) × List Tk) := checksF (l.length + 1) l
theorem checksF_fuel : ∀ (n m : Nat) (l : List Tk), l.length < n → l.length < m → checksF n l = checksF m l
 | 0, _, _, h, _ => by omega
 | _, 0, _, _, h => by omega
 | n + 1, m + 1, l, hn, hm => by
   rw [checksF, checksF]
   have h1 := take_len w_check l
   cases hq : (takeP w_check l).1
   · rfl
   · simp only [if_true]
     have h2 := h1.2 hq
     cases e : exprP (takeP w_check l).2 with
     | none => rfl
     | some p =>
       have h3 := expr_len (e := p.1) (r := p.2) e
       simp only [Option.bind_some]
       rw [checksF_fuel n m p.2 (by omega) (by omega)]
theorem checksG_eq (l : List Tk) : checksG l = if (takeP w_check l).1 then (exprP (takeP w_check l).2).bind fun e => (checksG e.2).map fun q => (e.1 :: q.1, q.2) else some ([], l) := by
 unfold checksG
 rw [checksF]
 have h1 := take_len w_check l
 cases hq : (takeP w_check l).1
 · rfl
 · simp only [if_true]
   have h2 := h1.2 hq
   cases e : exprP (takeP w_check l).2 with
   | none => rfl
   | some p =>
     have h3 := expr_len (e := p.1) (r := p.2) e
     simp only [Option.bind_some]
     rw [checksF_fuel _ (p.2.length + 1) p.2 (by omega) (by omega)]
theorem column_len {l : List Tk} {a : Cl × List Tk} (h : columnP l = some a) : a.2.length < l.length := by
 unfold columnP at h
 cases e1 : nameP l with
 | none => rw [e1] at h; cases h
 | some x =>
   rw [e1] at h
   simp only [Option.bind_some] at h
   have h1 := name_len (a := x.1) (r := x.2) e1
   cases e2 : oneP [w_bool, w_int, w_text] x.2 with
   | none => rw [e2] at h; cases h
   | some k =>
     rw [e2] at h
     simp only [Option.bind_some] at h
     have h2 := one_len (a := k.1) (r := k.2) e2
     have h3 := (take_len w_null k.2).1
     have h4 := (take_len w_unique (takeP w_null k.2).2).1
     have h5 := (take_len w_ref (takeP w_unique (takeP w_null k.2).2).2).1
     split at h
     · cases e3 : nameP (takeP w_ref (takeP w_unique (takeP w_null k.2).2).2).2 with
       | none => rw [e3] at h; cases h
       | some y =>
         rw [e3] at h
         simp only [Option.bind_some] at h
         have h6 := name_len (a := y.1) (r := y.2) e3
         cases e4 : oneP [w_restrict, w_cascade, w_setnull] y.2 with
         | none => rw [e4] at h; cases h
         | some z =>
           rw [e4] at h
           simp at h
           have h7 := one_len (a := z.1) (r := z.2) e4
           rw [← h]
           simp only; omega
     · simp at h
       rw [← h]
       simp only; omega
theorem agg_len {l : List Tk} {a : Ag × List Tk} (h : aggP l = some a) : a.2.length < l.length := by
 unfold aggP at h
 cases e1 : oneP [w_count, w_sum, w_min, w_max] l with
 | none => rw [e1] at h; cases h
 | some f =>
   rw [e1] at h
   simp only [Option.bind_some] at h
   have h1 := one_len (a := f.1) (r := f.2) e1
   split at h
   · simp at h; rw [← h]; simp only; omega
   · cases e2 : colP f.2 with
     | none => rw [e2] at h; cases h
     | some c =>
       rw [e2] at h
       simp at h
       have h2 := col_len (a := c.1) (r := c.2) e2
       rw [← h]; simp only; omega
end Go.Proofs.YtjgpmnffagdhlaaGreatDoor
namespace Go.Proofs.YtjgpmnffagdhlaaGreatDoor
open Go Go.RowKit
set_option maxRecDepth 100000
theorem nOk : ElOk Tryz.prog 28 66 5 48 nd0.w rdN where
 under := Tryz.underlying28
 info := by kernel_rfl
 zs := rfl
 pos := by decide
 len := fun _ => rfl
 one := fun x u hu => by
  simp [rdN] at hu
  rcases hu with rfl | rfl | rfl | rfl | rfl <;> rfl
theorem take_no {s : List UInt8} {l : List Tk} (h : (takeP s l).1 = false) : (takeP s l).2 = l := by
 cases l with
 | nil => rfl
 | cons t r =>
   rw [takeP] at h ⊢
   cases e : isW s t
   · rfl
   · rw [e] at h; cases h
def ExprS (b : Nat) (w : World) (o : Option (List Nd × List Tk)) (e : Ending) (w' : World) : Prop := match o with
 | none => e = .panicked (boom 70) ∧ Apb b w w'
 | some q => ∃ v, e = .returned v ∧ OwnG w' w.heap.size 66 5 rdN v q.1 ∧ Rq w' b q.2 ∧ Apb b w w'
set_option maxHeartbeats 4000000 in
theorem expr_cR (b : Nat) (l : List Tk) (w : World) (hR : Rq w b l) (hG : GL w) (hGb : GLt b) :
 Calls Tryz.prog 147 #[.pointer (some ⟨b, 0, none⟩)] w fun e w' => ExprS b w (exprP l) e w' := by
 have hbs := hR.lt
 have HM := Lib.hid (must1_c b w.heap.size l s_lb (by decide) w rfl hR)
 have HG := Lib.hid hG
 have Hgb := Lib.hid hGb
 rw [exprP_eq]
 obtain ⟨S, hS⟩ : ∃ S, ExprS b w ((needP s_lb l).bind fun r => (exprG r).bind fun p => if p.1.length ≤ 100 then some p else none) = S := ⟨_, rfl⟩
 rw [hS]
 have HS := Lib.hid hS
 clear hR hG hGb hS
 go_enter Tryz.func147, Tryz.ntmps147
 go_wp2_with fail
 refine HM.out.mono ?_
 rintro e w1 hm
 cases hn : needP s_lb l with
 | none =>
   rw [hn] at hm HS
   obtain ⟨rfl, hb⟩ := hm
   refine ⟨rfl, ?_⟩
   rw [← HS.out]
   exact ⟨rfl, hb⟩
 | some r0 =>
   rw [hn] at hm HS
   obtain ⟨rfl, hr, hb⟩ := hm
   have Hr := Lib.hid hr
   have Hb := Lib.hid hb
   clear hn hr hb HM
   go_wp2_with fail
   go_loopw [3] (fun v wr => ∃ (acc : List Nd) (rest : List Tk), Hid (OwnG wr w.heap.size 66 5 rdN v acc) ∧ Hid (Rq wr b rest) ∧ Hid (Apb b w wr) ∧ Hid (exprG r0 = (exprG rest).map fun q => (acc ++ q.1, q.2)) ∧ Hid (acc.length + rest.length ≤ 20000)) (fun _ wr => rqLen wr b)
   case atStart => exact ⟨[], r0, OwnG.nil _ _ _, Hr, Hb, Lib.hid (by cases exprG r0 <;> rfl), by have := Hr.out.len; simpa using Lib.hid this⟩
   case round =>
    obtain ⟨acc, rest, ho, hr, hb, he, hlen⟩ := hrel
    have hsz : w.heap.size ≤ wr.heap.size := hb.out.size
    have HH := Lib.hid (has1_c b wr.heap.size rest s_rb (by decide) wr rfl hr.out)
    have hml := hr.out.left
    have HL := Lib.hid hml
    have hap := exprG_eq rest
    clear hml
    cases hq : (takeP s_rb rest).1
    · rw [hq] at HH hap
      rw [take_no hq] at HH
      simp only [Bool.false_eq_true, if_false] at hap
      have Hap := Lib.hid hap
      clear hq hap
      go_wp2_with fail
      refine HH.out.mono ?_
      rintro e w2 ⟨rfl, hr2, hb2⟩
      have HO2 := Lib.hid (ho.out.kept hb2 hbs)
      have HR2 := Lib.hid hr2
      have HB2 := Lib.hid (hb.out.trans hb2)
      have HG2 := Lib.hid (HG.out.below ((hb.out.trans hb2).below hbs) Hgb.out)
      clear hr2 hb2 HH ho hb hr
      go_wp2_with fail
      refine (step_cR b rest w2 HR2.out HG2.out Hgb.out).mono ?_
      rintro e w3 hst
      cases hs : stepP rest with
      | none =>
        rw [hs] at hst Hap
        obtain ⟨rfl, hb3⟩ := hst
        refine ⟨rfl, ?_⟩
        rw [← HS.out]
        simp only [Option.bind_some, he.out, Hap.out, Option.bind_none, Option.map_none]
        exact ⟨rfl, HB2.out.trans hb3⟩
      | some q =>
        rw [hs] at hst Hap
        obtain ⟨rfl, hr3, hb3⟩ := hst
        have hlt := step_len (x := q.1) (r := q.2) hs
        have HO3 := Lib.hid (HO2.out.kept hb3 hbs)
        have HR3 := Lib.hid hr3
        have HB3 := Lib.hid (HB2.out.trans hb3)
        have hsz3 : w.heap.size ≤ w3.heap.size := HB3.out.size
        have Hlt := Lib.hid hlt
        have hbl := hr3.lt
        obtain ⟨x, rest'⟩ := q
        clear hs hr3 hb3 HO2 HR2 HB2 HG2 hlt
        have hln := hlen.out
        clear hlen
        go_wp2_with (at_builtin; go_must (
         refine wpList_appG nOk rfl (.tmp 11) (.tmp 14) rfl w.heap.size _ acc [x] (some ⟨w3.heap.size, 0, none⟩) 1 1 rfl (HO3.out.alloc _) rfl rfl (SlG.new nOk.len [x] rfl) (by simp [maxLen]; omega) (by simp; omega) (by simp; omega) ?_
         intro v4 w4 hv4 hg4
         have HO4 := Lib.hid hv4
         have HR4 := Lib.hid (show Rq w4 b rest' from HR3.out.same fun k hk => (hg4.block k (by simp; omega) (fun e => by have := (HO3.out.lt _ e.symm).1; omega)).trans (Below.heap_alloc _ _ k (by omega)))
         have HB4 := Lib.hid ((HB3.out.alloc _).grown hg4 (fun k hk => by have := (HO3.out.lt k hk).1; omega))
         clear hv4 hg4))
        go_roundw
        case rel =>
         refine ⟨acc ++ [x], rest', HO4, HR4, HB4, ?_, ?_⟩
         · rw [he.out, Hap.out]
           simp only [Option.bind_some]
           refine Lib.hid ?_
           cases exprG rest' with
           | none => rfl
           | some z => simp
         · have := Hlt.out
           refine Lib.hid ?_
           simp at this ⊢; omega
        case measure =>
         have h1 := HR4.out.left
         have h2 := HL.out
         have h3 : rest'.length < rest.length := Hlt.out
         omega
    · rw [hq] at HH hap
      simp only [if_true] at hap
      have Hap := Lib.hid hap
      clear hq hap
      go_wp2_with fail
      refine HH.out.mono ?_
      rintro e w2 ⟨rfl, hr2, hb2⟩
      have HO2 := Lib.hid (ho.out.kept hb2 hbs)
      have HR2 := Lib.hid hr2
      have HB2 := Lib.hid (hb.out.trans hb2)
      obtain ⟨A, c, hv⟩ := ho.out.isSlice
      have hS : S = ExprS b w (if acc.length ≤ 100 then some (acc, (takeP s_rb rest).2) else none) := by
       rw [← HS.out]
       simp only [Option.bind_some, he.out, Hap.out, Option.map_some, List.append_nil]
      have HSS := Lib.hid hS
      have hln := hlen.out
      clear hr2 hb2 HH hb hr hlen ho HS he Hap hS
      subst hv
      by_cases h100 : acc.length ≤ 100
      · rw [if_pos h100] at HSS
        have hd : decide ((acc.length : Int) ≤ 100) = true := by simp; omega
        go_wp2_with fail
        refine (req_yes _).mono ?_
        rintro e w3 ⟨rfl, rfl⟩
        go_wp2
        rw [HSS.out]
        exact ⟨_, rfl, HO2.out, HR2.out, HB2.out⟩
      · rw [if_neg h100] at HSS
        have hd : decide ((acc.length : Int) ≤ 100) = false := by simp; omega
        go_wp2_with fail
        refine (req_no _).mono ?_
        rintro e w3 ⟨rfl, rfl⟩
        refine ⟨rfl, ?_⟩
        rw [HSS.out]
        exact ⟨rfl, HB2.out⟩
def Ts (w : World) (b : Nat) (ss : List ByteArray) : Prop := w.heap[b]? = some (.cells (ss.map Value.string).toArray 9 (0, 0))
theorem Ts.lt {w : World} {b : Nat} {ss : List ByteArray} (h : Ts w b ss) : b < w.heap.size := by
 rcases Nat.lt_or_ge b w.heap.size with hlt | hge
 · exact hlt
 · unfold Ts at h; rw [Array.getElem?_eq_none hge] at h; cases h
theorem Ts.after {w w' : World} {b : Nat} {ss : List ByteArray} (h : Ts w b ss) (hb : Below w.heap.size w w') : Ts w' b ss := (hb.block b h.lt).trans h
theorem Ts.cell {w : World} {b : Nat} {ss : List ByteArray} (h : Ts w b ss) (i : Nat) (s : ByteArray) (hk : ss[i]? = some s) : w.cell? ⟨b, i, none⟩ = some (.string s) := by
 unfold Ts at h; simp [World.cell?, h, hk]
theorem Ts.frozen {w : World} {b : Nat} {ss : List ByteArray} (h : Ts w b ss) (i : Nat) : w.frozen? ⟨b, i, none⟩ = false := by unfold Ts at h; simp [World.frozen?, h]
theorem Ts.set {w : World} {b : Nat} {ss : List ByteArray} (h : Ts w b ss) (i : Nat) (s : ByteArray) : Ts (w.setCell ⟨b, i, none⟩ (.string s)) b (ss.set i s) := by
 unfold Ts at *
 simp [World.setCell, Array.getElem?_modify, h, List.map_set]
theorem strInfo : (Tryz.prog.info? 9).map (fun i => (i.zero, i.size, i.bytes)) = some (some (.string emp), 1, 16) := by kernel_rfl
theorem make_strs (n : Nat) (hn : n ≤ 1000000) (w : World) : (Instr.makeSlice 76 (.int .i64 n) (.int .i64 n)).run Tryz.prog w = .ok (.slice (some ⟨w.heap.size, 0, none⟩) n n) (w.alloc (.cells ((List.replicate n emp).map Value.string).toArray 9)) := by
 obtain ⟨i0, hi, hz0, hz1, hz2⟩ := info_parts strInfo
 have h := run_make (P := Tryz.prog) w 76 9 i0 (.string emp) Tryz.underlying76 hi hz0 .i64 .i64 n n (by omega) (by omega) (by rw [hz2]; omega) (by omega)
 rw [h, hz1, Int.toNat_natCast, Nat.mul_one]
 have e : madeCells (Value.string emp).cells n = ((List.replicate n emp).map Value.string).toArray := by
  have h1 : (madeCells #[.string emp] n).toList = List.replicate n (.string emp) := toList_madeCells_one _ _
  rw [List.map_replicate, ← h1]
  rfl
 rw [e]
section
variable (wd : Nd → ByteArray)
def halfT (e : List Nd) (k : Nat) : List ByteArray := (e.take k).map wd ++ List.replicate (e.length - k) emp
theorem halfT_zero (e : List Nd) : halfT wd e 0 = List.replicate e.length emp := by simp [halfT]
theorem halfT_full (e : List Nd) (k : Nat) (h : e.length ≤ k) : halfT wd e k = e.map wd := by
 unfold halfT
 rw [List.take_of_length_le h, show e.length - k = 0 by omega]
 simp
theorem halfT_len (e : List Nd) (k : Nat) (h : k ≤ e.length) : (halfT wd e k).length = e.length := by simp [halfT]; omega
theorem halfT_step (e : List Nd) (k : Nat) (x : Nd) (h : e[k]? = some x) : (halfT wd e k).set k (wd x) = halfT wd e (k + 1) := by
 have hlt : k < e.length := (List.getElem?_eq_some_iff.1 h).1
 unfold halfT
 have hl : ((e.take k).map wd).length = k := by simp; omega
 rw [List.set_append_right _ _ (by omega), hl, Nat.sub_self, List.take_add_one, h, show e.length - k = (e.length - (k + 1)) + 1 by omega, List.replicate_succ]
 simp
end
def textR (wd : Nd → ByteArray) (e : List Nd) : ByteArray := ⟨(Lib.join ((e.map wd).map (·.data.toList)) [32]).toArray⟩
set_option maxHeartbeats 4000000 in
theorem etext_c (wd : Nd → ByteArray) (A : Option Addr) (n c : Nat) (e : List Nd) (w : World) (hn : e.length = n) (h0 : 0 < n) (hmax : n ≤ 120) (hs : SlG w A 5 rdN e) (hlen : (Lib.join ((e.map wd).map (·.data.toList)) [32]).length ≤ 140737488355328)
 (hw : ∀ x ∈ e, ∀ w', Below w.heap.size w w' → Calls Tryz.prog 202 #[x.w] w' fun en w'' => en = .returned (.string (wd x)) ∧ Below w'.heap.size w' w'') :
 Calls Tryz.prog 186 #[.slice A n c] w fun en w' => en = .returned (.string (textR wd e)) ∧ Below w.heap.size w w' := by
 have hmk := make_strs n (by omega)
 have Hn := Lib.hid hn
 have Hs := Lib.hid hs
 have Hw := Lib.hid hw
 have Hl := Lib.hid hlen
 obtain ⟨R, hR⟩ : ∃ R, textR wd e = R := ⟨_, rfl⟩
 rw [hR]
 have HR := Lib.hid hR
 clear hn hs hw hR hlen
 obtain ⟨O, hO⟩ : ∃ O : Obj, O = .cells ((List.replicate n emp).map Value.string).toArray 9 := ⟨_, rfl⟩
 rw [← hO] at hmk
 have HO := Lib.hid hO
 clear hO
 go_enter Tryz.func186, Tryz.ntmps186
 go_wp2_with fail
 have hT : Ts (w.alloc O) w.heap.size (halfT wd e 0) := by
  rw [halfT_zero, Hn.out, HO.out]
  show (w.heap.push _)[w.heap.size]? = _
  simp
 have HT := Lib.hid hT
 have HB := Lib.hid (below_one w O)
 clear hT hmk
 generalize w.alloc O = w0 at HT HB ⊢
 go_loopw [11] (fun i wr => ∃ k : Nat, k ≤ n ∧ i = .int .i64 k ∧ Hid (Ts wr w.heap.size (halfT wd e k)) ∧ Hid (Below w.heap.size w wr)) (fun i _ => n - (intOf i).toNat)
 case atStart => exact ⟨0, Nat.zero_le _, rfl, HT, HB⟩
 case round =>
  obtain ⟨k, hk, rfl, hT, hbr⟩ := hrel
  by_cases hlt' : k < n
  · obtain ⟨x, hx⟩ : ∃ x, e[k]? = some x := ⟨e[k]'(by rw [Hn.out]; exact hlt'), List.getElem?_eq_getElem _⟩
    rcases Hs.out with h0 | ⟨b, off, rfl, hlt, hc⟩
    · rw [h0] at hx; simp at hx
    have hc1 := hc k x hx
    have d0 := (hbr.out.cell (p := ⟨b, off + k * 5, none⟩) hlt).trans (hc1 0 _ rfl)
    have d1 := (hbr.out.cell (p := ⟨b, off + k * 5 + 1, none⟩) hlt).trans (hc1 1 _ rfl)
    have d2 := (hbr.out.cell (p := ⟨b, off + k * 5 + 2, none⟩) hlt).trans (hc1 2 _ rfl)
    have d3 := (hbr.out.cell (p := ⟨b, off + k * 5 + 3, none⟩) hlt).trans (hc1 3 _ rfl)
    have d4 := (hbr.out.cell (p := ⟨b, off + k * 5 + 4, none⟩) hlt).trans (hc1 4 _ rfl)
    have Hstep := Lib.hid (halfT_step wd e k x hx)
    obtain ⟨y, hy⟩ : ∃ y, (halfT wd e k)[k]? = some y := ⟨(halfT wd e k)[k]'(by rw [halfT_len wd e k (by rw [Hn.out]; exact hk), Hn.out]; exact hlt'), List.getElem?_eq_getElem _⟩
    have Hy := Lib.hid hy
    have Hcall := Lib.hid (Hw.out x (List.mem_of_getElem? hx))
    clear hc1 hc hx hy
    go_wp2_with fail
    refine (Hcall.out _ (hbr.out.alloc hbr.out.size _)).mono ?_
    rintro en w1 ⟨rfl, hb1⟩
    have hb2 : Below wr.heap.size wr w1 := (below_one _ _).trans (hb1.mono (by simp))
    have T1 := hT.out.after hb2
    have HB1 := Lib.hid (hbr.out.trans (hb2.mono hbr.out.size))
    have t0 := T1.cell k y Hy.out
    have t1 := T1.frozen k
    have t2 := T1.lt
    obtain ⟨s, hs⟩ : ∃ s, wd x = s := ⟨_, rfl⟩
    rw [hs] at Hstep ⊢
    have HT1 := Lib.hid T1
    clear T1 hb1 hb2 hT hbr d0 d1 d2 d3 d4 Hcall hs
    go_wp2
    go_roundw
    case rel =>
     refine ⟨k + 1, by omega, by go_num, Lib.hid ?_, Lib.hid ?_⟩
     · rw [← Hstep.out]
       exact HT1.out.set k s
     · exact HB1.out.setCell (p := ⟨w.heap.size, k, none⟩) (Nat.le_refl _) _
    case measure => simp [intOf]; omega
  · have hkn : k = n := by omega
    have hT' := hT.out
    rw [halfT_full wd e k (by rw [Hn.out]; omega)] at hT'
    have hJ := Tryz.strings_Join w.heap.size 0 n (e.map wd) ⟨#[32]⟩ wr (fun j x hx => by rw [Nat.zero_add]; exact hT'.cell j x hx) hT'.lt (by rw [List.length_map, Hn.out]; omega) (by rw [List.length_map, Hn.out]; exact Nat.le_refl _) Hl.out
    rw [List.length_map, Hn.out] at hJ
    have HJ := Lib.hid hJ
    clear hT' hT hJ
    go_wp2_with fail
    refine HJ.out.mono ?_
    rintro en w1 ⟨rfl, hb1⟩
    have HB1 := Lib.hid (hbr.out.trans (hb1.mono hbr.out.size))
    have hR := HR.out
    unfold textR at hR
    rw [hR]
    clear hb1 hbr hR HJ
    go_wp2
    go_ret
    exact ⟨rfl, HB1.out⟩
def opL : List (List UInt8) := [[], [], [43], [45], [42], [61], [60], [97, 110, 100], [111, 114], [110, 111, 116], [110, 117, 108, 108, 63]]
def wordL (x : Nd) : List UInt8 := if x.op = 0 then 99 :: Lib.itoa x.n else if x.op = 1 then textL x.v else if x.op < 0 ∨ 11 ≤ x.op then [63] else opL.getD x.op.toNat []
def OpT (w : World) : Prop := ∀ i s, opL[i]? = some s → w.cell? ⟨7, i, none⟩ = some (.string (ba s))
theorem OpT.lt {w : World} (h : OpT w) : 7 < w.heap.size := World.block_lt_of_cell? _ _ (h 0 [] rfl)
theorem OpT.below {w w' : World} {B : Nat} (h : OpT w) (hb : Below B w w') (hB : 7 < B) : OpT w' := fun i s hs => (hb.cell (p := ⟨7, i, none⟩) hB).trans (h i s hs)
set_option maxHeartbeats 4000000 in
theorem word_op (op n : Int) (v : Val) (k : Nat) (hk : op = k) (h2 : 2 ≤ k) (h11 : k < 11) (w : World) (hT : OpT w) :
 Calls Tryz.prog 202 #[(⟨op, n, v⟩ : Nd).w] w fun e w' => e = .returned (.string (ba (opL.getD k []))) ∧ Below w.heap.size w w' := by
 have hlt := hT.lt
 obtain ⟨s, hs⟩ : ∃ s, opL[k]? = some s := ⟨_, List.getElem?_eq_getElem (by show k < 11; exact h11)⟩
 have hg : opL.getD k [] = s := by simp [hs]
 rw [hg]
 have d := hT k s hs
 obtain ⟨u, hu⟩ : ∃ u : ByteArray, ba s = u := ⟨_, rfl⟩
 rw [hu] at d ⊢
 obtain ⟨a, b, c⟩ := v
 clear hs hg hu hT
 have hc : k = 2 ∨ k = 3 ∨ k = 4 ∨ k = 5 ∨ k = 6 ∨ k = 7 ∨ k = 8 ∨ k = 9 ∨ k = 10 := by omega
 clear h2 h11
 subst hk
 rcases hc with rfl | rfl | rfl | rfl | rfl | rfl | rfl | rfl | rfl
 all_goals
  go_enter Tryz.func202, Tryz.ntmps202
  go_wp2
  go_ret
  exact ⟨rfl, below_one _ _⟩
set_option maxHeartbeats 4000000 in
theorem word_out (op n : Int) (v : Val) (h : op < 0 ∨ 11 ≤ op) (w : World) :
 Calls Tryz.prog 202 #[(⟨op, n, v⟩ : Nd).w] w fun e w' => e = .returned (.string ⟨#[63]⟩) ∧ Below w.heap.size w w' := by
 obtain ⟨a, b, c⟩ := v
 rcases h with h | h
 · have h0 : decide (op < 0) = true := by simpa using h
   have h1 : ¬ op = 0 := by omega
   have h2 : ¬ op = 1 := by omega
   go_enter Tryz.func202, Tryz.ntmps202
   go_wp2
   go_ret
   exact ⟨rfl, below_one _ _⟩
 · have h0 : decide (op < 0) = false := by simp; omega
   have h3 : decide (op ≥ 11) = true := by simp; omega
   have h1 : ¬ op = 0 := by omega
   have h2 : ¬ op = 1 := by omega
   go_enter Tryz.func202, Tryz.ntmps202
   go_wp2
   go_ret
   exact ⟨rfl, below_one _ _⟩
set_option maxHeartbeats 4000000 in
theorem word_col (n : Int) (v : Val) (hn : -9223372036854775808 ≤ n ∧ n ≤ 9223372036854775807) (w : World) (hG : Gl w) :
 Calls Tryz.prog 202 #[(⟨0, n, v⟩ : Nd).w] w fun e w' => e = .returned (.string (ba (99 :: Lib.itoa n))) ∧ Below w.heap.size w w' := by
 obtain ⟨a, b, c⟩ := v
 have HI := Lib.hid (Tryz.strconv_Itoa n hn.1 hn.2 (w.alloc (.cells #[.int .i64 0, .int .i64 n, .int .i64 a, .int .i64 b, .string c] 66)) (hG.after (below_one w _)).tab)
 clear hG
 go_enter Tryz.func202, Tryz.ntmps202
 go_wp2_with fail
 refine HI.out.mono ?_
 rintro e w1 ⟨rfl, k, os, hw⟩
 have Hb := Lib.hid (show Below _ _ w1 by rw [hw]; exact below_grow _ k os)
 have hln := itoa_len n hn
 obtain ⟨t, ht⟩ : ∃ t, Lib.itoa n = t := ⟨_, rfl⟩
 rw [ht] at hln ⊢
 obtain ⟨u, hu⟩ : ∃ u : ByteArray, (⟨t.toArray⟩ : ByteArray) = u := ⟨_, rfl⟩
 have hus : u.size ≤ 21 := by rw [← hu]; exact hln
 rw [hu]
 have Hu := Lib.hid hu
 have Ht := Lib.hid ht
 clear ht HI hw hu hln
 go_wp2
 go_ret
 exact ⟨by rw [← Hu.out, Ht.out]; congr 2, (below_one _ _).trans (Hb.out.mono (by simp))⟩
set_option maxHeartbeats 4000000 in
theorem word_val (n : Int) (v : Val) (hv : -9223372036854775808 ≤ v.n ∧ v.n ≤ 9223372036854775807) (hs : v.s.size ≤ 2000) (w : World) (hG : Gl w) :
 Calls Tryz.prog 202 #[(⟨1, n, v⟩ : Nd).w] w fun e w' => e = .returned (.string (ba (textL v))) ∧ Below w.heap.size w w' := by
 obtain ⟨a, b, c⟩ := v
 have HI := Lib.hid (text_c ⟨a, b, c⟩ (w.alloc (.cells #[.int .i64 1, .int .i64 n, .int .i64 a, .int .i64 b, .string c] 66)) hv hs (hG.after (below_one w _)))
 obtain ⟨t, ht⟩ : ∃ t, textL ⟨a, b, c⟩ = t := ⟨_, rfl⟩
 rw [ht] at HI ⊢
 clear hG ht
 go_enter Tryz.func202, Tryz.ntmps202
 go_wp2_with fail
 refine HI.out.mono ?_
 rintro e w1 ⟨rfl, hb⟩
 have Hb := Lib.hid hb
 clear HI hb
 go_wp2
 go_ret
 exact ⟨rfl, (below_one _ _).trans (Hb.out.mono (by simp))⟩
end Go.Proofs.YtjgpmnffagdhlaaGreatDoor
namespace Go.Proofs.YtjgpmnffagdhlaaGreatDoor
open Go Go.RowKit
set_option maxRecDepth 100000
def NdOk (x : Nd) : Prop := (-9223372036854775808 ≤ x.n ∧ x.n ≤ 9223372036854775807) ∧ (-9223372036854775808 ≤ x.v.n ∧ x.v.n ≤ 9223372036854775807) ∧ x.v.s.size ≤ 2000
theorem nword_c (x : Nd) (hx : NdOk x) (w : World) (hG : Gl w) (hT : OpT w) :
 Calls Tryz.prog 202 #[x.w] w fun e w' => e = .returned (.string (ba (wordL x))) ∧ Below w.heap.size w w' := by
 obtain ⟨op, n, v⟩ := x
 obtain ⟨h1, h2, h3⟩ := hx
 unfold wordL
 simp only
 by_cases e0 : op = 0
 · subst e0; exact word_col n v h1 w hG
 · rw [if_neg e0]
   by_cases e1 : op = 1
   · subst e1; exact word_val n v h2 h3 w hG
   · rw [if_neg e1]
     by_cases e2 : op < 0 ∨ 11 ≤ op
     · rw [if_pos e2]; exact word_out op n v e2 w
     · rw [if_neg e2]
       obtain ⟨k, rfl⟩ : ∃ k : Nat, op = k := ⟨op.toNat, by omega⟩
       rw [Int.toNat_natCast]
       exact word_op k n v k rfl (by omega) (by omega) w hT
def stepW (x : Nd) : List (List UInt8) := if x.op = 10 then [w_null, s_qm] else [wordL x]
structure Gw (B : Nat) (w : World) : Prop where
 gl : GL w
 op : OpT w
 lt : GLt B
 o : 7 < B
theorem Gw.below {B : Nat} {w w' : World} (h : Gw B w) (hb : Below B w w') : Gw B w' := ⟨h.gl.below hb h.lt, h.op.below hb h.o, h.lt, h.o⟩
theorem wordL_len (x : Nd) (hx : NdOk x) : (wordL x).length ≤ 10000 := by
 obtain ⟨op, n, v⟩ := x
 obtain ⟨h1, h2, h3⟩ := hx
 unfold wordL
 simp only
 by_cases e0 : op = 0
 · rw [if_pos e0]
   have := itoa_len n h1
   simp; omega
 · rw [if_neg e0]
   by_cases e1 : op = 1
   · rw [if_pos e1]
     exact Nat.le_trans (text_len v h2 h3) (by omega)
   · rw [if_neg e1]
     by_cases e2 : op < 0 ∨ 11 ≤ op
     · rw [if_pos e2]; simp
     · rw [if_neg e2]
       have : op.toNat = 2 ∨ op.toNat = 3 ∨ op.toNat = 4 ∨ op.toNat = 5 ∨ op.toNat = 6 ∨ op.toNat = 7 ∨ op.toNat = 8 ∨ op.toNat = 9 ∨ op.toNat = 10 := by omega
       rcases this with h | h | h | h | h | h | h | h | h <;> rw [h] <;> decide
theorem Wk.then {B b C : Nat} {u v w : World} (h : Wk B b u v) (k : Below C v w) (hC : v.heap.size ≤ C) (hB : B ≤ v.heap.size) : Wk B b u w :=
 ⟨h.below.trans (k.mono (by omega)), h.other.trans fun i o hi _ _ => (k.block i (Nat.lt_of_lt_of_le (Array.getElem?_eq_some_iff.1 hi).1 hC)).trans hi⟩
theorem WS.from {B b : Nat} {u v w : World} {o : Option (List UInt8)} {e : Ending} (h : Wk B b u v) (s : WS B b v o e w) : WS B b u o e w := by
 cases o with
 | none => exact ⟨s.1, h.trans s.2⟩
 | some l => exact ⟨s.1, s.2.1, s.2.2.1, h.trans s.2.2.2⟩
theorem Ws.new (w : World) (b : Nat) (ws : List (List UInt8)) (cs : Array Value) (hcs : cs = (ws.map fun s => Value.string (ba s)).toArray) (hb : b < w.heap.size) (k : Nat) (hk : k = w.heap.size) : Ws (w.alloc (.cells cs 9)) k b ws := by
 subst hcs hk
 exact ⟨Bk.new w _ _, by omega⟩
set_option maxHeartbeats 4000000 in
theorem step_w (B b : Nat) (l : List UInt8) (x : Nd) (w : World) (hw : Wr w B b l) (hl : l.length ≤ 20000) (hG : Gw B w) (hx : NdOk x) :
 Calls Tryz.prog 167 #[.pointer (some ⟨b, 0, none⟩), x.w] w (WS B b w (addW l (stepW x))) := by
 obtain ⟨S, hS⟩ : ∃ S, WS B b w (addW l (stepW x)) = S := ⟨_, rfl⟩
 rw [hS]
 have HS := Lib.hid hS
 have HW := Lib.hid hw
 have HG := Lib.hid hG
 have Hx := Lib.hid hx
 have HL := Lib.hid hl
 have hbw := hw.lt
 have hBw := hw.le
 clear hS hw hG hx hl
 obtain ⟨op, n, v, m, s⟩ := x
 by_cases h10 : op = 10
 · subst h10
   go_enter Tryz.func167, Tryz.ntmps167
   go_wp2_with fail
   refine (add_c B b (w.heap.size + 1) l [w_null, s_qm] 2 _ ((HW.out.alloc _).alloc _) HL.out (Ws.new (w.alloc _) b [w_null, s_qm] _ rfl (by simp; omega) _ (by simp)) rfl (by omega) (by intro s hs; simp at hs; rcases hs with rfl | rfl <;> decide)).mono ?_
   rintro e w5 hs
   have hs := WS.from (((Wk.refl B b w).alloc hBw _).alloc (by simp; omega) _) hs
   have ho : addW l (stepW ⟨10, n, v, m, s⟩) = addW l [w_null, s_qm] := rfl
   rw [ho] at HS
   clear ho
   cases ho : addW l [w_null, s_qm] with
   | none =>
     rw [ho] at hs HS
     obtain ⟨rfl, hk⟩ := hs
     refine ⟨rfl, ?_⟩
     rw [← HS.out]
     exact ⟨rfl, hk⟩
   | some q =>
     rw [ho] at hs HS
     obtain ⟨rfl, h2⟩ := hs
     have H2 := Lib.hid h2
     clear h2
     go_wp2
     go_end0
     rw [← HS.out]
     exact ⟨rfl, H2.out⟩
 · obtain ⟨y, hy⟩ : ∃ y : Nd, y = ⟨op, n, v, m, s⟩ := ⟨_, rfl⟩
   obtain ⟨t, ht⟩ : ∃ t, wordL ⟨op, n, v, m, s⟩ = t := ⟨_, rfl⟩
   have hto := wordL_len _ Hx.out
   rw [ht] at hto
   have ho : addW l (stepW ⟨op, n, v, m, s⟩) = addW l [t] := by unfold stepW; rw [if_neg h10, ht]
   rw [ho] at HS
   have hR : textR (fun x => ba (wordL x)) [⟨op, n, v, m, s⟩] = ba t := by
    unfold textR
    rw [List.map_cons, List.map_nil, ht]
    simp [Lib.join, ba]
   have Ht := Lib.hid ht
   have Hto := Lib.hid hto
   have HR := Lib.hid hR
   have HE := Lib.hid (fun (u : World) (hu : Below B w u) (A : Addr) (hs : SlG u (some A) 5 rdN [(⟨op, n, v, m, s⟩ : Nd)]) => etext_c (fun x => ba (wordL x)) (some A) 1 1 [⟨op, n, v, m, s⟩] u rfl (by omega) (by omega) hs (by
    rw [List.map_cons, List.map_nil, ht]
    simp [Lib.join, ba]; omega) (fun x hx u2 hu2 => by
     have hx : x = ⟨op, n, v, m, s⟩ := by simpa using hx
     subst hx
     have hg := (HG.out.below hu).below (hu2.mono (Nat.le_trans hBw hu.size))
     exact nword_c _ Hx.out u2 hg.gl.gl hg.op))
   clear hy ho hR ht hto
   go_enter Tryz.func167, Tryz.ntmps167
   go_wp2_with fail
   refine (HE.out _ (((Below.refl B w).alloc hBw _).alloc (by simp; omega) _) ⟨w.heap.size + 1, 0, none⟩ (SlG.newAt (by simp) nOk.len [(⟨op, n, v, m, s⟩ : Nd)] rfl)).mono ?_
   rintro e w5 ⟨rfl, hb5⟩
   rw [HR.out]
   have hb5' : Below (w.heap.size) w w5 := ((below_one w _).trans ((below_one _ _).mono (by simp))).trans (hb5.mono (by simp; omega))
   have hsz5 := hb5'.size
   have HB5 := Lib.hid hb5'
   have HW5 := Lib.hid (HW.out.after hb5')
   have HK5 := Lib.hid ((Wk.refl B b w).then hb5' (Nat.le_refl _) hBw)
   obtain ⟨u, hu⟩ : ∃ u, ba t = u := ⟨_, rfl⟩
   rw [hu]
   have Hu := Lib.hid hu
   clear hb5 hb5' HE hu
   go_wp2_with fail
   refine (add_c B b w5.heap.size l [t] 1 _ (HW5.out.alloc _) HL.out (Ws.new w5 b [t] _ (by rw [← Hu.out]; rfl) (by omega) _ rfl) rfl (by omega) (by intro s hs; simp at hs; subst hs; have := Hto.out; omega)).mono ?_
   rintro e w6 hs
   have hs := WS.from (HK5.out.alloc (by omega) _) hs
   cases ho : addW l [t] with
   | none =>
     rw [ho] at hs HS
     obtain ⟨rfl, hk⟩ := hs
     refine ⟨rfl, ?_⟩
     rw [← HS.out]
     exact ⟨rfl, hk⟩
   | some q =>
     rw [ho] at hs HS
     obtain ⟨rfl, h2⟩ := hs
     have H2 := Lib.hid h2
     clear h2
     go_wp2
     go_end0
     rw [← HS.out]
     exact ⟨rfl, H2.out⟩
theorem addW_app : ∀ (a c : List (List UInt8)) (l : List UInt8), addW l (a ++ c) = (addW l a).bind fun q => addW q c
 | [], c, l => rfl
 | s :: a, c, l => by
   rw [List.cons_append, addW, addW]
   split
   · exact addW_app a c _
   · rfl
def exprW (e : List Nd) : List (List UInt8) := s_lb :: (e.flatMap stepW ++ [s_rb])
set_option maxHeartbeats 4000000 in
theorem expr_w (B b : Nat) (l : List UInt8) (e : List Nd) (A : Option Addr) (n c : Nat) (w : World) (hw : Wr w B b l) (hl : l.length ≤ 20000) (hG : Gw B w) (hx : ∀ x ∈ e, NdOk x) (hn : e.length = n) (hm : n ≤ maxLen) (hs : ∀ u, Below B w u → SlG u A 5 rdN e) :
 Calls Tryz.prog 122 #[.pointer (some ⟨b, 0, none⟩), .slice A n c] w (WS B b w (addW l (exprW e))) := by
 obtain ⟨S, hS⟩ : ∃ S, WS B b w (addW l (exprW e)) = S := ⟨_, rfl⟩
 rw [hS]
 have HS := Lib.hid hS
 have HW := Lib.hid hw
 have HG := Lib.hid hG
 have Hx := Lib.hid hx
 have HL := Lib.hid hl
 have Hn := Lib.hid hn
 have Hs := Lib.hid hs
 have hbw := hw.lt
 have hBw := hw.le
 unfold maxLen at hm
 clear hS hw hG hx hl hn hs
 go_enter Tryz.func122, Tryz.ntmps122
 go_wp2_with fail
 refine (add_c B b w.heap.size l [s_lb] 1 _ (HW.out.alloc _) HL.out (Ws.new w b [s_lb] _ rfl hbw _ rfl) rfl (by omega) (by intro s hs; simp at hs; subst hs; decide)).mono ?_
 rintro en w1 hs1
 have hs1 := WS.from ((Wk.refl B b w).alloc hBw _) hs1
 have ho : addW l (exprW e) = (addW l [s_lb]).bind fun q => addW q (e.flatMap stepW ++ [s_rb]) := addW_app [s_lb] _ l
 cases h1 : addW l [s_lb] with
 | none =>
   rw [h1] at hs1 ho
   obtain ⟨rfl, hk⟩ := hs1
   refine ⟨rfl, ?_⟩
   rw [← HS.out, ho]
   exact ⟨rfl, hk⟩
 | some l1 =>
   rw [h1] at hs1 ho
   obtain ⟨rfl, hw1, hl1, hk1⟩ := hs1
   have Ho := Lib.hid ho
   have HW1 := Lib.hid hw1
   have HL1 := Lib.hid hl1
   have HK1 := Lib.hid hk1
   clear h1 ho hw1 hl1 hk1 HW
   go_wp2_with fail
   go_loopw [11] (fun i wr => ∃ (k : Nat) (lc : List UInt8), k ≤ n ∧ i = .int .i64 k ∧ Hid (Wr wr B b lc) ∧ Hid (lc.length ≤ 20000) ∧ Hid (Wk B b w wr) ∧ Hid (addW l (exprW e) = addW lc ((e.drop k).flatMap stepW ++ [s_rb]))) (fun i _ => n - (intOf i).toNat)
   case atStart => exact ⟨0, l1, Nat.zero_le _, rfl, HW1, HL1, HK1, Ho⟩
   case round =>
    obtain ⟨k, lc, hk, rfl, hwr, hlc, hkr, he⟩ := hrel
    have hbr := hwr.out.lt
    have hBr := hwr.out.le
    by_cases hlt : k < n
    · obtain ⟨x, hx⟩ : ∃ x, e[k]? = some x := ⟨_, List.getElem?_eq_getElem (by rw [Hn.out]; exact hlt)⟩
      have hsr := Hs.out wr hkr.out.below
      obtain ⟨c2, off, hA, hc2, hcell⟩ : ∃ c2 off, A = some ⟨c2, off, none⟩ ∧ c2 < wr.heap.size ∧ ∀ i x, e[i]? = some x → ∀ j u, (rdN x)[j]? = some u → wr.cell? ⟨c2, off + i * 5 + j, none⟩ = some u := by
       rcases hsr with h | h
       · rw [h] at hx; simp at hx
       · exact h
      subst hA
      have d0 := hcell k x hx 0 _ rfl
      have d1 := hcell k x hx 1 _ rfl
      have d2 := hcell k x hx 2 _ rfl
      have d3 := hcell k x hx 3 _ rfl
      have d4 := hcell k x hx 4 _ rfl
      simp only [Nat.add_zero] at d0
      have hok := Hx.out x (List.mem_of_getElem? hx)
      have hdr : e.drop k = x :: e.drop (k + 1) := by
       rw [List.drop_eq_getElem_cons (by rw [Hn.out]; exact hlt)]
       congr 1
       rw [List.getElem?_eq_getElem (by rw [Hn.out]; exact hlt)] at hx
       exact Option.some.inj hx
      have he2 := he.out
      rw [hdr, List.flatMap_cons, List.append_assoc, addW_app] at he2
      have He2 := Lib.hid he2
      have Hok := Lib.hid hok
      clear hcell hsr hx hdr he he2 hok
      go_wp2_with fail
      refine (step_w B b lc x _ (hwr.out.alloc _) hlc.out ((HG.out.below hkr.out.below).below ((Below.refl B wr).alloc hBr _)) Hok.out).mono ?_
      rintro en w5 hs5
      have hs5 := WS.from (hkr.out.alloc hBr _) hs5
      cases h5 : addW lc (stepW x) with
      | none =>
        have he5 := He2.out
        rw [h5] at hs5 he5
        obtain ⟨rfl, hk5⟩ := hs5
        refine ⟨rfl, ?_⟩
        rw [← HS.out, he5]
        exact ⟨rfl, hk5⟩
      | some l5 =>
        have he5 := He2.out
        rw [h5] at hs5 he5
        obtain ⟨rfl, hw5, hl5, hk5⟩ := hs5
        have HW5 := Lib.hid hw5
        have HL5 := Lib.hid hl5
        have HK5 := Lib.hid hk5
        have He5 := Lib.hid he5
        clear h5 hw5 hl5 hk5 he5 He2 d0 d1 d2 d3 d4
        go_wp2_with fail
        go_roundw
        case rel => exact ⟨k + 1, l5, hlt, by simp, HW5, HL5, HK5, He5⟩
        case measure => simp [intOf]; omega
    · obtain rfl : k = n := by omega
      have he2 := he.out
      rw [List.drop_eq_nil_of_le (by rw [Hn.out]; exact Nat.le_refl _), List.flatMap_nil, List.nil_append] at he2
      have He2 := Lib.hid he2
      clear he he2
      go_wp2_with fail
      refine (add_c B b wr.heap.size lc [s_rb] 1 _ (hwr.out.alloc _) hlc.out (Ws.new wr b [s_rb] _ rfl hbr _ rfl) rfl (by omega) (by intro s hs; simp at hs; subst hs; decide)).mono ?_
      rintro en w6 hs6
      have hs6 := WS.from (hkr.out.alloc hBr _) hs6
      rw [← He2.out, HS.out] at hs6
      have H6 := hs6
      rw [← HS.out] at hs6
      cases h6 : addW l (exprW e) with
      | none =>
        rw [h6] at hs6
        obtain ⟨rfl, hk6⟩ := hs6
        exact ⟨rfl, H6⟩
      | some l6 =>
        rw [h6] at hs6
        obtain ⟨rfl, h6b⟩ := hs6
        have HH6 := Lib.hid H6
        clear h6 h6b H6
        go_wp2
        go_end0
        exact HH6.out
set_option maxHeartbeats 4000000 in
theorem number_w (B b : Nat) (l : List UInt8) (n : Int) (w : World) (hw : Wr w B b l) (hl : l.length ≤ 20000) (hG : Gw B w) (hn : -9223372036854775808 ≤ n ∧ n ≤ 9223372036854775807) :
 Calls Tryz.prog 124 #[.pointer (some ⟨b, 0, none⟩), .int .i64 n] w (WS B b w (addW l [Lib.itoa n])) := by
 have hln := itoa_len n hn
 have HI := Lib.hid (Tryz.strconv_Itoa n hn.1 hn.2 w hG.gl.gl.tab)
 obtain ⟨t, ht⟩ : ∃ t, Lib.itoa n = t := ⟨_, rfl⟩
 rw [ht] at HI hln ⊢
 obtain ⟨S, hS⟩ : ∃ S, WS B b w (addW l [t]) = S := ⟨_, rfl⟩
 rw [hS]
 obtain ⟨u, hu⟩ : ∃ u : ByteArray, (⟨t.toArray⟩ : ByteArray) = u := ⟨_, rfl⟩
 rw [hu] at HI
 have Hu := Lib.hid (show ba t = u from hu)
 have HS := Lib.hid hS
 have HW := Lib.hid hw
 have HL := Lib.hid hl
 have Hln := Lib.hid hln
 have hbw := hw.lt
 have hBw := hw.le
 clear hS hw hG hl ht hu hln
 go_enter Tryz.func124, Tryz.ntmps124
 go_wp2_with fail
 refine HI.out.mono ?_
 rintro e w1 ⟨rfl, k, os, hw1⟩
 have hb1 : Below w.heap.size w w1 := by rw [hw1]; exact below_grow _ k os
 have hz1 := hb1.size
 have HW1 := Lib.hid (HW.out.after hb1)
 have HK1 := Lib.hid ((Wk.refl B b w).then hb1 (Nat.le_refl _) hBw)
 clear hw1 hb1 HI
 go_wp2_with fail
 refine (add_c B b w1.heap.size l [t] 1 _ (HW1.out.alloc _) HL.out (Ws.new w1 b [t] _ (by rw [← Hu.out]; rfl) (by omega) _ rfl) rfl (by omega) (by intro s hs; simp at hs; subst hs; have := Hln.out; omega)).mono ?_
 rintro e w6 hs
 have hs := WS.from (HK1.out.alloc (by omega) _) hs
 have H6 := hs
 rw [HS.out] at H6
 cases ho : addW l [t] with
 | none =>
   rw [ho] at hs
   obtain ⟨rfl, hk⟩ := hs
   exact ⟨rfl, H6⟩
 | some q =>
   rw [ho] at hs
   obtain ⟨rfl, h2⟩ := hs
   have HH := Lib.hid H6
   clear h2 H6
   go_wp2
   go_end0
   exact HH.out
def chW (a : Int) (ws : List (List UInt8)) : Option (List (List UInt8)) := if 0 ≤ a ∧ a < ws.length then some [ws.getD a.toNat []] else none
theorem WS.out {B b : Nat} {w w' : World} {o : Option (List UInt8)} {e : Ending} {S : Ending → World → Prop} (h : WS B b w o e w') (hS : WS B b w o = S) : (e = .panicked (boom 70) ∧ S (.panicked (boom 70)) w') ∨ (e = .returned (.tuple #[]) ∧ S (.returned (.tuple #[])) w') := by
 subst hS
 have h2 := h
 cases o with
 | none => obtain ⟨rfl, _⟩ := h2; exact .inl ⟨rfl, h⟩
 | some q => obtain ⟨rfl, _⟩ := h2; exact .inr ⟨rfl, h⟩
set_option maxHeartbeats 4000000 in
theorem choice_w (B b k0 : Nat) (l : List UInt8) (a : Int) (ws : List (List UInt8)) (nw : Nat) (w : World) (hw : Wr w B b l) (hl : l.length ≤ 20000) (hW : Ws w k0 b ws) (hnw : ws.length = nw) (hmw : nw ≤ 1000) (hsm : ∀ s ∈ ws, s.length ≤ 1000) :
 Calls Tryz.prog 82 #[.pointer (some ⟨b, 0, none⟩), .int .i64 a, .slice (some ⟨k0, 0, none⟩) nw nw] w (WS B b w ((chW a ws).bind (addW l))) := by
 obtain ⟨S, hS⟩ : ∃ S, WS B b w ((chW a ws).bind (addW l)) = S := ⟨_, rfl⟩
 rw [hS]
 have HS := Lib.hid hS
 have HW := Lib.hid hw
 have HL := Lib.hid hl
 have HWs := Lib.hid hW
 have Hn := Lib.hid hnw
 have Hsm := Lib.hid hsm
 have hbw := hw.lt
 have hBw := hw.le
 clear hS hw hl hW hnw hsm
 by_cases h0 : a < 0
 · have hd : decide (a ≥ 0) = false := by simp; omega
   have ho : chW a ws = none := by unfold chW; rw [if_neg (by omega)]
   rw [ho] at HS
   clear ho
   go_enter Tryz.func82, Tryz.ntmps82
   go_wp2_with fail
   refine (req_c _ _).mono ?_
   rintro e w6 ⟨rfl, hw9⟩
   obtain rfl := hw9.symm
   refine ⟨rfl, ?_⟩
   rw [← HS.out]
   exact ⟨rfl, Wk.refl B b w⟩
 · obtain ⟨i, rfl⟩ : ∃ i : Nat, a = i := ⟨a.toNat, by omega⟩
   clear h0
   have h0 : ((i : Int) ≥ 0) := by omega
   by_cases hlt : i < nw
   · obtain ⟨s, hs⟩ : ∃ s, ws[i]? = some s := ⟨_, List.getElem?_eq_getElem (by rw [Hn.out]; exact hlt)⟩
     have ho : chW (i : Int) ws = some [s] := by
      unfold chW
      rw [if_pos ⟨by omega, by rw [Hn.out]; omega⟩, Int.toNat_natCast, List.getD_eq_getElem?_getD, hs]
      rfl
     rw [ho] at HS
     have d := HWs.out.cell hs
     obtain ⟨u, hu⟩ : ∃ u, ba s = u := ⟨_, rfl⟩
     rw [hu] at d
     have Hu := Lib.hid hu
     have Hl := Lib.hid (Hsm.out s (List.mem_of_getElem? hs))
     clear ho hs hu
     go_enter Tryz.func82, Tryz.ntmps82
     go_wp2_with fail
     refine (req_c _ _).mono ?_
     rintro e w6 ⟨rfl, hw9⟩
     obtain rfl := hw9.symm
     simp only [if_true]
     go_wp2_with fail
     refine (add_c B b w.heap.size l [s] 1 _ (HW.out.alloc _) HL.out (Ws.new w b [s] _ (by rw [← Hu.out]; rfl) hbw _ rfl) rfl (by omega) (by intro s hs; simp at hs; subst hs; have := Hl.out; omega)).mono ?_
     rintro e w7 hs
     rcases (WS.from ((Wk.refl B b w).alloc hBw _) hs).out HS.out with ⟨rfl, h⟩ | ⟨rfl, h⟩
     · exact ⟨rfl, h⟩
     · have HH := Lib.hid h
       clear h hs
       go_wp2
       go_end0
       exact HH.out
   · have hd : decide ((i : Int) < nw) = false := by simp; omega
     have ho : chW (i : Int) ws = none := by unfold chW; rw [if_neg (by rw [Hn.out]; omega)]
     rw [ho] at HS
     clear ho
     go_enter Tryz.func82, Tryz.ntmps82
     go_wp2_with fail
     refine (req_c _ _).mono ?_
     rintro e w6 ⟨rfl, hw9⟩
     obtain rfl := hw9.symm
     refine ⟨rfl, ?_⟩
     rw [← HS.out]
     exact ⟨rfl, Wk.refl B b w⟩
def catW (o p : Option (List (List UInt8))) : Option (List (List UInt8)) := o.bind fun x => p.map fun y => x ++ y
theorem catW_add (o p : Option (List (List UInt8))) (l : List UInt8) : (catW o p).bind (addW l) = (o.bind (addW l)).bind fun q => p.bind (addW q) := by
 cases o with
 | none => rfl
 | some x =>
   cases p with
   | none => simp [catW]
   | some y => simp [catW, addW_app]
def tailW {α : Type} (f : α → Option (List (List UInt8))) : List α → Option (List (List UInt8))
 | [] => some []
 | a :: r => catW (some [s_cm]) (catW (f a) (tailW f r))
def listW {α : Type} (f : α → Option (List (List UInt8))) : List α → Option (List (List UInt8))
 | [] => some []
 | a :: r => catW (f a) (tailW f r)
def restW {α : Type} (f : α → Option (List (List UInt8))) (k : Nat) (xs : List α) : Option (List (List UInt8)) := if k = 0 then listW f xs else tailW f xs
set_option maxHeartbeats 8000000 in
theorem list_w {α : Type} (f : α → Option (List (List UInt8))) (xs : List α) (B b : Nat) (F : Nat) (p1 p2 : Value) (l : List UInt8) (n : Nat) (w : World) (hw : Wr w B b l) (hl : l.length ≤ 20000) (hn : xs.length = n) (hm : n ≤ maxLen)
 (hit : ∀ (k : Nat) (a : α) (u : World) (lc : List UInt8), xs[k]? = some a → Wk B b w u → Wr u B b lc → lc.length ≤ 20000 → Calls Tryz.prog F #[.int .i64 k, p1, p2] u (WS B b u ((f a).bind (addW lc))))
 (hF : ∀ (u : World) (k : Nat), (callFunc F #[.int .i64 k, p1, p2]).run Tryz.prog u = .ok (.enter F #[.int .i64 k, p1, p2]) u) :
 Calls Tryz.prog 119 #[.pointer (some ⟨b, 0, none⟩), .int .i64 n, .func (.func F) #[] #[p1, p2]] w (WS B b w ((listW f xs).bind (addW l))) := by
 obtain ⟨S, hS⟩ : ∃ S, WS B b w ((listW f xs).bind (addW l)) = S := ⟨_, rfl⟩
 rw [hS]
 have HS := Lib.hid hS
 have Hit := Lib.hid hit
 have HW := Lib.hid hw
 have HL := Lib.hid hl
 have Hn := Lib.hid hn
 have hbw := hw.lt
 have hBw := hw.le
 unfold maxLen at hm
 clear hS hit hw hl hn
 go_enter Tryz.func119, Tryz.ntmps119
 go_wp2_with fail
 go_loopw [8] (fun i wr => ∃ (k : Nat) (lc : List UInt8), k ≤ n ∧ i = .int .i64 k ∧ Hid (Wr wr B b lc) ∧ Hid (lc.length ≤ 20000) ∧ Hid (Wk B b w wr) ∧ Hid ((listW f xs).bind (addW l) = (restW f k (xs.drop k)).bind (addW lc))) (fun i _ => n - (intOf i).toNat)
 case atStart => exact ⟨0, l, Nat.zero_le _, rfl, HW, HL, Lib.hid (Wk.refl B b _), Lib.hid rfl⟩
 case round =>
  obtain ⟨k, lc, hk, rfl, hwr, hlc, hkr, he⟩ := hrel
  have hbr := hwr.out.lt
  have hBr := hwr.out.le
  by_cases hlt : k < n
  · obtain ⟨a, ha⟩ : ∃ a, xs[k]? = some a := ⟨_, List.getElem?_eq_getElem (by rw [Hn.out]; exact hlt)⟩
    have hdr : xs.drop k = a :: xs.drop (k + 1) := by
     rw [List.drop_eq_getElem_cons (by rw [Hn.out]; exact hlt)]
     congr 1
     rw [List.getElem?_eq_getElem (by rw [Hn.out]; exact hlt)] at ha
     exact Option.some.inj ha
    have he2 := he.out
    rw [hdr] at he2
    have Ha := Lib.hid ha
    clear hdr he ha
    by_cases hk0 : k = 0
    · subst hk0
      have he3 : (listW f xs).bind (addW l) = ((f a).bind (addW lc)).bind fun q => (tailW f (xs.drop 1)).bind (addW q) := he2.trans (catW_add _ _ _)
      have He := Lib.hid he3
      clear he2 he3
      have hF0 : (callFunc F #[.int .i64 0, p1, p2]).run Tryz.prog wr = .ok (.enter F #[.int .i64 0, p1, p2]) wr := hF wr 0
      go_wp2_with fail
      refine (Hit.out 0 a wr lc Ha.out hkr.out hwr.out hlc.out).mono ?_
      rintro e w5 hs
      have hs5 := WS.from hkr.out hs
      cases h5 : (f a).bind (addW lc) with
      | none =>
        have he5 := He.out
        rw [h5] at hs5 he5
        obtain ⟨rfl, hk5⟩ := hs5
        refine ⟨rfl, ?_⟩
        rw [← HS.out, he5]
        exact ⟨rfl, hk5⟩
      | some l5 =>
        have he5 := He.out
        rw [h5] at hs5 he5
        obtain ⟨rfl, hw5, hl5, hk5⟩ := hs5
        have HW5 := Lib.hid hw5
        have HL5 := Lib.hid hl5
        have HK5 := Lib.hid hk5
        have He5 : Hid ((listW f xs).bind (addW l) = (restW f (0 + 1) (xs.drop (0 + 1))).bind (addW l5)) := Lib.hid (he5.trans (by unfold restW; rw [if_neg (by omega)]; rfl))
        clear h5 hw5 hl5 hk5 he5 He hs hF0
        go_wp2_with fail
        go_roundw
        case rel => exact ⟨0 + 1, l5, hlt, by simp, HW5, HL5, HK5, He5⟩
        case measure => simp [intOf]; omega
    · have he3 : (listW f xs).bind (addW l) = (addW lc [s_cm]).bind fun q => (catW (f a) (tailW f (xs.drop (k + 1)))).bind (addW q) := by
       rw [he2]
       unfold restW
       rw [if_neg hk0, tailW, catW_add]
       rfl
      have He3 := Lib.hid he3
      have hk1 : ((k : Int) > 0) := by omega
      clear he2 he3
      go_wp2_with fail
      refine (add_c B b wr.heap.size lc [s_cm] 1 _ (hwr.out.alloc _) hlc.out (Ws.new wr b [s_cm] _ rfl hbr _ rfl) rfl (by omega) (by intro s hs; simp at hs; subst hs; decide)).mono ?_
      rintro e w3 hs
      have hs3 := WS.from (hkr.out.alloc hBr _) hs
      clear hs
      cases h3 : addW lc [s_cm] with
      | none =>
        have he4 := He3.out
        rw [h3] at hs3 he4
        obtain ⟨rfl, hk5⟩ := hs3
        refine ⟨rfl, ?_⟩
        rw [← HS.out, he4]
        exact ⟨rfl, hk5⟩
      | some l1 =>
        have he4 := He3.out
        rw [h3] at hs3 he4
        obtain ⟨rfl, hw3, hl3, hk3⟩ := hs3
        have he5 : (listW f xs).bind (addW l) = ((f a).bind (addW l1)).bind fun q => (tailW f (xs.drop (k + 1))).bind (addW q) := he4.trans (catW_add _ _ _)
        have He := Lib.hid he5
        have HW3 := Lib.hid hw3
        have HL3 := Lib.hid hl3
        have hk1 := Lib.hid hk3
        have hF0 := hF w3 k
        clear h3 he4 he5 hw3 hl3 hk3 He3
        go_wp2_with fail
        refine (Hit.out k a w3 l1 Ha.out hk1.out HW3.out HL3.out).mono ?_
        rintro e w5 hs
        have hs5 := WS.from hk1.out hs
        cases h5 : (f a).bind (addW l1) with
        | none =>
          have he5 := He.out
          rw [h5] at hs5 he5
          obtain ⟨rfl, hk5⟩ := hs5
          refine ⟨rfl, ?_⟩
          rw [← HS.out, he5]
          exact ⟨rfl, hk5⟩
        | some l5 =>
          have he5 := He.out
          rw [h5] at hs5 he5
          obtain ⟨rfl, hw5, hl5, hk5⟩ := hs5
          have HW5 := Lib.hid hw5
          have HL5 := Lib.hid hl5
          have HK5 := Lib.hid hk5
          have He5 : Hid ((listW f xs).bind (addW l) = (restW f (k + 1) (xs.drop (k + 1))).bind (addW l5)) := Lib.hid (he5.trans (by unfold restW; rw [if_neg (by omega)]; rfl))
          clear h5 hw5 hl5 hk5 he5 He hs hF0
          go_wp2_with fail
          go_roundw
          case rel => exact ⟨k + 1, l5, hlt, by simp, HW5, HL5, HK5, He5⟩
          case measure => simp [intOf]; omega
  · obtain rfl : k = n := by omega
    have he2 := he.out
    rw [List.drop_eq_nil_of_le (by rw [Hn.out]; exact Nat.le_refl _)] at he2
    have he3 : (listW f xs).bind (addW l) = some lc := by rw [he2]; unfold restW; split <;> rfl
    have He := Lib.hid he3
    clear he he2 he3
    go_wp2
    go_end0
    rw [← HS.out, He.out]
    exact ⟨rfl, hwr.out, hlc.out, hkr.out⟩
abbrev wdN (w : World) (ws : List (List UInt8)) : World := w.alloc (.cells (ws.map fun s => Value.string (ba s)).toArray 9)
theorem flat_ws (ws : List (List UInt8)) : ws.flatMap rdS = ws.map fun s => Value.string (ba s) := by
 induction ws with
 | nil => rfl
 | cons s ws ih => rw [List.flatMap_cons, ih]; rfl
theorem slWN (w : World) (ws : List (List UInt8)) : SlG (wdN w ws) (some ⟨w.heap.size, 0, none⟩) 1 rdS ws := SlG.new (rd := rdS) (S := 1) (fun _ => rfl) ws (by rw [flat_ws])
theorem choiceN_c (b g : Nat) (l : List Tk) (ws : List (List UInt8)) (h0 : ∀ s ∈ ws, s ≠ []) (hw0 : ws ≠ []) (hm : ws.length ≤ maxLen) (w : World) (hg : w.heap.size = g) (hR : Rq w b l) :
 Calls Tryz.prog 100 #[.pointer (some ⟨b, 0, none⟩), .slice (some ⟨g, 0, none⟩) ws.length ws.length] (wdN w ws) fun e w' => match oneP ws l with
  | none => e = .panicked (boom 70) ∧ Apb b w w'
  | some q => e = .returned (.int .i64 q.1) ∧ Rq w' b q.2 ∧ Apb b w w' := by
 subst hg
 have hlt := hR.lt
 refine (choice_cR b l ws (some ⟨w.heap.size, 0, none⟩) ws.length ws.length (wdN w ws) (hR.alloc _) (slWN w ws) (fun k hk => by simp at hk; omega) rfl hm h0 hw0).mono ?_
 intro e w' h
 cases hq : oneP ws l with
 | none => rw [hq] at h; exact ⟨h.1, h.2.of_alloc⟩
 | some q => rw [hq] at h; exact ⟨h.1, h.2.1, h.2.2.of_alloc⟩
theorem kinds_c (w : World) : Calls Tryz.prog 165 #[] w fun e w' => e = .returned (.slice (some ⟨w.heap.size, 0, none⟩) 3 3) ∧ w' = wdN w [w_bool, w_int, w_text] := by
 go_enter Tryz.func165, Tryz.ntmps165
 go_wp2
 go_ret
 exact ⟨rfl, rfl⟩
theorem acts_c (w : World) : Calls Tryz.prog 166 #[] w fun e w' => e = .returned (.slice (some ⟨w.heap.size, 0, none⟩) 3 3) ∧ w' = wdN w [w_restrict, w_cascade, w_setnull] := by
 go_enter Tryz.func166, Tryz.ntmps166
 go_wp2
 go_ret
 exact ⟨rfl, rfl⟩
theorem fns_c (w : World) : Calls Tryz.prog 168 #[] w fun e w' => e = .returned (.slice (some ⟨w.heap.size, 0, none⟩) 4 4) ∧ w' = wdN w [w_count, w_sum, w_min, w_max] := by
 go_enter Tryz.func168, Tryz.ntmps168
 go_wp2
 go_ret
 exact ⟨rfl, rfl⟩
def BkC (w : World) (C : Nat) (c : Cl) : Prop := Bk w C #[.string c.name, .int .i64 c.kind, .bool c.nul, .bool c.uni, .string c.ref, .int .i64 c.act] 64
theorem BkC.all {w : World} {C : Nat} {c : Cl} (h : BkC w C c) : w.cell? ⟨C, 0, none⟩ = some (.string c.name) ∧ w.cell? ⟨C, 1, none⟩ = some (.int .i64 c.kind) ∧ w.cell? ⟨C, 2, none⟩ = some (.bool c.nul) ∧ w.cell? ⟨C, 3, none⟩ = some (.bool c.uni) ∧ w.cell? ⟨C, 4, none⟩ = some (.string c.ref) ∧ w.cell? ⟨C, 5, none⟩ = some (.int .i64 c.act) ∧
 w.frozen? ⟨C, 0, none⟩ = false ∧ w.frozen? ⟨C, 1, none⟩ = false ∧ w.frozen? ⟨C, 2, none⟩ = false ∧ w.frozen? ⟨C, 3, none⟩ = false ∧ w.frozen? ⟨C, 4, none⟩ = false ∧ w.frozen? ⟨C, 5, none⟩ = false ∧ C < w.heap.size :=
 ⟨Bk.cell h 0, Bk.cell h 1, Bk.cell h 2, Bk.cell h 3, Bk.cell h 4, Bk.cell h 5, Bk.thaw h 0, Bk.thaw h 1, Bk.thaw h 2, Bk.thaw h 3, Bk.thaw h 4, Bk.thaw h 5, Bk.lt h⟩
theorem ret_cl {fn : Func} {R : Ending → World → Prop} {F : Act} {w : World} {t : Tmp} {b : Nat} {a : Cl} (hres : fn.results = #[.cell t 64]) (ht : Reg.slot F t = .pointer (some ⟨b, 0, none⟩)) (hb : BkC w b a) (hd : F.defers = [])
 (hR : R (.returned a.w) w) : bodyPost Tryz.prog fn R .ret F w := by
 obtain ⟨h0, h1, h2, h3, h4, h5, _⟩ := hb.all
 refine bodyPost_ret (v := a.w) ?_ hd hR
 have ht' : F.tmps[t]?.getD undef = .pointer (some ⟨b, 0, none⟩) := by simpa [Reg.slot] using ht
 simp [results, hres, ht', go_sem, h0, h1, h2, h3, h4, h5]
theorem one_bd {ws : List (List UInt8)} {l r : List Tk} {k : Int} (h : oneP ws l = some (k, r)) : 0 ≤ k ∧ k < ws.length := by
 cases l with
 | nil => cases h
 | cons t q =>
   rw [oneP] at h
   cases e : oneF ws 0 t with
   | none => rw [e] at h; cases h
   | some i =>
     rw [e] at h
     simp at h
     have := oneF_pos ws 0 i e
     omega
def cl0 : Cl := ⟨emp, 0, false, false, emp, 0⟩
def ColumnS (b : Nat) (w : World) (o : Option (Cl × List Tk)) (e : Ending) (w' : World) : Prop := match o with
 | none => e = .panicked (boom 70) ∧ Apb b w w'
 | some q => e = .returned q.1.w ∧ Rq w' b q.2 ∧ Apb b w w'
set_option maxHeartbeats 8000000 in
theorem column_cR (b : Nat) (l : List Tk) (w : World) (hR : Rq w b l) :
 Calls Tryz.prog 145 #[.pointer (some ⟨b, 0, none⟩)] w fun e w' => ColumnS b w (columnP l) e w' := by
 have hbs := hR.lt
 obtain ⟨S, hS⟩ : ∃ S, ColumnS b w (columnP l) = S := ⟨_, rfl⟩
 rw [hS]
 unfold columnP at hS
 have HS := Lib.hid hS
 have HN := Lib.hid (name_cR b l _ (hR.alloc (.cells (rdCl cl0).toArray 64)))
 have HB0 : Hid (BkC (w.alloc (.cells (rdCl cl0).toArray 64)) w.heap.size cl0) := Lib.hid (Bk.new w _ _)
 clear hR hS
 go_enter Tryz.func145, Tryz.ntmps145
 go_wp2_with fail
 refine HN.out.mono ?_
 rintro e w1 hn
 cases hq : nameP l with
 | none =>
   rw [hq] at hn HS
   obtain ⟨rfl, hb⟩ := hn
   refine ⟨rfl, ?_⟩
   rw [← HS.out]
   exact ⟨rfl, hb.of_alloc⟩
 | some a =>
   rw [hq] at hn HS
   obtain ⟨rfl, hr, hb⟩ := hn
   obtain ⟨nm, r⟩ := a
   have HB1 := Lib.hid (Bk.kept HB0.out hb (by omega))
   have Hb1 := Lib.hid hb.of_alloc
   have Hr1 := Lib.hid hr
   clear hq hr hb HN HB0
   go_wp2_with fail
   refine (kinds_c w1).mono ?_
   rintro e w2 ⟨rfl, rfl⟩
   go_wp2_with fail
   refine (choiceN_c b w1.heap.size r [w_bool, w_int, w_text] (by decide) (by decide) (by decide) w1 rfl Hr1.out).mono ?_
   rintro e w2 hn
   cases hq : oneP [w_bool, w_int, w_text] r with
   | none =>
     simp only [Option.bind_some, hq, Option.bind_none] at HS
     rw [hq] at hn
     obtain ⟨rfl, hb⟩ := hn
     refine ⟨rfl, ?_⟩
     rw [← HS.out]
     exact ⟨rfl, Hb1.out.trans hb⟩
   | some kq =>
     obtain ⟨k, r2⟩ := kq
     simp only [Option.bind_some, hq] at HS
     rw [hq] at hn
     obtain ⟨rfl, hr, hb⟩ := hn
     have HB2 := Lib.hid (Bk.kept HB1.out hb (by omega))
     have Hb2 := Lib.hid (Hb1.out.trans hb)
     have Hr2 := Lib.hid hr
     have hk := one_bd hq
     have hk1 := hk.1
     have hk2 : k < 3 := by have := hk.2; simpa using this
     clear hq hr hb HB1 Hb1 Hr1 hk
     go_wp2_with fail
     have hsz2 : w.heap.size < w2.heap.size := HB2.out.lt
     have hbl := Hr2.out.lt
     have HC3 : Hid (BkC (w2.alloc (.cells #[.string nm, .int .i64 (1 + k), .bool false, .bool false, .string emp, .int .i64 0] 64)) w2.heap.size ⟨nm, 1 + k, false, false, emp, 0⟩) := Lib.hid (Bk.new _ _ _)
     have HB3 := Lib.hid (HB2.out.after (below_one w2 (.cells #[.string nm, .int .i64 (1 + k), .bool false, .bool false, .string emp, .int .i64 0] 64)) hsz2)
     have Hr3 := Lib.hid (Hr2.out.alloc (.cells #[.string nm, .int .i64 (1 + k), .bool false, .bool false, .string emp, .int .i64 0] 64))
     have Hb3 := Lib.hid (Hb2.out.alloc (.cells #[.string nm, .int .i64 (1 + k), .bool false, .bool false, .string emp, .int .i64 0] 64))
     obtain ⟨C, hC⟩ : ∃ C, w2.heap.size = C := ⟨_, rfl⟩
     have hz3 : (w2.alloc (.cells #[.string nm, .int .i64 (1 + k), .bool false, .bool false, .string emp, .int .i64 0] 64)).heap.size = C + 1 := by simp; exact hC
     obtain ⟨W3, hW3⟩ : ∃ W3, w2.alloc (.cells #[.string nm, .int .i64 (1 + k), .bool false, .bool false, .string emp, .int .i64 0] 64) = W3 := ⟨_, rfl⟩
     rw [hW3] at HC3 HB3 Hr3 Hb3 hz3
     rw [hC] at HC3 hsz2 hbl
     have HW3 := Lib.hid hW3
     have HCe := Lib.hid hC
     have Hz3 := Lib.hid hz3
     clear HB2 Hr2 Hb2 hW3 hz3
     rw [HW3.out, hC]
     clear hC
     refine (has1_c b (C + 1) _ w_null (by decide) W3 Hz3.out Hr3.out).mono ?_
     rintro e w4 ⟨rfl, hr, hb⟩
     obtain ⟨nu, hnu⟩ : ∃ nu, (takeP w_null r2).1 = nu := ⟨_, rfl⟩
     obtain ⟨l4, hl4⟩ : ∃ l4, (takeP w_null r2).2 = l4 := ⟨_, rfl⟩
     rw [hnu, hl4] at HS
     simp only [hnu, hl4] at hr ⊢
     have HC4 : Hid (BkC w4 C _) := Lib.hid (Bk.kept HC3.out hb (by omega))
     have HB4 := Lib.hid (HB3.out.kept hb (by omega))
     have Hr4 := Lib.hid hr
     have Hb4 := Lib.hid (Hb3.out.trans hb)
     obtain ⟨c0, c1, c2, c3, c4, c5, f0, f1, f2, f3, f4, f5, hlt⟩ := HC4.out.all
     clear hr hb hnu hl4 HC3 HB3 Hr3 Hb3 HW3 HCe Hz3
     go_wp2_with fail
     have hz5 : (w4.setCell ⟨C, 2, none⟩ (.bool nu)).heap.size = w4.heap.size := by simp [World.setCell]
     refine (has1_c b w4.heap.size l4 w_unique (by decide) _ hz5 (Hr4.out.own hbl 2 (.bool nu))).mono ?_
     rintro e w5 ⟨rfl, hr, hb⟩
     obtain ⟨un, hun⟩ : ∃ un, (takeP w_unique l4).1 = un := ⟨_, rfl⟩
     obtain ⟨l5, hl5⟩ : ∃ l5, (takeP w_unique l4).2 = l5 := ⟨_, rfl⟩
     rw [hun, hl5] at HS
     simp only [hun, hl5] at hr ⊢
     have HC5 : Hid (BkC w5 C ⟨nm, 1 + k, nu, false, emp, 0⟩) := Lib.hid (Bk.kept (Bk.set HC4.out 2 (.bool nu)) hb (by omega))
     have HB5 := Lib.hid ((HB4.out.after (B := C) (Below.setCell (Below.refl C w4) (Nat.le_refl C) _) hsz2).kept hb (by omega))
     have Hr5 := Lib.hid hr
     have Hb5 := Lib.hid ((Hb4.out.own (by omega) 2 (.bool nu)).trans hb)
     clear c0 c1 c2 c3 c4 c5 f0 f1 f2 f3 f4 f5 hlt
     obtain ⟨c0, c1, c2, c3, c4, c5, f0, f1, f2, f3, f4, f5, hlt⟩ := HC5.out.all
     clear hr hb hun hl5 HC4 HB4 Hr4 Hb4 hz5
     go_wp2_with fail
     have hz6 : (w5.setCell ⟨C, 3, none⟩ (.bool un)).heap.size = w5.heap.size := by simp [World.setCell]
     refine (has1_c b w5.heap.size l5 w_ref (by decide) _ hz6 (Hr5.out.own hbl 3 (.bool un))).mono ?_
     rintro e w6 ⟨rfl, hr, hb⟩
     have HC6 : Hid (BkC w6 C ⟨nm, 1 + k, nu, un, emp, 0⟩) := Lib.hid (Bk.kept (Bk.set HC5.out 3 (.bool un)) hb (by omega))
     have HB6 := Lib.hid ((HB5.out.after (B := C) (Below.setCell (Below.refl C w5) (Nat.le_refl C) _) hsz2).kept hb (by omega))
     have Hb6 := Lib.hid ((Hb5.out.own (by omega) 3 (.bool un)).trans hb)
     clear c0 c1 c2 c3 c4 c5 f0 f1 f2 f3 f4 f5 hlt
     cases hq : (takeP w_ref l5).1
     · rw [hq] at HS
       rw [take_no hq] at hr
       simp only [Bool.false_eq_true, if_false] at HS
       have Hr6 := Lib.hid hr
       obtain ⟨c0, c1, c2, c3, c4, c5, f0, f1, f2, f3, f4, f5, hlt⟩ := HC6.out.all
       obtain ⟨r0, r1, r2', r3, r4, r5, g0, g1, g2, g3, g4, g5, hlt2⟩ := BkC.all (c := cl0) HB6.out
       clear hr hb hq HC5 HB5 Hr5 Hb5 hz6
       go_wp2
       refine ret_cl (b := w.heap.size) (a := ⟨nm, 1 + k, nu, un, emp, 0⟩) Tryz.results145 rfl (Bk.put HB6.out (rdCl ⟨nm, 1 + k, nu, un, emp, 0⟩) rfl) rfl ?_
       rw [← HS.out, show k + 1 = 1 + k by omega]
       exact ⟨rfl, Hr6.out.put (by omega) 0 (rdCl ⟨nm, 1 + k, nu, un, emp, 0⟩), Hb6.out.put (Nat.le_refl _) 0 (rdCl ⟨nm, 1 + k, nu, un, emp, 0⟩)⟩
     · rw [hq] at HS
       simp only [if_true] at HS
       obtain ⟨l6, hl6⟩ : ∃ l6, (takeP w_ref l5).2 = l6 := ⟨_, rfl⟩
       rw [hl6] at HS hr
       have Hr6 := Lib.hid hr
       obtain ⟨c0, c1, c2, c3, c4, c5, f0, f1, f2, f3, f4, f5, hlt⟩ := HC6.out.all
       clear hr hb hq HC5 HB5 Hr5 Hb5 hz6 hl6
       go_wp2_with fail
       refine (name_cR b l6 w6 Hr6.out).mono ?_
       rintro e w7 hn
       cases hq : nameP l6 with
       | none =>
         rw [hq] at hn HS
         obtain ⟨rfl, hb⟩ := hn
         refine ⟨rfl, ?_⟩
         rw [← HS.out]
         exact ⟨rfl, Hb6.out.trans hb⟩
       | some a =>
         rw [hq] at hn HS
         obtain ⟨rfl, hr, hb⟩ := hn
         obtain ⟨rf, l7⟩ := a
         have HC7 : Hid (BkC w7 C ⟨nm, 1 + k, nu, un, emp, 0⟩) := Lib.hid (Bk.kept HC6.out hb (by omega))
         have HB7 := Lib.hid (HB6.out.kept hb (by omega))
         have Hb7 := Lib.hid (Hb6.out.trans hb)
         have Hr7 := Lib.hid hr
         clear c0 c1 c2 c3 c4 c5 f0 f1 f2 f3 f4 f5 hlt
         obtain ⟨c0, c1, c2, c3, c4, c5, f0, f1, f2, f3, f4, f5, hlt⟩ := HC7.out.all
         clear hr hb hq HC6 HB6 Hr6 Hb6
         go_wp2_with fail
         refine (acts_c _).mono ?_
         rintro e w8 ⟨rfl, rfl⟩
         have hz7 : (w7.setCell ⟨C, 4, none⟩ (.string rf)).heap.size = w7.heap.size := by simp [World.setCell]
         rw [hz7]
         go_wp2_with fail
         refine (choiceN_c b w7.heap.size l7 [w_restrict, w_cascade, w_setnull] (by decide) (by decide) (by decide) _ hz7 (Hr7.out.own hbl 4 (.string rf))).mono ?_
         rintro e w8 hn
         cases hq : oneP [w_restrict, w_cascade, w_setnull] l7 with
         | none =>
           simp only [Option.bind_some, hq, Option.map_none] at HS
           rw [hq] at hn
           obtain ⟨rfl, hb⟩ := hn
           refine ⟨rfl, ?_⟩
           rw [← HS.out]
           exact ⟨rfl, (Hb7.out.own (by omega) 4 (.string rf)).trans hb⟩
         | some kq =>
           obtain ⟨ac, l8⟩ := kq
           simp only [Option.bind_some, hq, Option.map_some] at HS
           rw [hq] at hn
           obtain ⟨rfl, hr, hb⟩ := hn
           have HC8 : Hid (BkC w8 C ⟨nm, 1 + k, nu, un, rf, 0⟩) := Lib.hid (Bk.kept (Bk.set HC7.out 4 (.string rf)) hb (by omega))
           have HB8 := Lib.hid ((HB7.out.after (B := C) (Below.setCell (Below.refl C w7) (Nat.le_refl C) _) hsz2).kept hb (by omega))
           have Hb8 := Lib.hid ((Hb7.out.own (by omega) 4 (.string rf)).trans hb)
           have Hr8 := Lib.hid hr
           clear c0 c1 c2 c3 c4 c5 f0 f1 f2 f3 f4 f5 hlt
           obtain ⟨c0, c1, c2, c3, c4, c5, f0, f1, f2, f3, f4, f5, hlt⟩ := HC8.out.all
           obtain ⟨r0, r1, r2', r3, r4, r5, g0, g1, g2, g3, g4, g5, hlt2⟩ := BkC.all (c := cl0) HB8.out
           have hne : ¬ w.heap.size = C := by omega
           have hne2 : ¬ C = w.heap.size := by omega
           clear hr hb hq HC7 HB7 Hr7 Hb7 hz7
           go_wp2
           refine ret_cl (b := w.heap.size) (a := ⟨nm, 1 + k, nu, un, rf, ac⟩) Tryz.results145 rfl ?_ rfl ?_
           · exact Bk.put (HB8.out.after (B := C) (Below.setCell (Below.refl C w8) (Nat.le_refl C) _) hsz2) (rdCl ⟨nm, 1 + k, nu, un, rf, ac⟩) rfl
           · rw [← HS.out, show k + 1 = 1 + k by omega]
             exact ⟨rfl, (Hr8.out.own hbl 5 (.int .i64 ac)).put (by omega) 0 (rdCl ⟨nm, 1 + k, nu, un, rf, ac⟩), (Hb8.out.own (by omega) 5 (.int .i64 ac)).put (Nat.le_refl _) 0 (rdCl ⟨nm, 1 + k, nu, un, rf, ac⟩)⟩
def onP (l : List Tk) : Option ((Int × Int) × List Tk) := (needP w_on l).bind fun r => (colP r).bind fun x => (needP s_eq x.2).bind fun q => (colP q).map fun y => ((x.1, y.1), y.2)
theorem ret_on {fn : Func} {R : Ending → World → Prop} {F : Act} {w : World} {t : Tmp} {b : Nat} {x y : Int} (hres : fn.results = #[.cell t 26]) (ht : Reg.slot F t = .pointer (some ⟨b, 0, none⟩)) (hb : Bk w b #[.int .i64 x, .int .i64 y] 26) (hd : F.defers = [])
 (hR : R (.returned (.agg #[.int .i64 x, .int .i64 y])) w) : bodyPost Tryz.prog fn R .ret F w := by
 have h0 : w.cell? ⟨b, 0, none⟩ = some (.int .i64 x) := hb.cell 0
 have h1 : w.cell? ⟨b, 1, none⟩ = some (.int .i64 y) := hb.cell 1
 refine bodyPost_ret (v := .agg #[.int .i64 x, .int .i64 y]) ?_ hd hR
 have ht' : F.tmps[t]?.getD undef = .pointer (some ⟨b, 0, none⟩) := by simpa [Reg.slot] using ht
 simp [results, hres, ht', go_sem, h0, h1]
def OnS (b : Nat) (w : World) (o : Option ((Int × Int) × List Tk)) (e : Ending) (w' : World) : Prop := match o with
 | none => e = .panicked (boom 70) ∧ Apb b w w'
 | some q => e = .returned (.agg #[.int .i64 q.1.1, .int .i64 q.1.2]) ∧ Rq w' b q.2 ∧ Apb b w w'
set_option maxHeartbeats 8000000 in
theorem on_cR (b : Nat) (l : List Tk) (w : World) (hR : Rq w b l) :
 Calls Tryz.prog 148 #[.pointer (some ⟨b, 0, none⟩)] w fun e w' => OnS b w (onP l) e w' := by
 have hbs := hR.lt
 obtain ⟨S, hS⟩ : ∃ S, OnS b w (onP l) = S := ⟨_, rfl⟩
 rw [hS]
 unfold onP at hS
 have HS := Lib.hid hS
 have hN : (w.alloc (.cells #[.int .i64 0, .int .i64 0] 26)).heap.size = w.heap.size + 1 := by simp
 have HM := Lib.hid (must1_c b (w.heap.size + 1) l w_on (by decide) _ hN (hR.alloc (.cells #[.int .i64 0, .int .i64 0] 26)))
 have HB0 := Lib.hid (Bk.new w #[.int .i64 0, .int .i64 0] 26)
 clear hR hS hN
 go_enter Tryz.func148, Tryz.ntmps148
 go_wp2_with fail
 refine HM.out.mono ?_
 rintro e w1 hn
 cases hq : needP w_on l with
 | none =>
   rw [hq] at hn HS
   obtain ⟨rfl, hb⟩ := hn
   refine ⟨rfl, ?_⟩
   rw [← HS.out]
   exact ⟨rfl, hb.of_alloc⟩
 | some r =>
   rw [hq] at hn HS
   simp only [Option.bind_some] at HS
   obtain ⟨rfl, hr, hb⟩ := hn
   have HB1 := Lib.hid (HB0.out.kept hb (by omega))
   have Hb1 := Lib.hid hb.of_alloc
   have Hr1 := Lib.hid hr
   clear hq hr hb HM HB0
   go_wp2_with fail
   refine (col_cR b r w1 Hr1.out).mono ?_
   rintro e w2 hn
   cases hq : colP r with
   | none =>
     rw [hq] at hn HS
     obtain ⟨rfl, hb⟩ := hn
     refine ⟨rfl, ?_⟩
     rw [← HS.out]
     exact ⟨rfl, Hb1.out.trans hb⟩
   | some x =>
     obtain ⟨x, r2⟩ := x
     rw [hq] at hn HS
     simp only [Option.bind_some] at HS
     obtain ⟨rfl, hr, hb⟩ := hn
     have HB2 := Lib.hid (HB1.out.kept hb (by omega))
     have Hb2 := Lib.hid (Hb1.out.trans hb)
     have Hr2 := Lib.hid hr
     clear hq hr hb Hb1 Hr1 HB1
     go_wp2_with fail
     refine (must1_c b w2.heap.size r2 s_eq (by decide) w2 rfl Hr2.out).mono ?_
     rintro e w3 hn
     cases hq : needP s_eq r2 with
     | none =>
       rw [hq] at hn HS
       obtain ⟨rfl, hb⟩ := hn
       refine ⟨rfl, ?_⟩
       rw [← HS.out]
       exact ⟨rfl, Hb2.out.trans hb⟩
     | some r3 =>
       rw [hq] at hn HS
       simp only [Option.bind_some] at HS
       obtain ⟨rfl, hr, hb⟩ := hn
       have HB3 := Lib.hid (HB2.out.kept hb (by omega))
       have Hb3 := Lib.hid (Hb2.out.trans hb)
       have Hr3 := Lib.hid hr
       clear hq hr hb Hb2 Hr2 HB2
       go_wp2_with fail
       refine (col_cR b r3 w3 Hr3.out).mono ?_
       rintro e w4 hn
       cases hq : colP r3 with
       | none =>
         rw [hq] at hn HS
         obtain ⟨rfl, hb⟩ := hn
         refine ⟨rfl, ?_⟩
         rw [← HS.out]
         exact ⟨rfl, Hb3.out.trans hb⟩
       | some y =>
         obtain ⟨y, r4⟩ := y
         rw [hq] at hn HS
         obtain ⟨rfl, hr, hb⟩ := hn
         have HB4 := Lib.hid (HB3.out.kept hb (by omega))
         have Hb4 := Lib.hid (Hb3.out.trans hb)
         have Hr4 := Lib.hid hr
         have c0 : w4.cell? ⟨w.heap.size, 0, none⟩ = some (.int .i64 0) := HB4.out.cell 0
         have c1 : w4.cell? ⟨w.heap.size, 1, none⟩ = some (.int .i64 0) := HB4.out.cell 1
         have f0 := HB4.out.thaw 0
         have f1 := HB4.out.thaw 1
         clear hq hr hb Hb3 Hr3 HB3
         go_wp2
         refine ret_on (b := w.heap.size) (x := x) (y := y) Tryz.results148 rfl (HB4.out.put [.int .i64 x, .int .i64 y] rfl) rfl ?_
         rw [← HS.out]
         exact ⟨rfl, Hr4.out.put (by omega) 0 [.int .i64 x, .int .i64 y], Hb4.out.put (Nat.le_refl _) 0 [.int .i64 x, .int .i64 y]⟩
theorem ret_ag {fn : Func} {R : Ending → World → Prop} {F : Act} {w : World} {t : Tmp} {b : Nat} {a : Ag} (hres : fn.results = #[.cell t 74]) (ht : Reg.slot F t = .pointer (some ⟨b, 0, none⟩)) (hb : Bk w b #[.int .i64 a.fn, .int .i64 a.col] 74) (hd : F.defers = [])
 (hR : R (.returned a.w) w) : bodyPost Tryz.prog fn R .ret F w := by
 have h0 : w.cell? ⟨b, 0, none⟩ = some (.int .i64 a.fn) := hb.cell 0
 have h1 : w.cell? ⟨b, 1, none⟩ = some (.int .i64 a.col) := hb.cell 1
 refine bodyPost_ret (v := a.w) ?_ hd hR
 have ht' : F.tmps[t]?.getD undef = .pointer (some ⟨b, 0, none⟩) := by simpa [Reg.slot] using ht
 simp [results, hres, ht', go_sem, h0, h1]
def AggS (b : Nat) (w : World) (o : Option (Ag × List Tk)) (e : Ending) (w' : World) : Prop := match o with
 | none => e = .panicked (boom 70) ∧ Apb b w w'
 | some q => e = .returned q.1.w ∧ Rq w' b q.2 ∧ Apb b w w'
set_option maxHeartbeats 8000000 in
theorem agg_cR (b : Nat) (l : List Tk) (w : World) (hR : Rq w b l) :
 Calls Tryz.prog 153 #[.pointer (some ⟨b, 0, none⟩)] w fun e w' => AggS b w (aggP l) e w' := by
 have hbs := hR.lt
 obtain ⟨S, hS⟩ : ∃ S, AggS b w (aggP l) = S := ⟨_, rfl⟩
 rw [hS]
 unfold aggP at hS
 have HS := Lib.hid hS
 have hN : (w.alloc (.cells #[.int .i64 0, .int .i64 0] 74)).heap.size = w.heap.size + 1 := by simp
 have HM := Lib.hid (choiceN_c b (w.heap.size + 1) l [w_count, w_sum, w_min, w_max] (by decide) (by decide) (by decide) _ hN (hR.alloc (.cells #[.int .i64 0, .int .i64 0] 74)))
 have HB0 := Lib.hid (Bk.new w #[.int .i64 0, .int .i64 0] 74)
 clear hR hS hN
 go_enter Tryz.func153, Tryz.ntmps153
 go_wp2_with fail
 refine (fns_c _).mono ?_
 rintro e w0 ⟨rfl, rfl⟩
 go_wp2_with fail
 refine HM.out.mono ?_
 rintro e w1 hn
 cases hq : oneP [w_count, w_sum, w_min, w_max] l with
 | none =>
   rw [hq] at hn HS
   obtain ⟨rfl, hb⟩ := hn
   refine ⟨rfl, ?_⟩
   rw [← HS.out]
   exact ⟨rfl, hb.of_alloc⟩
 | some k =>
   obtain ⟨k, r⟩ := k
   have hk := one_bd hq
   rw [hq] at hn HS
   simp only [Option.bind_some] at HS
   obtain ⟨rfl, hr, hb⟩ := hn
   have HB1 := Lib.hid (HB0.out.kept hb (by omega))
   have Hb1 := Lib.hid hb.of_alloc
   have Hr1 := Lib.hid hr
   have hlt := HB1.out.lt
   clear hq hr hb HM HB0
   have c0 : w1.cell? ⟨w.heap.size, 0, none⟩ = some (.int .i64 0) := HB1.out.cell 0
   have c1 : w1.cell? ⟨w.heap.size, 1, none⟩ = some (.int .i64 0) := HB1.out.cell 1
   have f0 := HB1.out.thaw 0
   have f1 := HB1.out.thaw 1
   by_cases hk0 : k = 0
   · subst hk0
     simp only [if_true] at HS
     go_wp2
     refine ret_ag (b := w.heap.size) (a := ⟨0, 0⟩) Tryz.results153 rfl ((HB1.out.put [.int .i64 0, .int .i64 0] rfl).after (below_one _ _) (by rw [putL_size]; exact hlt)) rfl ?_
     rw [← HS.out]
     exact ⟨rfl, (Hr1.out.put (by omega) 0 [.int .i64 0, .int .i64 0]).alloc _, (Hb1.out.put (Nat.le_refl _) 0 [.int .i64 0, .int .i64 0]).alloc _⟩
   · rw [if_neg hk0] at HS
     have e1 : (k == 0) = false := by simpa using hk0
     have e2 : (k != 0) = true := by simpa using hk0
     clear hk0
     have HC2 := Lib.hid (Bk.new w1 #[.int .i64 k, .int .i64 0] 74)
     have HB2 := Lib.hid (HB1.out.after (below_one w1 (.cells #[.int .i64 k, .int .i64 0] 74)) hlt)
     go_wp2_with fail
     refine (col_cR b r _ (Hr1.out.alloc (.cells #[.int .i64 k, .int .i64 0] 74))).mono ?_
     rintro e w3 hn
     cases hq : colP r with
     | none =>
       rw [hq] at hn HS
       obtain ⟨rfl, hb⟩ := hn
       refine ⟨rfl, ?_⟩
       rw [← HS.out]
       exact ⟨rfl, (Hb1.out.alloc _).trans hb⟩
     | some x =>
       obtain ⟨x, r2⟩ := x
       rw [hq] at hn HS
       obtain ⟨rfl, hr, hb⟩ := hn
       have HB3 := Lib.hid (HB2.out.kept hb (by omega))
       have HC3 := Lib.hid (HC2.out.kept hb (by omega))
       have Hb3 := Lib.hid ((Hb1.out.alloc (.cells #[.int .i64 k, .int .i64 0] 74)).trans hb)
       have Hr3 := Lib.hid hr
       clear c0 c1 f0 f1 hq hr hb Hb1 Hr1 HB1 HB2 HC2
       have c0 : w3.cell? ⟨w.heap.size, 0, none⟩ = some (.int .i64 0) := HB3.out.cell 0
       have c1 : w3.cell? ⟨w.heap.size, 1, none⟩ = some (.int .i64 0) := HB3.out.cell 1
       have f0 := HB3.out.thaw 0
       have f1 := HB3.out.thaw 1
       have d0 : w3.cell? ⟨w1.heap.size, 0, none⟩ = some (.int .i64 k) := HC3.out.cell 0
       have d1 : w3.cell? ⟨w1.heap.size, 1, none⟩ = some (.int .i64 0) := HC3.out.cell 1
       have g0 := HC3.out.thaw 0
       have g1 := HC3.out.thaw 1
       have l1 := HC3.out.lt
       have l2 := HB3.out.lt
       have hne : ¬ w.heap.size = w1.heap.size := by omega
       have hne2 : ¬ w1.heap.size = w.heap.size := by omega
       go_wp2
       refine ret_ag (b := w.heap.size) (a := ⟨k, x⟩) Tryz.results153 rfl ?_ rfl ?_
       · exact Bk.put (HB3.out.after (B := w1.heap.size) (Below.setCell (Below.refl w1.heap.size w3) (Nat.le_refl _) _) hlt) [.int .i64 k, .int .i64 x] rfl
       · rw [← HS.out]
         exact ⟨rfl, (Hr3.out.own (by omega) 1 (.int .i64 x)).put (by omega) 0 [.int .i64 k, .int .i64 x], (Hb3.out.own (by omega) 1 (.int .i64 x)).put (Nat.le_refl _) 0 [.int .i64 k, .int .i64 x]⟩
def ItemS {α : Type} (I : World → List Tk → List α → Prop) (J : World → Prop) (acc : List α) (o : Option (α × List Tk)) (e : Ending) (w' : World) : Prop := match o with
 | none => e = .panicked (boom 70) ∧ J w'
 | some q => e = .returned (.tuple #[]) ∧ I w' q.2 (acc ++ [q.1])
def ListS {α : Type} (I : World → List Tk → List α → Prop) (J : World → Prop) (acc : List α) (o : Option (List α × List Tk)) (e : Ending) (w' : World) : Prop := match o with
 | none => e = .panicked (boom 70) ∧ J w'
 | some q => e = .returned (.tuple #[]) ∧ I w' q.2 (acc ++ q.1)
set_option maxHeartbeats 8000000 in
theorem list_cR {α : Type} (p : List Tk → Option (α × List Tk)) (hp : ∀ l a, p l = some a → a.2.length ≤ l.length) (I : World → List Tk → List α → Prop) (J : World → Prop) (b : Nat) (F : Nat) (caps : Array Value)
 (hI : ∀ w l acc, I w l acc → Rq w b l) (hK : ∀ w w' l l' acc, I w l acc → Rq w' b l' → Apb b w w' → l'.length ≤ l.length → I w' l' acc)
 (hit : ∀ w l acc, I w l acc → Calls Tryz.prog F caps w fun e w' => ItemS I J acc (p l) e w')
 (hF : ∀ w, (callFunc F caps).run Tryz.prog w = .ok (.enter F caps) w) (l : List Tk) (acc : List α) (w : World) (hw : I w l acc) :
 Calls Tryz.prog 143 #[.pointer (some ⟨b, 0, none⟩), .func (.func F) #[] caps] w fun e w' => ListS I J acc (sepP p l) e w' := by
 obtain ⟨S, hS⟩ : ∃ S, ListS I J acc (sepP p l) = S := ⟨_, rfl⟩
 rw [hS]
 rw [sepP_eq hp] at hS
 have HS := Lib.hid hS
 have HI := Lib.hid hI
 have HK := Lib.hid hK
 have Hit := Lib.hid hit
 have Hw := Lib.hid hw
 have Hp := Lib.hid hp
 clear hS hI hK hit hw hp
 go_enter Tryz.func143, Tryz.ntmps143
 go_wp2_with fail
 refine (Hit.out w l acc Hw.out).mono ?_
 rintro e w1 hn
 cases hq : p l with
 | none =>
   rw [hq] at hn HS
   obtain ⟨rfl, hj⟩ := hn
   refine ⟨rfl, ?_⟩
   rw [← HS.out]
   exact ⟨rfl, hj⟩
 | some a =>
   obtain ⟨a, r⟩ := a
   rw [hq] at hn HS
   simp only [Option.bind_some] at HS
   obtain ⟨rfl, hi⟩ := hn
   have Hi := Lib.hid hi
   clear hi hq
   go_wp2_with fail
   go_loopw [8] (fun _ wr => ∃ (xs : List α) (rest : List Tk), Hid (I wr rest (acc ++ xs)) ∧ Hid (∀ o, tailG p rest = o → S = ListS I J acc (o.map fun q => (xs ++ q.1, q.2)))) (fun _ wr => rqLen wr b)
   case atStart => exact ⟨[a], r, Hi, Lib.hid (fun o ho => by rw [← HS.out, ho]; rfl)⟩
   case round =>
    obtain ⟨xs, rest, hi, hs⟩ := hrel
    have hr := HI.out _ _ _ hi.out
    have HH := Lib.hid (has1_c b wr.heap.size rest s_cm (by decide) wr rfl hr)
    have HL := Lib.hid hr.left
    clear hr
    cases hq : (takeP s_cm rest).1
    · rw [hq] at HH
      have hS := hs.out (some ([], rest)) (by unfold tailG; rw [hq]; rfl)
      have HSS := Lib.hid hS
      rw [take_no hq] at HH
      clear hS hs hq
      go_wp2_with fail
      refine HH.out.mono ?_
      rintro e w2 ⟨rfl, hr2, hb2⟩
      have Hi2 := Lib.hid (HK.out _ _ _ _ _ hi.out hr2 hb2 (Nat.le_refl _))
      clear hr2 hb2 HH
      go_wp2
      go_end0
      rw [HSS.out]
      refine ⟨rfl, ?_⟩
      show I w2 rest (acc ++ (xs ++ []))
      rw [List.append_nil]
      exact Hi2.out
    · rw [hq] at HH
      obtain ⟨l2, hl2⟩ : ∃ l2, (takeP s_cm rest).2 = l2 := ⟨_, rfl⟩
      have hlt2 : l2.length < rest.length := by rw [← hl2]; exact (take_len s_cm rest).2 hq
      have hS : ∀ o, sepP p l2 = o → S = ListS I J acc (o.map fun q => (xs ++ q.1, q.2)) := fun o ho => hs.out o (by unfold tailG; rw [hq, hl2]; exact ho)
      have HSS := Lib.hid hS
      have Hlt2 := Lib.hid hlt2
      rw [hl2] at HH
      clear hS hs hq hl2 hlt2
      go_wp2_with fail
      refine HH.out.mono ?_
      rintro e w2 ⟨rfl, hr2, hb2⟩
      have Hi2 := Lib.hid (HK.out _ _ _ _ _ hi.out hr2 hb2 (Nat.le_of_lt Hlt2.out))
      clear hr2 hb2 HH
      go_wp2_with fail
      refine (Hit.out w2 l2 (acc ++ xs) Hi2.out).mono ?_
      rintro e w3 hn
      cases hq : p l2 with
      | none =>
        rw [hq] at hn
        obtain ⟨rfl, hj⟩ := hn
        refine ⟨rfl, ?_⟩
        rw [HSS.out none (by rw [sepP_eq Hp.out, hq]; rfl)]
        exact ⟨rfl, hj⟩
      | some a2 =>
        rw [hq] at hn
        obtain ⟨rfl, hi3⟩ := hn
        obtain ⟨a2, r3⟩ := a2
        have hle := Hp.out l2 _ hq
        have Hle := Lib.hid hle
        have Hi3 := Lib.hid hi3
        have hS3 : ∀ o, tailG p r3 = o → S = ListS I J acc (o.map fun q => ((xs ++ [a2]) ++ q.1, q.2)) := fun o ho => by
         rw [HSS.out (o.map fun q => (a2 :: q.1, q.2)) (by rw [sepP_eq Hp.out, hq, Option.bind_some, ho])]
         cases o with
         | none => rfl
         | some q => simp
        have HS3 := Lib.hid hS3
        clear hq hi3 hle hS3 HSS
        go_wp2_with fail
        go_roundw
        case rel =>
         refine ⟨xs ++ [a2], r3, ?_, HS3⟩
         rw [← List.append_assoc]
         exact Hi3
        case measure =>
         have h1 := (HI.out _ _ _ Hi3.out).left
         have h2 := HL.out
         have h3 := Hlt2.out
         have h4 : r3.length ≤ l2.length := Hle.out
         omega
theorem cOk7 : ElOk Tryz.prog 22 64 6 56 cl0.w rdCl where
 under := Tryz.underlying22
 info := by kernel_rfl
 zs := rfl
 pos := by decide
 len := fun _ => rfl
 one := fun x u hu => by
  simp [rdCl] at hu
  rcases hu with rfl | rfl | rfl | rfl | rfl | rfl <;> rfl
theorem step_callO {P : Program} {ops : Array Oper} {o : Oper} {a : Act} {w : World} {K : Act → World → Prop} {Q : Exit → Act → World → Prop} {F : Prop} (hgd : o.guard = none) (f : FuncId) (args : Array Value) (hrun : (execOp a.eval o).run P w = .ok (.enter f args) w)
 (v : Value) (R : World → Prop) (hc : Calls P f args w fun e w' => (e = .returned v ∧ R w') ∨ (∃ ch, e = .panicked ch ∧ Q (.panic ch) a w')) (h : ∀ w', R w' → K (a.put o.dst v) w') : if Region.wanted o (yielded ops a.tmps) = true then Oper.wp P o a w K Q else F := by
 have hw : Region.wanted o (yielded ops a.tmps) = true := by simp [Region.wanted, hgd]
 rw [if_pos hw]
 unfold Oper.wp
 rw [hrun]
 refine hc.mono ?_
 rintro e w' (⟨rfl, hr⟩ | ⟨ch, rfl, hq⟩)
 · exact h w' hr
 · exact hq
structure CI (b C rb : Nat) (nm : ByteArray) (w0 w : World) (l : List Tk) (acc : List Cl) : Prop where
 rq : Rq w b l
 ap : Apb b w0 w
 sl : ∃ v, Bk w C #[.string nm, v, .slice none 0 0] 25 ∧ OwnG w (C + 1) 64 6 rdCl v acc
 bx : Bk w rb #[.pointer (some ⟨b, 0, none⟩)] 154
 len : acc.length + l.length ≤ 20000
 b0 : b < w0.heap.size
 rb0 : w0.heap.size ≤ C ∧ b ≠ rb
 c0 : rb < C
theorem CI.keep {b C rb : Nat} {nm : ByteArray} {w0 w w' : World} {l l' : List Tk} {acc : List Cl} (h : CI b C rb nm w0 w l acc) (hr : Rq w' b l') (hb : Apb b w w') (hl : l'.length ≤ l.length) : CI b C rb nm w0 w' l' acc := by
 have h1 := h.b0
 have h2 := h.rb0
 have h3 := h.c0
 have h4 := h.len
 obtain ⟨v, hv, ho⟩ := h.sl
 exact ⟨hr, h.ap.trans hb, ⟨v, hv.kept hb (by omega), ho.kept hb (by omega)⟩, h.bx.kept hb (by omega), by omega, h1, h2, h3⟩
set_option maxHeartbeats 8000000 in
theorem col1_c (b C rb : Nat) (nm : ByteArray) (w0 w : World) (l : List Tk) (acc : List Cl) (hi : CI b C rb nm w0 w l acc) :
 Calls Tryz.prog 144 #[.pointer (some ⟨C, 0, none⟩), .pointer (some ⟨rb, 0, none⟩)] w fun e w' => ItemS (CI b C rb nm w0) (Apb b w0) acc (columnP l) e w' := by
 obtain ⟨S, hS⟩ : ∃ S, ItemS (CI b C rb nm w0) (Apb b w0) acc (columnP l) = S := ⟨_, rfl⟩
 rw [hS]
 have HC := Lib.hid (fun u (hu : Rq u b l) => column_cR b l u hu)
 have Hi := Lib.hid hi
 have HS := Lib.hid hS
 obtain ⟨v, hv, ho⟩ := hi.sl
 have HV := Lib.hid hv
 have HO := Lib.hid ho
 have c1 : w.cell? ⟨C, 1, none⟩ = some v := hv.cell 1
 have f1 := hv.thaw 1
 have p0 : w.cell? ⟨rb, 0, none⟩ = some (.pointer (some ⟨b, 0, none⟩)) := hi.bx.cell 0
 have hlC := hv.lt
 have hlr := hi.bx.lt
 have hbC : b < C := by have := hi.b0; have := hi.rb0; have := hi.c0; omega
 have hln := hi.len
 have hw0C : w0.heap.size ≤ C := by have := hi.rb0; have := hi.c0; omega
 obtain ⟨x, hx⟩ : ∃ x : Cl, ((columnP l).map (·.1)).getD cl0 = x := ⟨_, rfl⟩
 have Hx := Lib.hid hx
 clear hi hv ho hS hx
 go_enter Tryz.func144, Tryz.ntmps144
 go_region_law (first
  | (refine step_callO rfl 145 #[.pointer (some ⟨b, 0, none⟩)] (by kernel_rfl) x.w (fun w' => ∃ r, columnP l = some (x, r) ∧ Rq w' b r ∧ Apb b w w') ((HC.out _ Hi.out.rq.drew).mono ?_) ?_
     · intro e w1 hn
       cases hq : columnP l with
       | none =>
         rw [hq] at hn
         refine .inr ⟨_, hn.1, rfl, ?_⟩
         rw [← HS.out, hq]
         exact ⟨rfl, Hi.out.ap.drew.trans hn.2⟩
       | some q =>
         obtain ⟨y, r⟩ := q
         have e := Hx.out
         rw [hq] at hn e
         have e : y = x := e
         subst e
         exact .inl ⟨hn.1, r, rfl, hn.2.1, (Apb.refl b w).drew.trans hn.2.2⟩
     rintro w1 ⟨r, hq1, hr1, hb1⟩
     have Hq1 := Lib.hid hq1
     have Hr1 := Lib.hid hr1
     have Hb1 := Lib.hid hb1
     have HV1 := Lib.hid (HV.out.kept hb1 (by omega))
     have HO1 := Lib.hid (HO.out.kept hb1 (by omega))
     have c1' : w1.cell? ⟨C, 1, none⟩ = some v := HV1.out.cell 1
     have f1' := HV1.out.thaw 1
     have hlC1 := HV1.out.lt
     have hle := column_len hq1
     simp only at hle
     clear hq1 hr1 hb1)
  | (refine step_appG cOk7 rfl (.tmp 3) (.tmp 6) rfl (C + 1) v acc [x] rfl (HO1.out.alloc _) (some ⟨w1.heap.size, 0, none⟩) 1 1 rfl rfl (by simp) (SlG.new cOk7.len [x] rfl) (by simp [maxLen]; omega) (by simp; omega) (by simp; omega) ?_
     intro g2 cap w2 hv2 hg2
     have hbk2 : ∀ k, k ≤ C → w2.heap[k]? = w1.heap[k]? := fun k hk => (hg2.block k (by simp; omega) (fun e => by have := (HO1.out.lt _ e.symm).1; omega)).trans (Below.heap_alloc _ _ k (by omega))
     have Hbk2 := Lib.hid hbk2
     have HO2 := Lib.hid hv2
     have Hg2 := Lib.hid (((Hi.out.ap.trans Hb1.out).alloc (.cells #[.string x.name, .int .i64 x.kind, .bool x.nul, .bool x.uni, .string x.ref, .int .i64 x.act] 64)).grown hg2 (fun k hk => by have := (HO1.out.lt k hk).1; omega))
     have HV2 : Hid (Bk w2 C #[.string nm, v, .slice none 0 0] 25) := Lib.hid ((hbk2 C (Nat.le_refl _)).trans HV1.out)
     have c2' : w2.cell? ⟨C, 1, none⟩ = some v := HV2.out.cell 1
     have f2' := HV2.out.thaw 1
     have hlC2 := HV2.out.lt
     clear hv2 hg2 hbk2))
 all_goals
  go_end0
  rw [← HS.out, Hq1.out]
  refine ⟨rfl, ⟨?_, Hg2.out.own (by omega) 1 _, ⟨_, HV2.out.set 1 _, ?_⟩, ?_, by simp; omega, Hi.out.b0, Hi.out.rb0, Hi.out.c0⟩⟩
  · exact (Hr1.out.same fun k hk => Hbk2.out k (by omega)).own (by omega) 1 _
  · have h2 := HO2.out.same (w' := w2.setCell ⟨C, 1, none⟩ (.slice (some ⟨g2, 0, none⟩) (acc.length + [x].length) cap)) (fun k hk => Below.heap_setCell _ _ _ _ (by have := (HO2.out.lt k hk).1; show k ≠ C; omega))
    exact h2
  · exact (Below.heap_setCell _ _ _ _ (show rb ≠ C by have := Hi.out.c0; omega)).trans ((Hbk2.out rb (by have := Hi.out.c0; omega)).trans (Hi.out.bx.kept Hb1.out (by have := Hi.out.b0; have := Hi.out.rb0; omega)))
def fnWs : List (List UInt8) := [w_count, w_sum, w_min, w_max]
def kdWs : List (List UInt8) := [w_bool, w_int, w_text]
def acWs : List (List UInt8) := [w_restrict, w_cascade, w_setnull]
def agW (a : Ag) : Option (List (List UInt8)) := catW (chW a.fn fnWs) (some (if a.fn = 0 then [] else [Lib.itoa a.col]))
theorem WS.yes {B b : Nat} {u w w' : World} {o : Option (List UInt8)} {e : Ending} (k : Wk B b u w) (h : WS B b w o e w') : (e = .panicked (boom 70) ∧ o = none ∧ Wk B b u w') ∨ (e = .returned (.tuple #[]) ∧ ∃ q, o = some q ∧ Wr w' B b q ∧ q.length ≤ 20000 ∧ Wk B b u w') := by
 cases o with
 | none => exact .inl ⟨h.1, rfl, k.trans h.2⟩
 | some q => exact .inr ⟨h.1, q, rfl, h.2.1, h.2.2.1, k.trans h.2.2.2⟩
theorem Bk.alloc {w : World} {b : Nat} {cs : Array Value} {T : TypeId} (h : Bk w b cs T) (o : Obj) : Bk (w.alloc o) b cs T := h.after (below_one w o) h.lt
set_option maxHeartbeats 4000000 in
theorem agg_w (B b : Nat) (l : List UInt8) (a : Ag) (w : World) (hw : Wr w B b l) (hl : l.length ≤ 20000) (hG : Gw B w) (ha : -9223372036854775808 ≤ a.col ∧ a.col ≤ 9223372036854775807) :
 Calls Tryz.prog 126 #[.pointer (some ⟨b, 0, none⟩), a.w] w (WS B b w ((agW a).bind (addW l))) := by
 obtain ⟨S, hS⟩ : ∃ S, WS B b w ((agW a).bind (addW l)) = S := ⟨_, rfl⟩
 rw [hS]
 unfold agW at hS
 rw [catW_add] at hS
 have HS := Lib.hid hS
 have HW := Lib.hid hw
 have HL := Lib.hid hl
 have HG := Lib.hid hG
 have Ha := Lib.hid ha
 have hbw := hw.lt
 have hBw := hw.le
 obtain ⟨fn, col⟩ := a
 simp only at ha Ha HS
 clear hS hw hl hG ha
 go_enter Tryz.func126, Tryz.ntmps126
 go_wp2_with fail
 go_region_law (first
  | (refine step_callO rfl 168 #[] (by kernel_rfl) (.slice (some ⟨w.heap.size + 1, 0, none⟩) 4 4) (fun w' => w' = wdN (w.alloc (.cells #[.int .i64 fn, .int .i64 col] 74)).drew fnWs) ((fns_c _).mono ?_) ?_
     · rintro e w5 ⟨rfl, rfl⟩
       exact .inl ⟨by simp, rfl⟩
     rintro w5 rfl)
  | (refine step_callO rfl 82 #[.pointer (some ⟨b, 0, none⟩), .int .i64 fn, .slice (some ⟨w.heap.size + 1, 0, none⟩) 4 4] (by kernel_rfl) (.tuple #[]) (fun w' => ∃ q, (chW fn fnWs).bind (addW l) = some q ∧ Wr w' B b q ∧ q.length ≤ 20000 ∧ Wk B b w w' ∧ Bk w' w.heap.size #[.int .i64 fn, .int .i64 col] 74) ((choice_w B b (w.heap.size + 1) l fn fnWs 4 (wdN (w.alloc (.cells #[.int .i64 fn, .int .i64 col] 74)).drew fnWs) ((HW.out.alloc _).drew.alloc _) HL.out (Ws.new (w.alloc (.cells #[.int .i64 fn, .int .i64 col] 74)).drew b fnWs _ rfl (by simp; omega) _ (by first | rfl | simp)) rfl (by omega) (by intro s hs; simp [fnWs] at hs; rcases hs with rfl | rfl | rfl | rfl <;> decide)).mono ?_) ?_
     · intro e w6 hs
       have hk : Wk B b w (wdN (w.alloc (.cells #[.int .i64 fn, .int .i64 col] 74)).drew fnWs) := ((Wk.refl B b w).alloc hBw _).drew.alloc (by simp; omega) _
       have hbk : Bk (wdN (w.alloc (.cells #[.int .i64 fn, .int .i64 col] 74)).drew fnWs) w.heap.size #[.int .i64 fn, .int .i64 col] 74 := (Bk.new w _ _).drew.alloc _
       rcases WS.yes (Wk.refl B b _) hs with ⟨rfl, h1, h2⟩ | ⟨rfl, q, h1, h2, h3, h4⟩
       · refine .inr ⟨_, rfl, rfl, ?_⟩
         rw [← HS.out, h1]
         exact ⟨rfl, hk.trans h2⟩
       · exact .inl ⟨rfl, q, h1, h2, h3, hk.trans h4, h4.bk hbk (by omega) (by decide)⟩
     rintro w6 ⟨q, h1, h2, h3, h4, hbk⟩
     have H1 := Lib.hid h1
     have H2 := Lib.hid h2
     have H3 := Lib.hid h3
     have H4 := Lib.hid h4
     have HB := Lib.hid hbk
     have c0 : w6.cell? ⟨w.heap.size, 0, none⟩ = some (.int .i64 fn) := hbk.cell 0
     have c1 : w6.cell? ⟨w.heap.size, 1, none⟩ = some (.int .i64 col) := hbk.cell 1
     clear h1 h2 h3 h4 hbk))
 all_goals
  by_cases h0 : fn = 0
  · have hSS : WS B b w (some q) = S := by rw [← HS.out, H1.out, Option.bind_some, if_pos h0]; rfl
    subst h0
    go_wp2
    go_end0
    rw [← hSS]
    exact ⟨rfl, H2.out, H3.out, H4.out⟩
  · have hSS : WS B b w (addW q [Lib.itoa col]) = S := by rw [← HS.out, H1.out, Option.bind_some, if_neg h0]; rfl
    have HSS := Lib.hid hSS
    clear hSS
    go_wp2_with fail
    refine (number_w B b q col w6 H2.out H3.out (HG.out.below H4.out.below) Ha.out).mono ?_
    rintro e w7 hs
    rcases (WS.from H4.out hs).out HSS.out with ⟨rfl, h⟩ | ⟨rfl, h⟩
    · exact ⟨rfl, h⟩
    · have HH := Lib.hid h
      clear h hs
      go_wp2
      go_end0
      exact HH.out
theorem ba_back (s : ByteArray) : ba s.data.toList = s := by
 cases s
 simp [ba]
theorem size_zero {s : ByteArray} (h : s.size = 0) : s = emp := by
 have : s.data = #[] := Array.eq_empty_of_size_eq_zero h
 cases s
 simp at this
 rw [this]
theorem size_ne {s : ByteArray} (h : ¬ s.size = 0) : s.toList.isEmpty = false := by
 rw [ByteArray.toList_eq]
 cases e : s.data.toList with
 | nil => exact absurd (show s.data.size = 0 by rw [← Array.length_toList, e]; rfl) h
 | cons a r => rfl
theorem size_eq {s : ByteArray} (h : s.size = 0) : s.toList.isEmpty = true := by
 rw [ByteArray.toList_eq, size_zero h]
 rfl
def refW (rf : ByteArray) (ac : Int) : Option (List (List UInt8)) := if rf.size = 0 then some [] else catW (some [w_ref, rf.data.toList]) (chW ac acWs)
def uniW (uni : Bool) (rf : ByteArray) (ac : Int) : Option (List (List UInt8)) := catW (some (if uni then [w_unique] else [])) (refW rf ac)
def nulW (nul uni : Bool) (rf : ByteArray) (ac : Int) : Option (List (List UInt8)) := catW (some (if nul then [w_null] else [])) (uniW uni rf ac)
def clW (c : Cl) : Option (List (List UInt8)) := catW (some [c.name.data.toList]) (catW (chW (IntKind.i64.wrap (c.kind - 1)) kdWs) (nulW c.nul c.uni c.ref c.act))
set_option maxHeartbeats 16000000 in
theorem column_w (B b : Nat) (l : List UInt8) (c : Cl) (w : World) (hw : Wr w B b l) (hl : l.length ≤ 20000) (hn : c.name.size ≤ 4611686018427387904) (hr : c.ref.size ≤ 4611686018427387904) :
 Calls Tryz.prog 121 #[.pointer (some ⟨b, 0, none⟩), c.w] w (WS B b w ((clW c).bind (addW l))) := by
 obtain ⟨S, hS⟩ : ∃ S, WS B b w ((clW c).bind (addW l)) = S := ⟨_, rfl⟩
 rw [hS]
 unfold clW at hS
 obtain ⟨nm, kd, nul, uni, rf, ac⟩ := c
 simp only at hn hr hS
 have hwl := hw.lt
 have hwB := hw.le
 obtain ⟨w0, hw0⟩ : ∃ w0, w.alloc (.cells #[.string nm, .int .i64 kd, .bool nul, .bool uni, .string rf, .int .i64 ac] 64) = w0 := ⟨_, rfl⟩
 have hne : w.heap.size ≠ b := by omega
 have hsz0 : w0.heap.size = w.heap.size + 1 := by rw [← hw0]; simp
 have HW0 : Hid (Wr w0 B b l) := Lib.hid (by rw [← hw0]; exact hw.alloc _)
 have HK0 : Hid (Wk B b w w0) := Lib.hid (by rw [← hw0]; exact (Wk.refl B b w).alloc hwB _)
 have HB0 : Hid (Bk w0 w.heap.size #[.string nm, .int .i64 kd, .bool nul, .bool uni, .string rf, .int .i64 ac] 64) := Lib.hid (by rw [← hw0]; exact Bk.new w _ _)
 have HE0 := Lib.hid hS
 have HL0 := Lib.hid hl
 have hb0 := HW0.out.lt
 have hB0 := HW0.out.le
 have hC0 := HB0.out.lt
 have Hn := Lib.hid hn
 have Hr := Lib.hid hr
 clear hS hw hl hn hr
 go_enter Tryz.func121, Tryz.ntmps121
 have d00 : w0.cell? ⟨w.heap.size, 0, none⟩ = some (.string nm) := HB0.out.cell 0
 go_wp2_with fail
 rw [← hsz0]
 refine (add_c B b w0.heap.size l [nm.data.toList] 1 _ (HW0.out.alloc _) HL0.out (Ws.new w0 b [nm.data.toList] _ (by rw [List.map_cons, List.map_nil, ba_back]) hb0 _ rfl) rfl (by omega) (by intro s hs; simp only [List.mem_singleton] at hs; subst hs; exact Hn.out)).mono ?_
 rintro e w1 hs
 rcases WS.yes (Wk.refl B b _) hs with ⟨rfl, h1, h2⟩ | ⟨rfl, l1, h1, h2, h3, h4⟩
 · refine ⟨rfl, ?_⟩
   rw [← HE0.out, catW_add, show (some [nm.data.toList]).bind (addW l) = none from h1]
   exact ⟨rfl, (HK0.out.alloc hB0 _).trans h2⟩
 · have he := HE0.out
   rw [catW_add, show (some [nm.data.toList]).bind (addW l) = some l1 from h1] at he
   have HE1 := Lib.hid (show WS B b w (Option.bind (catW (chW (IntKind.i64.wrap (kd - 1)) kdWs) (nulW nul uni rf ac)) (addW l1)) = S from he)
   clear he
   have HW1 := Lib.hid h2
   have HL1 := Lib.hid h3
   have HK1 := Lib.hid ((HK0.out.alloc hB0 _).trans h4)
   have HB1 := Lib.hid (h4.bk (HB0.out.alloc _) hne (by decide))
   have hb1 := h2.lt
   have hB1 := h2.le
   have hC1 := HB1.out.lt
   have d01 : w1.cell? ⟨w.heap.size, 0, none⟩ = some (.string nm) := HB1.out.cell 0
   have d11 : w1.cell? ⟨w.heap.size, 1, none⟩ = some (.int .i64 kd) := HB1.out.cell 1
   have d21 : w1.cell? ⟨w.heap.size, 2, none⟩ = some (.bool nul) := HB1.out.cell 2
   have d31 : w1.cell? ⟨w.heap.size, 3, none⟩ = some (.bool uni) := HB1.out.cell 3
   have d41 : w1.cell? ⟨w.heap.size, 4, none⟩ = some (.string rf) := HB1.out.cell 4
   have d51 : w1.cell? ⟨w.heap.size, 5, none⟩ = some (.int .i64 ac) := HB1.out.cell 5
   clear h1 h2 h3 h4 hs
   clear hw0 hsz0 HB0 HE0 HW0 HL0 HK0
   go_wp2_with fail
   go_region_law (first
    | (refine step_callO rfl 165 #[] (by kernel_rfl) (.slice (some ⟨w1.heap.size, 0, none⟩) 3 3) (fun w' => w' = wdN w1.drew kdWs) ((kinds_c _).mono ?_) ?_
       · rintro e w5 ⟨rfl, rfl⟩
         exact .inl ⟨by first | rfl | simp, rfl⟩
       rintro w5 rfl)
    | (refine step_callO rfl 82 #[.pointer (some ⟨b, 0, none⟩), .int .i64 (IntKind.i64.wrap (kd - 1)), .slice (some ⟨w1.heap.size, 0, none⟩) 3 3] (by first | kernel_rfl | rfl) (.tuple #[]) (fun w' => ∃ q, (chW (IntKind.i64.wrap (kd - 1)) kdWs).bind (addW l1) = some q ∧ Wr w' B b q ∧ q.length ≤ 20000 ∧ Wk B b w w' ∧ Bk w' w.heap.size #[.string nm, .int .i64 kd, .bool nul, .bool uni, .string rf, .int .i64 ac] 64) ((choice_w B b w1.heap.size l1 (IntKind.i64.wrap (kd - 1)) kdWs 3 (wdN w1.drew kdWs) (HW1.out.drew.alloc _) HL1.out (Ws.new w1.drew b kdWs _ rfl hb1 _ (by first | rfl | simp)) rfl (by omega) (by intro s hs; simp [kdWs] at hs; rcases hs with rfl | rfl | rfl <;> decide)).mono ?_) ?_
       · intro e w6 hs
         have hk : Wk B b w (wdN w1.drew kdWs) := HK1.out.drew.alloc hB1 _
         have hbk : Bk (wdN w1.drew kdWs) w.heap.size #[.string nm, .int .i64 kd, .bool nul, .bool uni, .string rf, .int .i64 ac] 64 := HB1.out.drew.alloc _
         rcases WS.yes (Wk.refl B b _) hs with ⟨rfl, h1, h2⟩ | ⟨rfl, q, h1, h2, h3, h4⟩
         · refine .inr ⟨_, rfl, rfl, ?_⟩
           rw [← HE1.out, catW_add, h1]
           exact ⟨rfl, hk.trans h2⟩
         · exact .inl ⟨rfl, q, h1, h2, h3, hk.trans h4, h4.bk hbk hne (by decide)⟩
       rintro w2 ⟨l2, h1, h2, h3, h4, hbk⟩
       have H12 := Lib.hid h1
       have HW2 := Lib.hid h2
       have HL2 := Lib.hid h3
       have HK2 := Lib.hid h4
       have HB2 := Lib.hid hbk
       have hb2 := h2.lt
       have hB2 := h2.le
       have hC2 := hbk.lt
       have d02 : w2.cell? ⟨w.heap.size, 0, none⟩ = some (.string nm) := HB2.out.cell 0
       have d12 : w2.cell? ⟨w.heap.size, 1, none⟩ = some (.int .i64 kd) := HB2.out.cell 1
       have d22 : w2.cell? ⟨w.heap.size, 2, none⟩ = some (.bool nul) := HB2.out.cell 2
       have d32 : w2.cell? ⟨w.heap.size, 3, none⟩ = some (.bool uni) := HB2.out.cell 3
       have d42 : w2.cell? ⟨w.heap.size, 4, none⟩ = some (.string rf) := HB2.out.cell 4
       have d52 : w2.cell? ⟨w.heap.size, 5, none⟩ = some (.int .i64 ac) := HB2.out.cell 5
       clear h1 h2 h3 h4 hbk))
   all_goals
    have he := HE1.out
    rw [catW_add, H12.out] at he
    have HE2 := Lib.hid (show WS B b w (Option.bind (nulW nul uni rf ac) (addW l2)) = S from he)
    clear he H12
    cases nul
    · have he := HE2.out
      unfold nulW at he
      rw [catW_add] at he
      clear HE2
      have HE2 := Lib.hid (show WS B b w (Option.bind (uniW uni rf ac) (addW l2)) = S from he)
      clear he
      cases uni
      · have he := HE2.out
        unfold uniW at he
        rw [catW_add] at he
        clear HE2
        have HE2 := Lib.hid (show WS B b w (Option.bind (refW rf ac) (addW l2)) = S from he)
        clear he
        by_cases hrf : rf.size = 0
        · have he := HE2.out
          unfold refW at he
          rw [if_pos hrf] at he
          clear HE2
          have HE2 := Lib.hid (show WS B b w (some l2) = S from he)
          have hrne := size_eq hrf
          clear he hrf
          go_wp2
          go_end0
          rw [← HE2.out]
          exact ⟨rfl, HW2.out, HL2.out, HK2.out⟩
        · have he := HE2.out
          unfold refW at he
          rw [if_neg hrf] at he
          clear HE2
          have HE2 := Lib.hid he
          have hrne := size_ne hrf
          clear he
          go_wp2_with fail
          refine (add_c B b w2.heap.size l2 [w_ref, rf.data.toList] 2 _ (HW2.out.alloc _) HL2.out (Ws.new w2 b [w_ref, rf.data.toList] _ (by rw [List.map_cons, List.map_cons, List.map_nil, ba_back]; rfl) hb2 _ rfl) rfl (by omega) (by intro s hs; simp only [List.mem_cons, List.not_mem_nil, or_false] at hs; rcases hs with rfl | rfl; exact (by decide); exact Hr.out)).mono ?_
          rintro e w3 hs
          rcases WS.yes (Wk.refl B b _) hs with ⟨rfl, h1, h2⟩ | ⟨rfl, l3, h1, h2, h3, h4⟩
          · refine ⟨rfl, ?_⟩
            rw [← HE2.out, catW_add, show (some [w_ref, rf.data.toList]).bind (addW l2) = none from h1]
            exact ⟨rfl, (HK2.out.alloc hB2 _).trans h2⟩
          · have he := HE2.out
            rw [catW_add, show (some [w_ref, rf.data.toList]).bind (addW l2) = some l3 from h1] at he
            have HE3 := Lib.hid (show WS B b w (Option.bind (chW ac acWs) (addW l3)) = S from he)
            clear he
            have HW3 := Lib.hid h2
            have HL3 := Lib.hid h3
            have HK3 := Lib.hid ((HK2.out.alloc hB2 _).trans h4)
            have HB3 := Lib.hid (h4.bk (HB2.out.alloc _) hne (by decide))
            have hb3 := h2.lt
            have hB3 := h2.le
            have hC3 := HB3.out.lt
            have d03 : w3.cell? ⟨w.heap.size, 0, none⟩ = some (.string nm) := HB3.out.cell 0
            have d13 : w3.cell? ⟨w.heap.size, 1, none⟩ = some (.int .i64 kd) := HB3.out.cell 1
            have d23 : w3.cell? ⟨w.heap.size, 2, none⟩ = some (.bool false) := HB3.out.cell 2
            have d33 : w3.cell? ⟨w.heap.size, 3, none⟩ = some (.bool false) := HB3.out.cell 3
            have d43 : w3.cell? ⟨w.heap.size, 4, none⟩ = some (.string rf) := HB3.out.cell 4
            have d53 : w3.cell? ⟨w.heap.size, 5, none⟩ = some (.int .i64 ac) := HB3.out.cell 5
            clear h1 h2 h3 h4 hs
            go_wp2_with fail
            go_region_law (first
             | (refine step_callO rfl 166 #[] (by kernel_rfl) (.slice (some ⟨w3.heap.size, 0, none⟩) 3 3) (fun w' => w' = wdN w3.drew acWs) ((acts_c _).mono ?_) ?_
                · rintro e w5 ⟨rfl, rfl⟩
                  exact .inl ⟨by first | rfl | simp, rfl⟩
                rintro w5 rfl)
             | (refine step_callO rfl 82 #[.pointer (some ⟨b, 0, none⟩), .int .i64 ac, .slice (some ⟨w3.heap.size, 0, none⟩) 3 3] (by first | kernel_rfl | rfl) (.tuple #[]) (fun w' => ∃ q, (chW ac acWs).bind (addW l3) = some q ∧ Wr w' B b q ∧ q.length ≤ 20000 ∧ Wk B b w w' ∧ Bk w' w.heap.size #[.string nm, .int .i64 kd, .bool false, .bool false, .string rf, .int .i64 ac] 64) ((choice_w B b w3.heap.size l3 ac acWs 3 (wdN w3.drew acWs) (HW3.out.drew.alloc _) HL3.out (Ws.new w3.drew b acWs _ rfl hb3 _ (by first | rfl | simp)) rfl (by omega) (by intro s hs; simp [acWs] at hs; rcases hs with rfl | rfl | rfl <;> decide)).mono ?_) ?_
                · intro e w6 hs
                  have hk : Wk B b w (wdN w3.drew acWs) := HK3.out.drew.alloc hB3 _
                  have hbk : Bk (wdN w3.drew acWs) w.heap.size #[.string nm, .int .i64 kd, .bool false, .bool false, .string rf, .int .i64 ac] 64 := HB3.out.drew.alloc _
                  rcases WS.yes (Wk.refl B b _) hs with ⟨rfl, h1, h2⟩ | ⟨rfl, q, h1, h2, h3, h4⟩
                  · refine .inr ⟨_, rfl, rfl, ?_⟩
                    rw [← HE3.out, h1]
                    exact ⟨rfl, hk.trans h2⟩
                  · exact .inl ⟨rfl, q, h1, h2, h3, hk.trans h4, h4.bk hbk hne (by decide)⟩
                rintro w4 ⟨l4, h1, h2, h3, h4, hbk⟩
                have H14 := Lib.hid h1
                have HW4 := Lib.hid h2
                have HL4 := Lib.hid h3
                have HK4 := Lib.hid h4
                have HB4 := Lib.hid hbk
                have hb4 := h2.lt
                have hB4 := h2.le
                have hC4 := hbk.lt
                clear h1 h2 h3 h4 hbk))
            all_goals
             have he := HE3.out
             rw [H14.out] at he
             have HE4 := Lib.hid he
             clear he H14
             go_wp2
             go_end0
             rw [← HE4.out]
             exact ⟨rfl, HW4.out, HL4.out, HK4.out⟩
      · have he := HE2.out
        unfold uniW at he
        clear HE2
        have HE2 := Lib.hid (show WS B b w (Option.bind (catW (some [w_unique]) (refW rf ac)) (addW l2)) = S from he)
        clear he
        go_wp2_with fail
        refine (add_c B b w2.heap.size l2 [w_unique] 1 _ (HW2.out.alloc _) HL2.out (Ws.new w2 b [w_unique] _ (rfl) hb2 _ rfl) rfl (by omega) (by intro s hs; simp only [List.mem_singleton] at hs; subst hs; decide)).mono ?_
        rintro e w3 hs
        rcases WS.yes (Wk.refl B b _) hs with ⟨rfl, h1, h2⟩ | ⟨rfl, l3, h1, h2, h3, h4⟩
        · refine ⟨rfl, ?_⟩
          rw [← HE2.out, catW_add, show (some [w_unique]).bind (addW l2) = none from h1]
          exact ⟨rfl, (HK2.out.alloc hB2 _).trans h2⟩
        · have he := HE2.out
          rw [catW_add, show (some [w_unique]).bind (addW l2) = some l3 from h1] at he
          have HE3 := Lib.hid (show WS B b w (Option.bind (refW rf ac) (addW l3)) = S from he)
          clear he
          have HW3 := Lib.hid h2
          have HL3 := Lib.hid h3
          have HK3 := Lib.hid ((HK2.out.alloc hB2 _).trans h4)
          have HB3 := Lib.hid (h4.bk (HB2.out.alloc _) hne (by decide))
          have hb3 := h2.lt
          have hB3 := h2.le
          have hC3 := HB3.out.lt
          have d03 : w3.cell? ⟨w.heap.size, 0, none⟩ = some (.string nm) := HB3.out.cell 0
          have d13 : w3.cell? ⟨w.heap.size, 1, none⟩ = some (.int .i64 kd) := HB3.out.cell 1
          have d23 : w3.cell? ⟨w.heap.size, 2, none⟩ = some (.bool false) := HB3.out.cell 2
          have d33 : w3.cell? ⟨w.heap.size, 3, none⟩ = some (.bool true) := HB3.out.cell 3
          have d43 : w3.cell? ⟨w.heap.size, 4, none⟩ = some (.string rf) := HB3.out.cell 4
          have d53 : w3.cell? ⟨w.heap.size, 5, none⟩ = some (.int .i64 ac) := HB3.out.cell 5
          clear h1 h2 h3 h4 hs
          by_cases hrf : rf.size = 0
          · have he := HE3.out
            unfold refW at he
            rw [if_pos hrf] at he
            clear HE3
            have HE3 := Lib.hid (show WS B b w (some l3) = S from he)
            have hrne := size_eq hrf
            clear he hrf
            go_wp2
            go_end0
            rw [← HE3.out]
            exact ⟨rfl, HW3.out, HL3.out, HK3.out⟩
          · have he := HE3.out
            unfold refW at he
            rw [if_neg hrf] at he
            clear HE3
            have HE3 := Lib.hid he
            have hrne := size_ne hrf
            clear he
            go_wp2_with fail
            refine (add_c B b w3.heap.size l3 [w_ref, rf.data.toList] 2 _ (HW3.out.alloc _) HL3.out (Ws.new w3 b [w_ref, rf.data.toList] _ (by rw [List.map_cons, List.map_cons, List.map_nil, ba_back]; rfl) hb3 _ rfl) rfl (by omega) (by intro s hs; simp only [List.mem_cons, List.not_mem_nil, or_false] at hs; rcases hs with rfl | rfl; exact (by decide); exact Hr.out)).mono ?_
            rintro e w4 hs
            rcases WS.yes (Wk.refl B b _) hs with ⟨rfl, h1, h2⟩ | ⟨rfl, l4, h1, h2, h3, h4⟩
            · refine ⟨rfl, ?_⟩
              rw [← HE3.out, catW_add, show (some [w_ref, rf.data.toList]).bind (addW l3) = none from h1]
              exact ⟨rfl, (HK3.out.alloc hB3 _).trans h2⟩
            · have he := HE3.out
              rw [catW_add, show (some [w_ref, rf.data.toList]).bind (addW l3) = some l4 from h1] at he
              have HE4 := Lib.hid (show WS B b w (Option.bind (chW ac acWs) (addW l4)) = S from he)
              clear he
              have HW4 := Lib.hid h2
              have HL4 := Lib.hid h3
              have HK4 := Lib.hid ((HK3.out.alloc hB3 _).trans h4)
              have HB4 := Lib.hid (h4.bk (HB3.out.alloc _) hne (by decide))
              have hb4 := h2.lt
              have hB4 := h2.le
              have hC4 := HB4.out.lt
              have d04 : w4.cell? ⟨w.heap.size, 0, none⟩ = some (.string nm) := HB4.out.cell 0
              have d14 : w4.cell? ⟨w.heap.size, 1, none⟩ = some (.int .i64 kd) := HB4.out.cell 1
              have d24 : w4.cell? ⟨w.heap.size, 2, none⟩ = some (.bool false) := HB4.out.cell 2
              have d34 : w4.cell? ⟨w.heap.size, 3, none⟩ = some (.bool true) := HB4.out.cell 3
              have d44 : w4.cell? ⟨w.heap.size, 4, none⟩ = some (.string rf) := HB4.out.cell 4
              have d54 : w4.cell? ⟨w.heap.size, 5, none⟩ = some (.int .i64 ac) := HB4.out.cell 5
              clear h1 h2 h3 h4 hs
              go_wp2_with fail
              go_region_law (first
               | (refine step_callO rfl 166 #[] (by kernel_rfl) (.slice (some ⟨w4.heap.size, 0, none⟩) 3 3) (fun w' => w' = wdN w4.drew acWs) ((acts_c _).mono ?_) ?_
                  · rintro e w5 ⟨rfl, rfl⟩
                    exact .inl ⟨by first | rfl | simp, rfl⟩
                  rintro w5 rfl)
               | (refine step_callO rfl 82 #[.pointer (some ⟨b, 0, none⟩), .int .i64 ac, .slice (some ⟨w4.heap.size, 0, none⟩) 3 3] (by first | kernel_rfl | rfl) (.tuple #[]) (fun w' => ∃ q, (chW ac acWs).bind (addW l4) = some q ∧ Wr w' B b q ∧ q.length ≤ 20000 ∧ Wk B b w w' ∧ Bk w' w.heap.size #[.string nm, .int .i64 kd, .bool false, .bool true, .string rf, .int .i64 ac] 64) ((choice_w B b w4.heap.size l4 ac acWs 3 (wdN w4.drew acWs) (HW4.out.drew.alloc _) HL4.out (Ws.new w4.drew b acWs _ rfl hb4 _ (by first | rfl | simp)) rfl (by omega) (by intro s hs; simp [acWs] at hs; rcases hs with rfl | rfl | rfl <;> decide)).mono ?_) ?_
                  · intro e w6 hs
                    have hk : Wk B b w (wdN w4.drew acWs) := HK4.out.drew.alloc hB4 _
                    have hbk : Bk (wdN w4.drew acWs) w.heap.size #[.string nm, .int .i64 kd, .bool false, .bool true, .string rf, .int .i64 ac] 64 := HB4.out.drew.alloc _
                    rcases WS.yes (Wk.refl B b _) hs with ⟨rfl, h1, h2⟩ | ⟨rfl, q, h1, h2, h3, h4⟩
                    · refine .inr ⟨_, rfl, rfl, ?_⟩
                      rw [← HE4.out, h1]
                      exact ⟨rfl, hk.trans h2⟩
                    · exact .inl ⟨rfl, q, h1, h2, h3, hk.trans h4, h4.bk hbk hne (by decide)⟩
                  rintro w5 ⟨l5, h1, h2, h3, h4, hbk⟩
                  have H15 := Lib.hid h1
                  have HW5 := Lib.hid h2
                  have HL5 := Lib.hid h3
                  have HK5 := Lib.hid h4
                  have HB5 := Lib.hid hbk
                  have hb5 := h2.lt
                  have hB5 := h2.le
                  have hC5 := hbk.lt
                  clear h1 h2 h3 h4 hbk))
              all_goals
               have he := HE4.out
               rw [H15.out] at he
               have HE5 := Lib.hid he
               clear he H15
               go_wp2
               go_end0
               rw [← HE5.out]
               exact ⟨rfl, HW5.out, HL5.out, HK5.out⟩
    · have he := HE2.out
      unfold nulW at he
      clear HE2
      have HE2 := Lib.hid (show WS B b w (Option.bind (catW (some [w_null]) (uniW uni rf ac)) (addW l2)) = S from he)
      clear he
      go_wp2_with fail
      refine (add_c B b w2.heap.size l2 [w_null] 1 _ (HW2.out.alloc _) HL2.out (Ws.new w2 b [w_null] _ (rfl) hb2 _ rfl) rfl (by omega) (by intro s hs; simp only [List.mem_singleton] at hs; subst hs; decide)).mono ?_
      rintro e w3 hs
      rcases WS.yes (Wk.refl B b _) hs with ⟨rfl, h1, h2⟩ | ⟨rfl, l3, h1, h2, h3, h4⟩
      · refine ⟨rfl, ?_⟩
        rw [← HE2.out, catW_add, show (some [w_null]).bind (addW l2) = none from h1]
        exact ⟨rfl, (HK2.out.alloc hB2 _).trans h2⟩
      · have he := HE2.out
        rw [catW_add, show (some [w_null]).bind (addW l2) = some l3 from h1] at he
        have HE3 := Lib.hid (show WS B b w (Option.bind (uniW uni rf ac) (addW l3)) = S from he)
        clear he
        have HW3 := Lib.hid h2
        have HL3 := Lib.hid h3
        have HK3 := Lib.hid ((HK2.out.alloc hB2 _).trans h4)
        have HB3 := Lib.hid (h4.bk (HB2.out.alloc _) hne (by decide))
        have hb3 := h2.lt
        have hB3 := h2.le
        have hC3 := HB3.out.lt
        have d03 : w3.cell? ⟨w.heap.size, 0, none⟩ = some (.string nm) := HB3.out.cell 0
        have d13 : w3.cell? ⟨w.heap.size, 1, none⟩ = some (.int .i64 kd) := HB3.out.cell 1
        have d23 : w3.cell? ⟨w.heap.size, 2, none⟩ = some (.bool true) := HB3.out.cell 2
        have d33 : w3.cell? ⟨w.heap.size, 3, none⟩ = some (.bool uni) := HB3.out.cell 3
        have d43 : w3.cell? ⟨w.heap.size, 4, none⟩ = some (.string rf) := HB3.out.cell 4
        have d53 : w3.cell? ⟨w.heap.size, 5, none⟩ = some (.int .i64 ac) := HB3.out.cell 5
        clear h1 h2 h3 h4 hs
        cases uni
        · have he := HE3.out
          unfold uniW at he
          rw [catW_add] at he
          clear HE3
          have HE3 := Lib.hid (show WS B b w (Option.bind (refW rf ac) (addW l3)) = S from he)
          clear he
          by_cases hrf : rf.size = 0
          · have he := HE3.out
            unfold refW at he
            rw [if_pos hrf] at he
            clear HE3
            have HE3 := Lib.hid (show WS B b w (some l3) = S from he)
            have hrne := size_eq hrf
            clear he hrf
            go_wp2
            go_end0
            rw [← HE3.out]
            exact ⟨rfl, HW3.out, HL3.out, HK3.out⟩
          · have he := HE3.out
            unfold refW at he
            rw [if_neg hrf] at he
            clear HE3
            have HE3 := Lib.hid he
            have hrne := size_ne hrf
            clear he
            go_wp2_with fail
            refine (add_c B b w3.heap.size l3 [w_ref, rf.data.toList] 2 _ (HW3.out.alloc _) HL3.out (Ws.new w3 b [w_ref, rf.data.toList] _ (by rw [List.map_cons, List.map_cons, List.map_nil, ba_back]; rfl) hb3 _ rfl) rfl (by omega) (by intro s hs; simp only [List.mem_cons, List.not_mem_nil, or_false] at hs; rcases hs with rfl | rfl; exact (by decide); exact Hr.out)).mono ?_
            rintro e w4 hs
            rcases WS.yes (Wk.refl B b _) hs with ⟨rfl, h1, h2⟩ | ⟨rfl, l4, h1, h2, h3, h4⟩
            · refine ⟨rfl, ?_⟩
              rw [← HE3.out, catW_add, show (some [w_ref, rf.data.toList]).bind (addW l3) = none from h1]
              exact ⟨rfl, (HK3.out.alloc hB3 _).trans h2⟩
            · have he := HE3.out
              rw [catW_add, show (some [w_ref, rf.data.toList]).bind (addW l3) = some l4 from h1] at he
              have HE4 := Lib.hid (show WS B b w (Option.bind (chW ac acWs) (addW l4)) = S from he)
              clear he
              have HW4 := Lib.hid h2
              have HL4 := Lib.hid h3
              have HK4 := Lib.hid ((HK3.out.alloc hB3 _).trans h4)
              have HB4 := Lib.hid (h4.bk (HB3.out.alloc _) hne (by decide))
              have hb4 := h2.lt
              have hB4 := h2.le
              have hC4 := HB4.out.lt
              have d04 : w4.cell? ⟨w.heap.size, 0, none⟩ = some (.string nm) := HB4.out.cell 0
              have d14 : w4.cell? ⟨w.heap.size, 1, none⟩ = some (.int .i64 kd) := HB4.out.cell 1
              have d24 : w4.cell? ⟨w.heap.size, 2, none⟩ = some (.bool true) := HB4.out.cell 2
              have d34 : w4.cell? ⟨w.heap.size, 3, none⟩ = some (.bool false) := HB4.out.cell 3
              have d44 : w4.cell? ⟨w.heap.size, 4, none⟩ = some (.string rf) := HB4.out.cell 4
              have d54 : w4.cell? ⟨w.heap.size, 5, none⟩ = some (.int .i64 ac) := HB4.out.cell 5
              clear h1 h2 h3 h4 hs
              go_wp2_with fail
              go_region_law (first
               | (refine step_callO rfl 166 #[] (by kernel_rfl) (.slice (some ⟨w4.heap.size, 0, none⟩) 3 3) (fun w' => w' = wdN w4.drew acWs) ((acts_c _).mono ?_) ?_
                  · rintro e w5 ⟨rfl, rfl⟩
                    exact .inl ⟨by first | rfl | simp, rfl⟩
                  rintro w5 rfl)
               | (refine step_callO rfl 82 #[.pointer (some ⟨b, 0, none⟩), .int .i64 ac, .slice (some ⟨w4.heap.size, 0, none⟩) 3 3] (by first | kernel_rfl | rfl) (.tuple #[]) (fun w' => ∃ q, (chW ac acWs).bind (addW l4) = some q ∧ Wr w' B b q ∧ q.length ≤ 20000 ∧ Wk B b w w' ∧ Bk w' w.heap.size #[.string nm, .int .i64 kd, .bool true, .bool false, .string rf, .int .i64 ac] 64) ((choice_w B b w4.heap.size l4 ac acWs 3 (wdN w4.drew acWs) (HW4.out.drew.alloc _) HL4.out (Ws.new w4.drew b acWs _ rfl hb4 _ (by first | rfl | simp)) rfl (by omega) (by intro s hs; simp [acWs] at hs; rcases hs with rfl | rfl | rfl <;> decide)).mono ?_) ?_
                  · intro e w6 hs
                    have hk : Wk B b w (wdN w4.drew acWs) := HK4.out.drew.alloc hB4 _
                    have hbk : Bk (wdN w4.drew acWs) w.heap.size #[.string nm, .int .i64 kd, .bool true, .bool false, .string rf, .int .i64 ac] 64 := HB4.out.drew.alloc _
                    rcases WS.yes (Wk.refl B b _) hs with ⟨rfl, h1, h2⟩ | ⟨rfl, q, h1, h2, h3, h4⟩
                    · refine .inr ⟨_, rfl, rfl, ?_⟩
                      rw [← HE4.out, h1]
                      exact ⟨rfl, hk.trans h2⟩
                    · exact .inl ⟨rfl, q, h1, h2, h3, hk.trans h4, h4.bk hbk hne (by decide)⟩
                  rintro w5 ⟨l5, h1, h2, h3, h4, hbk⟩
                  have H15 := Lib.hid h1
                  have HW5 := Lib.hid h2
                  have HL5 := Lib.hid h3
                  have HK5 := Lib.hid h4
                  have HB5 := Lib.hid hbk
                  have hb5 := h2.lt
                  have hB5 := h2.le
                  have hC5 := hbk.lt
                  clear h1 h2 h3 h4 hbk))
              all_goals
               have he := HE4.out
               rw [H15.out] at he
               have HE5 := Lib.hid he
               clear he H15
               go_wp2
               go_end0
               rw [← HE5.out]
               exact ⟨rfl, HW5.out, HL5.out, HK5.out⟩
        · have he := HE3.out
          unfold uniW at he
          clear HE3
          have HE3 := Lib.hid (show WS B b w (Option.bind (catW (some [w_unique]) (refW rf ac)) (addW l3)) = S from he)
          clear he
          go_wp2_with fail
          refine (add_c B b w3.heap.size l3 [w_unique] 1 _ (HW3.out.alloc _) HL3.out (Ws.new w3 b [w_unique] _ (rfl) hb3 _ rfl) rfl (by omega) (by intro s hs; simp only [List.mem_singleton] at hs; subst hs; decide)).mono ?_
          rintro e w4 hs
          rcases WS.yes (Wk.refl B b _) hs with ⟨rfl, h1, h2⟩ | ⟨rfl, l4, h1, h2, h3, h4⟩
          · refine ⟨rfl, ?_⟩
            rw [← HE3.out, catW_add, show (some [w_unique]).bind (addW l3) = none from h1]
            exact ⟨rfl, (HK3.out.alloc hB3 _).trans h2⟩
          · have he := HE3.out
            rw [catW_add, show (some [w_unique]).bind (addW l3) = some l4 from h1] at he
            have HE4 := Lib.hid (show WS B b w (Option.bind (refW rf ac) (addW l4)) = S from he)
            clear he
            have HW4 := Lib.hid h2
            have HL4 := Lib.hid h3
            have HK4 := Lib.hid ((HK3.out.alloc hB3 _).trans h4)
            have HB4 := Lib.hid (h4.bk (HB3.out.alloc _) hne (by decide))
            have hb4 := h2.lt
            have hB4 := h2.le
            have hC4 := HB4.out.lt
            have d04 : w4.cell? ⟨w.heap.size, 0, none⟩ = some (.string nm) := HB4.out.cell 0
            have d14 : w4.cell? ⟨w.heap.size, 1, none⟩ = some (.int .i64 kd) := HB4.out.cell 1
            have d24 : w4.cell? ⟨w.heap.size, 2, none⟩ = some (.bool true) := HB4.out.cell 2
            have d34 : w4.cell? ⟨w.heap.size, 3, none⟩ = some (.bool true) := HB4.out.cell 3
            have d44 : w4.cell? ⟨w.heap.size, 4, none⟩ = some (.string rf) := HB4.out.cell 4
            have d54 : w4.cell? ⟨w.heap.size, 5, none⟩ = some (.int .i64 ac) := HB4.out.cell 5
            clear h1 h2 h3 h4 hs
            by_cases hrf : rf.size = 0
            · have he := HE4.out
              unfold refW at he
              rw [if_pos hrf] at he
              clear HE4
              have HE4 := Lib.hid (show WS B b w (some l4) = S from he)
              have hrne := size_eq hrf
              clear he hrf
              go_wp2
              go_end0
              rw [← HE4.out]
              exact ⟨rfl, HW4.out, HL4.out, HK4.out⟩
            · have he := HE4.out
              unfold refW at he
              rw [if_neg hrf] at he
              clear HE4
              have HE4 := Lib.hid he
              have hrne := size_ne hrf
              clear he
              go_wp2_with fail
              refine (add_c B b w4.heap.size l4 [w_ref, rf.data.toList] 2 _ (HW4.out.alloc _) HL4.out (Ws.new w4 b [w_ref, rf.data.toList] _ (by rw [List.map_cons, List.map_cons, List.map_nil, ba_back]; rfl) hb4 _ rfl) rfl (by omega) (by intro s hs; simp only [List.mem_cons, List.not_mem_nil, or_false] at hs; rcases hs with rfl | rfl; exact (by decide); exact Hr.out)).mono ?_
              rintro e w5 hs
              rcases WS.yes (Wk.refl B b _) hs with ⟨rfl, h1, h2⟩ | ⟨rfl, l5, h1, h2, h3, h4⟩
              · refine ⟨rfl, ?_⟩
                rw [← HE4.out, catW_add, show (some [w_ref, rf.data.toList]).bind (addW l4) = none from h1]
                exact ⟨rfl, (HK4.out.alloc hB4 _).trans h2⟩
              · have he := HE4.out
                rw [catW_add, show (some [w_ref, rf.data.toList]).bind (addW l4) = some l5 from h1] at he
                have HE5 := Lib.hid (show WS B b w (Option.bind (chW ac acWs) (addW l5)) = S from he)
                clear he
                have HW5 := Lib.hid h2
                have HL5 := Lib.hid h3
                have HK5 := Lib.hid ((HK4.out.alloc hB4 _).trans h4)
                have HB5 := Lib.hid (h4.bk (HB4.out.alloc _) hne (by decide))
                have hb5 := h2.lt
                have hB5 := h2.le
                have hC5 := HB5.out.lt
                have d05 : w5.cell? ⟨w.heap.size, 0, none⟩ = some (.string nm) := HB5.out.cell 0
                have d15 : w5.cell? ⟨w.heap.size, 1, none⟩ = some (.int .i64 kd) := HB5.out.cell 1
                have d25 : w5.cell? ⟨w.heap.size, 2, none⟩ = some (.bool true) := HB5.out.cell 2
                have d35 : w5.cell? ⟨w.heap.size, 3, none⟩ = some (.bool true) := HB5.out.cell 3
                have d45 : w5.cell? ⟨w.heap.size, 4, none⟩ = some (.string rf) := HB5.out.cell 4
                have d55 : w5.cell? ⟨w.heap.size, 5, none⟩ = some (.int .i64 ac) := HB5.out.cell 5
                clear h1 h2 h3 h4 hs
                go_wp2_with fail
                go_region_law (first
                 | (refine step_callO rfl 166 #[] (by kernel_rfl) (.slice (some ⟨w5.heap.size, 0, none⟩) 3 3) (fun w' => w' = wdN w5.drew acWs) ((acts_c _).mono ?_) ?_
                    · rintro e w5 ⟨rfl, rfl⟩
                      exact .inl ⟨by first | rfl | simp, rfl⟩
                    rintro w5 rfl)
                 | (refine step_callO rfl 82 #[.pointer (some ⟨b, 0, none⟩), .int .i64 ac, .slice (some ⟨w5.heap.size, 0, none⟩) 3 3] (by first | kernel_rfl | rfl) (.tuple #[]) (fun w' => ∃ q, (chW ac acWs).bind (addW l5) = some q ∧ Wr w' B b q ∧ q.length ≤ 20000 ∧ Wk B b w w' ∧ Bk w' w.heap.size #[.string nm, .int .i64 kd, .bool true, .bool true, .string rf, .int .i64 ac] 64) ((choice_w B b w5.heap.size l5 ac acWs 3 (wdN w5.drew acWs) (HW5.out.drew.alloc _) HL5.out (Ws.new w5.drew b acWs _ rfl hb5 _ (by first | rfl | simp)) rfl (by omega) (by intro s hs; simp [acWs] at hs; rcases hs with rfl | rfl | rfl <;> decide)).mono ?_) ?_
                    · intro e w6 hs
                      have hk : Wk B b w (wdN w5.drew acWs) := HK5.out.drew.alloc hB5 _
                      have hbk : Bk (wdN w5.drew acWs) w.heap.size #[.string nm, .int .i64 kd, .bool true, .bool true, .string rf, .int .i64 ac] 64 := HB5.out.drew.alloc _
                      rcases WS.yes (Wk.refl B b _) hs with ⟨rfl, h1, h2⟩ | ⟨rfl, q, h1, h2, h3, h4⟩
                      · refine .inr ⟨_, rfl, rfl, ?_⟩
                        rw [← HE5.out, h1]
                        exact ⟨rfl, hk.trans h2⟩
                      · exact .inl ⟨rfl, q, h1, h2, h3, hk.trans h4, h4.bk hbk hne (by decide)⟩
                    rintro w6 ⟨l6, h1, h2, h3, h4, hbk⟩
                    have H16 := Lib.hid h1
                    have HW6 := Lib.hid h2
                    have HL6 := Lib.hid h3
                    have HK6 := Lib.hid h4
                    have HB6 := Lib.hid hbk
                    have hb6 := h2.lt
                    have hB6 := h2.le
                    have hC6 := hbk.lt
                    clear h1 h2 h3 h4 hbk))
                all_goals
                 have he := HE5.out
                 rw [H16.out] at he
                 have HE6 := Lib.hid he
                 clear he H16
                 go_wp2
                 go_end0
                 rw [← HE6.out]
                 exact ⟨rfl, HW6.out, HL6.out, HK6.out⟩
set_option maxHeartbeats 8000000 in
theorem colI_w (B b k1 k2 : Nat) (lc : List UInt8) (A : Option Addr) (n c : Nat) (xs : List Cl) (u : World) (k : Nat) (x : Cl) (h1 : u.cell? ⟨k1, 0, none⟩ = some (.pointer (some ⟨b, 0, none⟩))) (h2 : u.cell? ⟨k2, 1, none⟩ = some (.slice A n c)) (hs : SlG u A 6 rdCl xs) (hn : xs.length = n) (hm : n ≤ maxLen) (hx : xs[k]? = some x) (hw : Wr u B b lc) (hl : lc.length ≤ 20000) (hz : x.name.size ≤ 4611686018427387904 ∧ x.ref.size ≤ 4611686018427387904) :
 Calls Tryz.prog 120 #[.int .i64 k, .pointer (some ⟨k1, 0, none⟩), .pointer (some ⟨k2, 0, none⟩)] u (WS B b u ((clW x).bind (addW lc))) := by
 obtain ⟨S, hS⟩ : ∃ S, WS B b u ((clW x).bind (addW lc)) = S := ⟨_, rfl⟩
 rw [hS]
 unfold maxLen at hm
 have hlt : k < n := by rw [← hn]; exact (List.getElem?_eq_some_iff.1 hx).1
 obtain ⟨g, off, hA, hg, hcell⟩ : ∃ g off, A = some ⟨g, off, none⟩ ∧ g < u.heap.size ∧ ∀ i x, xs[i]? = some x → ∀ j w, (rdCl x)[j]? = some w → u.cell? ⟨g, off + i * 6 + j, none⟩ = some w := by
  rcases hs with h | h
  · rw [h] at hx; simp at hx
  · exact h
 subst hA
 have hc := hcell k x hx
 have e0 : u.cell? ⟨g, off + k * 6, none⟩ = some (.string x.name) := hc 0 _ rfl
 have e1 : u.cell? ⟨g, off + k * 6 + 1, none⟩ = some (.int .i64 x.kind) := hc 1 _ rfl
 have e2 : u.cell? ⟨g, off + k * 6 + 2, none⟩ = some (.bool x.nul) := hc 2 _ rfl
 have e3 : u.cell? ⟨g, off + k * 6 + 3, none⟩ = some (.bool x.uni) := hc 3 _ rfl
 have e4 : u.cell? ⟨g, off + k * 6 + 4, none⟩ = some (.string x.ref) := hc 4 _ rfl
 have e5 : u.cell? ⟨g, off + k * 6 + 5, none⟩ = some (.int .i64 x.act) := hc 5 _ rfl
 have HS := Lib.hid hS
 have HC := Lib.hid (column_w B b lc x u.drew hw.drew hl hz.1 hz.2)
 clear hS hs hn hx hw hl hcell hc
 go_enter Tryz.func120, Tryz.ntmps120
 go_region_law (first
  | (refine step_callO rfl 121 #[.pointer (some ⟨b, 0, none⟩), x.w] (by kernel_rfl) (.tuple #[]) (fun w' => S (.returned (.tuple #[])) w') (HC.out.mono ?_) ?_
     · intro e w6 hs
       rcases (WS.from ((Wk.refl B b u).drew) hs).out HS.out with ⟨rfl, h⟩ | ⟨rfl, h⟩
       · exact .inr ⟨_, rfl, rfl, h⟩
       · exact .inl ⟨rfl, h⟩
     intro w6 hs
     have H6 := Lib.hid hs
     clear hs))
 all_goals
  go_end0
  exact H6.out
set_option maxHeartbeats 8000000 in
theorem pickI_w (B b k1 k2 : Nat) (lc : List UInt8) (A : Option Addr) (n c : Nat) (xs : List Int) (u : World) (k : Nat) (x : Int) (h1 : u.cell? ⟨k1, 0, none⟩ = some (.pointer (some ⟨b, 0, none⟩))) (h2 : u.cell? ⟨k2, 6, none⟩ = some (.slice A n c)) (hs : SlG u A 1 rdI xs) (hn : xs.length = n) (hm : n ≤ maxLen) (hx : xs[k]? = some x) (hw : Wr u B b lc) (hl : lc.length ≤ 20000) (hG : Gw B u) (hz : -9223372036854775808 ≤ x ∧ x ≤ 9223372036854775807) :
 Calls Tryz.prog 123 #[.int .i64 k, .pointer (some ⟨k1, 0, none⟩), .pointer (some ⟨k2, 0, none⟩)] u (WS B b u (addW lc [Lib.itoa x])) := by
 obtain ⟨S, hS⟩ : ∃ S, WS B b u (addW lc [Lib.itoa x]) = S := ⟨_, rfl⟩
 rw [hS]
 unfold maxLen at hm
 have hlt : k < n := by rw [← hn]; exact (List.getElem?_eq_some_iff.1 hx).1
 obtain ⟨g, off, hA, hg, hcell⟩ : ∃ g off, A = some ⟨g, off, none⟩ ∧ g < u.heap.size ∧ ∀ i x, xs[i]? = some x → ∀ j w, (rdI x)[j]? = some w → u.cell? ⟨g, off + i * 1 + j, none⟩ = some w := by
  rcases hs with h | h
  · rw [h] at hx; simp at hx
  · exact h
 subst hA
 have hc := hcell k x hx
 have e0 : u.cell? ⟨g, off + k, none⟩ = some (.int .i64 x) := by have := hc 0 _ rfl; simpa using this
 have HS := Lib.hid hS
 have HC := Lib.hid (number_w B b lc x u.drew hw.drew hl (hG.below ((Below.refl B u).drew)) hz)
 clear hS hs hn hx hw hl hcell hc
 go_enter Tryz.func123, Tryz.ntmps123
 go_region_law (first
  | (refine step_callO rfl 124 #[.pointer (some ⟨b, 0, none⟩), .int .i64 x] (by kernel_rfl) (.tuple #[]) (fun w' => S (.returned (.tuple #[])) w') (HC.out.mono ?_) ?_
     · intro e w6 hs
       rcases (WS.from ((Wk.refl B b u).drew) hs).out HS.out with ⟨rfl, h⟩ | ⟨rfl, h⟩
       · exact .inr ⟨_, rfl, rfl, h⟩
       · exact .inl ⟨rfl, h⟩
     intro w6 hs
     have H6 := Lib.hid hs
     clear hs))
 all_goals
  go_end0
  exact H6.out
set_option maxHeartbeats 8000000 in
theorem aggI_w (B b k1 k2 : Nat) (lc : List UInt8) (A : Option Addr) (n c : Nat) (xs : List Ag) (u : World) (k : Nat) (x : Ag) (h1 : u.cell? ⟨k1, 0, none⟩ = some (.pointer (some ⟨b, 0, none⟩))) (h2 : u.cell? ⟨k2, 8, none⟩ = some (.slice A n c)) (hs : SlG u A 2 rdAg xs) (hn : xs.length = n) (hm : n ≤ maxLen) (hx : xs[k]? = some x) (hw : Wr u B b lc) (hl : lc.length ≤ 20000) (hG : Gw B u) (hz : -9223372036854775808 ≤ x.col ∧ x.col ≤ 9223372036854775807) :
 Calls Tryz.prog 125 #[.int .i64 k, .pointer (some ⟨k1, 0, none⟩), .pointer (some ⟨k2, 0, none⟩)] u (WS B b u ((agW x).bind (addW lc))) := by
 obtain ⟨S, hS⟩ : ∃ S, WS B b u ((agW x).bind (addW lc)) = S := ⟨_, rfl⟩
 rw [hS]
 unfold maxLen at hm
 have hlt : k < n := by rw [← hn]; exact (List.getElem?_eq_some_iff.1 hx).1
 obtain ⟨g, off, hA, hg, hcell⟩ : ∃ g off, A = some ⟨g, off, none⟩ ∧ g < u.heap.size ∧ ∀ i x, xs[i]? = some x → ∀ j w, (rdAg x)[j]? = some w → u.cell? ⟨g, off + i * 2 + j, none⟩ = some w := by
  rcases hs with h | h
  · rw [h] at hx; simp at hx
  · exact h
 subst hA
 have hc := hcell k x hx
 have e0 : u.cell? ⟨g, off + k * 2, none⟩ = some (.int .i64 x.fn) := hc 0 _ rfl
 have e1 : u.cell? ⟨g, off + k * 2 + 1, none⟩ = some (.int .i64 x.col) := hc 1 _ rfl
 have HS := Lib.hid hS
 have HC := Lib.hid (agg_w B b lc x u.drew hw.drew hl (hG.below ((Below.refl B u).drew)) hz)
 clear hS hs hn hx hw hl hcell hc
 go_enter Tryz.func125, Tryz.ntmps125
 go_region_law (first
  | (refine step_callO rfl 126 #[.pointer (some ⟨b, 0, none⟩), x.w] (by kernel_rfl) (.tuple #[]) (fun w' => S (.returned (.tuple #[])) w') (HC.out.mono ?_) ?_
     · intro e w6 hs
       rcases (WS.from ((Wk.refl B b u).drew) hs).out HS.out with ⟨rfl, h⟩ | ⟨rfl, h⟩
       · exact .inr ⟨_, rfl, rfl, h⟩
       · exact .inl ⟨rfl, h⟩
     intro w6 hs
     have H6 := Lib.hid hs
     clear hs))
 all_goals
  go_end0
  exact H6.out
end Go.Proofs.YtjgpmnffagdhlaaGreatDoor
