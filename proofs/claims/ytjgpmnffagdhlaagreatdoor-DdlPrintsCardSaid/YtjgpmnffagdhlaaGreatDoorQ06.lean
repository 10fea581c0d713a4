/-
  Part 6 of 9 of what the proof leans on: each part below says what it proves, and of what; no condition besides.
-/
import Derived.Test.YtjgpmnffagdhlaaGreatDoorQ05
import Derived.Deep.RegionHeld3
set_option linter.unusedVariables false
set_option linter.unusedSimpArgs false
namespace Go.Proofs.YtjgpmnffagdhlaaGreatDoor
open Go Go.RowKit
set_option maxRecDepth 100000
abbrev jt (ws : List (List UInt8)) : List UInt8 := Lib.joinTail [32] ws
theorem jt_nil : jt [] = [] := rfl
theorem jt_cons (x : List UInt8) (r : List (List UInt8)) : jt (x :: r) = 32 :: (x ++ jt r) := by simp [jt, Lib.joinTail]
theorem jt_app (a b : List (List UInt8)) : jt (a ++ b) = jt a ++ jt b := by simp [jt, Lib.joinTail]
def xW : List UInt8 := [33]
def stR (x : Nd) : List (List UInt8) := if x.op = 10 then [w_null, s_qm] else if x.op = 1 ∧ x.v.k < 2 ∧ mayB x.v = false then [xW] else [wordL x]
def exR (e : List Nd) : List (List UInt8) := s_lb :: (e.flatMap stR ++ [s_rb])
def pkR (a : Int) (ws : List (List UInt8)) : List UInt8 := if 0 ≤ a ∧ a < ws.length then ws.getD a.toNat [] else xW
def clR (c : Cl) : List (List UInt8) := c.name.data.toList :: pkR (IntKind.i64.wrap (c.kind - 1)) kdWs :: ((if c.nul then [w_null] else []) ++ ((if c.uni then [w_unique] else []) ++ (if c.ref.toList.isEmpty then [] else [w_ref, c.ref.data.toList, pkR c.act acWs])))
def lsR {α : Type} (f : α → List (List UInt8)) : List α → List (List UInt8)
 | [] => []
 | a :: r => f a ++ r.flatMap fun x => s_cm :: f x
def tbR (t : Tb) : List (List UInt8) := t.name.data.toList :: s_lp :: (lsR clR t.cols ++ s_rp :: t.checks.flatMap fun e => w_check :: exR e)
def agR (a : Ag) : List (List UInt8) := pkR a.fn fnWs :: (if a.fn = 0 then [] else [Lib.itoa a.col])
def vwR (v : Vw) : List (List UInt8) := v.name.data.toList :: w_from :: v.frm.data.toList :: ((if v.wth.toList.isEmpty then [] else [w_join, v.wth.data.toList, w_on, Lib.itoa v.on0, s_eq, Lib.itoa v.on1]) ++
 ((if v.whr.isEmpty then [] else w_where :: exR v.whr) ++ w_pick :: (lsR (fun n => [Lib.itoa n]) v.pick ++ ((if v.grp then [w_group] else []) ++ lsR agR v.aggs))))
def txR (d : Df) : List UInt8 := if d.k = 0 then w_table ++ jt (tbR d.t) else w_view ++ jt (vwR d.v)
theorem stR_words {x : Nd} (h : mayNd x = true) : stR x = (ndT x).map txtT := by
 rw [← step_words h]
 unfold stR stepW
 by_cases h10 : x.op = 10
 · rw [if_pos h10, if_pos h10]
 · rw [if_neg h10, if_neg h10]
   have hn : ¬ (x.op = 1 ∧ x.v.k < 2 ∧ mayB x.v = false) := by
    rintro ⟨h1, _, h3⟩
    unfold mayNd at h
    rw [if_neg (by omega), if_pos h1, h3] at h
    simp at h
   rw [if_neg hn]
theorem exR_words {e : List Nd} (h : mayE e = true) : exR e = (exprT e).map txtT := by
 unfold mayE at h
 simp only [Bool.and_eq_true, List.all_eq_true] at h
 unfold exR exprT
 have : e.flatMap stR = (e.flatMap ndT).map txtT := by
  have h2 := h.2
  clear h
  induction e with
  | nil => rfl
  | cons x e ih => rw [List.flatMap_cons, List.flatMap_cons, List.map_append, stR_words (h2 x (by simp)), ih fun y hy => h2 y (List.mem_cons_of_mem _ hy)]
 rw [List.map_cons, List.map_append, this]
 rfl
theorem lsR_words {α : Type} (f : α → List (List UInt8)) (g : α → List Tk) : ∀ xs : List α, (∀ a ∈ xs, f a = (g a).map txtT) → lsR f xs = (sepT g xs).map txtT
 | [], _ => rfl
 | [a], h => by simp [lsR, sepT, h a (by simp)]
 | a :: b :: r, h => by
   have ih := lsR_words f g (b :: r) fun x hx => h x (List.mem_cons_of_mem _ hx)
   have e : lsR f (a :: b :: r) = f a ++ s_cm :: lsR f (b :: r) := by simp [lsR]
   rw [e, ih, show sepT g (a :: b :: r) = g a ++ (tS s_cm :: sepT g (b :: r)) from rfl, h a (by simp)]
   simp [txt_tS]
theorem pkR_some {a : Int} {ws : List (List UInt8)} {x : List UInt8} (h : chW a ws = some [x]) : pkR a ws = x := by
 unfold chW at h
 unfold pkR
 split at h
 · rename_i hc
   rw [if_pos hc]
   simpa using h
 · cases h
theorem clR_words {c : Cl} (h : mayCl c = true) : clR c = (clT c).map txtT := by
 obtain ⟨nm, k, nu, un, rf, ac⟩ := c
 unfold mayCl at h
 simp only [Bool.and_eq_true, decide_eq_true_eq] at h
 obtain ⟨h1, h2, h3, h4⟩ := h
 unfold clR clT
 simp only
 rw [pkR_some (kind_words h2 h3)]
 cases hr : rf.toList.isEmpty
 · rw [hr] at h4
   simp only [Bool.false_eq_true, if_false, Bool.and_eq_true, decide_eq_true_eq] at h4
   rw [pkR_some (act_words h4.2.1 h4.2.2)]
   cases nu <;> cases un <;> simp [txt_tW, txt_tN]
 · cases nu <;> cases un <;> simp [txt_tW, txt_tN]
theorem tbR_words {t : Tb} (h : mayTb t = true) : tbR t = (tbT t).map txtT := by
 unfold mayTb at h
 simp only [Bool.and_eq_true, List.all_eq_true] at h
 obtain ⟨a1, a2, a3, a4, a5, a6⟩ := h
 unfold tbR tbT
 have hc : (t.checks.flatMap fun e => w_check :: exR e) = (t.checks.flatMap fun e => tW w_check :: exprT e).map txtT := by
  generalize t.checks = es at a6
  induction es with
  | nil => rfl
  | cons e es ih => rw [List.flatMap_cons, List.flatMap_cons, List.map_append, ih fun y hy => a6 y (List.mem_cons_of_mem _ hy), exR_words (a6 e (by simp))]; rfl
 rw [lsR_words clR clT t.cols (fun c hc => clR_words (a5 c hc)), hc]
 simp [txt_tN, txt_tS]
theorem agR_words {a : Ag} (h : mayAg a = true) : agR a = (agT a).map txtT := by
 unfold mayAg at h
 unfold agR agT
 by_cases h0 : a.fn = 0
 · rw [if_pos h0, if_pos h0, h0, pkR_some (fn_words (k := 0) (by decide) (by decide))]; rfl
 · rw [if_neg h0] at h
   simp only [Bool.and_eq_true, decide_eq_true_eq] at h
   rw [if_neg h0, if_neg h0, pkR_some (fn_words h.1 h.2.1)]; rfl
theorem vwR_words {v : Vw} (h : mayVw v = true) : vwR v = (vwT v).map txtT := by
 unfold mayVw at h
 simp only [Bool.and_eq_true, List.all_eq_true] at h
 obtain ⟨a1, a2, a3, a4, a5, a6, a7, a8, a9⟩ := h
 have hp : lsR (fun n => [Lib.itoa n]) v.pick = (sepT (fun n => [intT n]) v.pick).map txtT := lsR_words _ _ v.pick (fun n _ => rfl)
 have hg : (if v.grp then [w_group] else []) ++ lsR agR v.aggs = (if v.grp then tW w_group :: sepT agT v.aggs else []).map txtT := by
  rw [lsR_words agR agT v.aggs (fun a ha => agR_words (a8 a ha))]
  cases hgr : v.grp
  · rw [hgr] at a9
    have : v.aggs = [] := by simpa using a9
    rw [this]; rfl
  · rfl
 have hw : (if v.whr.isEmpty then [] else w_where :: exR v.whr) = (if v.whr.isEmpty then [] else tW w_where :: exprT v.whr).map txtT := by
  rw [exR_words a4]
  cases v.whr.isEmpty <;> rfl
 unfold vwR vwT
 rw [hp, hg, hw]
 cases hj : v.wth.toList.isEmpty <;> simp [txt_tW, txt_tN, txt_tS, txt_int]
theorem txR_may {d : Df} (h : MayD d) : txR d = printL (toksD d) := by
 obtain ⟨k, t, v⟩ := d
 unfold printL
 rcases h with ⟨rfl, h1, rfl⟩ | ⟨rfl, rfl, h1⟩
 · unfold txR toksD
   simp only at h1
   simp only [if_true]
   rw [List.map_cons, Lib.join_cons, tbR_words h1]; rfl
 · unfold txR toksD
   simp only at h1
   have n1 : ¬ (1 : Int) = 0 := by decide
   simp only [if_neg n1]
   rw [List.map_cons, Lib.join_cons, vwR_words h1]; rfl
theorem prR_prt {d : Df} (h6 : D64 d) {t : List UInt8} (h1 : 20000 < (txR d).length → t = []) (h2 : (txR d).length ≤ 20000 → readD (txR d) = some d → t = txR d) (h3 : (txR d).length ≤ 20000 → readD (txR d) ≠ some d → t = []) : PrT d t := by
 by_cases hm : MayD d
 · have e := txR_may hm
   by_cases hl : 20000 < (txR d).length
   · refine .inr ⟨fun h => ?_, h1 hl⟩
     rw [e] at hl; omega
   · have hl : (txR d).length ≤ 20000 := by omega
     have hr : readD (txR d) = some d := by unfold readD; rw [e]; exact print_read hm h6
     exact .inl ⟨hm, by rw [← e]; exact hl, by rw [h2 hl hr, e]⟩
 · refine .inr ⟨fun h => hm h.1, ?_⟩
   by_cases hl : 20000 < (txR d).length
   · exact h1 hl
   · exact h3 (by omega) fun h => hm (read_may h).1
def WB (ws : List (List UInt8)) : Prop := ∀ x ∈ ws, x.length ≤ 5001
theorem WB.nil : WB [] := fun x h => by cases h
theorem WB.cons {x : List UInt8} {ws : List (List UInt8)} (h : x.length ≤ 5001) (hs : WB ws) : WB (x :: ws) := fun y hy => by
 rcases List.mem_cons.1 hy with rfl | hy
 · exact h
 · exact hs y hy
theorem WB.app {a b : List (List UInt8)} (h : WB a) (hs : WB b) : WB (a ++ b) := fun y hy => by
 rcases List.mem_append.1 hy with hy | hy
 · exact h y hy
 · exact hs y hy
theorem WB.flat {α : Type} {f : α → List (List UInt8)} {xs : List α} (h : ∀ x ∈ xs, WB (f x)) : WB (xs.flatMap f) := fun y hy => by
 obtain ⟨x, hx, hy⟩ := List.mem_flatMap.1 hy
 exact h x hx y hy
theorem jt_len {n : Nat} : ∀ {ws : List (List UInt8)}, WB ws → ws.length ≤ n → (jt ws).length ≤ n * 5002 := by
 intro ws h hn
 have : (jt ws).length ≤ ws.length * 5002 := by
  clear hn
  induction ws with
  | nil => simp [jt_nil]
  | cons x r ih =>
    have h1 := ih fun y hy => h y (List.mem_cons_of_mem _ hy)
    have h2 := h x List.mem_cons_self
    rw [jt_cons]
    simp only [List.length_cons, List.length_append]
    omega
 exact Nat.le_trans this (Nat.mul_le_mul_right _ hn)
theorem lsR_succ {α : Type} (f : α → List (List UInt8)) (xs : List α) (k : Nat) (x : α) (h : xs[k]? = some x) : lsR f (xs.take (k + 1)) = lsR f (xs.take k) ++ ((if k = 0 then [] else [s_cm]) ++ f x) := by
 cases xs with
 | nil => simp at h
 | cons a r =>
   cases k with
   | zero =>
     simp at h
     subst h
     simp [lsR]
   | succ j =>
     have hj : r[j]? = some x := by simpa using h
     rw [List.take_succ_cons, List.take_succ_cons, lsR, lsR, List.take_add_one, hj]
     simp
theorem lsR_len {α : Type} (f : α → List (List UInt8)) (m : Nat) : ∀ xs : List α, (∀ x ∈ xs, (f x).length ≤ m) → (lsR f xs).length ≤ xs.length * (m + 1)
 | [], _ => Nat.zero_le _
 | a :: r, h => by
   have h1 := h a List.mem_cons_self
   have h2 : (r.flatMap fun x => s_cm :: f x).length ≤ r.length * (m + 1) := by
    have h3 : ∀ x ∈ r, (f x).length ≤ m := fun x hx => h x (List.mem_cons_of_mem _ hx)
    clear h h1
    induction r with
    | nil => simp
    | cons b r ih =>
      have h4 := ih fun x hx => h3 x (List.mem_cons_of_mem _ hx)
      have h5 := h3 b List.mem_cons_self
      simp only [List.flatMap_cons, List.length_append, List.length_cons]
      rw [Nat.add_mul]
      omega
   rw [lsR]
   simp only [List.length_append, List.length_cons]
   rw [Nat.add_mul]
   omega
theorem flatW_len {α : Type} (f : α → List (List UInt8)) (m : Nat) : ∀ xs : List α, (∀ x ∈ xs, (f x).length ≤ m) → (xs.flatMap f).length ≤ xs.length * m
 | [], _ => Nat.zero_le _
 | a :: r, h => by
   have h1 := h a List.mem_cons_self
   have h2 := flatW_len f m r fun x hx => h x (List.mem_cons_of_mem _ hx)
   simp only [List.flatMap_cons, List.length_append, List.length_cons]
   rw [Nat.add_mul]
   omega
theorem flatW_succ {α : Type} (f : α → List (List UInt8)) (xs : List α) (k : Nat) (x : α) (h : xs[k]? = some x) : (xs.take (k + 1)).flatMap f = (xs.take k).flatMap f ++ f x := by
 rw [List.take_add_one, h]
 simp
theorem opL_len : ∀ x ∈ opL, x.length ≤ 5000 := by decide
theorem wordR_len (x : Nd) (hs : x.v.s.size ≤ 1000) (hz : x.Z) : (wordL x).length ≤ 5001 := by
 unfold wordL
 split
 · have := itoa_len x.n hz.1
   rw [List.length_cons]; omega
 split
 · have := text_len x.v hz.2 (by omega); omega
 split
 · decide
 · rw [List.getD_eq_getElem?_getD]
   cases h : opL[x.op.toNat]? with
   | none => simp
   | some y => have := opL_len y (List.mem_of_getElem? h); simp; omega
theorem stR_wb (x : Nd) (hs : x.v.s.size ≤ 1000) (hz : x.Z) : WB (stR x) ∧ (stR x).length ≤ 2 := by
 unfold stR
 split
 · exact ⟨by unfold WB; decide, by decide⟩
 split
 · exact ⟨by unfold WB; decide, by decide⟩
 · exact ⟨WB.cons (wordR_len x hs hz) WB.nil, by simp⟩
theorem exR_wb (e : List Nd) (h : ∀ x ∈ e, x.v.s.size ≤ 1000 ∧ x.Z) (hl : e.length ≤ 120) : WB (exR e) ∧ (exR e).length ≤ 242 := by
 have h1 := flatW_len stR 2 e fun x hx => (stR_wb x (h x hx).1 (h x hx).2).2
 exact ⟨WB.cons (by decide) ((WB.flat fun x hx => (stR_wb x (h x hx).1 (h x hx).2).1).app (by unfold WB; decide)), by unfold exR; simp only [List.length_cons, List.length_append, List.length_nil]; omega⟩
theorem pkR_len (a : Int) (ws : List (List UInt8)) (h : WB ws) : (pkR a ws).length ≤ 5001 := by
 unfold pkR
 split
 · rename_i hc
   rw [List.getD_eq_getElem?_getD]
   cases hq : ws[a.toNat]? with
   | none => simp
   | some y => exact h y (List.mem_of_getElem? hq)
 · decide
theorem clR_wb (c : Cl) (h1 : c.name.size ≤ 100) (h2 : c.ref.size ≤ 100) : WB (clR c) ∧ (clR c).length ≤ 7 := by
 have e1 : c.name.data.toList.length = c.name.size := rfl
 have e2 : c.ref.data.toList.length = c.ref.size := rfl
 have p1 := pkR_len (IntKind.i64.wrap (c.kind - 1)) kdWs (by unfold WB; decide)
 have p2 := pkR_len c.act acWs (by unfold WB; decide)
 unfold clR
 refine ⟨WB.cons (by omega) (WB.cons p1 (WB.app ?_ (WB.app ?_ ?_))), ?_⟩
 · split
   · unfold WB; decide
   · exact WB.nil
 · split
   · unfold WB; decide
   · exact WB.nil
 · split
   · exact WB.nil
   · exact WB.cons (by decide) (WB.cons (by omega) (WB.cons p2 WB.nil))
 · cases c.nul <;> cases c.uni <;> cases c.ref.toList.isEmpty <;> simp
theorem agR_wb (a : Ag) (h : I64 a.col) : WB (agR a) ∧ (agR a).length ≤ 2 := by
 have p1 := pkR_len a.fn fnWs (by unfold WB; decide)
 have p2 := itoa_len a.col h
 unfold agR
 refine ⟨WB.cons p1 ?_, ?_⟩
 · split
   · exact WB.nil
   · exact WB.cons (by omega) WB.nil
 · by_cases h0 : a.fn = 0 <;> simp [h0]
structure Tm.Few (x : Tm) : Prop where
 nm : x.name.size ≤ 100
 cn : x.cols.xs.length ≤ 400
 cols : ∀ c ∈ x.cols.xs, c.name.size ≤ 100 ∧ c.ref.size ≤ 100
 kn : x.chks.xs.length ≤ 400
 chks : ∀ e ∈ x.chks.xs, e.xs.length ≤ 120 ∧ ∀ y ∈ e.xs, y.v.s.size ≤ 1000 ∧ y.Z
structure Vm.Few (x : Vm) : Prop where
 nm : x.name.size ≤ 100
 fr : x.frm.size ≤ 100
 wt : x.wth.size ≤ 100
 on0 : I64 x.on0
 on1 : I64 x.on1
 wn : x.whr.xs.length ≤ 120
 whr : ∀ y ∈ x.whr.xs, y.v.s.size ≤ 1000 ∧ y.Z
 pn : x.pick.xs.length ≤ 400
 pick : ∀ n ∈ x.pick.xs, I64 n
 an : x.aggs.xs.length ≤ 400
 aggs : ∀ a ∈ x.aggs.xs, I64 a.col
structure Dm.Rch (x : Dm) : Prop where
 cols : x.t.cols.n ≤ 140737488355328
 chks : x.t.chks.n ≤ 140737488355328
 whr : x.v.whr.n ≤ 140737488355328
 pick : x.v.pick.n ≤ 140737488355328
 aggs : x.v.aggs.n ≤ 140737488355328
theorem wrap_in {n : Int} (h0 : 0 ≤ n) (h1 : n ≤ 1152921504606846976) : wrap64 n = n := by unfold wrap64; omega
theorem foldZ_ge : ∀ (l : List (Sx Nd)) (z : Int) (m : Nat), 0 ≤ z → z + l.length * 120 ≤ 1152921504606846976 → (∀ e ∈ l, e.n ≤ 120) → z ≤ l.foldl stepZ z
 | [], z, m, _, _, _ => Int.le_refl _
 | e :: l, z, m, h0, h1, h => by
   have he := h e List.mem_cons_self
   simp only [List.length_cons] at h1
   have hs : stepZ z e = z + e.n := by
    unfold stepZ
    exact wrap_in (by omega) (by omega)
   rw [List.foldl_cons, hs]
   have := foldZ_ge l (z + e.n) m (by omega) (by omega) fun y hy => h y (List.mem_cons_of_mem _ hy)
   omega
theorem z0_sum (a b c d e : Nat) (ha : a ≤ 140737488355328) (hb : b ≤ 140737488355328) (hc : c ≤ 140737488355328) (hd : d ≤ 140737488355328) (he : e ≤ 140737488355328) : wrap64 (wrap64 (wrap64 (wrap64 ((a : Int) + b) + c) + d) + e) = (a : Int) + b + c + d + e := by
 unfold wrap64
 omega
theorem few_nums (a b c d e : Nat) (z p : Int) (hz : z = (a : Int) + b + c + d + e) (hg : z ≤ p) (hp : p ≤ 400) : a ≤ 400 ∧ b ≤ 400 ∧ c ≤ 400 ∧ d ≤ 400 ∧ e ≤ 400 := by omega
theorem few_room (a b c d e n : Nat) (z : Int) (hb : b ≤ 140737488355328) (ha : a ≤ 140737488355328) (hc : c ≤ 140737488355328) (hd : d ≤ 140737488355328) (he : e ≤ 140737488355328) (hn : n = b) (hz : z = (a : Int) + b + c + d + e) : 0 ≤ z ∧ z + n * 120 ≤ 1152921504606846976 := by omega
theorem Dm.Sm.few {x : Dm} {w : World} (h : x.Sm) (r : x.Rch) (z : x.Z) (hi : x.In w) : x.t.Few ∧ x.v.Few := by
 have e0 : x.z0 = (x.t.cols.n : Int) + x.t.chks.n + x.v.pick.n + x.v.aggs.n + x.v.whr.n := by
  unfold Dm.z0
  exact z0_sum _ _ _ _ _ r.cols r.chks r.pick r.aggs r.whr
 have hc : ∀ e ∈ x.t.chks.xs, e.n ≤ 120 := fun e he => by
  have h1 := (bigN_all (h.chks e he)).1
  rw [(hi.t.each e he).len] at h1
  exact h1
 have hr := few_room _ _ _ _ _ x.t.chks.xs.length _ r.chks r.cols r.pick r.aggs r.whr hi.t.chks.len e0
 have hg : x.z0 ≤ x.parts := foldZ_ge x.t.chks.xs x.z0 0 hr.1 hr.2 hc
 obtain ⟨n1, n2, n3, n4, n5⟩ := few_nums _ _ _ _ _ _ _ e0 hg h.parts
 exact ⟨⟨h.n1, by rw [hi.t.cols.len]; exact n1, h.cols, by rw [hi.t.chks.len]; exact n2, fun e he => ⟨(bigN_all (h.chks e he)).1, fun y hy => ⟨(bigN_all (h.chks e he)).2 y hy, z.chks e he y hy⟩⟩⟩,
  ⟨h.n2, h.n3, h.n4, z.on0, z.on1, (bigN_all h.whr).1, fun y hy => ⟨(bigN_all h.whr).2 y hy, z.whr y hy⟩, by rw [hi.v.pick.len]; exact n3, z.pick, by rw [hi.v.aggs.len]; exact n4, z.aggs⟩⟩
theorem dig_one : ∀ d : Nat, d < 10 → (⟨#[48, 49, 50, 51, 52, 53, 54, 55, 56, 57]⟩ : ByteArray).extract d (d + 1) = ⟨#[48 + UInt8.ofNat d]⟩
 | 0, _ => rfl
 | 1, _ => rfl
 | 2, _ => rfl
 | 3, _ => rfl
 | 4, _ => rfl
 | 5, _ => rfl
 | 6, _ => rfl
 | 7, _ => rfl
 | 8, _ => rfl
 | 9, _ => rfl
 | n + 10, h => absurd h (by omega)
theorem dec_small {u : Nat} (h : u < 10) : Lib.decDigits u = [48 + UInt8.ofNat u] := by rw [Lib.decDigits, dif_pos h, UInt8.ofNat_add]; rfl
theorem dec_big {u : Nat} (h : ¬ u < 10) : Lib.decDigits u = Lib.decDigits (u / 10) ++ [48 + UInt8.ofNat (u % 10)] := by rw [Lib.decDigits, dif_neg h, UInt8.ofNat_add]; rfl
theorem cat_one (a : UInt8) (l : List UInt8) : (⟨#[a]⟩ : ByteArray) ++ ⟨l.toArray⟩ = ⟨(a :: l).toArray⟩ := by
 apply ByteArray.ext
 simp
theorem dec_64 (u : Nat) (h : u < 18446744073709551616) : (Lib.decDigits u).length ≤ 20 := dec_len u 19 (by omega)
set_option maxHeartbeats 1000000 in
theorem rdigits_c (u : Nat) (w : World) (hu : u < 18446744073709551616) :
 Calls Tryz.prog 52 #[.int .u64 u] w fun e w' => e = .returned (.string ⟨(Lib.decDigits u).toArray⟩) ∧ Below w.heap.size w w' := by
 obtain ⟨R, hR⟩ : ∃ R, Lib.decDigits u = R := ⟨_, rfl⟩
 rw [hR]
 have HR := Lib.hid hR
 have HRl : Hid (R.length ≤ 20) := Lib.hid (by rw [← hR]; exact dec_64 u hu)
 clear hR
 go_enter Tryz.func52, Tryz.ntmps52
 go_wp2_with fail
 go_loopw [0, 3] (fun v s wr => ∃ (m : Nat) (l : List UInt8), m ≤ u ∧ v = .int .u64 m ∧ s = .string ⟨l.toArray⟩ ∧ Hid (Below w.heap.size w wr) ∧ Hid (Lib.decDigits m ++ l = R)) (fun v _ _ => (intOf v).toNat)
 case atStart => exact ⟨u, [], Nat.le_refl _, rfl, rfl, Lib.hid (Below.refl _ _), Lib.hid (by rw [List.append_nil]; exact HR.out)⟩
 case round =>
  obtain ⟨m, l, hm, rfl, rfl, hb, hinv⟩ := hrel
  have hl : l.length ≤ 20 := by
   have h1 := HRl.out
   rw [← hinv.out, List.length_append] at h1
   omega
  have hsz : (⟨l.toArray⟩ : ByteArray).size = l.length := by show l.toArray.size = _; simp
  clear HR HRl
  by_cases hlt : m < 10
  · have hlt' : ¬ (9 : Int) < m := by omega
    have hd := dig_one m hlt
    have Hr : Hid ((⟨#[48 + UInt8.ofNat m]⟩ : ByteArray) ++ ⟨l.toArray⟩ = ⟨R.toArray⟩) := Lib.hid (by
     rw [cat_one, ← hinv.out, dec_small hlt]
     rfl)
    have hs1 : (⟨#[48 + UInt8.ofNat m]⟩ : ByteArray).size = 1 := rfl
    clear hinv
    go_wp2
    go_ret
    exact ⟨congrArg (fun z => Ending.returned (Value.string z)) Hr.out, hb.out⟩
  · have hlt' : (9 : Int) < m := by omega
    have Hbig := Lib.hid (dec_big hlt)
    have Hlt := Lib.hid hlt
    obtain ⟨d, hdd⟩ : ∃ d, m % 10 = d := ⟨_, rfl⟩
    obtain ⟨q, hqq⟩ : ∃ q, m / 10 = q := ⟨_, rfl⟩
    have hd10 : d < 10 := by omega
    have hmd : (m : Int) % 10 = (d : Nat) := by omega
    have hmq : (m : Int) / 10 = (q : Nat) := by omega
    have hd := dig_one d hd10
    have hs1 : (⟨#[48 + UInt8.ofNat d]⟩ : ByteArray).size = 1 := rfl
    have hbig := Hbig.out
    rw [hdd, hqq] at hbig
    have Hi2 : Hid (Lib.decDigits q ++ ((48 + UInt8.ofNat d) :: l) = R) := Lib.hid (by
     rw [← hinv.out, hbig, List.append_assoc]
     rfl)
    have Hqm : Hid (q < m) := Lib.hid (by omega)
    clear hbig Hbig hinv hlt hdd hqq
    go_wp2
    go_roundw
    case rel => exact ⟨q, _, by have := Hqm.out; omega, rfl, by rw [cat_one], hb, Hi2⟩
    case measure => have := Hqm.out; simp [intOf]; omega
set_option maxHeartbeats 1000000 in
theorem rsigned_c (n : Int) (w : World) (hn : -9223372036854775808 ≤ n ∧ n ≤ 9223372036854775807) :
 Calls Tryz.prog 27 #[.int .i64 n] w fun e w' => e = .returned (.string ⟨(Lib.itoa n).toArray⟩) ∧ Below w.heap.size w w' := by
 by_cases h0 : n < 0
 · obtain ⟨k, rfl⟩ : ∃ k : Nat, n = -(k : Int) - 1 := ⟨(-n - 1).toNat, by omega⟩
   obtain ⟨R, hR⟩ : ∃ R, Lib.itoa (-(k : Int) - 1) = R := ⟨_, rfl⟩
   rw [hR]
   have hk : k < 9223372036854775808 := by omega
   have hD := rdigits_c (k + 1) w (by omega)
   obtain ⟨D, hd⟩ : ∃ D, Lib.decDigits (k + 1) = D := ⟨_, rfl⟩
   have HRd : Hid ((⟨#[45]⟩ : ByteArray) ++ ⟨D.toArray⟩ = ⟨R.toArray⟩) := Lib.hid (by
    rw [cat_one, ← hR]
    unfold Lib.itoa
    rw [if_pos (by omega), show (-(k : Int) - 1).natAbs = k + 1 by omega, hd])
   have hDl : D.length ≤ 20 := by rw [← hd]; exact dec_64 _ (by omega)
   have hsz : (⟨D.toArray⟩ : ByteArray).size = D.length := by show D.toArray.size = _; simp
   rw [hd, show ((k + 1 : Nat) : Int) = (k : Int) + 1 by omega] at hD
   have HD := Lib.hid hD
   have hs1 : (⟨#[45]⟩ : ByteArray).size = 1 := rfl
   have hw0 : IntKind.i64.wrap (-(k : Int) - 1 + 1) = -(k : Int) := by rw [IntKind.wrap_i64]; omega
   have hw1 : IntKind.i64.wrap (-(k : Int)) = -(k : Int) := by rw [IntKind.wrap_i64]; omega
   have hw2 : IntKind.i64.wrap (k : Int) = k := by rw [IntKind.wrap_i64]; omega
   have hw3 : IntKind.u64.wrap (k : Int) = k := by rw [IntKind.wrap_u64]; omega
   have hw4 : IntKind.u64.wrap ((k : Int) + 1) = (k : Int) + 1 := by rw [IntKind.wrap_u64]; omega
   clear hR hD hd
   go_enter Tryz.func27, Tryz.ntmps27
   go_wp2_with fail
   refine HD.out.mono ?_
   rintro e w1 ⟨rfl, hb1⟩
   have Hb1 := Lib.hid hb1
   clear hb1 HD
   go_wp2
   go_ret
   exact ⟨congrArg (fun z => Ending.returned (Value.string z)) HRd.out, Hb1.out⟩
 · obtain ⟨k, rfl⟩ : ∃ k : Nat, n = k := ⟨n.toNat, by omega⟩
   have he : Lib.itoa (k : Int) = Lib.decDigits k := by
    unfold Lib.itoa
    rw [if_neg h0, Int.toNat_natCast]
   rw [he]
   have HD := Lib.hid (rdigits_c k w (by omega))
   obtain ⟨D, hd⟩ : ∃ D, Lib.decDigits k = D := ⟨_, rfl⟩
   rw [hd] at HD ⊢
   have hw3 : IntKind.u64.wrap (k : Int) = k := by rw [IntKind.wrap_u64]; omega
   clear he hd
   go_enter Tryz.func27, Tryz.ntmps27
   go_wp2_with fail
   refine HD.out.mono ?_
   rintro e w1 ⟨rfl, hb1⟩
   have Hb1 := Lib.hid hb1
   clear hb1 HD
   go_wp2
   go_ret
   exact ⟨rfl, Hb1.out⟩
set_option maxHeartbeats 400000 in
theorem rtext_null (x : Val) (w : World) (h : (x.k == 0) = true) : Calls Tryz.prog 170 #[x.v] w fun e w' => e = .returned (.string ⟨#[110, 117, 108, 108]⟩) ∧ Below w.heap.size w w' := by
 go_enter Tryz.func170, Tryz.ntmps170
 go_wp2
 go_ret
 exact ⟨rfl, below_one _ _⟩
set_option maxHeartbeats 400000 in
theorem rtext_false (x : Val) (w : World) (h0 : (x.k == 0) = false) (h : (x.k == 1) = true) (hn : (x.n == 0) = true) : Calls Tryz.prog 170 #[x.v] w fun e w' => e = .returned (.string ⟨#[102, 97, 108, 115, 101]⟩) ∧ Below w.heap.size w w' := by
 go_enter Tryz.func170, Tryz.ntmps170
 go_wp2
 go_ret
 exact ⟨rfl, below_one _ _⟩
set_option maxHeartbeats 400000 in
theorem rtext_true (x : Val) (w : World) (h0 : (x.k == 0) = false) (h : (x.k == 1) = true) (hn : (x.n == 0) = false) : Calls Tryz.prog 170 #[x.v] w fun e w' => e = .returned (.string ⟨#[116, 114, 117, 101]⟩) ∧ Below w.heap.size w w' := by
 go_enter Tryz.func170, Tryz.ntmps170
 go_wp2
 go_ret
 exact ⟨rfl, below_one _ _⟩
set_option maxHeartbeats 400000 in
theorem rtext_other (x : Val) (w : World) (h0 : (x.k == 0) = false) (h1 : (x.k == 1) = false) (h2 : (x.k == 2) = false) (h3 : (x.k == 3) = false) : Calls Tryz.prog 170 #[x.v] w fun e w' => e = .returned (.string ⟨#[63]⟩) ∧ Below w.heap.size w w' := by
 go_enter Tryz.func170, Tryz.ntmps170
 go_wp2
 go_ret
 exact ⟨rfl, below_one _ _⟩
set_option maxHeartbeats 400000 in
theorem rtext_int (x : Val) (w : World) (h0 : (x.k == 0) = false) (h1 : (x.k == 1) = false) (h : (x.k == 2) = true) (hn : -9223372036854775808 ≤ x.n ∧ x.n ≤ 9223372036854775807) :
 Calls Tryz.prog 170 #[x.v] w fun e w' => e = .returned (.string ⟨(Lib.itoa x.n).toArray⟩) ∧ Below w.heap.size w w' := by
 have Hn := Lib.hid hn
 clear hn
 go_enter Tryz.func170, Tryz.ntmps170
 go_wp2_with fail
 refine (rsigned_c x.n _ Hn.out).mono ?_
 rintro e w1 ⟨rfl, hb1⟩
 have hb := below_via (below_one w _) hb1
 clear hb1
 go_wp2
 go_ret
 exact ⟨rfl, hb⟩
theorem sub1_snoc (c : UInt8) (r : List UInt8) : ∀ (l : List UInt8) (b : UInt8), sub1 c r (l ++ [b]) = sub1 c r l ++ (if b = c then r else [b])
 | [], b => by
   rw [List.nil_append, sub1, sub1]
   split <;> simp [sub1]
 | a :: l, b => by
   rw [List.cons_append, sub1, sub1, sub1_snoc c r l b]
   split <;> simp
theorem cat_two (a b : List UInt8) : (⟨a.toArray⟩ : ByteArray) ++ ⟨b.toArray⟩ = ⟨(a ++ b).toArray⟩ := by
 apply ByteArray.ext
 simp
theorem drop_at5 (s : ByteArray) (a : Nat) (h : a < s.size) : s.data.toList.drop a = s[a] :: s.data.toList.drop (a + 1) := List.drop_eq_getElem_cons h
theorem extract_one5 (s : ByteArray) (k : Nat) (h : k < s.size) : s.extract k (k + 1) = ⟨[s[k]].toArray⟩ := by
 have e : (s.data.toList.drop k).take (k + 1 - k) = [s[k]] := by
  rw [show k + 1 - k = 1 by omega, drop_at5 s k h]
  rfl
 rw [Lib.extract_eq, e]
theorem take_at5 (s : ByteArray) (k : Nat) (h : k < s.size) : s.data.toList.take (k + 1) = s.data.toList.take k ++ [s[k]] := by
 rw [List.take_add_one, List.getElem?_eq_getElem (show k < s.data.toList.length from h)]
 rfl
set_option maxHeartbeats 2000000 in
theorem rtext_text (x : Val) (w : World) (h0 : (x.k == 0) = false) (h1 : (x.k == 1) = false) (h2 : (x.k == 2) = false) (h3 : (x.k == 3) = true) (hs : x.s.size ≤ 2000) :
 Calls Tryz.prog 170 #[x.v] w fun e w' => e = .returned (.string ⟨([39] ++ sub1 39 [39, 39] x.s.data.toList ++ [39]).toArray⟩) ∧ Below w.heap.size w w' := by
 obtain ⟨xk, xn, s⟩ := x
 simp only [] at h0 h1 h2 h3 hs ⊢
 obtain ⟨R, hR⟩ : ∃ R, [39] ++ sub1 39 [39, 39] s.data.toList ++ [39] = R := ⟨_, rfl⟩
 rw [hR]
 have HR := Lib.hid hR
 clear hR
 go_enter Tryz.func170, Tryz.ntmps170
 go_wp2_with fail
 have Hb1 := Lib.hid (below_one w (.cells #[.int .i64 xk, .int .i64 xn, .string s] 59))
 have Hc2 : Hid ((w.alloc (.cells #[.int .i64 xk, .int .i64 xn, .string s] 59)).cell? ⟨w.heap.size, 2, none⟩ = some (.string s)) := Lib.hid (Bx.new w ⟨xk, xn, s⟩).cell2
 obtain ⟨g, hg⟩ : ∃ g, w.heap.size = g := ⟨_, rfl⟩
 obtain ⟨W, hW⟩ : ∃ W, w.alloc (.cells #[.int .i64 xk, .int .i64 xn, .string s] 59) = W := ⟨_, rfl⟩
 rw [hW] at Hb1 Hc2 ⊢
 have hg2 : Hid (Below w.heap.size w W) := Hb1
 rw [hg] at Hc2 ⊢
 clear hW Hb1
 go_loopw [3, 4] (fun v i wr => ∃ (k : Nat) (l : List UInt8), k ≤ s.size ∧ i = .int .i64 k ∧ v = .string ⟨l.toArray⟩ ∧ W = wr ∧ Hid (l = [39] ++ sub1 39 [39, 39] (s.data.toList.take k))) (fun _ i _ => s.size - (intOf i).toNat)
 case atStart => exact ⟨0, [39], Nat.zero_le _, rfl, rfl, rfl, Lib.hid rfl⟩
 case round =>
  obtain ⟨k, l, hk, rfl, rfl, rfl, hl⟩ := hrel
  have d2 := Hc2.out
  have hll : l.length ≤ 5000 := by
   have h1 := sub1_le 39 (s.data.toList.take k)
   rw [hl.out, List.length_append]
   have h2 : (s.data.toList.take k).length ≤ k := List.length_take_le _ _
   simp only [List.length_cons, List.length_nil]
   omega
  have hsz : (⟨l.toArray⟩ : ByteArray).size = l.length := by show l.toArray.size = _; simp
  by_cases hlt : k < s.size
  · have hlt' : (k : Int) < s.size := by omega
    have hx := extract_one5 s k hlt
    have Hta := Lib.hid (take_at5 s k hlt)
    by_cases hc : s[k] = 39
    · have hc' : (s[k].toNat : Int) = 39 := by rw [hc]; rfl
      have Hl2 : Hid (l ++ [39] ++ [39] = [39] ++ sub1 39 [39, 39] (s.data.toList.take (k + 1))) := Lib.hid (by
       rw [Hta.out, sub1_snoc, if_pos hc, hl.out]
       simp)
      go_wp2
      go_roundw
      case rel => exact ⟨k + 1, _, by omega, by go_num, congrArg Value.string (by rw [show (⟨#[39]⟩ : ByteArray) = ⟨[39].toArray⟩ from rfl, cat_two, cat_two]), trivial, Hl2⟩
      case measure => simp [intOf]; omega
    · have hc' : ¬ (s[k].toNat : Int) = 39 := fun h => hc (UInt8.toNat_inj.1 (by have : (39 : UInt8).toNat = 39 := rfl; omega))
      have Hl2 : Hid (l ++ [s[k]] = [39] ++ sub1 39 [39, 39] (s.data.toList.take (k + 1))) := Lib.hid (by
       rw [Hta.out, sub1_snoc, if_neg hc, hl.out]
       simp)
      go_wp2
      go_roundw
      case rel => exact ⟨k + 1, _, by omega, by go_num, congrArg Value.string (by rw [show (⟨#[s[k]]⟩ : ByteArray) = ⟨[s[k]].toArray⟩ from rfl, cat_two]), trivial, Hl2⟩
      case measure => simp [intOf]; omega
  · obtain rfl : k = s.size := by omega
    have Hr : Hid ((⟨l.toArray⟩ : ByteArray) ++ ⟨#[39]⟩ = ⟨R.toArray⟩) := Lib.hid (by
     rw [show (⟨#[39]⟩ : ByteArray) = ⟨[39].toArray⟩ from rfl, cat_two, ← HR.out, hl.out, show s.data.toList.take s.size = s.data.toList from List.take_of_length_le (Nat.le_refl _)])
    clear hl HR
    go_wp2
    go_ret
    exact ⟨congrArg (fun z => Ending.returned (Value.string z)) Hr.out, hg2.out⟩
theorem rtextV_c (x : Val) (w : World) (hn : -9223372036854775808 ≤ x.n ∧ x.n ≤ 9223372036854775807) (hs : x.s.size ≤ 2000) :
 Calls Tryz.prog 170 #[x.v] w fun e w' => e = .returned (.string ⟨(textL x).toArray⟩) ∧ Below w.heap.size w w' := by
 unfold textL
 cases h0 : x.k == 0
 · cases h1 : x.k == 1
   · cases h2 : x.k == 2
     · cases h3 : x.k == 3
       · exact rtext_other x w h0 h1 h2 h3
       · exact rtext_text x w h0 h1 h2 h3 hs
     · exact rtext_int x w h0 h1 h2 hn
   · cases hz : x.n == 0
     · exact rtext_true x w h0 h1 hz
     · exact rtext_false x w h0 h1 hz
 · exact rtext_null x w h0
attribute [local go_sem ↓] Go.wp_at_zero Go.wp_at_succ
theorem ba_sz (l : List UInt8) : (ba l).size = l.length := by show l.toArray.size = _; simp
theorem ba_cat (x y : List UInt8) : ba x ++ ba y = ba (x ++ y) := Go.ByteArray.mk_append_mk x y
theorem rpick_c (n : Int) (ws : List (List UInt8)) (A : Option Addr) (c : Nat) (w : World) (hl : ws.length ≤ 100) (hs : SlG w A 1 rdS ws) :
 Calls Tryz.prog 59 #[.int .i64 n, .slice A ws.length c] w fun e w' => e = .returned (.string (ba (pkR n ws))) ∧ w' = w := by
 by_cases h0 : n < 0
 · have e : pkR n ws = xW := by unfold pkR; rw [if_neg (by omega)]
   rw [e]
   clear hs
   go_enter Tryz.func59, Tryz.ntmps59
   go_wp2
   go_ret
   exact ⟨rfl, rfl⟩
 · by_cases h1 : n < ws.length
   · obtain ⟨k, rfl⟩ : ∃ k : Nat, n = (k : Int) := ⟨n.toNat, by omega⟩
     have hk : k < ws.length := by omega
     obtain ⟨b, off, x, rfl, hb, hx, d⟩ := hs.at1 hk
     have d0 := d _ rfl
     have e : pkR (k : Int) ws = x := by
      unfold pkR
      rw [if_pos ⟨by omega, h1⟩, List.getD_eq_getElem?_getD, Int.toNat_natCast, hx]
      rfl
     rw [e]
     clear e hx hs d
     go_enter Tryz.func59, Tryz.ntmps59
     go_wp2
     go_ret
     exact ⟨rfl, rfl⟩
   · have e : pkR n ws = xW := by unfold pkR; rw [if_neg (by omega)]
     have h2 : (ws.length : Int) ≤ n := by omega
     rw [e]
     clear hs
     go_enter Tryz.func59, Tryz.ntmps59
     go_wp2
     go_ret
     exact ⟨rfl, rfl⟩
theorem rpickN_c (n : Int) (ws : List (List UInt8)) (w : World) (hl : ws.length ≤ 100) :
 Calls Tryz.prog 59 #[.int .i64 n, .slice (some ⟨w.heap.size, 0, none⟩) ws.length ws.length] (wdN w ws) fun e w' => e = .returned (.string (ba (pkR n ws))) ∧ Below w.heap.size w w' := by
 refine (rpick_c n ws (some ⟨w.heap.size, 0, none⟩) ws.length (wdN w ws) hl (slWN w ws)).mono ?_
 rintro e w' ⟨rfl, rfl⟩
 exact ⟨rfl, below_one _ _⟩
set_option maxHeartbeats 8000000 in
theorem rtext1_c (x : Nd) (A : Option Addr) (c : Nat) (w : World) (hs : SlG w A 5 rdN [x]) (hz : x.Z) (h1 : x.v.s.size ≤ 1000) :
 Calls Tryz.prog 133 #[.slice A 1 c] w fun e w' => e = .returned (.string (ba (wordL x))) ∧ Below w.heap.size w w' := by
 obtain ⟨R, hR⟩ : ∃ R, wordL x = R := ⟨_, rfl⟩
 rw [hR]
 have HR := Lib.hid hR
 have hRl := wordR_len x h1 hz
 rw [hR] at hRl
 have HRl := Lib.hid hRl
 obtain ⟨b, off, y, rfl, hb, hy, d⟩ := hs.atS (k := 0) (by simp)
 obtain rfl : x = y := by simpa using hy
 obtain ⟨W, hW⟩ : ∃ W, wdN w opL = W := ⟨_, rfl⟩
 have HT : Hid (SlG W (some ⟨w.heap.size, 0, none⟩) 1 rdS opL) := Lib.hid (by rw [← hW]; exact slWN w opL)
 have HW : Hid ((w.alloc (.cells #[.string ⟨#[]⟩, .string ⟨#[]⟩, .string ⟨#[43]⟩, .string ⟨#[45]⟩, .string ⟨#[42]⟩, .string ⟨#[61]⟩, .string ⟨#[60]⟩, .string ⟨#[97, 110, 100]⟩, .string ⟨#[111, 114]⟩, .string ⟨#[110, 111, 116]⟩, .string ⟨#[110, 117, 108, 108, 63]⟩] 9)) = W) := hW
 have HB : Hid (Below w.heap.size w W) := Lib.hid (by rw [← hW]; exact below_one _ _)
 have hsz : W.heap.size = w.heap.size + 1 := by rw [← hW]; simp
 have HN := Lib.hid (fun w' (hb : Below W.heap.size W w') => (HT.out).after hb)
 have d0 := (HB.out.cell (p := ⟨b, off + 0 * 5 + 0, none⟩) hb).trans (d 0 _ rfl)
 have d1 := (HB.out.cell (p := ⟨b, off + 0 * 5 + 1, none⟩) hb).trans (d 1 _ rfl)
 have d2 := (HB.out.cell (p := ⟨b, off + 0 * 5 + 2, none⟩) hb).trans (d 2 _ rfl)
 have d3 := (HB.out.cell (p := ⟨b, off + 0 * 5 + 3, none⟩) hb).trans (d 3 _ rfl)
 have d4 := (HB.out.cell (p := ⟨b, off + 0 * 5 + 4, none⟩) hb).trans (d 4 _ rfl)
 have hbW : b < W.heap.size := by omega
 simp only [Nat.zero_mul, Nat.add_zero] at d0 d1 d2 d3 d4
 have HZ := Lib.hid (And.intro hz h1)
 have Hsz := Lib.hid hsz
 clear hW hs d hb hy hR hRl hz h1 hsz
 go_enter Tryz.func133, Tryz.ntmps133
 go_wp2_with fail
 rw [HW.out]
 go_loopw [4, 5] (fun s i wr => ∃ k : Nat, k ≤ 1 ∧ i = .int .i64 (k : Int) ∧ Hid (Below W.heap.size W wr) ∧ s = .string (ba (if k = 0 then [] else R))) (fun _ i _ => 1 - (intOf i).toNat)
 case atStart => exact ⟨0, by omega, by go_num, Lib.hid (Below.refl _ _), rfl⟩
 case round =>
  obtain ⟨k, hk, rfl, hbw, rfl⟩ := hrel
  by_cases h1 : k = 1
  · subst h1
    rw [if_neg (by decide)]
    clear d0 d1 d2 d3 d4
    go_wp2
    go_ret
    exact ⟨rfl, below_via HB.out hbw.out⟩
  · obtain rfl : k = 0 := by omega
    have HRd : ∀ R0 : List UInt8, R0 = R → Hid (R0 = R) := fun _ h => h
    clear h1 hk
    rw [if_pos rfl]
    have hbl : ∀ j : Nat, wr.cell? ⟨b, j, none⟩ = W.cell? ⟨b, j, none⟩ := fun j => hbw.out.cell (p := ⟨b, j, none⟩) hbW
    have c0 := (hbl (off)).trans d0
    have c1 := (hbl (off + 1)).trans d1
    have c2 := (hbl (off + 2)).trans d2
    have c3 := (hbl (off + 3)).trans d3
    have c4 := (hbl (off + 4)).trans d4
    have hbr : b < wr.heap.size := Nat.lt_of_lt_of_le hbW hbw.out.size
    have Hal : Hid (Below W.heap.size W (wr.alloc (.cells #[.int .i64 x.op, .int .i64 x.n, .int .i64 x.v.k, .int .i64 x.v.n, .string x.v.s] 66))) := Lib.hid (hbw.out.alloc hbw.out.size _)
    clear d0 d1 d2 d3 d4 hbl
    have Cat : ∀ a : List UInt8, ba ([] : List UInt8) ++ ba a = ba a := fun a => by rw [ba_cat]; rfl
    have HCat := Lib.hid Cat
    clear Cat
    by_cases e0 : x.op = 0
    · have hR : 99 :: Lib.itoa x.n = R := by rw [← HR.out, wordL, if_pos e0]
      obtain ⟨G, hG⟩ : ∃ G, Lib.itoa x.n = G := ⟨_, rfl⟩
      have hS := fun w' => rsigned_c x.n w' HZ.out.1.1
      rw [hG] at hS hR
      have HS := Lib.hid hS
      have hll := itoa_len x.n HZ.out.1.1
      rw [hG] at hll
      obtain ⟨U, hU⟩ : ∃ U : ByteArray, ba G = U := ⟨_, rfl⟩
      have hUs : U.size = G.length := by rw [← hU, ba_sz]
      have HF : Hid (ba ([] : List UInt8) ++ ((⟨#[99]⟩ : ByteArray) ++ U) = ba R) := Lib.hid (by
       rw [← hU, show (⟨#[99]⟩ : ByteArray) = ba [99] from rfl, ba_cat, ba_cat, ← hR]; rfl)
      have HU := Lib.hid hU
      rw [e0] at Hal
      clear hG hR hS hU
      go_wp2_with fail
      refine (HS.out _).mono ?_
      rintro e w1 ⟨he, hb1⟩
      obtain rfl : e = .returned (.string U) := he.trans (by rw [← HU.out])
      have Hb1 := Lib.hid (below_via Hal.out hb1)
      clear hb1 HS Hal he
      go_wp2
      go_roundw
      case rel => exact ⟨1, by omega, by go_num, Hb1, by rw [if_neg (by decide)]; exact congrArg Value.string HF.out⟩
      case measure => simp [intOf]
    · by_cases e1 : x.op = 1
      · have hR : textL x.v = R := by rw [← HR.out, wordL, if_neg e0, if_pos e1]
        have hS := fun w' => rtextV_c x.v w' HZ.out.1.2 (by have := HZ.out.2; omega)
        rw [hR] at hS
        have HS := Lib.hid hS
        obtain ⟨U, hU⟩ : ∃ U : ByteArray, ba R = U := ⟨_, rfl⟩
        have hUs : U.size = R.length := by rw [← hU, ba_sz]
        have hRl := HRl.out
        have HF : Hid (ba ([] : List UInt8) ++ U = ba R) := Lib.hid (by rw [← hU]; exact HCat.out R)
        have HU := Lib.hid hU
        rw [e1] at Hal
        clear hR hS hU
        go_wp2_with fail
        refine (HS.out _).mono ?_
        rintro e w1 ⟨he, hb1⟩
        obtain rfl : e = .returned (.string U) := he.trans (by rw [← HU.out])
        have Hb1 := Lib.hid (below_via Hal.out hb1)
        clear hb1 HS Hal he
        go_wp2
        go_roundw
        case rel => exact ⟨1, by omega, by go_num, Hb1, by rw [if_neg (by decide)]; exact congrArg Value.string HF.out⟩
        case measure => simp [intOf]
      · by_cases e2 : x.op < 0 ∨ 11 ≤ x.op
        · have hR : [63] = R := by rw [← HR.out, wordL, if_neg e0, if_neg e1, if_pos e2]
          have HF : Hid (ba ([] : List UInt8) ++ (⟨#[63]⟩ : ByteArray) = ba R) := Lib.hid (by rw [← hR]; exact HCat.out [63])
          clear hR
          rcases e2 with e2 | e2
          · go_wp2
            go_roundw
            case rel => exact ⟨1, by omega, by go_num, Hal, by rw [if_neg (by decide)]; exact congrArg Value.string HF.out⟩
            case measure => simp [intOf]
          · have e3 : ¬ x.op < 0 := by omega
            have e4 : x.op > 10 := by omega
            go_wp2
            go_roundw
            case rel => exact ⟨1, by omega, by go_num, Hal, by rw [if_neg (by decide)]; exact congrArg Value.string HF.out⟩
            case measure => simp [intOf]
        · obtain ⟨k, hk⟩ : ∃ k : Nat, x.op = (k : Int) := ⟨x.op.toNat, by omega⟩
          have hk11 : k < 11 := by omega
          have hR : opL.getD k [] = R := by rw [← HR.out, wordL, if_neg e0, if_neg e1, if_neg e2, hk]; rfl
          have hcl : ∀ y, opL[k]? = some y → wr.cell? ⟨w.heap.size, k, none⟩ = some (.string (ba y)) := fun y hy => by
           rcases HT.out with h | ⟨b', off', hA', hlt', h⟩
           · cases h
           · obtain ⟨rfl, rfl⟩ : w.heap.size = b' ∧ 0 = off' := by simpa using hA'
             have := h k y hy 0 (.string (ba y)) rfl
             rw [show 0 + k * 1 + 0 = k by omega] at this
             exact (hbw.out.cell (p := ⟨w.heap.size, k, none⟩) (show w.heap.size < W.heap.size by have := Hsz.out; omega)).trans this
          have hltw : w.heap.size < wr.heap.size := Nat.lt_of_lt_of_le (show w.heap.size < W.heap.size by have := Hsz.out; omega) hbw.out.size
          rw [hk] at Hal
          have hc : k = 2 ∨ k = 3 ∨ k = 4 ∨ k = 5 ∨ k = 6 ∨ k = 7 ∨ k = 8 ∨ k = 9 ∨ k = 10 := by omega
          have Hc0 := Lib.hid HCat.out
          clear hk11 e0 e1 e2
          rcases hc with rfl | rfl | rfl | rfl | rfl | rfl | rfl | rfl | rfl
          all_goals
           have d := hcl _ rfl
           have HF : Hid (ba ([] : List UInt8) ++ ba R = ba R) := Lib.hid (HCat.out R)
           simp only [List.getD_eq_getElem?_getD, opL, List.getElem?_cons_succ, List.getElem?_cons_zero, Option.getD_some] at hR
           rw [hR] at d
           obtain ⟨U, hU⟩ : ∃ U : ByteArray, ba R = U := ⟨_, rfl⟩
           have hUs : U.size = R.length := by rw [← hU, ba_sz]
           have hRl := HRl.out
           rw [hU] at HF d
           have HU := Lib.hid hU
           clear hR hcl hU
           go_wp2
           go_roundw
           case rel => exact ⟨1, by omega, by go_num, Hal, by rw [if_neg (by decide), HU.out]; exact congrArg Value.string HF.out⟩
           case measure => simp [intOf]
end Go.Proofs.YtjgpmnffagdhlaaGreatDoor
namespace Go.Proofs.YtjgpmnffagdhlaaGreatDoor
open Go Go.RowKit
set_option maxRecDepth 100000
attribute [local go_sem ↓] Go.wp_at_zero Go.wp_at_succ
def stT (x : Nd) : List UInt8 := if x.op = 10 then [110, 117, 108, 108, 32, 63] else if x.op = 1 ∧ x.v.k < 2 ∧ mayB x.v = false then [33] else wordL x
theorem stT_jt (x : Nd) : jt (stR x) = 32 :: stT x := by
 unfold stR stT
 split
 · rfl
 split
 · rfl
 · rw [jt_cons, jt_nil, List.append_nil]
theorem stT_len (x : Nd) (hs : x.v.s.size ≤ 1000) (hz : x.Z) : (stT x).length ≤ 5001 := by
 unfold stT
 split
 · decide
 split
 · decide
 · exact wordR_len x hs hz
theorem rtextB_c (op n : Int) (v : Val) (w u : World) (hb : Below w.heap.size w u) (hz : Nd.Z ⟨op, n, v⟩) (h1 : v.s.size ≤ 1000) :
 Calls Tryz.prog 133 #[.slice (some ⟨u.heap.size, 0, none⟩) 1 1] (u.alloc (.cells #[.int .i64 op, .int .i64 n, .int .i64 v.k, .int .i64 v.n, .string v.s] 66)) fun e w' => e = .returned (.string (ba (wordL ⟨op, n, v⟩))) ∧ Below w.heap.size w w' := by
 refine (rtext1_c ⟨op, n, v⟩ (some ⟨u.heap.size, 0, none⟩) 1 _ (SlG.new (rd := rdN) (S := 5) nOk.len [⟨op, n, v⟩] rfl) hz h1).mono ?_
 rintro e w' ⟨h1, h2⟩
 exact ⟨h1, below_via (below_al hb _) h2⟩
set_option maxHeartbeats 4000000 in
theorem rstep_c (x : Nd) (w : World) (hz : x.Z) (h1 : x.v.s.size ≤ 1000) :
 Calls Tryz.prog 87 #[x.w] w fun e w' => e = .returned (.string (ba (stT x))) ∧ Below w.heap.size w w' := by
 obtain ⟨op, n, v⟩ := x
 have HZ := Lib.hid (And.intro hz h1)
 have HN : Hid ((w.alloc (.cells #[.int .i64 op, .int .i64 n, .int .i64 v.k, .int .i64 v.n, .string v.s] 66)).heap.size = w.heap.size + 1) := Lib.hid (by simp)
 have HB : Hid (Below w.heap.size w (w.alloc (.cells #[.int .i64 op, .int .i64 n, .int .i64 v.k, .int .i64 v.n, .string v.s] 66))) := Lib.hid (below_one _ _)
 obtain ⟨R, hR⟩ : ∃ R, stT ⟨op, n, v⟩ = R := ⟨_, rfl⟩
 rw [hR]
 unfold stT at hR
 simp only at hR h1
 clear hz
 by_cases h10 : op = 10
 · subst h10
   have HR : Hid ((⟨#[110, 117, 108, 108, 32, 63]⟩ : ByteArray) = ba R) := Lib.hid (by rw [← hR]; rfl)
   clear hR
   go_enter Tryz.func87, Tryz.ntmps87
   go_wp2
   go_ret
   exact ⟨by rw [← HR.out]; rfl, HB.out⟩
 rw [if_neg h10] at hR
 by_cases ho : op = 1
 · subst ho
   by_cases hk : v.k < 2
   · have HM := Lib.hid (rmay_c v (w.alloc (.cells #[.int .i64 1, .int .i64 n, .int .i64 v.k, .int .i64 v.n, .string v.s] 66)) (by unfold maxLen; omega))
     have hRm : rmB v = mayB v := (may_rm v).symm
     obtain ⟨M, hM⟩ : ∃ M, rmB v = M := ⟨_, rfl⟩
     rw [hM] at HM hRm
     rw [← hRm] at hR
     have HR0 := Lib.hid hR
     clear hR hM hRm
     go_enter Tryz.func87, Tryz.ntmps87
     go_wp2_with fail
     refine HM.out.mono ?_
     rintro e w1 ⟨rfl, hb1⟩
     have Hb1 := Lib.hid (below_via HB.out hb1)
     have hc := fun (j : Nat) => hb1.cell (p := ⟨w.heap.size, j, none⟩) (show w.heap.size < (w.alloc (.cells #[.int .i64 1, .int .i64 n, .int .i64 v.k, .int .i64 v.n, .string v.s] 66)).heap.size by rw [HN.out]; omega)
     have hK : Bk (w.alloc (.cells (rdN ⟨1, n, v⟩).toArray 66)) w.heap.size (rdN ⟨1, n, v⟩).toArray 66 := Bk.new _ _ _
     have c0 : w1.cell? ⟨w.heap.size, 0, none⟩ = some (.int .i64 1) := (hc 0).trans (hK.cell 0)
     have c1 : w1.cell? ⟨w.heap.size, 1, none⟩ = some (.int .i64 n) := (hc 1).trans (hK.cell 1)
     have c2 : w1.cell? ⟨w.heap.size, 2, none⟩ = some (.int .i64 v.k) := (hc 2).trans (hK.cell 2)
     have c3 : w1.cell? ⟨w.heap.size, 3, none⟩ = some (.int .i64 v.n) := (hc 3).trans (hK.cell 3)
     have c4 : w1.cell? ⟨w.heap.size, 4, none⟩ = some (.string v.s) := (hc 4).trans (hK.cell 4)
     have hl1 : w.heap.size < w1.heap.size := Nat.lt_of_lt_of_le (by rw [HN.out]; omega) hb1.size
     clear hb1 hc hK HM
     cases M
     · have HR : Hid ((⟨#[33]⟩ : ByteArray) = ba R) := Lib.hid (by rw [← HR0.out, if_pos ⟨by first | rfl | trivial, hk, rfl⟩])
       clear HR0
       go_wp2
       go_ret
       exact ⟨by rw [← HR.out]; rfl, Hb1.out⟩
     · have HR : Hid (wordL ⟨1, n, v⟩ = R) := Lib.hid (by rw [← HR0.out, if_neg (fun h => by cases h.2.2)])
       have HT := Lib.hid (rtextB_c 1 n v w w1 Hb1.out HZ.out.1 HZ.out.2)
       rw [HR.out] at HT
       clear HR0
       go_wp2_with fail
       refine HT.out.mono ?_
       rintro e w2 ⟨he, hb2⟩
       have Hb2 := Lib.hid hb2
       obtain ⟨U, hU⟩ : ∃ U : ByteArray, ba R = U := ⟨_, rfl⟩
       rw [hU] at he
       subst he
       have HU := Lib.hid hU
       clear hb2 hU
       go_wp2
       go_ret
       exact ⟨by rw [HU.out]; rfl, Hb2.out⟩
   · have HR : Hid (wordL ⟨1, n, v⟩ = R) := Lib.hid (by rw [← hR, if_neg (fun h => hk h.2.1)])
     have HT := Lib.hid (rtextB_c 1 n v w _ HB.out HZ.out.1 HZ.out.2)
     rw [HR.out, HN.out] at HT
     clear hR
     go_enter Tryz.func87, Tryz.ntmps87
     go_wp2_with fail
     refine HT.out.mono ?_
     rintro e w2 ⟨he, hb2⟩
     have Hb2 := Lib.hid hb2
     obtain ⟨U, hU⟩ : ∃ U : ByteArray, ba R = U := ⟨_, rfl⟩
     rw [hU] at he
     subst he
     have HU := Lib.hid hU
     clear hb2 hU
     go_wp2
     go_ret
     exact ⟨by rw [HU.out]; rfl, Hb2.out⟩
 · have HR : Hid (wordL ⟨op, n, v⟩ = R) := Lib.hid (by rw [← hR, if_neg (fun h => ho h.1)])
   have HT := Lib.hid (rtextB_c op n v w _ HB.out HZ.out.1 HZ.out.2)
   rw [HR.out, HN.out] at HT
   clear hR
   go_enter Tryz.func87, Tryz.ntmps87
   go_wp2_with fail
   refine HT.out.mono ?_
   rintro e w2 ⟨he, hb2⟩
   have Hb2 := Lib.hid hb2
   obtain ⟨U, hU⟩ : ∃ U : ByteArray, ba R = U := ⟨_, rfl⟩
   rw [hU] at he
   subst he
   have HU := Lib.hid hU
   clear hb2 hU
   go_wp2
   go_ret
   exact ⟨by rw [HU.out]; rfl, Hb2.out⟩
theorem jt_wb {ws : List (List UInt8)} {n : Nat} {U : ByteArray} (hU : U = ba (jt ws)) (h : WB ws) (hn : ws.length ≤ n) : U.size ≤ n * 5002 := by
 rw [hU, ba_sz]
 exact jt_len h hn
theorem exR_take (es : List Nd) (h : ∀ x ∈ es, x.v.s.size ≤ 1000 ∧ x.Z) (hl : es.length ≤ 120) (k : Nat) : WB (s_lb :: (es.take k).flatMap stR) ∧ (s_lb :: (es.take k).flatMap stR).length ≤ 242 := by
 have h' : ∀ x ∈ es.take k, x.v.s.size ≤ 1000 ∧ x.Z := fun x hx => h x (List.mem_of_mem_take hx)
 have h1 := flatW_len stR 2 (es.take k) fun x hx => (stR_wb x (h' x hx).1 (h' x hx).2).2
 have h2 : (es.take k).length ≤ 120 := Nat.le_trans (List.length_take_le' _ _) hl
 exact ⟨WB.cons (by decide) (WB.flat fun x hx => (stR_wb x (h' x hx).1 (h' x hx).2).1), by simp only [List.length_cons]; omega⟩
set_option maxHeartbeats 4000000 in
theorem rexprT_c (es : List Nd) (A : Option Addr) (c : Nat) (w : World) (hs : SlG w A 5 rdN es) (hl : es.length ≤ 120) (hz : ∀ x ∈ es, x.v.s.size ≤ 1000 ∧ x.Z) :
 Calls Tryz.prog 58 #[.slice A es.length c] w fun e w' => e = .returned (.string (ba (jt (exR es)))) ∧ Below w.heap.size w w' := by
 have HS := Lib.hid hs
 have HZ := Lib.hid hz
 have HL := Lib.hid hl
 clear hs hz
 go_enter Tryz.func58, Tryz.ntmps58
 go_wp2_with fail
 go_loopw [3, 4] (fun s i wr => ∃ (k : Nat) (U : ByteArray), k ≤ es.length ∧ i = .int .i64 (k : Int) ∧ s = .string U ∧ Hid (Below w.heap.size w wr) ∧ Hid (U = ba (jt (s_lb :: (es.take k).flatMap stR)))) (fun _ i _ => es.length - (intOf i).toNat)
 case atStart => exact ⟨0, _, Nat.zero_le _, by go_num, rfl, Lib.hid (Below.refl _ _), Lib.hid rfl⟩
 case round =>
  obtain ⟨k, U, hk, rfl, rfl, hb, hU⟩ := hrel
  obtain ⟨t1, t2⟩ := exR_take es HZ.out HL.out k
  have hUs := jt_wb hU.out t1 t2
  clear t1 t2
  by_cases hlt : k < es.length
  · have hlt' : (k : Int) < es.length := by omega
    obtain ⟨b, off, x, rfl, hbl, hx, d⟩ := HS.out.atS hlt
    have hmem := List.mem_of_getElem? hx
    have hzx := HZ.out x hmem
    have d0 := (hb.out.cell (p := ⟨b, off + k * 5 + 0, none⟩) hbl).trans (d 0 _ rfl)
    have d1 := (hb.out.cell (p := ⟨b, off + k * 5 + 1, none⟩) hbl).trans (d 1 _ rfl)
    have d2 := (hb.out.cell (p := ⟨b, off + k * 5 + 2, none⟩) hbl).trans (d 2 _ rfl)
    have d3 := (hb.out.cell (p := ⟨b, off + k * 5 + 3, none⟩) hbl).trans (d 3 _ rfl)
    have d4 := (hb.out.cell (p := ⟨b, off + k * 5 + 4, none⟩) hbl).trans (d 4 _ rfl)
    simp only [Nat.add_zero] at d0
    have hbr : b < wr.heap.size := Nat.lt_of_lt_of_le hbl hb.out.size
    have hC := rstep_c x wr hzx.2 hzx.1
    have hTl := stT_len x hzx.1 hzx.2
    obtain ⟨V, hV⟩ : ∃ V, ba (stT x) = V := ⟨_, rfl⟩
    rw [hV] at hC
    have hVs : V.size ≤ 5001 := by rw [← hV, ba_sz]; exact hTl
    have HC := Lib.hid hC
    have HF : Hid (U ++ ((⟨#[32]⟩ : ByteArray) ++ V) = ba (jt (s_lb :: (es.take (k + 1)).flatMap stR))) := Lib.hid (by
     rw [hU.out, ← hV, show (⟨#[32]⟩ : ByteArray) = ba [32] from rfl, ba_cat, ba_cat, flatW_succ stR es k x hx, ← List.cons_append, jt_app, stT_jt]; rfl)
    clear hx hmem hzx hC hTl hV d
    go_wp2_with fail
    refine HC.out.mono ?_
    rintro e w2 ⟨rfl, hb2⟩
    have HB2 := Lib.hid (below_via hb.out hb2)
    clear hb2
    go_wp2
    go_roundw
    case rel => exact ⟨k + 1, _, by omega, by go_num, rfl, HB2, HF⟩
    case measure => simp [intOf]; omega
  · obtain rfl : k = es.length := by omega
    have HF : Hid (U ++ (⟨#[32, 93]⟩ : ByteArray) = ba (jt (exR es))) := Lib.hid (by
     rw [hU.out, show (⟨#[32, 93]⟩ : ByteArray) = ba [32, 93] from rfl, ba_cat, List.take_length]
     unfold exR
     rw [← List.cons_append, jt_app]; rfl)
    clear hlt
    go_wp2
    go_ret
    exact ⟨by rw [← HF.out]; rfl, hb.out⟩
end Go.Proofs.YtjgpmnffagdhlaaGreatDoor
namespace Go.Proofs.YtjgpmnffagdhlaaGreatDoor
open Go Go.RowKit
set_option maxRecDepth 100000
attribute [local go_sem ↓] Go.wp_at_zero Go.wp_at_succ
structure TJ (n : Nat) (b : List UInt8) (ws : List (List UInt8)) (U : ByteArray) : Prop where
 eq : U = ba (b ++ jt ws)
 wb : WB ws
 ln : ws.length ≤ n
theorem TJ.size {n : Nat} {b : List UInt8} {ws : List (List UInt8)} {U : ByteArray} (h : TJ n b ws U) : U.size ≤ b.length + n * 5002 := by
 rw [h.eq, ba_sz, List.length_append]
 have := jt_len h.wb h.ln
 omega
theorem TJ.s {n : Nat} {b : List UInt8} {ws : List (List UInt8)} {U : ByteArray} (h : TJ n b ws U) (hb : b.length ≤ 10) (hn : n ≤ 110000) : U.size ≤ 600000000 := by
 have := h.size
 omega
theorem TJ.more {n m : Nat} {b : List UInt8} {ws ws2 : List (List UInt8)} {U V : ByteArray} (h : TJ n b ws U) (hV : V = ba (jt ws2)) (hw : WB ws2) (hl : ws2.length ≤ m) : TJ (n + m) b (ws ++ ws2) (U ++ V) := by
 refine ⟨?_, h.wb.app hw, by rw [List.length_append]; have := h.ln; omega⟩
 rw [h.eq, hV, ba_cat, List.append_assoc, jt_app]
theorem TJ.up {n m : Nat} {b : List UInt8} {ws : List (List UInt8)} {U : ByteArray} (h : TJ n b ws U) (hm : n ≤ m) : TJ m b ws U := ⟨h.eq, h.wb, Nat.le_trans h.ln hm⟩
theorem TJ.to {n m : Nat} {b : List UInt8} {ws ws2 : List (List UInt8)} {U : ByteArray} (h : TJ n b ws U) (e : ws = ws2) (hl : ws2.length ≤ m) : TJ m b ws2 U := by
 subst e
 exact ⟨h.eq, h.wb, hl⟩
theorem cat9 {X Y Z : ByteArray} (h : X ++ Y = Z) (hs : X.size + Y.size ≤ 4000000000) : ∀ w, (Op.stringOp .add X Y).run Tryz.prog w = .ok (.string Z) w := fun w => by
 rw [run_string_add_sum w X Y (by omega), h]
theorem cat_size (X Y : ByteArray) : (X ++ Y).size = X.size + Y.size := ByteArray.size_append
structure ColJ (W : World) (g : Nat) (T : TypeId) (cs : List Value) (wx : World) : Prop where
 bl : Below W.heap.size W wx
 bk : Bk wx g cs.toArray T
theorem ColJ.then {W u v : World} {g : Nat} {T : TypeId} {cs : List Value} (h : ColJ W g T cs u) (hb : Below u.heap.size u v) : ColJ W g T cs v := ⟨below_via h.bl hb, h.bk.after hb h.bk.lt⟩
set_option maxHeartbeats 8000000 in
theorem rtable_c (x : Tm) (w : World) (hi : x.In w) (hf : x.Few) :
 Calls Tryz.prog 34 #[x.w] w fun e w' => e = .returned (.string (ba (w_table ++ jt (tbR x.tb)))) ∧ Below w.heap.size w w' := by
 obtain ⟨nm, ⟨Ac, nc, cc, cols⟩, ⟨Ak, nk, ck, chks⟩⟩ := x
 obtain ⟨hcols, hchks, heach⟩ := hi
 obtain ⟨f1, f2, f3, f4, f5⟩ := hf
 simp only at hcols hchks heach f1 f2 f3 f4 f5
 obtain rfl : cols.length = nc := hcols.len
 obtain rfl : chks.length = nk := hchks.len
 obtain ⟨R, hR⟩ : ∃ R, ba (w_table ++ jt (tbR (⟨nm, ⟨Ac, cols.length, cc, cols⟩, ⟨Ak, chks.length, ck, chks⟩⟩ : Tm).tb)) = R := ⟨_, rfl⟩
 rw [hR]
 have HR := Lib.hid hR
 obtain ⟨W, hW⟩ : ∃ W, w.alloc (.cells #[.string nm, .slice Ac cols.length cc, .slice Ak chks.length ck] 25) = W := ⟨_, rfl⟩
 have hsz : W.heap.size = w.heap.size + 1 := by rw [← hW]; simp
 have HB : Hid (Below w.heap.size w W) := Lib.hid (by rw [← hW]; exact below_one _ _)
 have HK : Hid (Bk W w.heap.size #[.string nm, .slice Ac cols.length cc, .slice Ak chks.length ck] 25) := Lib.hid (by rw [← hW]; exact Bk.new _ _ _)
 have HC := Lib.hid (hcols.sl.after HB.out)
 have HX := Lib.hid (hchks.sl.after HB.out)
 have HE : Hid (∀ e ∈ chks, e.In W 5 rdN) := Lib.hid (fun e he => (heach e he).after HB.out)
 have HW := Lib.hid hW
 have Hsz := Lib.hid hsz
 have HF2 := Lib.hid f3
 have HF4 := Lib.hid f5
 have HF1 := Lib.hid f2
 have HF3 := Lib.hid f4
 have HU0 : Hid (TJ 2 w_table [nm.data.toList, s_lp] ((⟨#[116, 97, 98, 108, 101, 32]⟩ : ByteArray) ++ nm ++ (⟨#[32, 40]⟩ : ByteArray))) := Lib.hid ⟨by
  rw [← ba_of nm, show (⟨#[116, 97, 98, 108, 101, 32]⟩ : ByteArray) = ba [116, 97, 98, 108, 101, 32] from rfl, show (⟨#[32, 40]⟩ : ByteArray) = ba [32, 40] from rfl, ba_cat, ba_cat, ba_of, jt_cons, jt_cons, jt_nil]
  rfl, WB.cons (by have : nm.data.toList.length = nm.size := rfl; omega) (by unfold WB; decide), by simp⟩
 have c0 := HK.out.cell 0
 have c1 := HK.out.cell 1
 have hlt := HK.out.lt
 have hcl : cols.length ≤ 400 := f2
 have hkl : chks.length ≤ 400 := f4
 clear hcols hchks heach hW hsz hR f2 f3 f4 f5
 go_enter Tryz.func34, Tryz.ntmps34
 go_wp2_with fail
 rw [HW.out]
 go_loopw [3, 4] (fun s i wr => ∃ (k : Nat) (U : ByteArray), k ≤ cols.length ∧ i = .int .i64 (k : Int) ∧ s = .string U ∧ Hid (Below W.heap.size W wr) ∧ Hid (TJ 3202 w_table ([nm.data.toList, s_lp] ++ lsR clR (cols.take k)) U)) (fun _ i _ => cols.length - (intOf i).toNat)
 case atStart => exact ⟨0, _, Nat.zero_le _, by go_num, rfl, Lib.hid (Below.refl _ _), Lib.hid (HU0.out.to (by rfl) (by simp [lsR]))⟩
 case round =>
  clear HU0
  obtain ⟨k, U, hk, rfl, rfl, hb, hU⟩ := hrel
  have hUs := hU.out.s (by decide) (by decide)
  have c1' : wr.cell? ⟨w.heap.size, 1, none⟩ = some (.slice Ac cols.length cc) := (hb.out.cell (p := ⟨w.heap.size, 1, none⟩) hlt).trans c1
  have c2' : wr.cell? ⟨w.heap.size, 2, none⟩ = some (.slice Ak chks.length ck) := (hb.out.cell (p := ⟨w.heap.size, 2, none⟩) hlt).trans (HK.out.cell 2)
  have hltr : w.heap.size < wr.heap.size := Nat.lt_of_lt_of_le hlt hb.out.size
  by_cases hk1 : k < cols.length
  · have hk1' : (k : Int) < cols.length := by omega
    obtain ⟨b, off, x, rfl, hbl, hx, d⟩ := HC.out.atS hk1
    have hmem := List.mem_of_getElem? hx
    have hfx := HF2.out x hmem
    have HP := Lib.hid (lsR_succ clR cols k x hx)
    obtain ⟨cn, ckd, cnu, cun, crf, cac⟩ := x
    have d0 := (hb.out.cell (p := ⟨b, off + k * 6 + 0, none⟩) hbl).trans (d 0 _ rfl)
    have d1 := (hb.out.cell (p := ⟨b, off + k * 6 + 1, none⟩) hbl).trans (d 1 _ rfl)
    have d2 := (hb.out.cell (p := ⟨b, off + k * 6 + 2, none⟩) hbl).trans (d 2 _ rfl)
    have d3 := (hb.out.cell (p := ⟨b, off + k * 6 + 3, none⟩) hbl).trans (d 3 _ rfl)
    have d4 := (hb.out.cell (p := ⟨b, off + k * 6 + 4, none⟩) hbl).trans (d 4 _ rfl)
    have d5 := (hb.out.cell (p := ⟨b, off + k * 6 + 5, none⟩) hbl).trans (d 5 _ rfl)
    simp only [Nat.add_zero] at d0
    have hbr : b < wr.heap.size := Nat.lt_of_lt_of_le hbl hb.out.size
    obtain ⟨W5, hW5⟩ : ∃ W5, wr.alloc (.cells (rdCl ⟨cn, ckd, cnu, cun, crf, cac⟩).toArray 64) = W5 := ⟨_, rfl⟩
    have HW5 : Hid (wr.alloc (.cells #[.string cn, .int .i64 ckd, .bool cnu, .bool cun, .string crf, .int .i64 cac] 64) = W5) := hW5
    have HJ : Hid (ColJ W wr.heap.size 64 (rdCl ⟨cn, ckd, cnu, cun, crf, cac⟩) W5) := Lib.hid (by rw [← hW5]; exact ⟨hb.out.alloc hb.out.size _, Bk.new _ _ _⟩)
    obtain ⟨P0, hP0⟩ : ∃ P0, [nm.data.toList, s_lp] ++ lsR clR (cols.take k) = P0 := ⟨_, rfl⟩
    have HP0 := Lib.hid hP0
    rw [hP0] at hU
    have Hfx := Lib.hid hfx
    clear hW5 hP0 hmem hfx hx d
    go_upto_if 24 with fail
    rw [HW5.out]
    go_cut [3] (fun s wx => ∃ U, s = .string U ∧ W5 = wx ∧ Hid (TJ 3203 w_table (P0 ++ (if k = 0 then [] else [s_cm])) U))
    case first =>
     by_cases h0 : k = 0
     · have h0' : ¬ (0 : Int) < k := by omega
       have HU1 : Hid (TJ 3203 w_table (P0 ++ (if k = 0 then [] else [s_cm])) U) := Lib.hid (by rw [if_pos h0, List.append_nil]; exact hU.out.up (by decide))
       clear h0
       go_wp2_with fail
       go_meet
       exact ⟨U, rfl, rfl, HU1⟩
     · have h0' : (0 : Int) < k := by omega
       have HU1 : Hid (TJ 3203 w_table (P0 ++ (if k = 0 then [] else [s_cm])) (U ++ (⟨#[32, 44]⟩ : ByteArray))) := Lib.hid (by rw [if_neg h0]; exact hU.out.more (m := 1) rfl (by unfold WB; decide) (by decide))
       clear h0
       go_wp2_with fail
       go_meet
       exact ⟨_, rfl, rfl, HU1⟩
    case rest =>
     obtain ⟨U1, hs1, hw1, hU1⟩ := hcut
     subst hs1
     subst hw1
     obtain ⟨P1, hP1⟩ : ∃ P1, P0 ++ (if k = 0 then [] else [s_cm]) = P1 := ⟨_, rfl⟩
     rw [hP1] at hU1
     have HP1 := Lib.hid hP1
     have hU1s := hU1.out.s (by decide) (by decide)
     clear hP1 d0 d1 d2 d3 d4 d5 hUs hU
     go_upto_region 8 with fail
     go_cut [3] (fun s wx => ∃ U, s = .string U ∧ Hid (ColJ W wr.heap.size 64 (rdCl ⟨cn, ckd, cnu, cun, crf, cac⟩) wx) ∧ Hid (TJ 3205 w_table (P1 ++ [cn.data.toList, pkR (IntKind.i64.wrap (ckd - 1)) kdWs]) U))
     case first =>
      have e0 : W5.cell? ⟨wr.heap.size, 0, none⟩ = some (.string cn) := HJ.out.bk.cell 0
      have e1 : W5.cell? ⟨wr.heap.size, 1, none⟩ = some (.int .i64 ckd) := HJ.out.bk.cell 1
      have hlC := HJ.out.bk.lt
      have hcn : cn.size ≤ 100 := Hfx.out.1
      obtain ⟨V, hV⟩ : ∃ V, ba (pkR (IntKind.i64.wrap (ckd - 1)) kdWs) = V := ⟨_, rfl⟩
      have hVs : V.size ≤ 5001 := by rw [← hV, ba_sz]; exact pkR_len _ _ (by unfold WB; decide)
      obtain ⟨A1, hA1⟩ : ∃ A, (⟨#[32]⟩ : ByteArray) ++ cn = A := ⟨_, rfl⟩
      obtain ⟨A2, hA2⟩ : ∃ A, A1 ++ (⟨#[32]⟩ : ByteArray) = A := ⟨_, rfl⟩
      obtain ⟨A3, hA3⟩ : ∃ A, A2 ++ V = A := ⟨_, rfl⟩
      obtain ⟨A4, hA4⟩ : ∃ A, U1 ++ A3 = A := ⟨_, rfl⟩
      have s1 : A1.size ≤ 101 := by rw [← hA1, cat_size]; show 1 + cn.size ≤ _; omega
      have s2 : A2.size ≤ 102 := by rw [← hA2, cat_size]; show A1.size + 1 ≤ _; omega
      have s3 : A3.size ≤ 5103 := by rw [← hA3, cat_size]; omega
      have ec1 := cat9 hA1 (by show 1 + cn.size ≤ _; omega)
      have ec2 := cat9 hA2 (by show A1.size + 1 ≤ _; omega)
      have ec3 := cat9 hA3 (by omega)
      have ec4 := cat9 hA4 (by omega)
      have HF : Hid (TJ 3205 w_table (P1 ++ [cn.data.toList, pkR (IntKind.i64.wrap (ckd - 1)) kdWs]) A4) := Lib.hid (by
       rw [← hA4]
       refine hU1.out.more (m := 2) ?_ (WB.cons (by have : cn.data.toList.length = cn.size := rfl; omega) (WB.cons (pkR_len _ _ (by unfold WB; decide)) WB.nil)) (by simp)
       rw [← hA3, ← hA2, ← hA1, ← hV, ← ba_of cn, show (⟨#[32]⟩ : ByteArray) = ba [32] from rfl, ba_cat, ba_cat, ba_cat, ba_of, jt_cons, jt_cons, jt_nil]
       simp)
      have HPk := Lib.hid (fun u => rpickN_c (IntKind.i64.wrap (ckd - 1)) kdWs u (by decide))
      rw [hV] at HPk
      have HSv : Hid (∀ wy, Below W5.heap.size W5 wy → (wy.cell? ⟨wr.heap.size, 0, none⟩ = some (.string cn) ∧ wy.cell? ⟨wr.heap.size, 1, none⟩ = some (.int .i64 ckd))) := Lib.hid (fun wy h => ⟨(HJ.out.bk.after h hlC).cell 0, (HJ.out.bk.after h hlC).cell 1⟩)
      clear hA1 hA2 hA3 hA4 hV s1 s2 s3 hU1s
      go_wp2_with fail
      go_region_held3 (fun w' => w'.cell? ⟨wr.heap.size, 0, none⟩ = some (.string cn) ∧ w'.cell? ⟨wr.heap.size, 1, none⟩ = some (.int .i64 ckd))
       (first
         | exact HSv.out _ HbS.out
         | go_keep)
       (first
         | (go_at_call 59
            refine (HPk.out W5.drew).mono ?_
            rintro e w6 ⟨rfl, hb2⟩
            have HbS : Hid (Below W5.heap.size W5 w6) := Lib.hid (below_via (Below.refl W5.heap.size W5).drew hb2)
            clear hb2))
      all_goals
       have HJ2 := Lib.hid (HJ.out.then HbS.out)
       go_wp2
       go_meet
       exact ⟨A4, rfl, HJ2, HF⟩
     case rest =>
      obtain ⟨U2, hs2, hJ2, hU2⟩ := hcut
      subst hs2
      clear HJ
      obtain ⟨P2, hP2⟩ : ∃ P2, P1 ++ [cn.data.toList, pkR (IntKind.i64.wrap (ckd - 1)) kdWs] = P2 := ⟨_, rfl⟩
      rw [hP2] at hU2
      have HP2 := Lib.hid hP2
      have hU2s := hU2.out.s (by decide) (by decide)
      have e2 : wc.cell? ⟨wr.heap.size, 2, none⟩ = some (.bool cnu) := hJ2.out.bk.cell 2
      have hlC := hJ2.out.bk.lt
      clear hP2 hU1 hU1s
      go_upto_if 40 with fail
      go_cut [3] (fun s wx => ∃ U, s = .string U ∧ wc = wx ∧ Hid (TJ 3206 w_table (P2 ++ (if cnu then [w_null] else [])) U))
      case first =>
       cases cnu
       case false =>
        have HU1 : Hid (TJ 3206 w_table (P2 ++ (if false then [w_null] else [])) U2) := Lib.hid (hU2.out.to (by simp) (by have := hU2.out.ln; simp; omega))
        go_wp2_with fail
        go_meet
        exact ⟨U2, rfl, rfl, HU1⟩
       case true =>
        have HU1 : Hid (TJ 3206 w_table (P2 ++ (if true then [w_null] else [])) (U2 ++ (⟨#[32, 110, 117, 108, 108]⟩ : ByteArray))) := Lib.hid (hU2.out.more (m := 1) rfl (by unfold WB; decide) (by decide))
        go_wp2_with fail
        go_meet
        exact ⟨_, rfl, rfl, HU1⟩
      case rest =>
       obtain ⟨U3, hs3, hw3, hU3⟩ := hcut
       subst hs3
       subst hw3
       obtain ⟨P3, hP3⟩ : ∃ P3, P2 ++ (if cnu then [w_null] else []) = P3 := ⟨_, rfl⟩
       rw [hP3] at hU3
       have HP3 := Lib.hid hP3
       have hU3s := hU3.out.s (by decide) (by decide)
       have e3 : wc.cell? ⟨wr.heap.size, 3, none⟩ = some (.bool cun) := hJ2.out.bk.cell 3
       clear hP3 hU2 hU2s e2
       go_upto_if 44 with fail
       go_cut [3] (fun s wx => ∃ U, s = .string U ∧ wc = wx ∧ Hid (TJ 3207 w_table (P3 ++ (if cun then [w_unique] else [])) U))
       case first =>
        cases cun
        case false =>
         have HU1 : Hid (TJ 3207 w_table (P3 ++ (if false then [w_unique] else [])) U3) := Lib.hid (hU3.out.to (by simp) (by have := hU3.out.ln; simp; omega))
         go_wp2_with fail
         go_meet
         exact ⟨U3, rfl, rfl, HU1⟩
        case true =>
         have HU1 : Hid (TJ 3207 w_table (P3 ++ (if true then [w_unique] else [])) (U3 ++ (⟨#[32, 117, 110, 105, 113, 117, 101]⟩ : ByteArray))) := Lib.hid (hU3.out.more (m := 1) rfl (by unfold WB; decide) (by decide))
         go_wp2_with fail
         go_meet
         exact ⟨_, rfl, rfl, HU1⟩
       case rest =>
        obtain ⟨U4, hs4, hw4, hU4⟩ := hcut
        subst hs4
        subst hw4
        obtain ⟨P4, hP4⟩ : ∃ P4, P3 ++ (if cun then [w_unique] else []) = P4 := ⟨_, rfl⟩
        rw [hP4] at hU4
        have HP4 := Lib.hid hP4
        have hU4s := hU4.out.s (by decide) (by decide)
        have e4 : wc.cell? ⟨wr.heap.size, 4, none⟩ = some (.string crf) := hJ2.out.bk.cell 4
        have e5 : wc.cell? ⟨wr.heap.size, 5, none⟩ = some (.int .i64 cac) := hJ2.out.bk.cell 5
        clear hP4 hU3 hU3s e3
        go_upto_if 49 with fail
        obtain ⟨D, hD⟩ : ∃ D, crf.toList.isEmpty = D := ⟨_, rfl⟩
        rw [hD]
        have HD := Lib.hid hD
        clear hD
        have HFin : Hid (∀ U5, TJ 3210 w_table (P4 ++ (if D then [] else [w_ref, crf.data.toList, pkR cac acWs])) U5 → TJ 3202 w_table ([nm.data.toList, s_lp] ++ lsR clR (cols.take (k + 1))) U5) := Lib.hid (fun U5 hU5 => by
         refine hU5.to ?_ ?_
         · rw [HP.out, ← HP4.out, ← HP3.out, ← HP2.out, ← HP1.out, ← HP0.out, ← HD.out]
           unfold clR
           simp
         · have h1 := lsR_len clR 7 (cols.take (k + 1)) fun c hc => (clR_wb c (HF2.out c (List.mem_of_mem_take hc)).1 (HF2.out c (List.mem_of_mem_take hc)).2).2
           have h3 := HF1.out
           have h4 : (cols.take (k + 1)).length ≤ 400 := by simp; omega
           rw [List.length_append]
           show 2 + _ ≤ _
           omega)
        cases D
        case true =>
         have HU1 := Lib.hid (HFin.out U4 (hU4.out.to (by simp) (by have := hU4.out.ln; simp; omega)))
         have HB5 := Lib.hid hJ2.out.bl
         clear hU4 hU4s hJ2 e4 e5 hlC HFin
         go_wp2
         go_roundw
         case rel => exact ⟨k + 1, U4, by omega, by go_num, rfl, HB5, HU1⟩
         case measure => simp [intOf]; omega
        case false =>
         have hcf : crf.size ≤ 100 := Hfx.out.2
         obtain ⟨V, hV⟩ : ∃ V, ba (pkR cac acWs) = V := ⟨_, rfl⟩
         have hVs : V.size ≤ 5001 := by rw [← hV, ba_sz]; exact pkR_len _ _ (by unfold WB; decide)
         obtain ⟨A1, hA1⟩ : ∃ A, (⟨#[32, 114, 101, 102, 32]⟩ : ByteArray) ++ crf = A := ⟨_, rfl⟩
         obtain ⟨A2, hA2⟩ : ∃ A, A1 ++ (⟨#[32]⟩ : ByteArray) = A := ⟨_, rfl⟩
         obtain ⟨A3, hA3⟩ : ∃ A, A2 ++ V = A := ⟨_, rfl⟩
         obtain ⟨A4, hA4⟩ : ∃ A, U4 ++ A3 = A := ⟨_, rfl⟩
         have s1 : A1.size ≤ 105 := by rw [← hA1, cat_size]; show 5 + crf.size ≤ _; omega
         have s2 : A2.size ≤ 106 := by rw [← hA2, cat_size]; show A1.size + 1 ≤ _; omega
         have s3 : A3.size ≤ 5107 := by rw [← hA3, cat_size]; omega
         have ec1 := cat9 hA1 (by show 5 + crf.size ≤ _; omega)
         have ec2 := cat9 hA2 (by show A1.size + 1 ≤ _; omega)
         have ec3 := cat9 hA3 (by omega)
         have ec4 := cat9 hA4 (by omega)
         have HF := Lib.hid (HFin.out A4 (by
          rw [← hA4]
          refine hU4.out.more (m := 3) ?_ (WB.cons (by decide) (WB.cons (by have : crf.data.toList.length = crf.size := rfl; omega) (WB.cons (pkR_len _ _ (by unfold WB; decide)) WB.nil))) (by simp)
          rw [← hA3, ← hA2, ← hA1, ← hV, ← ba_of crf, show (⟨#[32, 114, 101, 102, 32]⟩ : ByteArray) = ba [32, 114, 101, 102, 32] from rfl, show (⟨#[32]⟩ : ByteArray) = ba [32] from rfl, ba_cat, ba_cat, ba_cat, ba_of]
          simp only [Bool.false_eq_true, if_false, jt_cons, jt_nil]
          simp [w_ref]))
         have HPk := Lib.hid (fun u => rpickN_c cac acWs u (by decide))
         rw [hV] at HPk
         have HSv : Hid (∀ wy, Below wc.heap.size wc wy → (wy.cell? ⟨wr.heap.size, 4, none⟩ = some (.string crf) ∧ wy.cell? ⟨wr.heap.size, 5, none⟩ = some (.int .i64 cac))) := Lib.hid (fun wy h => ⟨(hJ2.out.bk.after h hlC).cell 4, (hJ2.out.bk.after h hlC).cell 5⟩)
         clear hA1 hA2 hA3 hA4 hV s1 s2 s3 hU4s
         go_wp2_with fail
         go_region_held3 (fun w' => w'.cell? ⟨wr.heap.size, 4, none⟩ = some (.string crf) ∧ w'.cell? ⟨wr.heap.size, 5, none⟩ = some (.int .i64 cac))
          (first
            | exact HSv.out _ HbS.out
            | go_keep)
          (first
            | (go_at_call 59
               refine (HPk.out wc.drew).mono ?_
               rintro e w6 ⟨rfl, hb2⟩
               have HbS : Hid (Below wc.heap.size wc w6) := Lib.hid (below_via (Below.refl wc.heap.size wc).drew hb2)
               clear hb2))
         all_goals
          have HJ3 := Lib.hid (hJ2.out.then HbS.out).bl
          go_wp2
          go_roundw
          case rel => exact ⟨k + 1, A4, by omega, by go_num, rfl, HJ3, HF⟩
          case measure => simp [intOf]; omega
  · obtain rfl : k = cols.length := by omega
    rw [List.take_length] at hU
    have HV : Hid (TJ 3203 w_table ([nm.data.toList, s_lp] ++ lsR clR cols ++ [s_rp]) (U ++ (⟨#[32, 41]⟩ : ByteArray))) := Lib.hid (hU.out.more (m := 1) rfl (by unfold WB; decide) (by decide))
    obtain ⟨P0, hP0⟩ : ∃ P0, [nm.data.toList, s_lp] ++ lsR clR cols ++ [s_rp] = P0 := ⟨_, rfl⟩
    rw [hP0] at HV
    have HP0 := Lib.hid hP0
    clear hP0 hk1 hk
    go_wp2_with fail
    go_loopw [3, 6] (fun s i wx => ∃ (k : Nat) (U : ByteArray), k ≤ chks.length ∧ i = .int .i64 (k : Int) ∧ s = .string U ∧ Hid (Below W.heap.size W wx) ∧ Hid (TJ 100403 w_table (P0 ++ ((chks.map (·.xs)).take k).flatMap fun e => w_check :: exR e) U)) (fun _ i _ => chks.length - (intOf i).toNat)
    case atStart => exact ⟨0, _, Nat.zero_le _, by go_num, rfl, hb, Lib.hid (HV.out.to (by simp) (by have := HV.out.ln; simp; omega))⟩
    case round =>
     clear HV hU hUs c1' c2' hltr hb
     obtain ⟨j, U1, hj, rfl, rfl, hb, hU⟩ := hrel
     have hUs := hU.out.s (by decide) (by decide)
     have c1' := (hb.out.cell (p := ⟨w.heap.size, 1, none⟩) hlt).trans c1
     have c2' : wr.cell? ⟨w.heap.size, 2, none⟩ = some (.slice Ak chks.length ck) := (hb.out.cell (p := ⟨w.heap.size, 2, none⟩) hlt).trans (HK.out.cell 2)
     have hltr : w.heap.size < wr.heap.size := Nat.lt_of_lt_of_le hlt hb.out.size
     by_cases hj1 : j < chks.length
     · have hj1' : (j : Int) < chks.length := by omega
       obtain ⟨b, off, x, rfl, hbl, hx, d⟩ := HX.out.at1 hj1
       have hmem := List.mem_of_getElem? hx
       obtain ⟨Ax, nx, cx, es⟩ := x
       have hin := HE.out _ hmem
       have hfe := HF4.out _ hmem
       obtain rfl : es.length = nx := hin.len
       have d0 := (hb.out.cell (p := ⟨b, off + j, none⟩) hbl).trans (d _ rfl)
       have hbr : b < wr.heap.size := Nat.lt_of_lt_of_le hbl hb.out.size
       have hpos : ((chks.map (·.xs)).take (j + 1)).flatMap (fun e => w_check :: exR e) = ((chks.map (·.xs)).take j).flatMap (fun e => w_check :: exR e) ++ (w_check :: exR es) := flatW_succ _ _ _ _ (by rw [List.getElem?_map, hx]; rfl)
       obtain ⟨t1, t2⟩ := exR_wb es hfe.2 hfe.1
       have hC := rexprT_c es Ax cx wr (hin.sl.after hb.out) hfe.1 hfe.2
       obtain ⟨V, hV⟩ : ∃ V, ba (jt (exR es)) = V := ⟨_, rfl⟩
       rw [hV] at hC
       have hVs : V.size ≤ 1300000 := by rw [← hV, ba_sz]; have := jt_len t1 t2; omega
       have HC := Lib.hid hC
       have HF : Hid (TJ 100403 w_table (P0 ++ ((chks.map (·.xs)).take (j + 1)).flatMap fun e => w_check :: exR e) (U1 ++ ((⟨#[32, 99, 104, 101, 99, 107]⟩ : ByteArray) ++ V))) := Lib.hid (by
        refine (hU.out.more (m := 243) (ws2 := w_check :: exR es) ?_ (WB.cons (by decide) t1) (by simp only [List.length_cons]; omega)).to (by rw [hpos, List.append_assoc]) ?_
        · rw [← hV, show (⟨#[32, 99, 104, 101, 99, 107]⟩ : ByteArray) = ba [32, 99, 104, 101, 99, 107] from rfl, ba_cat, jt_cons]
          rfl
        · have h1 := flatW_len (fun e => w_check :: exR e) 243 ((chks.map (·.xs)).take (j + 1)) fun e he => by
           obtain ⟨y, hy, rfl⟩ := List.mem_map.1 (List.mem_of_mem_take he)
           have := (exR_wb y.xs (HF4.out y hy).2 (HF4.out y hy).1).2
           simp only [List.length_cons]; omega
          have h2 : ((chks.map (·.xs)).take (j + 1)).length ≤ 400 := by simp; omega
          have h3 : P0.length ≤ 3203 := by
           rw [← HP0.out]
           have h1 := lsR_len clR 7 cols fun c hc => (clR_wb c (HF2.out c hc).1 (HF2.out c hc).2).2
           simp only [List.length_append, List.length_cons, List.length_nil]
           omega
          rw [List.length_append]
          omega)
       clear hx hmem hin hfe d hpos t1 t2 hC hV hU
       go_wp2_with fail
       refine HC.out.mono ?_
       rintro e w2 ⟨rfl, hb2⟩
       have HB2 := Lib.hid (below_via hb.out hb2)
       clear hb2
       go_wp2
       go_roundw
       case rel => exact ⟨j + 1, _, by omega, by go_num, rfl, HB2, HF⟩
       case measure => simp [intOf]; omega
     · obtain rfl : j = chks.length := by omega
       have HF : Hid (U1 = R) := Lib.hid (by
        rw [← HR.out, hU.out.eq, ← HP0.out]
        have : (chks.map (·.xs)).take chks.length = chks.map (·.xs) := List.take_of_length_le (by simp)
        rw [this]
        unfold tbR Tm.tb
        simp)
       have HBf := Lib.hid (below_via HB.out hb.out)
       clear hj1 hj hU
       go_wp2
       go_ret
       exact ⟨by rw [← HF.out]; rfl, HBf.out⟩
end Go.Proofs.YtjgpmnffagdhlaaGreatDoor
namespace Go.Proofs.YtjgpmnffagdhlaaGreatDoor
open Go Go.RowKit
set_option maxRecDepth 100000
attribute [local go_sem ↓] Go.wp_at_zero Go.wp_at_succ
theorem rsignedI_c (n : Int) (h : I64 n) {I : ByteArray} (hI : ba (Lib.itoa n) = I) (w : World) : Calls Tryz.prog 27 #[.int .i64 n] w fun e w' => e = .returned (.string I) ∧ Below w.heap.size w w' := by
 subst hI
 exact rsigned_c n w h
theorem itoa_sz {n : Int} (h : I64 n) {I : ByteArray} (hI : ba (Lib.itoa n) = I) : I.size ≤ 5001 := by
 rw [← hI, ba_sz]
 have := itoa_len n h
 omega
structure VB (w W : World) (nm frm wth : ByteArray) (o0 o1 : Int) (whr pick grp aggs : Value) (wx : World) : Prop where
 bl : Below W.heap.size W wx
 bk : Bk wx w.heap.size #[.string nm, .string frm, .string wth, .int .i64 o0, .int .i64 o1, whr, pick, grp, aggs] 32
theorem VB.then {w W u v : World} {nm frm wth : ByteArray} {o0 o1 : Int} {whr pick grp aggs : Value} (h : VB w W nm frm wth o0 o1 whr pick grp aggs u) (hb : Below u.heap.size u v) : VB w W nm frm wth o0 o1 whr pick grp aggs v := ⟨below_via h.bl hb, h.bk.after hb h.bk.lt⟩
theorem VB.all {w W u : World} {nm frm wth : ByteArray} {o0 o1 : Int} {whr pick grp aggs : Value} (h : VB w W nm frm wth o0 o1 whr pick grp aggs u) : u.cell? ⟨w.heap.size, 0, none⟩ = some (.string nm) ∧ u.cell? ⟨w.heap.size, 1, none⟩ = some (.string frm) ∧ u.cell? ⟨w.heap.size, 2, none⟩ = some (.string wth) ∧ u.cell? ⟨w.heap.size, 3, none⟩ = some (.int .i64 o0) ∧ u.cell? ⟨w.heap.size, 4, none⟩ = some (.int .i64 o1) ∧ u.cell? ⟨w.heap.size, 5, none⟩ = some whr ∧ u.cell? ⟨w.heap.size, 6, none⟩ = some pick ∧ u.cell? ⟨w.heap.size, 7, none⟩ = some grp ∧ u.cell? ⟨w.heap.size, 8, none⟩ = some aggs ∧ w.heap.size < u.heap.size :=
 ⟨h.bk.cell 0, h.bk.cell 1, h.bk.cell 2, h.bk.cell 3, h.bk.cell 4, h.bk.cell 5, h.bk.cell 6, h.bk.cell 7, h.bk.cell 8, h.bk.lt⟩
theorem TJ.skip {n m : Nat} {b : List UInt8} {ws ws2 : List (List UInt8)} {U : ByteArray} (h : TJ n b ws U) (e : ws2 = []) (hm : n ≤ m) : TJ m b (ws ++ ws2) U := by
 rw [e, List.append_nil]
 exact h.up hm
set_option maxHeartbeats 8000000 in
theorem rview_c (x : Vm) (w : World) (hi : x.In w) (hf : x.Few) :
 Calls Tryz.prog 33 #[x.w] w fun e w' => e = .returned (.string (ba (w_view ++ jt (vwR x.vw)))) ∧ Below w.heap.size w w' := by
 obtain ⟨nm, frm, wth, o0, o1, ⟨Aw, nw, cw, whr⟩, ⟨Ap, np, cp, pk⟩, grp, ⟨Ag, ng, cg, ag⟩⟩ := x
 obtain ⟨hwhr, hpick, haggs⟩ := hi
 obtain ⟨f1, f2, f3, f4, f5, f6, f7, f8, f9, f10, f11⟩ := hf
 simp only at hwhr hpick haggs f1 f2 f3 f4 f5 f6 f7 f8 f9 f10 f11
 obtain rfl : whr.length = nw := hwhr.len
 obtain rfl : pk.length = np := hpick.len
 obtain rfl : ag.length = ng := haggs.len
 obtain ⟨R, hR⟩ : ∃ R, ba (w_view ++ jt (vwR (⟨nm, frm, wth, o0, o1, ⟨Aw, whr.length, cw, whr⟩, ⟨Ap, pk.length, cp, pk⟩, grp, ⟨Ag, ag.length, cg, ag⟩⟩ : Vm).vw)) = R := ⟨_, rfl⟩
 rw [hR]
 have HR := Lib.hid hR
 obtain ⟨W, hW⟩ : ∃ W, w.alloc (.cells #[.string nm, .string frm, .string wth, .int .i64 o0, .int .i64 o1, .slice Aw whr.length cw, .slice Ap pk.length cp, .bool grp, .slice Ag ag.length cg] 32) = W := ⟨_, rfl⟩
 have HB : Hid (Below w.heap.size w W) := Lib.hid (by rw [← hW]; exact below_one _ _)
 have HV : Hid (VB w W nm frm wth o0 o1 (.slice Aw whr.length cw) (.slice Ap pk.length cp) (.bool grp) (.slice Ag ag.length cg) W) := Lib.hid ⟨Below.refl _ _, by rw [← hW]; exact Bk.new _ _ _⟩
 have HWh := Lib.hid (hwhr.sl.after HB.out)
 have HPk := Lib.hid (hpick.sl.after HB.out)
 have HAg := Lib.hid (haggs.sl.after HB.out)
 have HW := Lib.hid hW
 have HF7 := Lib.hid f7
 have HF9 := Lib.hid f9
 have HF11 := Lib.hid f11
 have HF4 := Lib.hid f4
 have HF5 := Lib.hid f5
 have HU0 : Hid (TJ 3 w_view [nm.data.toList, w_from, frm.data.toList] ((⟨#[118, 105, 101, 119, 32]⟩ : ByteArray) ++ nm ++ (⟨#[32, 102, 114, 111, 109, 32]⟩ : ByteArray) ++ frm)) := Lib.hid ⟨by
  rw [← ba_of nm, ← ba_of frm, show (⟨#[118, 105, 101, 119, 32]⟩ : ByteArray) = ba [118, 105, 101, 119, 32] from rfl, show (⟨#[32, 102, 114, 111, 109, 32]⟩ : ByteArray) = ba [32, 102, 114, 111, 109, 32] from rfl, ba_cat, ba_cat, ba_cat, ba_of, ba_of, jt_cons, jt_cons, jt_cons, jt_nil]
  simp [w_view, w_from], WB.cons (by have : nm.data.toList.length = nm.size := rfl; omega) (WB.cons (by decide) (WB.cons (by have : frm.data.toList.length = frm.size := rfl; omega) WB.nil)), by simp⟩
 clear hwhr hpick haggs hW hR f4 f5 f7 f9 f11
 go_enter Tryz.func33, Tryz.ntmps33
 go_upto_region 2 with fail
 rw [HW.out]
 obtain ⟨c0, c1, c2, c3, c4, c5, c6, c7, c8, hlt⟩ := HV.out.all
 go_upto_if 15 with fail
 obtain ⟨D, hD⟩ : ∃ D, wth.toList.isEmpty = D := ⟨_, rfl⟩
 rw [hD]
 have HD := Lib.hid hD
 clear hD
 go_cut [3] (fun s wx => ∃ U, s = .string U ∧ Hid (VB w W nm frm wth o0 o1 (.slice Aw whr.length cw) (.slice Ap pk.length cp) (.bool grp) (.slice Ag ag.length cg) wx) ∧ Hid (TJ 9 w_view ([nm.data.toList, w_from, frm.data.toList] ++ (if D then [] else [w_join, wth.data.toList, w_on, Lib.itoa o0, s_eq, Lib.itoa o1])) U))
 case first =>
  cases D
  case true =>
   have HU1 := Lib.hid (HU0.out.skip (m := 9) (ws2 := (if true then [] else [w_join, wth.data.toList, w_on, Lib.itoa o0, s_eq, Lib.itoa o1])) rfl (by decide))
   go_wp2_with fail
   go_meet
   exact ⟨_, rfl, HV, HU1⟩
  case false =>
   have hU0s := HU0.out.s (by decide) (by decide)
   obtain ⟨U0, hU0⟩ : ∃ U, (⟨#[118, 105, 101, 119, 32]⟩ : ByteArray) ++ nm ++ (⟨#[32, 102, 114, 111, 109, 32]⟩ : ByteArray) ++ frm = U := ⟨_, rfl⟩
   rw [hU0] at HU0 hU0s
   have HEq := Lib.hid hU0
   obtain ⟨I0, hI0⟩ : ∃ I, ba (Lib.itoa o0) = I := ⟨_, rfl⟩
   obtain ⟨I1, hI1⟩ : ∃ I, ba (Lib.itoa o1) = I := ⟨_, rfl⟩
   have hs0 := itoa_sz HF4.out hI0
   have hs1 := itoa_sz HF5.out hI1
   obtain ⟨A1, hA1⟩ : ∃ A, (⟨#[32, 106, 111, 105, 110, 32]⟩ : ByteArray) ++ wth = A := ⟨_, rfl⟩
   obtain ⟨A2, hA2⟩ : ∃ A, A1 ++ (⟨#[32, 111, 110, 32]⟩ : ByteArray) = A := ⟨_, rfl⟩
   obtain ⟨A3, hA3⟩ : ∃ A, A2 ++ I0 = A := ⟨_, rfl⟩
   obtain ⟨A4, hA4⟩ : ∃ A, A3 ++ (⟨#[32, 61, 32]⟩ : ByteArray) = A := ⟨_, rfl⟩
   obtain ⟨A5, hA5⟩ : ∃ A, A4 ++ I1 = A := ⟨_, rfl⟩
   obtain ⟨A6, hA6⟩ : ∃ A, U0 ++ A5 = A := ⟨_, rfl⟩
   have s1 : A1.size ≤ 106 := by rw [← hA1, cat_size]; show 6 + wth.size ≤ _; omega
   have s2 : A2.size ≤ 110 := by rw [← hA2, cat_size]; show A1.size + 4 ≤ _; omega
   have s3 : A3.size ≤ 5111 := by rw [← hA3, cat_size]; omega
   have s4 : A4.size ≤ 5114 := by rw [← hA4, cat_size]; show A3.size + 3 ≤ _; omega
   have s5 : A5.size ≤ 10115 := by rw [← hA5, cat_size]; omega
   have ec1 := cat9 hA1 (by show 6 + wth.size ≤ _; omega)
   have ec2 := cat9 hA2 (by show A1.size + 4 ≤ _; omega)
   have ec3 := cat9 hA3 (by omega)
   have ec4 := cat9 hA4 (by show A3.size + 3 ≤ _; omega)
   have ec5 := cat9 hA5 (by omega)
   have ec6 := cat9 hA6 (by omega)
   have HF : Hid (TJ 9 w_view ([nm.data.toList, w_from, frm.data.toList] ++ (if false then [] else [w_join, wth.data.toList, w_on, Lib.itoa o0, s_eq, Lib.itoa o1])) A6) := Lib.hid (by
    rw [← hA6]
    refine HU0.out.more (m := 6) ?_ (WB.cons (by decide) (WB.cons (by have : wth.data.toList.length = wth.size := rfl; omega) (WB.cons (by decide) (WB.cons (by have := itoa_len o0 HF4.out; omega) (WB.cons (by decide) (WB.cons (by have := itoa_len o1 HF5.out; omega) WB.nil)))))) (by simp)
    rw [← hA5, ← hA4, ← hA3, ← hA2, ← hA1, ← hI0, ← hI1, ← ba_of wth, show (⟨#[32, 106, 111, 105, 110, 32]⟩ : ByteArray) = ba [32, 106, 111, 105, 110, 32] from rfl, show (⟨#[32, 111, 110, 32]⟩ : ByteArray) = ba [32, 111, 110, 32] from rfl, show (⟨#[32, 61, 32]⟩ : ByteArray) = ba [32, 61, 32] from rfl, ba_cat, ba_cat, ba_cat, ba_cat, ba_cat, ba_of]
    simp only [Bool.false_eq_true, if_false, jt_cons, jt_nil]
    simp [w_join, w_on, s_eq])
   have HS0 := Lib.hid (fun u => rsignedI_c o0 HF4.out hI0 u)
   have HS1 := Lib.hid (fun u => rsignedI_c o1 HF5.out hI1 u)
   have HSv : Hid (∀ wy, Below W.heap.size W wy → (wy.cell? ⟨w.heap.size, 2, none⟩ = some (.string wth) ∧ wy.cell? ⟨w.heap.size, 3, none⟩ = some (.int .i64 o0) ∧ wy.cell? ⟨w.heap.size, 4, none⟩ = some (.int .i64 o1))) := Lib.hid (fun wy h => by
    obtain ⟨_, _, h2, h3, h4, _⟩ := (HV.out.then h).all
    exact ⟨h2, h3, h4⟩)
   clear hA1 hA2 hA3 hA4 hA5 hA6 hI0 hI1 s1 s2 s3 s4 s5 hs0 hs1 hU0s hU0
   rw [HEq.out]
   go_wp2_with fail
   go_region_held3 (fun w' => w'.cell? ⟨w.heap.size, 2, none⟩ = some (.string wth) ∧ w'.cell? ⟨w.heap.size, 3, none⟩ = some (.int .i64 o0) ∧ w'.cell? ⟨w.heap.size, 4, none⟩ = some (.int .i64 o1))
    (first
      | exact HSv.out _ HbS.out
      | go_keep)
    (first
      | (go_at_call 27
         with_reducible refine (HS0.out W.drew).mono ?_
         rintro e w6 ⟨rfl, hb2⟩
         have HbS : Hid (Below W.heap.size W w6) := Lib.hid (below_via (Below.refl W.heap.size W).drew hb2)
         clear hb2)
      | (go_at_call 27
         with_reducible refine (HS1.out _).mono ?_
         rintro e w7 ⟨rfl, hb2⟩
         have HbS : Hid (Below W.heap.size W w7) := Lib.hid (below_via HbS.out hb2)
         clear hb2))
   all_goals
    have HJ2 := Lib.hid (HV.out.then HbS.out)
    go_wp2
    go_meet
    exact ⟨A6, rfl, HJ2, HF⟩
 case rest =>
  obtain ⟨U1, hs1, hV1, hU1⟩ := hcut
  subst hs1
  obtain ⟨P1, hP1⟩ : ∃ P1, [nm.data.toList, w_from, frm.data.toList] ++ (if D then [] else [w_join, wth.data.toList, w_on, Lib.itoa o0, s_eq, Lib.itoa o1]) = P1 := ⟨_, rfl⟩
  rw [hP1] at hU1
  have HP1 := Lib.hid hP1
  have hU1s := hU1.out.s (by decide) (by decide)
  clear hP1 HU0 HV c0 c1 c2 c3 c4 c5 c6 c7 c8 hlt
  obtain ⟨c0, c1, c2, c3, c4, c5, c6, c7, c8, hlt⟩ := hV1.out.all
  go_upto_if 36 with fail
  go_cut [3] (fun s wx => ∃ U, s = .string U ∧ Hid (VB w W nm frm wth o0 o1 (.slice Aw whr.length cw) (.slice Ap pk.length cp) (.bool grp) (.slice Ag ag.length cg) wx) ∧ Hid (TJ 252 w_view (P1 ++ (if whr.isEmpty then [] else w_where :: exR whr)) U))
  case first =>
   by_cases h0 : whr.length = 0
   · have h0' : ¬ (0 : Int) < whr.length := by omega
     have HU2 := Lib.hid (hU1.out.skip (m := 252) (ws2 := (if whr.isEmpty then [] else w_where :: exR whr)) (by rw [List.eq_nil_of_length_eq_zero h0]; rfl) (by decide))
     clear h0
     go_wp2_with fail
     go_meet
     exact ⟨U1, rfl, hV1, HU2⟩
   · have h0' : (0 : Int) < whr.length := by omega
     have hne : whr.isEmpty = false := List.isEmpty_eq_false_iff.2 (fun h => h0 (by rw [h]; rfl))
     obtain ⟨t1, t2⟩ := exR_wb whr HF7.out f6
     have hC := rexprT_c whr Aw cw wc (HWh.out.after hV1.out.bl) f6 HF7.out
     obtain ⟨V, hV⟩ : ∃ V, ba (jt (exR whr)) = V := ⟨_, rfl⟩
     rw [hV] at hC
     have hVs : V.size ≤ 1300000 := by rw [← hV, ba_sz]; have := jt_len t1 t2; omega
     have HC := Lib.hid hC
     have HF : Hid (TJ 252 w_view (P1 ++ (if whr.isEmpty then [] else w_where :: exR whr)) (U1 ++ ((⟨#[32, 119, 104, 101, 114, 101]⟩ : ByteArray) ++ V))) := Lib.hid (by
      rw [hne]
      simp only [Bool.false_eq_true, if_false]
      refine (hU1.out.more (m := 243) ?_ (WB.cons (by decide) t1) (by simp only [List.length_cons]; omega))
      rw [← hV, show (⟨#[32, 119, 104, 101, 114, 101]⟩ : ByteArray) = ba [32, 119, 104, 101, 114, 101] from rfl, ba_cat, jt_cons]
      rfl)
     clear hne t1 t2 hC hV h0
     go_wp2_with fail
     refine HC.out.mono ?_
     rintro e w2 ⟨rfl, hb2⟩
     have HV2 := Lib.hid (hV1.out.then hb2)
     clear hb2
     go_wp2
     go_meet
     exact ⟨_, rfl, HV2, HF⟩
  case rest =>
   obtain ⟨U2, hs2, hV2, hU2⟩ := hcut
   subst hs2
   have HV3 : Hid (TJ 253 w_view (P1 ++ (if whr.isEmpty then [] else w_where :: exR whr) ++ [w_pick]) (U2 ++ (⟨#[32, 112, 105, 99, 107]⟩ : ByteArray))) := Lib.hid (hU2.out.more (m := 1) rfl (by unfold WB; decide) (by decide))
   have hU2s := hU2.out.s (by decide) (by decide)
   obtain ⟨P2, hP2⟩ : ∃ P2, P1 ++ (if whr.isEmpty then [] else w_where :: exR whr) ++ [w_pick] = P2 := ⟨_, rfl⟩
   rw [hP2] at HV3
   have HP2 := Lib.hid hP2
   clear hP2 hV1 hU1 hU1s c0 c1 c2 c3 c4 c5 c6 c7 c8 hlt
   go_wp2_with fail
   go_loopw [3, 4] (fun s i wx => ∃ (k : Nat) (U : ByteArray), k ≤ pk.length ∧ i = .int .i64 (k : Int) ∧ s = .string U ∧ Hid (VB w W nm frm wth o0 o1 (.slice Aw whr.length cw) (.slice Ap pk.length cp) (.bool grp) (.slice Ag ag.length cg) wx) ∧ Hid (TJ 1053 w_view (P2 ++ lsR (fun n => [Lib.itoa n]) (pk.take k)) U)) (fun _ i _ => pk.length - (intOf i).toNat)
   case atStart => exact ⟨0, _, Nat.zero_le _, by go_num, rfl, hV2, Lib.hid (HV3.out.skip rfl (by decide))⟩
   case round =>
    have HP2l := Lib.hid HV3.out.ln
    clear HV3 hU2 hU2s hV2
    obtain ⟨k, U, hk, rfl, rfl, hV, hU⟩ := hrel
    obtain ⟨c0, c1, c2, c3, c4, c5, c6, c7, c8, hlt⟩ := hV.out.all
    have hUs := hU.out.s (by decide) (by decide)
    by_cases hk1 : k < pk.length
    · have hk1' : (k : Int) < pk.length := by omega
      obtain ⟨b, off, n, rfl, hbl, hx, d⟩ := HPk.out.at1 hk1
      have hn := HF9.out n (List.mem_of_getElem? hx)
      have HP := Lib.hid (lsR_succ (fun n => [Lib.itoa n]) pk k n hx)
      have d0 := (hV.out.bl.cell (p := ⟨b, off + k, none⟩) hbl).trans (d _ rfl)
      have hbr : b < wr.heap.size := Nat.lt_of_lt_of_le hbl hV.out.bl.size
      obtain ⟨P0, hP0⟩ : ∃ P0, P2 ++ lsR (fun n => [Lib.itoa n]) (pk.take k) = P0 := ⟨_, rfl⟩
      have HP0 := Lib.hid hP0
      rw [hP0] at hU
      obtain ⟨I, hI⟩ : ∃ I, ba (Lib.itoa n) = I := ⟨_, rfl⟩
      have hIs := itoa_sz hn hI
      have HS := Lib.hid (fun u => rsignedI_c n hn hI u)
      have HI := Lib.hid hI
      have Hn := Lib.hid hn
      clear hP0 hx d hI hn
      go_upto_if 53 with fail
      go_cut [3] (fun s wx => ∃ U, s = .string U ∧ wr = wx ∧ Hid (TJ 1054 w_view (P0 ++ (if k = 0 then [] else [s_cm])) U))
      case first =>
       by_cases h0 : k = 0
       · have h0' : ¬ (0 : Int) < k := by omega
         have HU1 := Lib.hid (hU.out.skip (m := 1054) (ws2 := (if k = 0 then [] else [s_cm])) (by rw [if_pos h0]) (by decide))
         clear h0
         go_wp2_with fail
         go_meet
         exact ⟨U, rfl, rfl, HU1⟩
       · have h0' : (0 : Int) < k := by omega
         have HU1 : Hid (TJ 1054 w_view (P0 ++ (if k = 0 then [] else [s_cm])) (U ++ (⟨#[32, 44]⟩ : ByteArray))) := Lib.hid (by rw [if_neg h0]; exact hU.out.more (m := 1) rfl (by unfold WB; decide) (by decide))
         clear h0
         go_wp2_with fail
         go_meet
         exact ⟨_, rfl, rfl, HU1⟩
      case rest =>
       obtain ⟨U3, hs3, hw3, hU3⟩ := hcut
       subst hs3
       subst hw3
       have hU3s := hU3.out.s (by decide) (by decide)
       have HF : Hid (TJ 1053 w_view (P2 ++ lsR (fun n => [Lib.itoa n]) (pk.take (k + 1))) (U3 ++ ((⟨#[32]⟩ : ByteArray) ++ I))) := Lib.hid (by
        refine (hU3.out.more (m := 1) (ws2 := [Lib.itoa n]) ?_ (WB.cons (by have := itoa_len n Hn.out; omega) WB.nil) (by simp)).to (by rw [HP.out, ← HP0.out]; simp) ?_
        · rw [← HI.out, show (⟨#[32]⟩ : ByteArray) = ba [32] from rfl, ba_cat, jt_cons, jt_nil]
          simp
        · have h1 := lsR_len (fun n => [Lib.itoa n]) 1 (pk.take (k + 1)) fun c hc => by simp
          have h2 : (pk.take (k + 1)).length ≤ 400 := by simp; omega
          have h3 := HP2l.out
          rw [List.length_append]
          omega)
       clear hUs hU hU3
       go_wp2_with fail
       refine (HS.out wr).mono ?_
       rintro e w2 ⟨rfl, hb2⟩
       have HV2 := Lib.hid (hV.out.then hb2)
       clear hb2
       go_wp2
       go_roundw
       case rel => exact ⟨k + 1, _, by omega, by go_num, rfl, HV2, HF⟩
       case measure => simp [intOf]; omega
    · obtain rfl : k = pk.length := by omega
      rw [List.take_length] at hU
      clear hk1 hk
      go_upto_if 66 with fail
      go_cut [3] (fun s wx => ∃ U, s = .string U ∧ wr = wx ∧ Hid (TJ 1054 w_view (P2 ++ lsR (fun n => [Lib.itoa n]) pk ++ (if grp then [w_group] else [])) U))
      case first =>
       cases grp
       case false =>
        have HU1 := Lib.hid (hU.out.skip (m := 1054) (ws2 := (if false then [w_group] else [])) rfl (by decide))
        go_wp2_with fail
        go_meet
        exact ⟨U, rfl, rfl, HU1⟩
       case true =>
        have HU1 : Hid (TJ 1054 w_view (P2 ++ lsR (fun n => [Lib.itoa n]) pk ++ (if true then [w_group] else [])) (U ++ (⟨#[32, 103, 114, 111, 117, 112]⟩ : ByteArray))) := Lib.hid (hU.out.more (m := 1) rfl (by unfold WB; decide) (by decide))
        go_wp2_with fail
        go_meet
        exact ⟨_, rfl, rfl, HU1⟩
      case rest =>
       obtain ⟨U3, hs3, hw3, hU3⟩ := hcut
       subst hs3
       subst hw3
       obtain ⟨P3, hP3⟩ : ∃ P3, P2 ++ lsR (fun n => [Lib.itoa n]) pk ++ (if grp then [w_group] else []) = P3 := ⟨_, rfl⟩
       rw [hP3] at hU3
       have HP3 := Lib.hid hP3
       have HP3l := Lib.hid hU3.out.ln
       clear hP3 hU hUs c0 c1 c2 c3 c4 c5 c6 c7 c8 hlt
       go_wp2_with fail
       go_loopw [3, 5] (fun s i wx => ∃ (k : Nat) (U : ByteArray), k ≤ ag.length ∧ i = .int .i64 (k : Int) ∧ s = .string U ∧ Hid (VB w W nm frm wth o0 o1 (.slice Aw whr.length cw) (.slice Ap pk.length cp) (.bool grp) (.slice Ag ag.length cg) wx) ∧ Hid (TJ 2254 w_view (P3 ++ lsR agR (ag.take k)) U)) (fun _ i _ => ag.length - (intOf i).toNat)
       case atStart => exact ⟨0, _, Nat.zero_le _, by go_num, rfl, hV, Lib.hid (hU3.out.skip rfl (by decide))⟩
       case round =>
        clear hU3 hV
        obtain ⟨j, U4, hj, rfl, rfl, hV, hU⟩ := hrel
        obtain ⟨c0, c1, c2, c3, c4, c5, c6, c7, c8, hlt⟩ := hV.out.all
        have hUs := hU.out.s (by decide) (by decide)
        by_cases hj1 : j < ag.length
        · have hj1' : (j : Int) < ag.length := by omega
          obtain ⟨b, off, x, rfl, hbl, hx, d⟩ := HAg.out.atS hj1
          have hn := HF11.out x (List.mem_of_getElem? hx)
          have HP := Lib.hid (lsR_succ agR ag j x hx)
          obtain ⟨fn, col⟩ := x
          have d0 := (hV.out.bl.cell (p := ⟨b, off + j * 2 + 0, none⟩) hbl).trans (d 0 _ rfl)
          have d1 := (hV.out.bl.cell (p := ⟨b, off + j * 2 + 1, none⟩) hbl).trans (d 1 _ rfl)
          simp only [Nat.add_zero] at d0
          have hbr : b < wr.heap.size := Nat.lt_of_lt_of_le hbl hV.out.bl.size
          obtain ⟨P0, hP0⟩ : ∃ P0, P3 ++ lsR agR (ag.take j) = P0 := ⟨_, rfl⟩
          have HP0 := Lib.hid hP0
          rw [hP0] at hU
          obtain ⟨I, hI⟩ : ∃ I, ba (Lib.itoa col) = I := ⟨_, rfl⟩
          have hIs := itoa_sz hn hI
          have HS := Lib.hid (fun u => rsignedI_c col hn hI u)
          have HI := Lib.hid hI
          have Hn := Lib.hid hn
          obtain ⟨V, hVe⟩ : ∃ V, ba (pkR fn fnWs) = V := ⟨_, rfl⟩
          have hVs : V.size ≤ 5001 := by rw [← hVe, ba_sz]; exact pkR_len _ _ (by unfold WB; decide)
          have HVe := Lib.hid hVe
          have HPn := Lib.hid (fun u => rpickN_c fn fnWs u (by decide))
          rw [hVe] at HPn
          have HFin : Hid (∀ (U5 : ByteArray) (q : List (List UInt8)), TJ 2258 w_view (P0 ++ (if j = 0 then [] else [s_cm]) ++ [pkR fn fnWs] ++ q) U5 → (q = if fn = 0 then [] else [Lib.itoa col]) → TJ 2254 w_view (P3 ++ lsR agR (ag.take (j + 1))) U5) := Lib.hid (fun U5 q h hq => by
           refine h.to (by rw [HP.out, ← HP0.out, hq]; unfold agR; simp) ?_
           have h1 := lsR_len agR 2 (ag.take (j + 1)) fun c hc => (agR_wb c (HF11.out c (List.mem_of_mem_take hc))).2
           have h2 : (ag.take (j + 1)).length ≤ 400 := by simp; omega
           have h3 := HP3l.out
           rw [List.length_append]
           omega)
          clear hP0 hx d hI hn hVe
          go_upto_if 77 with fail
          go_cut [3] (fun s wx => ∃ U, s = .string U ∧ wr = wx ∧ Hid (TJ 2255 w_view (P0 ++ (if j = 0 then [] else [s_cm])) U))
          case first =>
           by_cases h0 : j = 0
           · have h0' : ¬ (0 : Int) < j := by omega
             have HU1 := Lib.hid (hU.out.skip (m := 2255) (ws2 := (if j = 0 then [] else [s_cm])) (by rw [if_pos h0]) (by decide))
             clear h0
             go_wp2_with fail
             go_meet
             exact ⟨U4, rfl, rfl, HU1⟩
           · have h0' : (0 : Int) < j := by omega
             have HU1 : Hid (TJ 2255 w_view (P0 ++ (if j = 0 then [] else [s_cm])) (U4 ++ (⟨#[32, 44]⟩ : ByteArray))) := Lib.hid (by rw [if_neg h0]; exact hU.out.more (m := 1) rfl (by unfold WB; decide) (by decide))
             clear h0
             go_wp2_with fail
             go_meet
             exact ⟨_, rfl, rfl, HU1⟩
          case rest =>
           obtain ⟨U5, hs5, hw5, hU5⟩ := hcut
           subst hs5
           subst hw5
           have hU5s := hU5.out.s (by decide) (by decide)
           have HU6 : Hid (TJ 2256 w_view (P0 ++ (if j = 0 then [] else [s_cm]) ++ [pkR fn fnWs]) (U5 ++ ((⟨#[32]⟩ : ByteArray) ++ V))) := Lib.hid (by
            refine hU5.out.more (m := 1) ?_ (WB.cons (pkR_len _ _ (by unfold WB; decide)) WB.nil) (by simp)
            rw [← HVe.out, show (⟨#[32]⟩ : ByteArray) = ba [32] from rfl, ba_cat, jt_cons, jt_nil]
            simp)
           clear hUs hU hU5
           go_wp2_with fail
           refine (HPn.out wr).mono ?_
           rintro e w2 ⟨rfl, hb2⟩
           have HV2 := Lib.hid (hV.out.then hb2)
           obtain ⟨c0, c1, c2, c3, c4, c5, c6, c7, c8, hlt⟩ := HV2.out.all
           have hblk := hb2.cell (p := ⟨b, off + j * 2, none⟩) hbr
           have g0 := (hb2.cell (p := ⟨b, off + j * 2, none⟩) hbr).trans d0
           have g1 := (hb2.cell (p := ⟨b, off + j * 2 + 1, none⟩) hbr).trans d1
           have hbr2 : b < w2.heap.size := Nat.lt_of_lt_of_le hbr hb2.size
           clear hb2 hblk d0 d1
           by_cases hf0 : fn = 0
           · have HF := Lib.hid (HFin.out _ [] (HU6.out.skip rfl (by decide)) (by rw [if_pos hf0]))
             clear HU6
             go_wp2
             go_roundw
             case rel => exact ⟨j + 1, _, by omega, by go_num, rfl, HV2, HF⟩
             case measure => simp [intOf]; omega
           · have hfb : (fn != 0) = true := by simpa using hf0
             have HF := Lib.hid (HFin.out (U5 ++ ((⟨#[32]⟩ : ByteArray) ++ V) ++ ((⟨#[32]⟩ : ByteArray) ++ I)) [Lib.itoa col] ((HU6.out.more (m := 1) (ws2 := [Lib.itoa col]) (by
              rw [← HI.out, show (⟨#[32]⟩ : ByteArray) = ba [32] from rfl, ba_cat, jt_cons, jt_nil]
              simp) (WB.cons (by have := itoa_len col Hn.out; omega) WB.nil) (by simp)).up (by decide)) (by rw [if_neg hf0]))
             have hU6s := HU6.out.s (by decide) (by decide)
             obtain ⟨U6, hU6⟩ : ∃ U, U5 ++ ((⟨#[32]⟩ : ByteArray) ++ V) = U := ⟨_, rfl⟩
             rw [hU6] at HF hU6s
             have HU6e := Lib.hid hU6
             clear HU6 hf0 hU6
             go_upto_if 97 with fail
             rw [HU6e.out]
             go_wp2_with fail
             refine (HS.out w2).mono ?_
             rintro e w3 ⟨rfl, hb3⟩
             have HV3 := Lib.hid (HV2.out.then hb3)
             clear hb3
             go_wp2
             go_roundw
             case rel => exact ⟨j + 1, _, by omega, by go_num, rfl, HV3, HF⟩
             case measure => simp [intOf]; omega
        · obtain rfl : j = ag.length := by omega
          rw [List.take_length] at hU
          have HF : Hid (U4 = R) := Lib.hid (by
           rw [← HR.out, hU.out.eq, ← HP3.out, ← HP2.out, ← HP1.out, ← HD.out]
           unfold vwR Vm.vw
           simp)
          have HBf := Lib.hid (below_via HB.out hV.out.bl)
          clear hj1 hj hU
          go_wp2
          go_ret
          exact ⟨by rw [← HF.out]; rfl, HBf.out⟩
end Go.Proofs.YtjgpmnffagdhlaaGreatDoor
namespace Go.Proofs.YtjgpmnffagdhlaaGreatDoor
open Go Go.RowKit
set_option maxRecDepth 100000
structure Apq (b : Nat) (w w' : World) : Prop extends Apb b w w' where
 c0 : b < w.heap.size → w'.cell? ⟨b, 0, none⟩ = w.cell? ⟨b, 0, none⟩
instance {b : Nat} {w w' : World} : CoeOut (Apq b w w') (Apb b w w') := ⟨Apq.toApb⟩
theorem Apq.refl (b : Nat) (w : World) : Apq b w w := ⟨Apb.refl b w, fun _ => rfl⟩
theorem Apq.drew {b : Nat} {v w : World} (h : Apq b v w) : Apq b v w.drew := ⟨h.toApb.drew, h.c0⟩
theorem Apq.trans {b : Nat} {u v w : World} (h : Apq b u v) (k : Apq b v w) : Apq b u w :=
 ⟨h.toApb.trans k.toApb, fun hb => (k.c0 (Nat.lt_of_lt_of_le hb h.size)).trans (h.c0 hb)⟩
theorem cell_same {w w' : World} {b j : Nat} (h : w'.heap[b]? = w.heap[b]?) : w'.cell? ⟨b, j, none⟩ = w.cell? ⟨b, j, none⟩ := by simp only [World.cell?, h]
theorem cell0_set (w : World) (b j : Nat) (u : Value) (hj : j ≠ 0) : (w.setCell ⟨b, j, none⟩ u).cell? ⟨b, 0, none⟩ = w.cell? ⟨b, 0, none⟩ := by
 simp only [World.cell?, World.setCell, Array.getElem?_modify, if_true]
 cases w.heap[b]? with
 | none => rfl
 | some o =>
   cases o <;> simp [Array.getElem?_setIfInBounds_ne hj]
theorem Apq.set {b : Nat} {v w : World} (h : Apq b v w) (j : Nat) (u : Value) (hj : j ≠ 0 := by decide) : Apq b v (w.setCell ⟨b, j, none⟩ u) :=
 ⟨h.toApb.set j u, fun hb => (cell0_set w b j u hj).trans (h.c0 hb)⟩
theorem Apq.then {b B : Nat} {u v w : World} (h : Apq b u v) (k : Below B v w) (hB : u.heap.size ≤ B) : Apq b u w :=
 ⟨h.toApb.then k hB, fun hb => (cell_same (k.block b (by omega))).trans (h.c0 hb)⟩
theorem Apq.alloc {b : Nat} {v w : World} (h : Apq b v w) (o : Obj) : Apq b v (w.alloc o) := h.then (below_one w o) h.size
theorem Apq.own {b c : Nat} {v w : World} (h : Apq b v w) (hc : v.heap.size ≤ c) (j : Nat) (u : Value) : Apq b v (w.setCell ⟨c, j, none⟩ u) :=
 ⟨h.toApb.own hc j u, fun hb => (cell_same (Below.heap_setCell _ _ _ _ (show b ≠ c by omega))).trans (h.c0 hb)⟩
theorem Apq.put {b c : Nat} {v w : World} (h : Apq b v w) (hc : v.heap.size ≤ c) (j : Nat) (vs : List Value) : Apq b v (putL w c j vs) :=
 ⟨h.toApb.put hc j vs, fun hb => (cell_same (putL_heap vs w c j b (by omega))).trans (h.c0 hb)⟩
theorem Apq.of_alloc {b : Nat} {w w' : World} {o : Obj} (h : Apq b (w.alloc o) w') : Apq b w w' :=
 ⟨h.toApb.of_alloc, fun hb => (h.c0 (by simp; omega)).trans (cell_same (Below.heap_alloc w o b hb))⟩
theorem Apq.grown {b : Nat} {u v w : World} {row : Option Nat} (h : Apq b u v) (hg : v.grownBy w row) (hrow : ∀ k, row = some k → u.heap.size ≤ k) : Apq b u w :=
 ⟨h.toApb.grown hg hrow, fun hb => (cell_same (hg.block b (Nat.lt_of_lt_of_le hb h.size) fun e => by have := hrow b e.symm; omega)).trans (h.c0 hb)⟩
theorem Bk.keptq {w w' : World} {b c : Nat} {cs : Array Value} {T : TypeId} (h : Bk w c cs T) (hb : Apq b w w') (hne : c ≠ b) : Bk w' c cs T := h.kept hb.toApb hne
theorem OwnG.keptq {α : Type} {rd : α → List Value} {S : Nat} {w w' : World} {B b : Nat} {E : TypeId} {v : Value} {xs : List α} (h : OwnG w B E S rd v xs) (hb : Apq b w w') (hB : b < B) : OwnG w' B E S rd v xs := h.kept hb.toApb hB
theorem SlG.keptq {α : Type} {rd : α → List Value} {S : Nat} {w w' : World} {A : Option Addr} {xs : List α} {b B : Nat} (h : SlG w A S rd xs) (hb : Apq b w w') (hA : ∀ k, A.map (·.block) = some k → k ≠ b) : SlG w' A S rd xs := h.kept (B := 0) hb.toApb hA
def Pq (w : World) (b : Nat) (l : List Tk) (ok : Bool) : Prop := ∃ (A : Option Addr) (n c k : Nat) (xs : List Tk), Bk w b #[.slice A n c, .int .i64 (k : Int), .bool ok] 105 ∧ xs.length = n ∧ n ≤ 20000 ∧ k ≤ n ∧ Tks w b A xs ∧ xs.drop k = l ∧ ∀ t ∈ xs, mayT t = true
theorem Pq.lt {w : World} {b : Nat} {l : List Tk} {ok : Bool} (h : Pq w b l ok) : b < w.heap.size := by obtain ⟨A, n, c, k, xs, hb, _⟩ := h; exact hb.lt
theorem Pq.same {w w' : World} {b : Nat} {l : List Tk} {ok : Bool} (h : Pq w b l ok) (hs : ∀ k, k ≤ b → w'.heap[k]? = w.heap[k]?) : Pq w' b l ok := by
 obtain ⟨A, n, c, k, xs, h1, h2, h3, h4, h5, h6, h7⟩ := h
 exact ⟨A, n, c, k, xs, (hs b (Nat.le_refl _)).trans h1, h2, h3, h4, h5.same fun k hk => hs k (by omega), h6, h7⟩
theorem Pq.after {w w' : World} {b B : Nat} {l : List Tk} {ok : Bool} (h : Pq w b l ok) (hb : Below B w w') (hB : b < B) : Pq w' b l ok := h.same fun k hk => hb.block k (by omega)
theorem Pq.alloc {w : World} {b : Nat} {l : List Tk} {ok : Bool} (h : Pq w b l ok) (o : Obj) : Pq (w.alloc o) b l ok := h.after (below_one w o) h.lt
theorem Pq.own {w : World} {b c : Nat} {l : List Tk} {ok : Bool} (h : Pq w b l ok) (hc : b < c) (j : Nat) (u : Value) : Pq (w.setCell ⟨c, j, none⟩ u) b l ok := h.same fun k hk => Below.heap_setCell _ _ _ _ (show k ≠ c by omega)
theorem Pq.put {w : World} {b c : Nat} {l : List Tk} {ok : Bool} (h : Pq w b l ok) (hc : b < c) (j : Nat) (vs : List Value) : Pq (putL w c j vs) b l ok := h.same fun k hk => putL_heap vs w c j k (by omega)
theorem Pq.drew {w : World} {b : Nat} {l : List Tk} {ok : Bool} (h : Pq w b l ok) : Pq w.drew b l ok := h
theorem Pq.may {w : World} {b : Nat} {l : List Tk} {ok : Bool} (h : Pq w b l ok) : ∀ t ∈ l, mayT t = true := by
 obtain ⟨A, n, c, k, xs, h1, h2, h3, h4, h5, h6, h7⟩ := h
 intro t ht
 rw [← h6] at ht
 exact h7 t (List.mem_of_mem_drop ht)
theorem Pq.len {w : World} {b : Nat} {l : List Tk} {ok : Bool} (h : Pq w b l ok) : l.length ≤ 20000 := by
 obtain ⟨A, n, c, k, xs, h1, h2, h3, h4, h5, h6, _⟩ := h
 rw [← h6, List.length_drop]; omega
theorem Pq.not {w : World} {b : Nat} {l : List Tk} {ok : Bool} (h : Pq w b l ok) (ok' : Bool) : Pq (w.setCell ⟨b, 2, none⟩ (.bool ok')) b l ok' := by
 obtain ⟨A, n, c, k, xs, h1, h2, h3, h4, h5, h6, h7⟩ := h
 exact ⟨A, n, c, k, xs, h1.set 2 _, h2, h3, h4, h5.same fun j hj => Below.heap_setCell _ _ _ _ (show j ≠ b by omega), h6, h7⟩
theorem Pq.ok {w : World} {b : Nat} {l : List Tk} {ok : Bool} (h : Pq w b l ok) : w.cell? ⟨b, 2, none⟩ = some (.bool ok) ∧ w.frozen? ⟨b, 2, none⟩ = false := by
 obtain ⟨A, n, c, k, xs, h1, _⟩ := h
 exact ⟨h1.cell 2, h1.thaw 2⟩
theorem Pq.next {w : World} {b : Nat} {A : Option Addr} {n c k : Nat} {xs : List Tk} {ok : Bool} (h1 : Bk w b #[.slice A n c, .int .i64 (k : Int), .bool ok] 105) (h2 : xs.length = n) (h3 : n ≤ 20000) (h5 : Tks w b A xs) (h7 : ∀ t ∈ xs, mayT t = true) (hk : k < n) {v : Int} (hv : v = (k : Int) + 1) : Pq (w.setCell ⟨b, 1, none⟩ (.int .i64 v)) b (xs.drop k).tail ok := by
 refine ⟨A, n, c, k + 1, xs, ?_, h2, h3, by omega, h5.same fun j hj => Below.heap_setCell _ _ _ _ (show j ≠ b by omega), by rw [List.tail_drop], h7⟩
 have := h1.set 1 (.int .i64 v)
 rw [hv] at this ⊢
 exact this
def pqLen (w : World) (b : Nat) : Nat := match w.cell? ⟨b, 0, none⟩, w.cell? ⟨b, 1, none⟩, w.cell? ⟨b, 2, none⟩ with
 | some (.slice _ n _), some (.int _ k), some (.bool ok) => if ok then n + 1 - k.toNat else 0
 | _, _, _ => 0
theorem Pq.left {w : World} {b : Nat} {l : List Tk} {ok : Bool} (h : Pq w b l ok) : pqLen w b = if ok then l.length + 1 else 0 := by
 obtain ⟨A, n, c, k, xs, h1, h2, h3, h4, h5, h6, _⟩ := h
 unfold pqLen
 rw [h1.cell 0, h1.cell 1, h1.cell 2]
 simp only [List.getElem?_toArray, List.getElem?_cons_zero, List.getElem?_cons_succ, Int.toNat_natCast]
 rw [← h6, List.length_drop]
 cases ok
 · rfl
 · simp only [if_true]; omega
theorem Tks.at {w : World} {B : Nat} {A : Option Addr} {xs : List Tk} (h : Tks w B A xs) {k : Nat} {t : Tk} (ht : xs[k]? = some t) : ∃ c off, A = some ⟨c, off, none⟩ ∧ c < B ∧ w.cell? ⟨c, off + k * 5, none⟩ = some (.int .i64 t.k) ∧ w.cell? ⟨c, off + k * 5 + 1, none⟩ = some (.string t.t) ∧ w.cell? ⟨c, off + k * 5 + 2, none⟩ = some (.int .i64 t.v.k) ∧ w.cell? ⟨c, off + k * 5 + 3, none⟩ = some (.int .i64 t.v.n) ∧ w.cell? ⟨c, off + k * 5 + 4, none⟩ = some (.string t.v.s) := by
 rcases h with h | ⟨c, off, hA, hc, h⟩
 · subst h; simp at ht
 · exact ⟨c, off, hA, hc, h k t ht 0 _ rfl, h k t ht 1 _ rfl, h k t ht 2 _ rfl, h k t ht 3 _ rfl, h k t ht 4 _ rfl⟩
theorem Pq.nil {w : World} {b : Nat} {ok : Bool} (h : Pq w b [] ok) : ∃ (A : Option Addr) (n c : Nat), Bk w b #[.slice A n c, .int .i64 (n : Int), .bool ok] 105 ∧ n ≤ 20000 := by
 obtain ⟨A, n, c, k, xs, h1, h2, h3, h4, h5, h6, h7⟩ := h
 have : xs.length ≤ k := by
  rcases Nat.lt_or_ge k xs.length with hl | hl
  · have := congrArg List.length h6
    rw [List.length_drop] at this
    simp at this; omega
  · exact hl
 have : k = n := by omega
 subst this
 exact ⟨A, k, c, h1, h3⟩
theorem Pq.cons {w : World} {b : Nat} {t : Tk} {r : List Tk} {ok : Bool} (h : Pq w b (t :: r) ok) : ∃ (n c k : Nat) (xs : List Tk) (d off : Nat), Bk w b #[.slice (some ⟨d, off, none⟩) n c, .int .i64 (k : Int), .bool ok] 105 ∧ xs.length = n ∧ n ≤ 20000 ∧ k < n ∧ Tks w b (some ⟨d, off, none⟩) xs ∧ xs.drop k = t :: r ∧ xs[k]? = some t ∧ d < b ∧ ∀ t ∈ xs, mayT t = true := by
 obtain ⟨A, n, c, k, xs, h1, h2, h3, h4, h5, h6, h7⟩ := h
 have hk : k < xs.length := by
  rcases Nat.lt_or_ge k xs.length with hl | hl
  · exact hl
  · rw [List.drop_eq_nil_of_le hl] at h6; cases h6
 have ht : xs[k]? = some t := by
  have := List.getElem?_drop (xs := xs) (i := k) (j := 0)
  rw [h6] at this
  simpa using this.symm
 obtain ⟨d, off, hA, hd, _⟩ := h5.at ht
 subst hA
 exact ⟨n, c, k, xs, d, off, h1, h2, h3, by omega, h5, h6, ht, hd, h7⟩
set_option maxHeartbeats 4000000 in
theorem qis_c (b : Nat) (l : List Tk) (ok : Bool) (s : List UInt8) (w : World) (hP : Pq w b l ok) :
 Calls Tryz.prog 98 #[.pointer (some ⟨b, 0, none⟩), .string (ba s)] w fun e w' => e = .returned (.bool (takeP s l).1) ∧ w' = w.drew := by
 have hb := hP.lt
 cases l with
 | nil =>
   obtain ⟨A, n, c, hk, hn⟩ := hP.nil
   have p0 : w.cell? ⟨b, 0, none⟩ = some (.slice A n c) := hk.cell 0
   have p1 : w.cell? ⟨b, 1, none⟩ = some (.int .i64 (n : Int)) := hk.cell 1
   show Calls _ _ _ _ fun e w' => e = .returned (.bool false) ∧ w' = w.drew
   clear hk hP
   go_enter Tryz.func98, Tryz.ntmps98
   go_wp2_with fail
   go_region
   go_wp2
   go_ret
   exact ⟨rfl, rfl⟩
 | cons t r =>
   obtain ⟨n, c, k, xs, d, off, hk, h2, h3, hlt, hT, h6, ht, hd, h7⟩ := hP.cons
   have p0 : w.cell? ⟨b, 0, none⟩ = some (.slice (some ⟨d, off, none⟩) n c) := hk.cell 0
   have p1 : w.cell? ⟨b, 1, none⟩ = some (.int .i64 (k : Int)) := hk.cell 1
   obtain ⟨d', off', hA, _, d0, d1, _⟩ := hT.at ht
   obtain ⟨rfl, rfl⟩ : d = d' ∧ off = off' := by simpa using hA
   have hkl : k < n := hlt
   have l2 : d < w.heap.size := by omega
   have hR : (takeP s (t :: r)).1 = ((t.k != 1) && (t.t.toList == s)) := by
    rw [takeP, ByteArray.toList_eq]
    show (if isW s t then (true, r) else (false, t :: r)).1 = isW s t
    cases isW s t <;> rfl
   rw [hR]
   clear hR hk hP hT ht h6 h2 hA h7
   cases h1 : (t.k != 1)
   · go_enter Tryz.func98, Tryz.ntmps98
     go_wp2_with fail
     go_region
     go_wp2
     go_ret
     exact ⟨rfl, rfl⟩
   · go_enter Tryz.func98, Tryz.ntmps98
     go_wp2_with fail
     go_region
     go_wp2
     go_ret
     exact ⟨rfl, rfl⟩
set_option maxHeartbeats 4000000 in
theorem qtake_c (b : Nat) (l : List Tk) (ok : Bool) (s : List UInt8) (w : World) (hP : Pq w b l ok) :
 Calls Tryz.prog 92 #[.pointer (some ⟨b, 0, none⟩), .string (ba s)] w fun e w' => e = .returned (.bool (takeP s l).1) ∧ Pq w' b (takeP s l).2 ok ∧ Apq b w w' := by
 have HI := Lib.hid (qis_c b l ok s w hP)
 have hb : b < w.drew.heap.size := hP.lt
 have Hp := Lib.hid hP
 cases hR : (takeP s l).1
 · rw [hR] at HI
   rw [take_no hR]
   clear hP hR
   go_enter Tryz.func92, Tryz.ntmps92
   go_wp2_with fail
   refine HI.out.mono ?_
   rintro e w1 ⟨rfl, rfl⟩
   go_wp2
   go_ret
   exact ⟨rfl, Hp.out.drew, (Apq.refl b w).drew⟩
 · rw [hR] at HI
   cases l with
   | nil => cases hR
   | cons t r =>
     obtain ⟨n, c, k, xs, d, off, hk, h2, h3, hlt, hT, h6, ht, hd, h7⟩ := hP.cons
     have p1 : w.drew.cell? ⟨b, 1, none⟩ = some (.int .i64 (k : Int)) := hk.cell 1
     have hfz : w.frozen? ⟨b, 1, none⟩ = false := hk.thaw 1
     have hr : (takeP s (t :: r)).2 = r := by
      rw [takeP] at hR ⊢
      cases e : isW s t
      · rw [e] at hR; cases hR
      · rfl
     have hN := Pq.next hk h2 h3 hT h7 hlt (v := (k : Int) + 1) rfl
     rw [h6, List.tail_cons] at hN
     have HN := Lib.hid hN
     rw [hr]
     have hkl : k < n := hlt
     clear hP hR hk hT ht h6 h2 hr hN h7
     go_enter Tryz.func92, Tryz.ntmps92
     go_wp2_with fail
     refine HI.out.mono ?_
     rintro e w1 ⟨rfl, rfl⟩
     go_wp2
     go_ret
     exact ⟨rfl, HN.out.drew, ((Apq.refl b w).set 1 _).drew⟩
set_option maxHeartbeats 4000000 in
theorem qneed_c (b : Nat) (l : List Tk) (ok : Bool) (s : List UInt8) (w : World) (hP : Pq w b l ok) :
 Calls Tryz.prog 94 #[.pointer (some ⟨b, 0, none⟩), .string (ba s)] w fun e w' => e = .returned (.tuple #[]) ∧ Pq w' b (takeP s l).2 (ok && (takeP s l).1) ∧ Apq b w w' := by
 have HT := Lib.hid (qtake_c b l ok s w hP)
 obtain ⟨⟨R, q⟩, hR⟩ : ∃ R, takeP s l = R := ⟨_, rfl⟩
 rw [hR] at HT ⊢
 clear hP hR
 go_enter Tryz.func94, Tryz.ntmps94
 go_wp2_with fail
 refine HT.out.mono ?_
 rintro e w1 ⟨rfl, hp1, ha⟩
 have Hp := Lib.hid hp1
 have Ha := Lib.hid ha
 clear HT hp1 ha
 cases R
 · obtain ⟨p2, hfz⟩ := Hp.out.ok
   have hb := Hp.out.lt
   go_wp2
   go_end0
   refine ⟨rfl, ?_, Ha.out.set 2 _⟩
   rw [Bool.and_false]
   exact Hp.out.not false
 · go_wp2
   go_end0
   refine ⟨rfl, ?_, Ha.out⟩
   rw [Bool.and_true]
   exact Hp.out
def nextT : List Tk → Tk
 | [] => ⟨-1, emp, nl⟩
 | t :: _ => t
abbrev Tk.w (x : Tk) : Value := .agg #[.int .i64 x.k, .string x.t, .int .i64 x.v.k, .int .i64 x.v.n, .string x.v.s]
theorem ret_tk {fn : Func} {R : Ending → World → Prop} {F : Act} {w : World} {t : Tmp} {b : Nat} {a : Tk} (hres : fn.results = #[.cell t 129]) (ht : Reg.slot F t = .pointer (some ⟨b, 0, none⟩)) (hb : Bk w b (rdT a).toArray 129) (hd : F.defers = [])
 (hR : R (.returned a.w) w) : bodyPost Tryz.prog fn R .ret F w := by
 have h0 : w.cell? ⟨b, 0, none⟩ = some (.int .i64 a.k) := hb.cell 0
 have h1 : w.cell? ⟨b, 1, none⟩ = some (.string a.t) := hb.cell 1
 have h2 : w.cell? ⟨b, 2, none⟩ = some (.int .i64 a.v.k) := hb.cell 2
 have h3 : w.cell? ⟨b, 3, none⟩ = some (.int .i64 a.v.n) := hb.cell 3
 have h4 : w.cell? ⟨b, 4, none⟩ = some (.string a.v.s) := hb.cell 4
 refine bodyPost_ret (v := a.w) ?_ hd hR
 have ht' : F.tmps[t]?.getD undef = .pointer (some ⟨b, 0, none⟩) := by simpa [Reg.slot] using ht
 simp [results, hres, ht', go_sem, h0, h1, h2, h3, h4]
set_option maxHeartbeats 4000000 in
theorem qnext_c (b : Nat) (l : List Tk) (ok : Bool) (w : World) (hP : Pq w b l ok) :
 Calls Tryz.prog 137 #[.pointer (some ⟨b, 0, none⟩)] w fun e w' => e = .returned (nextT l).w ∧ Pq w' b l.tail (ok && !l.isEmpty) ∧ Apq b w w' := by
 have hb := hP.lt
 obtain ⟨W, hW⟩ : ∃ W, w.alloc (.cells (rdT tk0).toArray 129) = W := ⟨_, rfl⟩
 have HA : Hid (Apq b w W) := Lib.hid (by rw [← hW]; exact (Apq.refl b w).alloc _)
 have HP : Hid (Pq W b l ok) := Lib.hid (by rw [← hW]; exact hP.alloc _)
 have HZ : Hid (Bk W w.heap.size (rdT tk0).toArray 129) := Lib.hid (by rw [← hW]; exact Bk.new w _ _)
 have hsz : W.heap.size = w.heap.size + 1 := by rw [← hW]; simp
 have HW : Hid (w.alloc (.cells #[.int .i64 0, .string ⟨#[]⟩, .int .i64 0, .int .i64 0, .string ⟨#[]⟩] 129) = W) := hW
 clear hW hP
 have z0 := HZ.out.thaw 0
 have z1 := HZ.out.thaw 1
 have z2 := HZ.out.thaw 2
 have z3 := HZ.out.thaw 3
 have z4 := HZ.out.thaw 4
 have n0 : W.cell? ⟨w.heap.size, 0, none⟩ = some (.int .i64 0) := HZ.out.cell 0
 have n1 : W.cell? ⟨w.heap.size, 1, none⟩ = some (.string emp) := HZ.out.cell 1
 have n2 : W.cell? ⟨w.heap.size, 2, none⟩ = some (.int .i64 0) := HZ.out.cell 2
 have n3 : W.cell? ⟨w.heap.size, 3, none⟩ = some (.int .i64 0) := HZ.out.cell 3
 have n4 : W.cell? ⟨w.heap.size, 4, none⟩ = some (.string emp) := HZ.out.cell 4
 have hl0 := HZ.out.lt
 have hbW : b < W.heap.size := by omega
 cases l with
 | nil =>
   obtain ⟨A, n, c, hk, hn⟩ := HP.out.nil
   have p0 : W.cell? ⟨b, 0, none⟩ = some (.slice A n c) := hk.cell 0
   have p1 : W.cell? ⟨b, 1, none⟩ = some (.int .i64 (n : Int)) := hk.cell 1
   have p2 : W.cell? ⟨b, 2, none⟩ = some (.bool ok) := hk.cell 2
   have hfz : W.frozen? ⟨b, 2, none⟩ = false := hk.thaw 2
   have hR : (ok && !([] : List Tk).isEmpty) = false := by simp
   rw [hR]
   clear hk
   go_enter Tryz.func137, Tryz.ntmps137
   go_wp2_with fail
   rw [HW.out]
   go_region
   go_wp2_with fail
   refine ret_tk (b := w.heap.size) (a := nextT []) Tryz.results137 rfl ?_ rfl ?_
   · exact (Bk.put (HZ.out.keptq ((Apq.refl b W).set 2 (.bool false)) (by omega)) (rdT (nextT [])) rfl).drew
   · exact ⟨rfl, ((HP.out.not false).put (by omega) 0 (rdT (nextT []))).drew, ((HA.out.set 2 _).put (Nat.le_refl _) 0 (rdT (nextT []))).drew⟩
 | cons t r =>
   obtain ⟨n, c, k, xs, d, off, hk, h2, h3, hlt, hT, h6, ht, hd, h7⟩ := HP.out.cons
   have p0 : W.cell? ⟨b, 0, none⟩ = some (.slice (some ⟨d, off, none⟩) n c) := hk.cell 0
   have p1 : W.cell? ⟨b, 1, none⟩ = some (.int .i64 (k : Int)) := hk.cell 1
   have hfz : W.frozen? ⟨b, 1, none⟩ = false := hk.thaw 1
   obtain ⟨d', off', hA, _, d0, d1, d2, d3, d4⟩ := hT.at ht
   obtain ⟨rfl, rfl⟩ : d = d' ∧ off = off' := by simpa using hA
   have hkl : k < n := hlt
   have l2 : d < W.heap.size := by omega
   have hdb : d ≠ b := by omega
   have hN := Pq.next hk h2 h3 hT h7 hlt (v := (k : Int) + 1) rfl
   rw [h6, List.tail_cons] at hN
   have HN := Lib.hid hN
   have hR : (ok && !(t :: r).isEmpty) = ok := by simp
   rw [hR]
   clear hk hT ht h6 h2 hA hN h7
   go_enter Tryz.func137, Tryz.ntmps137
   go_wp2_with fail
   rw [HW.out]
   go_region
   go_wp2_with fail
   go_region
   go_wp2_with fail
   refine ret_tk (b := w.heap.size) (a := t) Tryz.results137 rfl ?_ rfl ?_
   · exact (Bk.put (HZ.out.keptq ((Apq.refl b W).set 1 (.int .i64 ((k : Int) + 1))) (by omega)) (rdT t) rfl).drew.drew
   · exact ⟨rfl, (HN.out.put (by omega) 0 (rdT t)).drew.drew, ((HA.out.set 1 (.int .i64 ((k : Int) + 1))).put (Nat.le_refl _) 0 (rdT t)).drew.drew⟩
def KwIn (w : World) (b : Nat) : Prop := b < w.heap.size ∧ ∀ k l, kws[k]? = some l → w.cell? ⟨b, k, none⟩ = some (.string (ba l))
theorem KwIn.after {w0 w : World} {b : Nat} (h : KwIn w0 b) (hb : Below w0.heap.size w0 w) : KwIn w b := ⟨Nat.lt_of_lt_of_le h.1 hb.size, fun k l hl => (hb.cell (p := ⟨b, k, none⟩) h.1).trans (h.2 k l hl)⟩
theorem kw_cells : (#[.string ⟨#[116, 97, 98, 108, 101]⟩, .string ⟨#[99, 104, 101, 99, 107]⟩, .string ⟨#[118, 105, 101, 119]⟩, .string ⟨#[102, 114, 111, 109]⟩, .string ⟨#[106, 111, 105, 110]⟩, .string ⟨#[111, 110]⟩, .string ⟨#[119, 104, 101, 114, 101]⟩, .string ⟨#[112, 105, 99, 107]⟩, .string ⟨#[103, 114, 111, 117, 112]⟩, .string ⟨#[98, 111, 111, 108]⟩, .string ⟨#[105, 110, 116]⟩, .string ⟨#[116, 101, 120, 116]⟩, .string ⟨#[110, 117, 108, 108]⟩, .string ⟨#[117, 110, 105, 113, 117, 101]⟩, .string ⟨#[114, 101, 102]⟩, .string ⟨#[114, 101, 115, 116, 114, 105, 99, 116]⟩, .string ⟨#[99, 97, 115, 99, 97, 100, 101]⟩, .string ⟨#[115, 101, 116, 110, 117, 108, 108]⟩, .string ⟨#[99, 111, 117, 110, 116]⟩, .string ⟨#[115, 117, 109]⟩, .string ⟨#[109, 105, 110]⟩, .string ⟨#[109, 97, 120]⟩, .string ⟨#[116, 114, 117, 101]⟩, .string ⟨#[102, 97, 108, 115, 101]⟩, .string ⟨#[97, 110, 100]⟩, .string ⟨#[111, 114]⟩, .string ⟨#[110, 111, 116]⟩] : Array Value) = (kws.map (fun l => Value.string (ba l))).toArray := by kernel_rfl
theorem kw_in (w : World) : KwIn (w.alloc (.cells #[.string ⟨#[116, 97, 98, 108, 101]⟩, .string ⟨#[99, 104, 101, 99, 107]⟩, .string ⟨#[118, 105, 101, 119]⟩, .string ⟨#[102, 114, 111, 109]⟩, .string ⟨#[106, 111, 105, 110]⟩, .string ⟨#[111, 110]⟩, .string ⟨#[119, 104, 101, 114, 101]⟩, .string ⟨#[112, 105, 99, 107]⟩, .string ⟨#[103, 114, 111, 117, 112]⟩, .string ⟨#[98, 111, 111, 108]⟩, .string ⟨#[105, 110, 116]⟩, .string ⟨#[116, 101, 120, 116]⟩, .string ⟨#[110, 117, 108, 108]⟩, .string ⟨#[117, 110, 105, 113, 117, 101]⟩, .string ⟨#[114, 101, 102]⟩, .string ⟨#[114, 101, 115, 116, 114, 105, 99, 116]⟩, .string ⟨#[99, 97, 115, 99, 97, 100, 101]⟩, .string ⟨#[115, 101, 116, 110, 117, 108, 108]⟩, .string ⟨#[99, 111, 117, 110, 116]⟩, .string ⟨#[115, 117, 109]⟩, .string ⟨#[109, 105, 110]⟩, .string ⟨#[109, 97, 120]⟩, .string ⟨#[116, 114, 117, 101]⟩, .string ⟨#[102, 97, 108, 115, 101]⟩, .string ⟨#[97, 110, 100]⟩, .string ⟨#[111, 114]⟩, .string ⟨#[110, 111, 116]⟩] 9)) w.heap.size := by
 refine ⟨by simp, fun k l hl => ?_⟩
 rw [kw_cells]
 have e : (w.alloc (.cells (kws.map (fun l => Value.string (ba l))).toArray 9)).heap[w.heap.size]? = some (.cells (kws.map (fun l => Value.string (ba l))).toArray 9 (0, 0)) := by
  show (w.heap.push _)[w.heap.size]? = _
  simp
 generalize w.alloc _ = W at e
 simp [World.cell?, e, hl]
theorem has_drop {k : Nat} {x : List UInt8} (h : kws[k]? = some x) (l : List UInt8) : (kws.drop k).contains l = (decide (x = l) || (kws.drop (k + 1)).contains l) := by
 have hlt : k < kws.length := (List.getElem?_eq_some_iff.1 h).1
 have hv : kws[k] = x := (List.getElem?_eq_some_iff.1 h).2
 rw [List.drop_eq_getElem_cons hlt, hv, List.contains_cons, Bool.eq_iff_iff]
 simp only [Bool.or_eq_true, beq_iff_eq, decide_eq_true_eq]
 exact ⟨fun h => h.imp Eq.symm id, fun h => h.imp Eq.symm id⟩
set_option maxHeartbeats 2000000 in
theorem kw_c (l : List UInt8) (w : World) :
 Calls Tryz.prog 41 #[.string (ba l)] w fun e w' => e = .returned (.bool (kws.contains l)) ∧ Below w.heap.size w w' := by
 obtain ⟨R, hR⟩ : ∃ R, kws.contains l = R := ⟨_, rfl⟩
 rw [hR]
 have HR := Lib.hid hR
 have Hk := Lib.hid (kw_in w)
 have HB := Lib.hid (below_one w (.cells #[.string ⟨#[116, 97, 98, 108, 101]⟩, .string ⟨#[99, 104, 101, 99, 107]⟩, .string ⟨#[118, 105, 101, 119]⟩, .string ⟨#[102, 114, 111, 109]⟩, .string ⟨#[106, 111, 105, 110]⟩, .string ⟨#[111, 110]⟩, .string ⟨#[119, 104, 101, 114, 101]⟩, .string ⟨#[112, 105, 99, 107]⟩, .string ⟨#[103, 114, 111, 117, 112]⟩, .string ⟨#[98, 111, 111, 108]⟩, .string ⟨#[105, 110, 116]⟩, .string ⟨#[116, 101, 120, 116]⟩, .string ⟨#[110, 117, 108, 108]⟩, .string ⟨#[117, 110, 105, 113, 117, 101]⟩, .string ⟨#[114, 101, 102]⟩, .string ⟨#[114, 101, 115, 116, 114, 105, 99, 116]⟩, .string ⟨#[99, 97, 115, 99, 97, 100, 101]⟩, .string ⟨#[115, 101, 116, 110, 117, 108, 108]⟩, .string ⟨#[99, 111, 117, 110, 116]⟩, .string ⟨#[115, 117, 109]⟩, .string ⟨#[109, 105, 110]⟩, .string ⟨#[109, 97, 120]⟩, .string ⟨#[116, 114, 117, 101]⟩, .string ⟨#[102, 97, 108, 115, 101]⟩, .string ⟨#[97, 110, 100]⟩, .string ⟨#[111, 114]⟩, .string ⟨#[110, 111, 116]⟩] 9))
 clear hR
 have hn : kws.length = 27 := by kernel_rfl
 have Hn := Lib.hid hn
 clear hn
 go_enter Tryz.func41, Tryz.ntmps41
 go_wp2_with fail
 obtain ⟨W, hW⟩ : ∃ W, w.alloc (.cells #[.string ⟨#[116, 97, 98, 108, 101]⟩, .string ⟨#[99, 104, 101, 99, 107]⟩, .string ⟨#[118, 105, 101, 119]⟩, .string ⟨#[102, 114, 111, 109]⟩, .string ⟨#[106, 111, 105, 110]⟩, .string ⟨#[111, 110]⟩, .string ⟨#[119, 104, 101, 114, 101]⟩, .string ⟨#[112, 105, 99, 107]⟩, .string ⟨#[103, 114, 111, 117, 112]⟩, .string ⟨#[98, 111, 111, 108]⟩, .string ⟨#[105, 110, 116]⟩, .string ⟨#[116, 101, 120, 116]⟩, .string ⟨#[110, 117, 108, 108]⟩, .string ⟨#[117, 110, 105, 113, 117, 101]⟩, .string ⟨#[114, 101, 102]⟩, .string ⟨#[114, 101, 115, 116, 114, 105, 99, 116]⟩, .string ⟨#[99, 97, 115, 99, 97, 100, 101]⟩, .string ⟨#[115, 101, 116, 110, 117, 108, 108]⟩, .string ⟨#[99, 111, 117, 110, 116]⟩, .string ⟨#[115, 117, 109]⟩, .string ⟨#[109, 105, 110]⟩, .string ⟨#[109, 97, 120]⟩, .string ⟨#[116, 114, 117, 101]⟩, .string ⟨#[102, 97, 108, 115, 101]⟩, .string ⟨#[97, 110, 100]⟩, .string ⟨#[111, 114]⟩, .string ⟨#[110, 111, 116]⟩] 9) = W := ⟨_, rfl⟩
 rw [hW] at Hk HB ⊢
 clear hW
 go_loopw [4] (fun i wr => ∃ k : Nat, k ≤ 27 ∧ i = .int .i64 k ∧ Hid (Below W.heap.size W wr) ∧ Hid ((kws.drop k).contains l = R)) (fun i _ => 27 - (intOf i).toNat)
 case atStart => exact ⟨0, Nat.zero_le _, rfl, Below.refl _ _, HR⟩
 case round =>
  obtain ⟨k, hk, rfl, hb, hinv⟩ := hrel
  clear HR
  by_cases hlt : k < 27
  · have hx : kws[k]? = some (kws[k]'(by rw [Hn.out]; exact hlt)) := List.getElem?_eq_getElem _
    obtain ⟨x, hx⟩ : ∃ x, kws[k]? = some x := ⟨_, hx⟩
    have c0 := (Hk.out.after hb.out).2 k x hx
    have l0 := (Hk.out.after hb.out).1
    have hst := has_drop hx l
    rw [hinv.out] at hst
    clear hinv hx
    by_cases hq : x = l
    · subst hq
      have hRt : R = true := by rw [hst]; simp
      subst hRt
      clear hst
      go_wp2
      go_ret
      exact ⟨rfl, below_via HB.out hb.out⟩
    · have hst2 : (kws.drop (k + 1)).contains l = R := by rw [hst]; simp [hq]
      have Hst := Lib.hid hst2
      have Hb2 := Lib.hid hb.out
      have hq2 : (x == l) = false := by simpa using hq
      clear hst hst2
      go_wp2
      go_roundw
      case rel => exact ⟨k + 1, by omega, by go_num, Hb2, Hst⟩
      case measure => simp [intOf]; omega
  · obtain rfl : k = 27 := by omega
    have hRf : R = false := by rw [← hinv.out, List.drop_eq_nil_of_le (by rw [Hn.out]; omega)]; rfl
    subst hRf
    clear hinv
    go_wp2
    go_ret
    exact ⟨rfl, below_via HB.out hb.out⟩
set_option maxHeartbeats 2000000 in
theorem name_c (l : List UInt8) (w : World) (hl : l.length ≤ maxLen) :
 Calls Tryz.prog 20 #[.string (ba l)] w fun e w' => e = .returned (.bool (nameB l)) ∧ Below w.heap.size w w' := by
 obtain ⟨R, hR⟩ : ∃ R, nameB l = R := ⟨_, rfl⟩
 rw [hR]
 have hw : wordB l = wordB l := rfl
 obtain ⟨Z1, hZ1⟩ : ∃ Z, wordB l = Z := ⟨_, rfl⟩
 obtain ⟨Z2, hZ2⟩ : ∃ Z, kws.contains l = Z := ⟨_, rfl⟩
 have HR : Hid (R = (Z1 && !Z2)) := Lib.hid (by rw [← hR, ← hZ1, ← hZ2]; rfl)
 have HW := Lib.hid (rword_c l w hl)
 have HK := Lib.hid (kw_c l w)
 rw [hZ1] at HW
 rw [hZ2] at HK
 clear hw hR hZ1 hZ2
 go_enter Tryz.func20, Tryz.ntmps20
 go_wp2_with fail
 refine HW.out.mono ?_
 rintro e w1 ⟨rfl, rfl⟩
 cases Z1
 · obtain rfl : R = false := HR.out
   clear HW HK
   go_wp2
   go_ret
   exact ⟨rfl, Below.refl _ _⟩
 obtain rfl : R = !Z2 := by rw [HR.out]; rfl
 clear HW HR
 go_wp2_with fail
 refine HK.out.mono ?_
 rintro e w2 ⟨rfl, hb⟩
 clear HK
 have Hb := Lib.hid hb
 clear hb
 go_wp2
 go_ret
 exact ⟨rfl, Hb.out⟩
def PO {α : Type} (ok ok' : Bool) (o : Option (α × List Tk)) (v : α) (l' : List Tk) : Prop := ok' = (ok && o.isSome) ∧ (ok' = true → o = some (v, l'))
theorem nextT_may {l : List Tk} (h : ∀ t ∈ l, mayT t = true) : (nextT l).t.size ≤ 1000 := by
 cases l with
 | nil => exact Nat.zero_le _
 | cons t r => exact may_txt (h t (by simp))
theorem name_some (l : List Tk) : (nameP l).isSome = ((nextT l).k == 0 && nameB (nextT l).t.data.toList) := by
 cases l with
 | nil => rfl
 | cons t r =>
   rw [nameP]
   show _ = (t.k == 0 && nameB t.t.data.toList)
   cases (t.k == 0 && nameB t.t.data.toList) <;> rfl
theorem name_po (ok : Bool) (l : List Tk) : PO ok (ok && !l.isEmpty && (nameP l).isSome) (nameP l) (nextT l).t l.tail := by
 cases l with
 | nil => exact ⟨by simp [nameP], fun h => by simp [nameP] at h⟩
 | cons t r =>
   refine ⟨by simp, fun h => ?_⟩
   simp only [Bool.and_eq_true] at h
   have h2 := h.2
   rw [nameP] at h2 ⊢
   split at h2
   · rename_i hc; rw [if_pos hc]; rfl
   · cases h2
set_option maxHeartbeats 4000000 in
theorem qname_c (b : Nat) (l : List Tk) (ok : Bool) (w : World) (hP : Pq w b l ok) :
 Calls Tryz.prog 93 #[.pointer (some ⟨b, 0, none⟩)] w fun e w' => e = .returned (.string (nextT l).t) ∧ (∃ ok', Pq w' b l.tail ok' ∧ PO ok ok' (nameP l) (nextT l).t l.tail) ∧ Apq b w w' := by
 have HN := Lib.hid (qnext_c b l ok w hP)
 have hpo := name_po ok l
 rw [name_some] at hpo
 have hsz := nextT_may hP.may
 have HM := Lib.hid (fun u => name_c (nextT l).t.data.toList u (by unfold maxLen; rw [Array.length_toList]; show (nextT l).t.size ≤ _; omega))
 rw [ba_of] at HM
 obtain ⟨t, ht⟩ : ∃ t, nextT l = t := ⟨_, rfl⟩
 obtain ⟨q, hq⟩ : ∃ q, l.tail = q := ⟨_, rfl⟩
 obtain ⟨B, hB⟩ : ∃ B, nameB t.t.data.toList = B := ⟨_, rfl⟩
 obtain ⟨K, hK⟩ : ∃ K, (ok && !l.isEmpty) = K := ⟨_, rfl⟩
 rw [ht, hq, hK] at HN
 rw [ht, hq, hK] at hpo
 rw [ht] at HM
 rw [hB] at HM hpo
 rw [ht, hq]
 have Hpo := Lib.hid hpo
 have hb := hP.lt
 clear hpo hsz ht hq hB hK hP
 cases hk : (t.k == 0)
 · have hk2 : (t.k != 0) = true := by rw [bne, hk]; rfl
   rw [hk] at Hpo
   go_enter Tryz.func93, Tryz.ntmps93
   go_wp2_with fail
   refine HN.out.mono ?_
   rintro e w1 ⟨rfl, hp, ha⟩
   have HP := Lib.hid (hp.alloc (.cells #[.int .i64 t.k, .string t.t, .int .i64 t.v.k, .int .i64 t.v.n, .string t.v.s] 129))
   have HA := Lib.hid (ha.alloc (.cells #[.int .i64 t.k, .string t.t, .int .i64 t.v.k, .int .i64 t.v.n, .string t.v.s] 129))
   obtain ⟨p2, hfz⟩ := HP.out.ok
   have hbl := HP.out.lt
   clear hp ha HN HM
   go_wp2
   go_ret
   exact ⟨rfl, ⟨false, HP.out.not false, by have := Hpo.out; rwa [Bool.false_and, Bool.and_false] at this⟩, HA.out.set 2 _⟩
 · have hk2 : (t.k != 0) = false := by rw [bne, hk]; rfl
   rw [hk] at Hpo
   go_enter Tryz.func93, Tryz.ntmps93
   go_wp2_with fail
   refine HN.out.mono ?_
   rintro e w1 ⟨rfl, hp, ha⟩
   have HP := Lib.hid (hp.alloc (.cells #[.int .i64 t.k, .string t.t, .int .i64 t.v.k, .int .i64 t.v.n, .string t.v.s] 129))
   have HA := Lib.hid (ha.alloc (.cells #[.int .i64 t.k, .string t.t, .int .i64 t.v.k, .int .i64 t.v.n, .string t.v.s] 129))
   have HT : Hid (Bk (w1.alloc (.cells #[.int .i64 t.k, .string t.t, .int .i64 t.v.k, .int .i64 t.v.n, .string t.v.s] 129)) w1.heap.size #[.int .i64 t.k, .string t.t, .int .i64 t.v.k, .int .i64 t.v.n, .string t.v.s] 129) := Lib.hid (Bk.new w1 _ _)
   clear hp ha HN
   go_wp2_with fail
   refine (HM.out _).mono ?_
   rintro e w2 ⟨rfl, hb2⟩
   have HP2 := Lib.hid (HP.out.after hb2 HP.out.lt)
   have HA2 := Lib.hid (HA.out.then hb2 HA.out.size)
   have HT2 := Lib.hid (HT.out.after hb2 HT.out.lt)
   have c1 : w2.cell? ⟨w1.heap.size, 1, none⟩ = some (.string t.t) := HT2.out.cell 1
   have hl1 := HT2.out.lt
   obtain ⟨p2, hfz⟩ := HP2.out.ok
   have hbl := HP2.out.lt
   clear hb2 HP HA HT HM
   cases B
   · have hne : ¬ b = w1.heap.size := by
      intro e
      have := HP2.out.lt
      obtain ⟨A, n, c, k, xs, hbk, _⟩ := HP2.out
      rw [e] at hbk
      have h1 := HT2.out.cell 0
      rw [hbk.cell 0] at h1
      cases h1
     go_wp2
     go_ret
     exact ⟨rfl, ⟨false, HP2.out.not false, by have := Hpo.out; rwa [Bool.and_false, Bool.and_false] at this⟩, HA2.out.set 2 _⟩
   · go_wp2
     go_ret
     exact ⟨rfl, ⟨K, HP2.out, by have := Hpo.out; rwa [Bool.true_and, Bool.and_true] at this⟩, HA2.out⟩
theorem col_some (l : List Tk) : (colP l).isSome = ((nextT l).k == 1 && ((nextT l).v.k == 2 && (decide (0 ≤ (nextT l).v.n) && decide ((nextT l).v.n ≤ 99)))) := by
 cases l with
 | nil => rfl
 | cons t r =>
   rw [colP]
   show _ = (t.k == 1 && (t.v.k == 2 && (decide (0 ≤ t.v.n) && decide (t.v.n ≤ 99))))
   cases (t.k == 1 && (t.v.k == 2 && (decide (0 ≤ t.v.n) && decide (t.v.n ≤ 99)))) <;> rfl
theorem col_po (ok : Bool) (l : List Tk) : PO ok (ok && !l.isEmpty && (colP l).isSome) (colP l) (nextT l).v.n l.tail := by
 cases l with
 | nil => exact ⟨by simp [colP], fun h => by simp [colP] at h⟩
 | cons t r =>
   refine ⟨by simp, fun h => ?_⟩
   simp only [Bool.and_eq_true] at h
   have h2 := h.2
   rw [colP] at h2 ⊢
   split at h2
   · rename_i hc; rw [if_pos hc]; rfl
   · cases h2
set_option maxHeartbeats 4000000 in
theorem qcol_c (b : Nat) (l : List Tk) (ok : Bool) (w : World) (hP : Pq w b l ok) :
 Calls Tryz.prog 97 #[.pointer (some ⟨b, 0, none⟩)] w fun e w' => e = .returned (.int .i64 (nextT l).v.n) ∧ (∃ ok', Pq w' b l.tail ok' ∧ PO ok ok' (colP l) (nextT l).v.n l.tail) ∧ Apq b w w' := by
 have HN := Lib.hid (qnext_c b l ok w hP)
 have hpo := col_po ok l
 rw [col_some] at hpo
 obtain ⟨t, ht⟩ : ∃ t, nextT l = t := ⟨_, rfl⟩
 obtain ⟨q, hq⟩ : ∃ q, l.tail = q := ⟨_, rfl⟩
 obtain ⟨K, hK⟩ : ∃ K, (ok && !l.isEmpty) = K := ⟨_, rfl⟩
 rw [ht, hq, hK] at HN
 rw [ht, hq, hK] at hpo
 rw [ht, hq]
 have Hpo := Lib.hid hpo
 have hb := hP.lt
 clear hpo ht hq hK hP
 have b1 : (t.k != 1) = !(t.k == 1) := rfl
 have b2 : (t.v.k != 2) = !(t.v.k == 2) := rfl
 have b3 : decide (t.v.n < 0) = !(decide (0 ≤ t.v.n)) := by rw [Bool.eq_iff_iff]; simp
 have b4 : decide (99 < t.v.n) = !(decide (t.v.n ≤ 99)) := by rw [Bool.eq_iff_iff]; simp
 have H1 := Lib.hid b1
 have H2 := Lib.hid b2
 have H3 := Lib.hid b3
 have H4 := Lib.hid b4
 clear b1 b2 b3 b4
 cases h1 : (t.k == 1)
 all_goals cases h2 : (t.v.k == 2)
 all_goals cases h3 : decide (0 ≤ t.v.n)
 all_goals cases h4 : decide (t.v.n ≤ 99)
 all_goals
  have g1 := H1.out
  have g2 := H2.out
  have g3 := H3.out
  have g4 := H4.out
  rw [h1] at g1
  rw [h2] at g2
  rw [h3] at g3
  rw [h4] at g4
  simp only [Bool.not_true, Bool.not_false] at g1 g2 g3 g4
  have hpo := Hpo.out
  rw [h1, h2, h3, h4] at hpo
  simp only [Bool.false_and, Bool.and_false, Bool.true_and, Bool.and_true] at hpo
  have Hpo2 := Lib.hid hpo
  clear Hpo hpo H1 H2 H3 H4 h1 h2 h3 h4
  go_enter Tryz.func97, Tryz.ntmps97
  go_wp2_with fail
  refine HN.out.mono ?_
  rintro e w1 ⟨rfl, hp, ha⟩
  have HP := Lib.hid (hp.alloc (.cells #[.int .i64 t.k, .string t.t, .int .i64 t.v.k, .int .i64 t.v.n, .string t.v.s] 129))
  have HA := Lib.hid (ha.alloc (.cells #[.int .i64 t.k, .string t.t, .int .i64 t.v.k, .int .i64 t.v.n, .string t.v.s] 129))
  obtain ⟨p2, hfz⟩ := HP.out.ok
  have hbl := HP.out.lt
  have hbb := hp.lt
  have hne : ¬ b = w1.heap.size := by omega
  have Hp1 := Lib.hid hp
  have Ha1 := Lib.hid ha
  clear hp ha HN
  go_wp2
  go_ret
  first
   | exact ⟨rfl, ⟨false, HP.out.not false, Hpo2.out⟩, HA.out.set 2 _⟩
   | exact ⟨rfl, ⟨false, (Hp1.out.not false).alloc _, Hpo2.out⟩, (Ha1.out.set 2 _).alloc _⟩
   | exact ⟨rfl, ⟨K, HP.out, Hpo2.out⟩, HA.out⟩
theorem take_isW (s : List UInt8) (t : Tk) (r : List Tk) : takeP s (t :: r) = if isW s t then (true, r) else (false, t :: r) := rfl
set_option maxHeartbeats 4000000 in
theorem qone_c (b : Nat) (l : List Tk) (ok : Bool) (ws : List (List UInt8)) (Aw : Option Addr) (nw cw : Nat) (w : World) (hP : Pq w b l ok) (hW : SlG w Aw 1 rdS ws) (hA : ∀ k, Aw.map (·.block) = some k → k ≠ b) (hnw : ws.length = nw) (hmw : nw ≤ 1000) :
 Calls Tryz.prog 61 #[.pointer (some ⟨b, 0, none⟩), .slice Aw nw cw] w fun e w' => (∃ (v : Int) (l' : List Tk) (ok' : Bool), e = .returned (.int .i64 v) ∧ (0 ≤ v ∧ v ≤ 1000) ∧ Pq w' b l' ok' ∧ PO ok ok' (oneP ws l) v l') ∧ Apq b w w' := by
 obtain ⟨S, hS⟩ : ∃ S : Ending → World → Prop, (fun e w' => (∃ (v : Int) (l' : List Tk) (ok' : Bool), e = .returned (.int .i64 v) ∧ (0 ≤ v ∧ v ≤ 1000) ∧ Pq w' b l' ok' ∧ PO ok ok' (oneP ws l) v l') ∧ Apq b w w') = S := ⟨_, rfl⟩
 show Calls _ _ _ _ (fun e w' => (fun e w' => (∃ (v : Int) (l' : List Tk) (ok' : Bool), e = .returned (.int .i64 v) ∧ (0 ≤ v ∧ v ≤ 1000) ∧ Pq w' b l' ok' ∧ PO ok ok' (oneP ws l) v l') ∧ Apq b w w') e w')
 rw [hS]
 have HS := Lib.hid hS
 have HP := Lib.hid hP
 have HW := Lib.hid hW
 have HA := Lib.hid hA
 have Hn := Lib.hid hnw
 have hb := hP.lt
 clear hS hP hW hA hnw
 go_enter Tryz.func61, Tryz.ntmps61
 go_wp2_with fail
 go_loopw [5] (fun i wr => ∃ k : Nat, k ≤ nw ∧ i = .int .i64 k ∧ Hid (Pq wr b l ok) ∧ Hid (Apq b w wr) ∧ Hid (∀ (j : Nat) (s : List UInt8), j < k → ws[j]? = some s → (takeP s l).1 = false)) (fun i _ => nw - (intOf i).toNat)
 case atStart => exact ⟨0, Nat.zero_le _, rfl, HP, Lib.hid (Apq.refl b w), Lib.hid (fun j s h => absurd h (Nat.not_lt_zero _))⟩
 case round =>
  obtain ⟨k, hk, rfl, hp, ha, hall⟩ := hrel
  by_cases hlt : k < nw
  · have hsl := SlG.keptq (B := 0) HW.out ha.out HA.out
    obtain ⟨b1, o1, s, hA1, hb1, hs, d1⟩ := hsl.at1 (by rw [Hn.out]; exact hlt)
    have d1 := d1 _ rfl
    have Hs := Lib.hid hs
    have HT := Lib.hid (qtake_c b l ok s wr hp.out)
    subst hA1
    have hbr := hp.out.lt
    clear hs hsl
    go_wp2_with fail
    refine HT.out.mono ?_
    rintro e w1 ⟨rfl, hp1, ha1⟩
    have Hp1 := Lib.hid hp1
    have Ha1 := Lib.hid (ha.out.trans ha1)
    clear hp1 ha1 HT
    cases hR : (takeP s l).1
    · rw [take_no hR] at Hp1
      have hall2 : ∀ (j : Nat) (s : List UInt8), j < k + 1 → ws[j]? = some s → (takeP s l).1 = false := by
       intro j s' hj h1
       by_cases hjk : j = k
       · subst hjk
         rw [Hs.out] at h1
         obtain rfl := Option.some.inj h1
         exact hR
       · exact hall.out j s' (by omega) h1
      have Hall := Lib.hid hall2
      clear hR hall hall2 hp ha Hs d1
      go_wp2
      go_roundw
      case rel => exact ⟨k + 1, by omega, by go_num, Hp1, Ha1, Hall⟩
      case measure => simp [intOf]; omega
    · have hone : oneP ws l = some ((k : Int), (takeP s l).2) := by
       cases l with
       | nil => cases hR
       | cons t r =>
         rw [take_isW] at hR ⊢
         have hw : isW s t = true := by
          cases e : isW s t
          · rw [e] at hR; cases hR
          · rfl
         rw [hw, oneP]
         have key : ∀ (ws : List (List UInt8)) (i : Int) (k : Nat), (∀ (j : Nat) (s : List UInt8), j < k → ws[j]? = some s → isW s t = false) → ws[k]? = some s → oneF ws i t = some (i + k) := by
          intro ws
          induction ws with
          | nil => intro i k _ h; simp at h
          | cons u ws ih =>
            intro i k h1 h2
            rw [oneF]
            cases k with
            | zero =>
              simp at h2
              subst h2
              rw [hw]; simp
            | succ k =>
              rw [h1 0 u (by omega) rfl]
              simp only [Bool.false_eq_true, if_false]
              rw [ih (i + 1) k (fun j s' hj h3 => h1 (j + 1) s' (by omega) (by simpa using h3)) (by simpa using h2)]
              congr 1
              push_cast
              omega
         rw [key ws 0 k (fun j s' hj h3 => by
          have := hall.out j s' hj h3
          rw [take_isW] at this
          cases e : isW s' t
          · rfl
          · rw [e] at this; cases this) Hs.out]
         simp
      have Hone := Lib.hid hone
      clear hR hall hp ha Hs d1 hone
      go_wp2
      rw [← HS.out]
      refine ⟨⟨_, _, _, rfl, ⟨by omega, by omega⟩, Hp1.out, ?_⟩, Ha1.out⟩
      rw [Hone.out]
      exact ⟨by simp, fun _ => rfl⟩
  · have hke : k = nw := by omega
    have hnone : oneP ws l = none := by
     cases l with
     | nil => rfl
     | cons t r =>
       rw [oneP]
       have key : ∀ (ws : List (List UInt8)) (i : Int), (∀ s ∈ ws, isW s t = false) → oneF ws i t = none := by
        intro ws
        induction ws with
        | nil => intro i _; rfl
        | cons u ws ih =>
          intro i h
          rw [oneF, h u (by simp)]
          simp only [Bool.false_eq_true, if_false]
          exact ih _ fun s hs => h s (List.mem_cons_of_mem _ hs)
       rw [key ws 0 (fun s hs => by
        obtain ⟨j, hj⟩ := List.getElem?_of_mem hs
        have := hall.out j s (by have := (List.getElem?_eq_some_iff.1 hj).1; rw [Hn.out] at this; omega) hj
        rw [take_isW] at this
        cases e : isW s t
        · rfl
        · rw [e] at this; cases this)]
       rfl
    have Hnone := Lib.hid hnone
    obtain ⟨p2, hfz⟩ := hp.out.ok
    have hbl := hp.out.lt
    clear hnone hall
    go_wp2
    rw [← HS.out]
    refine ⟨⟨_, _, _, rfl, ⟨by omega, by omega⟩, hp.out.not false, ?_⟩, ha.out.set 2 _⟩
    rw [Hnone.out]
    exact ⟨by simp, fun h => by cases h⟩
end Go.Proofs.YtjgpmnffagdhlaaGreatDoor
