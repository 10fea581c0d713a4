/-
  Part 8 of 11 of what the proof leans on: each part below says what it proves, and of what; no condition besides.
-/
import Derived.Test.YtbpopkgpepmlcaaGreatR01
import Derived.Test.YtbpopkgpepmlcaaGreatR07
import Derived.Deep.RegionLaw
import Derived.Deep.AppendLies
import Derived.Deep.RegionHeld3
set_option linter.unusedVariables false
set_option linter.unusedSimpArgs false
namespace Go.Proofs.YtbpopkgpepmlcaaGreat
open Go Go.RowKit
set_option maxRecDepth 100000
theorem Nx.cell3 {w : World} {b : Nat} {x : Nd} (h : Nx w b x) : w.cell? ⟨b, 3, none⟩ = some (.int .i64 x.v.n) := by unfold Nx at h; simp [World.cell?, h, Nd.cells]
theorem Nx.cell4 {w : World} {b : Nat} {x : Nd} (h : Nx w b x) : w.cell? ⟨b, 4, none⟩ = some (.string x.v.s) := by unfold Nx at h; simp [World.cell?, h, Nd.cells]
set_option maxRecDepth 100000
attribute [local go_sem ↓] run_eqV run_neV
end Go.Proofs.YtbpopkgpepmlcaaGreat
namespace Go.Proofs.YtbpopkgpepmlcaaGreat
open Go Go.RowKit
set_option maxRecDepth 100000
set_option maxRecDepth 100000
theorem fitB_two (k a b : Int) : fitB k [a, b] = ((a == k || a == 0) && (b == k || b == 0)) := by
 simp only [fitB, bne]
 cases a == k <;> cases a == 0 <;> cases b == k <;> cases b == 0 <;> rfl
theorem fitB_one (k a : Int) : fitB k [a] = (a == k || a == 0) := by
 simp only [fitB, bne]
 cases a == k <;> cases a == 0 <;> rfl
theorem fit_eq (a b : Int) : (fitB a [a, b] || fitB b [a, b]) = (a == b || a == 0 || b == 0) := by
 rw [fitB_two, fitB_two, beq_self_eq_true, beq_self_eq_true, Bool.beq_comm (a := b) (b := a)]
 cases a == b <;> cases a == 0 <;> cases b == 0 <;> rfl
theorem lv_two (op a b : Int) (h : 2 ≤ op) (h' : op ≤ 8) : (lvR op a b).2 = (kindR op [a, b]).2 := by
 rcases ops_cases op with rfl | rfl | rfl | rfl | rfl | rfl | rfl | rfl | rfl | ⟨h2, h3, h4, h5, h6, h7, h8, _, _⟩
 · exact (fitB_two 2 a b).symm
 · exact (fitB_two 2 a b).symm
 · exact (fitB_two 2 a b).symm
 · exact (fit_eq a b).symm
 · exact (fit_eq a b).symm
 · exact (fitB_two 1 a b).symm
 · exact (fitB_two 1 a b).symm
 · omega
 · omega
 · simp only [beq_eq_false_iff_ne] at h2 h3 h4 h5 h6 h7 h8
   omega
theorem lv_one (op a b : Int) (h : op = 9 ∨ op = 10) : (lvR op a b).2 = (kindR op [b]).2 := by
 rcases h with rfl | rfl
 · exact (fitB_one 1 b).symm
 · rfl
theorem tk_bad (op : Int) (h : tkR op = -1) : (op == 0) = false ∧ (op == 1) = false ∧ takes op = 0 ∧ ∀ l, (kindR op l).2 = false := by
 unfold tkR at h
 cases h0 : op == 0
 · cases h1 : op == 1
   · cases h9 : op == 9
     · cases h10 : op == 10
       · cases h2 : (decide (2 ≤ op) && decide (op ≤ 8))
         · refine ⟨rfl, rfl, ?_, fun l => ?_⟩
           · have a1 : ¬ (2 ≤ op ∧ op ≤ 8) := by simpa using h2
             have a2 : ¬ (op = 9 ∨ op = 10) := by simp at h9 h10; omega
             unfold takes
             rw [if_neg a1, if_neg a2]
           · have a1 : ¬ (2 ≤ op ∧ op ≤ 8) := by simpa using h2
             have e : ∀ k : Int, 2 ≤ k → k ≤ 8 → (op == k) = false := fun k hk hk' => by simp; omega
             unfold kindR
             rw [e 2 (by omega) (by omega), e 3 (by omega) (by omega), e 4 (by omega) (by omega), e 5 (by omega) (by omega), e 6 (by omega) (by omega), e 7 (by omega) (by omega), e 8 (by omega) (by omega), h9, h10]
             rfl
         · rw [h0, h1, h9, h10, h2] at h; cases h
       · rw [h0, h1, h9, h10] at h; cases h
     · rw [h0, h1, h9] at h; cases h
   · rw [h0, h1] at h; cases h
 · rw [h0] at h; cases h
theorem tk_cases (op : Int) : tkR op = -1 ∨ op = 0 ∨ op = 1 ∨ (op = 9 ∨ op = 10) ∨ (2 ≤ op ∧ op ≤ 8) := by
 unfold tkR
 cases h0 : op == 0
 · cases h1 : op == 1
   · cases h9 : op == 9
     · cases h10 : op == 10
       · cases h2 : (decide (2 ≤ op) && decide (op ≤ 8))
         · exact .inl rfl
         · exact .inr (.inr (.inr (.inr (by simpa using h2))))
       · exact .inr (.inr (.inr (.inl (.inr (by simpa using h10)))))
     · exact .inr (.inr (.inr (.inl (.inl (by simpa using h9)))))
   · exact .inr (.inr (.inl (by simpa using h1)))
 · exact .inr (.inl (by simpa using h0))
theorem tk_two (op : Int) (h : 2 ≤ op ∧ op ≤ 8) : tkR op = 2 ∧ takes op = 2 ∧ (op == 0) = false ∧ (op == 1) = false := by
 have e : ∀ k : Int, k < 2 ∨ 8 < k → (op == k) = false := fun k hk => by simp; omega
 refine ⟨?_, ?_, e 0 (by omega), e 1 (by omega)⟩
 · unfold tkR
   rw [e 0 (by omega), e 1 (by omega), e 9 (by omega), e 10 (by omega), decide_eq_true h.1, decide_eq_true h.2]
   rfl
 · unfold takes
   rw [if_pos h]
theorem tk_one (op : Int) (h : op = 9 ∨ op = 10) : tkR op = 1 ∧ takes op = 1 ∧ (op == 0) = false ∧ (op == 1) = false := by
 rcases h with rfl | rfl <;> exact ⟨rfl, rfl, rfl, rfl⟩
theorem stepV_bad (row ls : List Val) (x : Nd) (h : tkR x.op = -1) : stepV row ls x = .inl 30 := by
 obtain ⟨h0, h1, ht, hk⟩ := tk_bad x.op h
 have e : lvV row ls x = (nl, 30, ls.take (ls.length - 0)) := by
  unfold lvV
  rw [h0, h1, ht, if_neg Bool.false_ne_true, if_neg Bool.false_ne_true, if_neg (Nat.not_lt_zero _)]
  unfold opR mtR
  rw [hk]
  rfl
 unfold stepV
 rw [e]
 rfl
theorem stepV_few (row ls : List Val) (x : Nd) (h0 : (x.op == 0) = false) (h1 : (x.op == 1) = false) (h : ls.length < takes x.op) : stepV row ls x = .inl 30 := by
 have e : lvV row ls x = (nl, 30, ls) := by
  unfold lvV
  rw [h0, h1, if_neg Bool.false_ne_true, if_neg Bool.false_ne_true, if_pos h]
 unfold stepV
 rw [e]
 rfl
theorem stepV_col (row ls : List Val) (x : Nd) (h0 : (x.op == 0) = true) (i : Nat) (v : Val) (hi : x.n = i) (hv : row[i]? = some v) : stepV row ls x = .inr (ls ++ [v]) := by
 have e : lvV row ls x = (v, 0, ls) := by
  unfold lvV
  rw [h0, if_pos rfl]
  unfold vcolR
  rw [hi, if_neg (by omega), Int.toNat_natCast, hv]
 unfold stepV
 rw [e]
 rfl
theorem stepV_nocol (row ls : List Val) (x : Nd) (h0 : (x.op == 0) = true) (h : x.n < 0 ∨ (row.length : Int) ≤ x.n) : stepV row ls x = .inl 30 := by
 have e : lvV row ls x = (nl, 30, ls) := by
  unfold lvV
  rw [h0, if_pos rfl]
  unfold vcolR
  rcases h with h | h
  · rw [if_pos h]
  · by_cases h' : x.n < 0
    · rw [if_pos h']
    · rw [if_neg h', List.getElem?_eq_none (by omega)]
 unfold stepV
 rw [e]
 rfl
theorem stepV_con (row ls : List Val) (x : Nd) (h0 : (x.op == 0) = false) (h1 : (x.op == 1) = true) : stepV row ls x = if rmB x.v then .inr (ls ++ [x.v]) else .inl 30 := by
 have e : lvV row ls x = ((conR x.v).1, (conR x.v).2, ls) := by
  unfold lvV
  rw [h0, h1, if_neg Bool.false_ne_true, if_pos rfl]
 unfold stepV
 rw [e]
 unfold conR
 rw [may_rm]
 cases rmB x.v <;> rfl
theorem stepV_op (row rest ts : List Val) (x : Nd) (h0 : (x.op == 0) = false) (h1 : (x.op == 1) = false) (ht : ts.length = takes x.op) :
 stepV row (rest ++ ts) x = if mtR x.op ts then (if (cmpR x.op ts).2 then .inr (rest ++ [(cmpR x.op ts).1]) else .inl 31) else .inl 30 := by
 have hl : (rest ++ ts).length - takes x.op = rest.length := by rw [List.length_append, ht]; omega
 have e : lvV row (rest ++ ts) x = ((opR x.op ts).1, (opR x.op ts).2, rest) := by
  unfold lvV
  rw [h0, h1, if_neg Bool.false_ne_true, if_neg Bool.false_ne_true, if_neg (by rw [List.length_append, ht]; omega), hl, List.drop_left, List.take_left]
 unfold stepV
 rw [e]
 unfold opR
 cases mtR x.op ts
 · rfl
 · cases (cmpR x.op ts).2 <;> rfl
theorem nl_64 : I6n nl.n := ⟨by decide, by decide⟩
theorem tv_64 (b : Bool) : I6n (tv b).n := by cases b <;> exact ⟨by decide, by decide⟩
theorem nt_64 (x : Val) : I6n (nt x).n := by
 unfold nt
 split
 · exact ⟨by decide, by decide⟩
 · split
   · exact ⟨by decide, by decide⟩
   · exact ⟨by decide, by decide⟩
theorem wrap_64 (n : Int) : I6n (wrap64 n) := by unfold I6n wrap64; omega
theorem comp_64 (x y : Val) (r : Int) (f : Bool) (hr : I6n r) : I6n (comp x y r f).1.n := by
 unfold comp
 split
 · exact nl_64
 · split
   · exact nl_64
   · split
     · exact hr
     · exact nl_64
theorem dec_64R (s t : Val) (hs : I6n s.n) : ∀ (l : List Val) (a : Val), I6n a.n → I6n (dec s t a l).n
 | [], a, h => by rw [dec]; exact h
 | v :: r, a, h => by
   rw [dec]
   split
   · exact hs
   · split
     · exact dec_64R s t hs r _ h
     · exact dec_64R s t hs r _ nl_64
theorem unl_64 (b : Bool) (l : List Val) : I6n (unl b l).n := by
 unfold unl
 split
 · exact nl_64
 · exact tv_64 b
theorem mulIs_64 (a b : Int) : I6n (mulIs a b) := by
 unfold mulIs
 split
 · exact ⟨by decide, by decide⟩
 · split
   · exact ⟨by decide, by decide⟩
   · exact wrap_64 _
theorem cmpR_64 (op : Int) (l : List Val) : I6n (cmpR op l).1.n := by
 unfold cmpR
 split
 · exact comp_64 _ _ _ _ (wrap_64 _)
 · split
   · exact comp_64 _ _ _ _ (wrap_64 _)
   · split
     · exact comp_64 _ _ _ _ (mulIs_64 _ _)
     · split
       · exact unl_64 _ _
       · split
         · exact unl_64 _ _
         · split
           · exact dec_64R ff _ ⟨by decide, by decide⟩ l _ (by rw [nt_ff]; exact ⟨by decide, by decide⟩)
           · split
             · exact dec_64R tt _ ⟨by decide, by decide⟩ l _ (by rw [nt_tt]; exact ⟨by decide, by decide⟩)
             · split
               · exact nt_64 _
               · exact tv_64 _
theorem split1 (ls : List Val) (r : Nat) (h : ls.length = r + 1) : ∃ rest b, ls = rest ++ [b] ∧ rest.length = r := by
 refine ⟨ls.take r, ls[r]'(by omega), ?_, by rw [List.length_take]; omega⟩
 have e : ls.drop r = [ls[r]'(by omega)] := by
  rw [List.drop_eq_getElem_cons (by omega), List.drop_eq_nil_of_le (by omega)]
 rw [← e, List.take_append_drop]
theorem split2 (ls : List Val) (r : Nat) (h : ls.length = r + 2) : ∃ rest a b, ls = rest ++ [a, b] ∧ rest.length = r := by
 refine ⟨ls.take r, ls[r]'(by omega), ls[r + 1]'(by omega), ?_, by rw [List.length_take]; omega⟩
 have e : ls.drop r = [ls[r]'(by omega), ls[r + 1]'(by omega)] := by
  rw [List.drop_eq_getElem_cons (by omega), List.drop_eq_getElem_cons (by omega), List.drop_eq_nil_of_le (by omega)]
 rw [← e, List.take_append_drop]
def outV : Sum Int (List Val) → Val × Int
 | .inl er => (nl, er)
 | .inr [] => (nl, 30)
 | .inr [x] => (x, 0)
 | .inr (_ :: _ :: _) => (nl, 30)
theorem evalR_out (e : List Nd) (row : List Val) (h : e.length ≤ 100) : evalR e row = outV (goS (stepV row) [] e) := by
 unfold evalR
 rw [if_neg (by omega)]
 match goS (stepV row) [] e with
 | .inl er => rfl
 | .inr [] => rfl
 | .inr [x] => rfl
 | .inr (_ :: _ :: _) => rfl
def valRd (x : Val) : List Value := [.int .i64 x.k, .int .i64 x.n, .string x.s]
theorem valOk : ElOk Tryz.prog 41 46 3 32 nl.v valRd where
 under := Tryz.underlying41
 info := by kernel_rfl
 zs := rfl
 pos := by decide
 len := fun _ => rfl
 one := fun x u hu => by
  simp [valRd] at hu
  rcases hu with rfl | rfl | rfl <;> rfl
abbrev OwnW (w : World) (B : Nat) (v : Value) (l : List Val) : Prop := OwnG w B 46 3 valRd v l
theorem SlG.take {α : Type} {rd : α → List Value} {S : Nat} {w : World} {A : Option Addr} {xs : List α} (h : SlG w A S rd xs) (n : Nat) : SlG w A S rd (xs.take n) := by
 rcases h with h | ⟨b, off, hA, hlt, h⟩
 · exact .inl (by rw [h]; simp)
 · refine .inr ⟨b, off, hA, hlt, fun i x hx j u hu => h i x ?_ j u hu⟩
   rw [List.getElem?_take] at hx
   split at hx
   · exact hx
   · cases hx
set_option maxRecDepth 100000
section
variable {α : Type} {rd : α → List Value} {S : Nat} {P : Program} {T E : TypeId} {bytes : Nat} {z : Value}
end
section
variable {α β : Type} {rd : α → List Value} {rd' : β → List Value} {S S' : Nat} {E E' : TypeId}
end
end Go.Proofs.YtbpopkgpepmlcaaGreat
namespace Go.Proofs.YtbpopkgpepmlcaaGreat
open Go Go.RowKit
set_option maxRecDepth 100000
attribute [local go_sem ↓] Go.wp_at_zero Go.wp_at_succ
structure EvJ (w : World) (v : Value) (ls : List Val) (wr : World) : Prop where
 own : OwnW wr (w.heap.size + 2) v ls
 res : Bx wr w.heap.size nl
 none : Bx wr (w.heap.size + 1) nl
 below : Below w.heap.size w wr
 in64 : ∀ x ∈ ls, I6n x.n
theorem EvJ.after {w wr w' : World} {v : Value} {ls : List Val} (h : EvJ w v ls wr) (hb : Below wr.heap.size wr w') : EvJ w v ls w' :=
 ⟨h.own.after hb, h.res.after hb, h.none.after hb, h.below.trans (hb.mono h.below.size), h.in64⟩
theorem EvJ.size {w wr : World} {v : Value} {ls : List Val} (h : EvJ w v ls wr) : w.heap.size + 2 ≤ wr.heap.size := by have := h.none.lt; omega
theorem EvJ.drew {w wr : World} {v : Value} {ls : List Val} (h : EvJ w v ls wr) : EvJ w v ls wr.drew := ⟨h.own, h.res, h.none, ⟨h.below.os, h.below.tape, h.below.output, h.below.size, h.below.block⟩, h.in64⟩
theorem EvJ.grown {w wr w' : World} {v v' : Value} {ls ls' : List Val} (h : EvJ w v ls wr) {u : Value} (ho : OwnW w' (w.heap.size + 2) v' ls') (hg : wr.grownBy w' u.ownBlock) (hu : ∀ k, u.ownBlock = some k → w.heap.size + 2 ≤ k) (h64 : ∀ x ∈ ls', I6n x.n) : EvJ w v' ls' w' := by
 have hs := h.size
 refine ⟨ho, ?_, ?_, h.below.grown hg h.below.size (fun k hk => by have := hu k hk; omega), h64⟩
 · exact (hg.block _ h.res.lt (fun e => by have := hu _ e.symm; omega)).trans h.res
 · exact (hg.block _ h.none.lt (fun e => by have := hu _ e.symm; omega)).trans h.none
theorem EvJ.fin {w wr : World} {v : Value} {ls : List Val} (h : EvJ w v ls wr) (x : Val) : Bx (put3 wr w.heap.size x) w.heap.size x ∧ Below w.heap.size w (put3 wr w.heap.size x) := ⟨h.res.put x, put3_below h.below (Nat.le_refl _) x⟩
structure EvB (w wr : World) : Prop where
 res : Bx wr w.heap.size nl
 none : Bx wr (w.heap.size + 1) nl
 below : Below w.heap.size w wr
theorem EvJ.base {w wr : World} {v : Value} {ls : List Val} (h : EvJ w v ls wr) : EvB w wr := ⟨h.res, h.none, h.below⟩
theorem EvB.after {w wr w' : World} (h : EvB w wr) (hb : Below wr.heap.size wr w') : EvB w w' := ⟨h.res.after hb, h.none.after hb, h.below.trans (hb.mono h.below.size)⟩
theorem SlG.grown {w w' : World} {b off S : Nat} {rd : Val → List Value} {xs : List Val} {row : Option Nat} (h : SlG w (some ⟨b, off, none⟩) S rd xs) (hg : w.grownBy w' row) (hne : some b ≠ row) : SlG w' (some ⟨b, off, none⟩) S rd xs := by
 rcases h with h | ⟨b', off', hA, hlt, h⟩
 · exact .inl h
 · injection hA with hA
   injection hA with e1 e2 _
   subst e1 e2
   exact .inr ⟨b, off, rfl, Nat.lt_of_lt_of_le hlt hg.size, fun i y hy j u hu => (World.cell?_of_block (a := ⟨b, _, none⟩) (hg.block b hlt hne)).trans (h i y hy j u hu)⟩
theorem EvJ.putp {w wr : World} {v : Value} {ls : List Val} (h : EvJ w v ls wr) {p : Nat} (hp : w.heap.size + 2 ≤ p) (hown : ∀ k, v.ownBlock = some k → k ≠ p) (x : Val) : EvJ w v ls (put3 wr p x) :=
 ⟨h.own.same fun k hk => put3_heap wr p k x (hown k hk), put3_other h.res (by omega), put3_other h.none (by omega), put3_below h.below (by omega) x, h.in64⟩
theorem SlG.putp {w : World} {b off S : Nat} {rd : Val → List Value} {xs : List Val} {p : Nat} (h : SlG w (some ⟨b, off, none⟩) S rd xs) (hne : ∀ c, some b = some c → c ≠ p) (x : Val) : SlG (put3 w p x) (some ⟨b, off, none⟩) S rd xs := by
 rcases h with h | ⟨b', off', hA, hlt, h⟩
 · exact .inl h
 · refine .inr ⟨b', off', hA, by rw [put3_size]; exact hlt, fun i y hy j u hu => ?_⟩
   injection hA with hA
   injection hA with e1 _ _
   have e : (put3 w p x).heap[b']? = w.heap[b']? := put3_heap w p b' x (by rw [← e1]; exact hne b rfl)
   exact (World.cell?_of_block (a := ⟨b', _, none⟩) e).trans (h i y hy j u hu)
set_option maxHeartbeats 1000000 in
theorem reval_many (A A2 : Option Addr) (n c m c2 : Nat) (w : World) (hn : 100 < n) (hmax : n ≤ maxLen) :
 Calls Tryz.prog 48 #[.slice A n c, .slice A2 m c2] w fun en w' => en = .returned (.tuple #[nl.v, .int .i64 1]) ∧ Below w.heap.size w w' := by
 have hm1 : n ≤ 9223372036854775807 := hmax
 have h1 : decide ((100 : Int) < n) = true := decide_eq_true (by omega)
 clear hmax
 go_enter Tryz.func48, Tryz.ntmps48
 go_wp2
 exact ret_valX (a := nl) (z := .int .i64 1) Tryz.results48 rfl rfl ((Bx.new w nl).alloc _) rfl ⟨rfl, below_two _ _ _⟩
set_option maxHeartbeats 8000000 in
theorem reval_few (A A2 : Option Addr) (n c m c2 : Nat) (e : List Nd) (row : List Val) (w : World) (hn : e.length = n) (hs : SlN w A e) (hmax : n ≤ 100) (hm : row.length = m) (hmax2 : m ≤ maxLen) (hs2 : Sl w A2 row) (hz : ∀ x ∈ e, x.v.s.size ≤ maxLen) (hr64 : ∀ v ∈ row, I6n v.n) (he64 : ∀ x ∈ e, I6n x.v.n) :
 Calls Tryz.prog 48 #[.slice A n c, .slice A2 m c2] w fun en w' => en = .returned (.tuple #[(evalR e row).1.v, .int .i64 (evalR e row).2]) ∧ Below w.heap.size w w' := by
 have hm2 : m ≤ 9223372036854775807 := hmax2
 have Hn := Lib.hid hn
 have Hs := Lib.hid hs
 have Hm := Lib.hid hm
 have Hs2 := Lib.hid hs2
 have Hz := Lib.hid hz
 have Hr64 := Lib.hid hr64
 have He64 := Lib.hid he64
 have hT : evalR e row = outV (goS (stepV row) [] e) := evalR_out e row (by omega)
 obtain ⟨R, hR⟩ : ∃ R, evalR e row = R := ⟨_, rfl⟩
 rw [hR] at hT ⊢
 have HT := Lib.hid hT
 have h1 : decide ((100 : Int) < n) = false := decide_eq_false (by omega)
 clear hn hs hm hs2 hz hR hT hr64 he64 hmax2
 go_enter Tryz.func48, Tryz.ntmps48
 go_wp2_with fail
 have J0 : EvJ w (.slice (some ⟨w.heap.size + 2, 0, none⟩) 0 0) [] (((w.alloc (.cells #[.int .i64 nl.k, .int .i64 nl.n, .string nl.s] 46)).alloc (.cells #[.int .i64 nl.k, .int .i64 nl.n, .string nl.s] 46)).alloc (.cells #[] 46)) := by
  have hsz : ((w.alloc (.cells #[.int .i64 nl.k, .int .i64 nl.n, .string nl.s] 46)).alloc (.cells #[.int .i64 nl.k, .int .i64 nl.n, .string nl.s] 46)).heap.size = w.heap.size + 2 := by simp
  have ho : OwnW (((w.alloc (.cells #[.int .i64 nl.k, .int .i64 nl.n, .string nl.s] 46)).alloc (.cells #[.int .i64 nl.k, .int .i64 nl.n, .string nl.s] 46)).alloc (.cells #[] 46)) (w.heap.size + 2) (.slice (some ⟨((w.alloc (.cells #[.int .i64 nl.k, .int .i64 nl.n, .string nl.s] 46)).alloc (.cells #[.int .i64 nl.k, .int .i64 nl.n, .string nl.s] 46)).heap.size, 0, none⟩) 0 0) [] := OwnG.made _ _ _ #[] 0 (by rw [hsz]; omega) (Nat.zero_le _) rfl
  rw [hsz] at ho
  exact ⟨ho, ((Bx.new w nl).alloc _).alloc _, (Bx.new1 w nl _).alloc _, below_three _ _ _ _, fun x h => by cases h⟩
 have HJ0 := Lib.hid J0
 clear J0
 go_loopw [7, 8] (fun v i wr => ∃ (k : Nat) (ls : List Val), k ≤ n ∧ ls.length ≤ k ∧ i = .int .i64 k ∧ Hid (EvJ w v ls wr) ∧ Hid (goS (stepV row) ls (e.drop k) = goS (stepV row) [] e)) (fun _ i _ => n - (intOf i).toNat)
 case atStart => exact ⟨0, [], Nat.zero_le _, Nat.le_refl _, rfl, HJ0, rfl⟩
 case round =>
  obtain ⟨k, ls, hk, hlk, rfl, hJ, hinv⟩ := hrel
  clear HJ0
  obtain ⟨A7, c7, hv⟩ := hJ.out.own.isSlice
  subst hv
  by_cases hlt' : k < n
  · obtain ⟨x, hx⟩ : ∃ x, e[k]? = some x := ⟨e[k]'(by rw [Hn.out]; exact hlt'), List.getElem?_eq_getElem _⟩
    rcases Hs.out with h0 | ⟨b, off, rfl, hlt, hc⟩
    · rw [h0] at hx; simp at hx
    obtain ⟨c0, c1, c2, c3, c4⟩ := hc k x hx
    have d0 := (hJ.out.below.cell (p := ⟨b, off + k * 5, none⟩) hlt).trans c0
    have d1 := (hJ.out.below.cell (p := ⟨b, off + k * 5 + 1, none⟩) hlt).trans c1
    have d2 := (hJ.out.below.cell (p := ⟨b, off + k * 5 + 2, none⟩) hlt).trans c2
    have d3 := (hJ.out.below.cell (p := ⟨b, off + k * 5 + 3, none⟩) hlt).trans c3
    have d4 := (hJ.out.below.cell (p := ⟨b, off + k * 5 + 4, none⟩) hlt).trans c4
    have hstep := goS_drop (stepV row) ls e k x hx
    rw [hinv.out] at hstep
    have Hst := Lib.hid hstep
    have Hx := Lib.hid (List.mem_of_getElem? hx)
    clear c0 c1 c2 c3 c4 hc hx hstep hinv
    go_wp2_with fail
    have hba := below_one wr (.cells #[.int .i64 x.op, .int .i64 x.n, .int .i64 x.v.k, .int .i64 x.v.n, .string x.v.s] 48)
    have Nx0 : Nx (wr.alloc (.cells #[.int .i64 x.op, .int .i64 x.n, .int .i64 x.v.k, .int .i64 x.v.n, .string x.v.s] 48)) wr.heap.size x := Nx.new wr x
    have J1 := hJ.out.after hba
    have h9 := J1.size
    clear d0 d1 d2 d3 d4 hJ hba
    generalize wr.alloc (.cells #[.int .i64 x.op, .int .i64 x.n, .int .i64 x.v.k, .int .i64 x.v.n, .string x.v.s] 48) = w1 at Nx0 J1 h9 ⊢
    refine (takes_c x.op w1).mono ?_
    rintro en w1' ⟨rfl, rfl⟩
    obtain ⟨L, hL⟩ : ∃ L, ls.length = L := ⟨_, rfl⟩
    rw [hL]
    have hL100 : L ≤ 100 := by omega
    have hLk : L ≤ k := by omega
    have HL := Lib.hid hL
    have HJ1 := Lib.hid J1
    have n0 := Nx0.cell0
    have n1 := Nx0.cell1
    have n2 := Nx0.cell2
    have n3 := Nx0.cell3
    have n4 := Nx0.cell4
    have nlt := Nx0.lt
    have HN := Lib.hid Nx0
    clear hL J1 Nx0
    rcases tk_cases x.op with hA | h0 | h1 | hone | htwo
    · rw [hA]
      have hT := HT.out
      rw [Hst.out, stepV_bad row ls x hA] at hT
      subst hT
      have r0 := HJ1.out.res.cell0
      have r1 := HJ1.out.res.cell1
      have r2 := HJ1.out.res.cell2
      have f0 := HJ1.out.res.frozen 0
      have f1 := HJ1.out.res.frozen 1
      have f2 := HJ1.out.res.frozen 2
      have o0 := HJ1.out.none.cell0
      have o1 := HJ1.out.none.cell1
      have o2 := HJ1.out.none.cell2
      have HF := Lib.hid (HJ1.out.fin nl)
      go_wp2
      exact ret_valX (a := nl) (z := .int .i64 30) Tryz.results48 rfl rfl HF.out.1 rfl ⟨rfl, HF.out.2⟩
    · have h0b : (x.op == 0) = true := by rw [h0]; rfl
      rw [show tkR x.op = 0 by rw [h0]; rfl]
      by_cases hno : x.n < 0
      · skip
        have hT := HT.out
        rw [Hst.out, stepV_nocol row ls x h0b (.inl hno)] at hT
        subst hT
        have r0 := HJ1.out.res.cell0
        have r1 := HJ1.out.res.cell1
        have r2 := HJ1.out.res.cell2
        have f0 := HJ1.out.res.frozen 0
        have f1 := HJ1.out.res.frozen 1
        have f2 := HJ1.out.res.frozen 2
        have o0 := HJ1.out.none.cell0
        have o1 := HJ1.out.none.cell1
        have o2 := HJ1.out.none.cell2
        have HF := Lib.hid (HJ1.out.fin nl)
        go_wp2
        exact ret_valX (a := nl) (z := .int .i64 30) Tryz.results48 rfl rfl HF.out.1 rfl ⟨rfl, HF.out.2⟩
      · by_cases hhi : (m : Int) ≤ x.n
        · skip
          have hT := HT.out
          rw [Hst.out, stepV_nocol row ls x h0b (.inr (by rw [Hm.out]; exact hhi))] at hT
          subst hT
          have r0 := HJ1.out.res.cell0
          have r1 := HJ1.out.res.cell1
          have r2 := HJ1.out.res.cell2
          have f0 := HJ1.out.res.frozen 0
          have f1 := HJ1.out.res.frozen 1
          have f2 := HJ1.out.res.frozen 2
          have o0 := HJ1.out.none.cell0
          have o1 := HJ1.out.none.cell1
          have o2 := HJ1.out.none.cell2
          have HF := Lib.hid (HJ1.out.fin nl)
          go_wp2
          exact ret_valX (a := nl) (z := .int .i64 30) Tryz.results48 rfl rfl HF.out.1 rfl ⟨rfl, HF.out.2⟩
        · obtain ⟨i, hi⟩ : ∃ i : Nat, x.n = i := ⟨x.n.toNat, by omega⟩
          rw [hi] at n1
          have him : i < m := by omega
          obtain ⟨y, hy⟩ : ∃ y, row[i]? = some y := ⟨row[i]'(by rw [Hm.out]; exact him), List.getElem?_eq_getElem _⟩
          rcases Hs2.out with e0 | ⟨b2, off2, rfl, hlt2, hc2⟩
          · rw [e0] at hy; simp at hy
          obtain ⟨e0, e1, e2⟩ := hc2 i y hy
          have y0 := (HJ1.out.below.cell (p := ⟨b2, off2 + i * 3, none⟩) hlt2).trans e0
          have y1 := (HJ1.out.below.cell (p := ⟨b2, off2 + i * 3 + 1, none⟩) hlt2).trans e1
          have y2 := (HJ1.out.below.cell (p := ⟨b2, off2 + i * 3 + 2, none⟩) hlt2).trans e2
          have Hgo := Lib.hid (show goS (stepV row) (ls ++ [y]) (e.drop (k + 1)) = goS (stepV row) [] e by rw [Hst.out, stepV_col row ls x h0b i y hi hy])
          have Hy64 := Lib.hid (Hr64.out y (List.mem_of_getElem? hy))
          clear e0 e1 e2 hc2 hy hno hhi hi
          go_wp2_with (at_builtin; go_must (
           refine wpList_appG valOk rfl (.tmp 59) (.tmp 65) rfl (w.heap.size + 2) _ ls [y] (some ⟨w1'.heap.size, 0, none⟩) 1 1 (by rw [HL.out]; rfl) (HJ1.out.own.alloc _) rfl rfl (SlG.new valOk.len [y] rfl) (by rw [HL.out]; unfold maxLen; show L + 1 ≤ _; omega) (by rw [HL.out]; show (L + 1) * 32 ≤ _; omega) (by have := HJ1.out.size; simp; omega) ?_
           intro v3 w3 hv3 hg3
           have HJ3 := Lib.hid ((HJ1.out.after (below_one _ _)).grown hv3 hg3 (fun k hk => (HJ1.out.own.lt k hk).1) (fun z hz => by rcases List.mem_append.1 hz with h | h; exact HJ1.out.in64 z h; (simp at h; rw [h]; exact Hy64.out)))
           clear hv3 hg3))
          go_roundw
          case rel => exact ⟨k + 1, ls ++ [y], by omega, by rw [List.length_append, HL.out]; show L + 1 ≤ _; omega, by go_num, HJ3, Hgo⟩
          case measure => simp [intOf]; omega
    · have h0b : (x.op == 0) = false := by rw [h1]; rfl
      have h1b : (x.op == 1) = true := by rw [h1]; rfl
      rw [show tkR x.op = 0 by rw [h1]; rfl]
      go_wp2_with fail
      refine (rmay_c x.v w1' (Hz.out x Hx.out)).mono ?_
      rintro en w2 ⟨rfl, hb2⟩
      have hst := Hst.out
      rw [stepV_con row ls x h0b h1b] at hst
      obtain ⟨M, hM⟩ : ∃ M, rmB x.v = M := ⟨_, rfl⟩
      rw [hM] at hst ⊢
      have HJ2 := Lib.hid (HJ1.out.after hb2)
      have HN2 := Lib.hid (HN.out.after hb2)
      clear hM n0 n1 n2 n3 n4 hb2
      cases M
      · have hT := HT.out
        rw [hst] at hT
        subst hT
        have r0 := HJ2.out.res.cell0
        have r1 := HJ2.out.res.cell1
        have r2 := HJ2.out.res.cell2
        have f0 := HJ2.out.res.frozen 0
        have f1 := HJ2.out.res.frozen 1
        have f2 := HJ2.out.res.frozen 2
        have o0 := HJ2.out.none.cell0
        have o1 := HJ2.out.none.cell1
        have o2 := HJ2.out.none.cell2
        have HF := Lib.hid (HJ2.out.fin nl)
        clear hst
        go_wp2
        exact ret_valX (a := nl) (z := .int .i64 30) Tryz.results48 rfl rfl HF.out.1 rfl ⟨rfl, HF.out.2⟩
      · have Hgo := Lib.hid (show goS (stepV row) (ls ++ [x.v]) (e.drop (k + 1)) = goS (stepV row) [] e from hst.symm)
        have Hy64 := Lib.hid (He64.out x Hx.out)
        clear hst
        have m0 := HN2.out.cell0
        have m1 := HN2.out.cell1
        have m2 := HN2.out.cell2
        have m3 := HN2.out.cell3
        have m4 := HN2.out.cell4
        go_wp2_with (at_builtin; go_must (
         refine wpList_appG valOk rfl (.tmp 75) (.tmp 78) rfl (w.heap.size + 2) _ ls [x.v] (some ⟨w2.heap.size, 0, none⟩) 1 1 (by rw [HL.out]; rfl) (HJ2.out.own.alloc _) rfl rfl (SlG.new valOk.len [x.v] rfl) (by rw [HL.out]; unfold maxLen; show L + 1 ≤ _; omega) (by rw [HL.out]; show (L + 1) * 32 ≤ _; omega) (by have := HJ2.out.size; simp; omega) ?_
         intro v3 w3 hv3 hg3
         have HJ3 := Lib.hid ((HJ2.out.after (below_one _ _)).grown hv3 hg3 (fun k hk => (HJ2.out.own.lt k hk).1) (fun z hz => by rcases List.mem_append.1 hz with h | h; exact HJ2.out.in64 z h; (simp at h; rw [h]; exact Hy64.out)))
         clear hv3 hg3))
        go_roundw
        case rel => exact ⟨k + 1, ls ++ [x.v], by omega, by rw [List.length_append, HL.out]; show L + 1 ≤ _; omega, by go_num, HJ3, Hgo⟩
        case measure => simp [intOf]; omega
    · obtain ⟨htk, htt, h0b, h1b⟩ := tk_one x.op hone
      rw [htk]
      by_cases hfew : L < 1
      · skip
        have hT := HT.out
        rw [Hst.out, stepV_few row ls x h0b h1b (by rw [htt, HL.out]; exact hfew)] at hT
        subst hT
        have r0 := HJ1.out.res.cell0
        have r1 := HJ1.out.res.cell1
        have r2 := HJ1.out.res.cell2
        have f0 := HJ1.out.res.frozen 0
        have f1 := HJ1.out.res.frozen 1
        have f2 := HJ1.out.res.frozen 2
        have o0 := HJ1.out.none.cell0
        have o1 := HJ1.out.none.cell1
        have o2 := HJ1.out.none.cell2
        have HF := Lib.hid (HJ1.out.fin nl)
        go_wp2
        exact ret_valX (a := nl) (z := .int .i64 30) Tryz.results48 rfl rfl HF.out.1 rfl ⟨rfl, HF.out.2⟩
      obtain ⟨r, rfl⟩ : ∃ r, L = r + 1 := ⟨L - 1, by omega⟩
      obtain ⟨rest, b9, hls, hrl⟩ : ∃ rest b9, ls = rest ++ [b9] ∧ rest.length = r := split1 ls r HL.out
      obtain ⟨A8, c8, hv8, hle8, _, hsl⟩ := HJ1.out.own.sl valOk.len
      rw [HL.out] at hv8 hle8
      injection hv8 with q1 _ q3
      subst q1 q3
      have HSl := Lib.hid hsl
      rcases hsl with q0 | ⟨g, off7, rfl, hlt7, hc7⟩
      · rw [q0] at hls; simp at hls
      have gb : ls[r]? = some b9 := by rw [hls, List.getElem?_append_right (by omega), hrl, Nat.sub_self]; rfl
      have z0 := hc7 r b9 gb 0 _ rfl
      have z1 := hc7 r b9 gb 1 _ rfl
      have z2 := hc7 r b9 gb 2 _ rfl
      rw [Nat.add_zero] at z0
      have Hb64 := Lib.hid (HJ1.out.in64 b9 (by rw [hls]; simp))
      have Hls := Lib.hid hls
      have Hrl := Lib.hid hrl
      clear hc7 hls hrl gb 
      have o0 := HJ1.out.none.cell0
      have o1 := HJ1.out.none.cell1
      have o2 := HJ1.out.none.cell2
      have hr9 : r ≤ 100 := by omega
      have hwr : IntKind.i64.wrap (r : Int) = (r : Int) := by rw [IntKind.wrap_i64]; omega
      have hq1 : (r : Int) < (r : Int) + 1 := by omega
      have hq2 : (0 : Int) ≤ (r : Int) + 1 := by omega
      have hq3 : (r : Int) + 1 < (r : Int) + 2 := by omega
      go_wp2_with fail
      have hl1 : w.heap.size + 1 < w1'.heap.size := by omega
      have hl0 : w.heap.size < w1'.heap.size := by omega
      go_region
      · skip
        have hbz := below_two w1' (.cells #[.int .i64 nl.k, .int .i64 nl.n, .string nl.s] 46) (.cells #[.int .i64 b9.k, .int .i64 b9.n, .string b9.s] 46)
        have J2 := (HJ1.out.after hbz).drew
        have N2 : Nx (((w1'.alloc (.cells #[.int .i64 nl.k, .int .i64 nl.n, .string nl.s] 46)).alloc (.cells #[.int .i64 b9.k, .int .i64 b9.n, .string b9.s] 46)).drew) wr.heap.size x := by have h := HN.out.after hbz; exact h
        have F1 : Bx (((w1'.alloc (.cells #[.int .i64 nl.k, .int .i64 nl.n, .string nl.s] 46)).alloc (.cells #[.int .i64 b9.k, .int .i64 b9.n, .string b9.s] 46)).drew) w1'.heap.size nl := (Bx.new w1' nl).alloc _
        have F2 : Bx (((w1'.alloc (.cells #[.int .i64 nl.k, .int .i64 nl.n, .string nl.s] 46)).alloc (.cells #[.int .i64 b9.k, .int .i64 b9.n, .string b9.s] 46)).drew) (w1'.heap.size + 1) b9 := Bx.new1 w1' b9 _
        have S2 : SlG (((w1'.alloc (.cells #[.int .i64 nl.k, .int .i64 nl.n, .string nl.s] 46)).alloc (.cells #[.int .i64 b9.k, .int .i64 b9.n, .string b9.s] 46)).drew) (some ⟨g, off7, none⟩) 3 valRd ls := by have h := HSl.out.after hbz; exact h
        have hown2 : ∀ k, (Value.slice (some ⟨g, off7, none⟩) ls.length c7).ownBlock = some k → k < w1'.heap.size := fun k hk => (HJ1.out.own.lt k hk).2
        clear hbz hwr hq1 hq2 hq3  z0 z1 z2 o0 o1 o2 n0 n1 n2 n3 n4
        generalize ((w1'.alloc (.cells #[.int .i64 nl.k, .int .i64 nl.n, .string nl.s] 46)).alloc (.cells #[.int .i64 b9.k, .int .i64 b9.n, .string b9.s] 46)).drew = w2 at J2 N2 F1 F2 S2 ⊢
        generalize hq : w1'.heap.size + 1 = q at F2 ⊢
        generalize hp : w1'.heap.size = p at F1 hown2 ⊢
        have hpq : p < q := by omega
        have hp2 : w.heap.size + 2 ≤ p := by omega
        have hq2 : w.heap.size + 2 ≤ q := by omega
        have hnp : wr.heap.size < p := by omega
        rw [HL.out] at J2 hown2
        have bA := F1
        have bB := F2
        clear F1 F2 hq
        have x0 := bA.cell0
        have y0 := bB.cell0
        have n0 := N2.cell0
        go_wp2_with fail
        clear x0 y0 n0
        refine (leavesR_c x.op nl.k b9.k w2).mono ?_
        rintro en w5 ⟨rfl, rfl⟩
        obtain ⟨⟨lk, lm⟩, hlm⟩ : ∃ z, lvR x.op nl.k b9.k = z := ⟨_, rfl⟩
        rw [hlm]
        have hlm2 : mtR x.op [b9] = lm := by
         have h1 := lv_one x.op nl.k b9.k hone
         rw [hlm] at h1
         exact h1.symm
        have hst : stepV row ls x = if lm then (if (cmpR x.op [b9]).2 then .inr (rest ++ [(cmpR x.op [b9]).1]) else .inl 31) else .inl 30 := by
         rw [Hls.out, stepV_op row rest [b9] x h0b h1b htt.symm, hlm2]
        obtain ⟨⟨cv, ck⟩, hcm⟩ : ∃ z, cmpR x.op [b9] = z := ⟨_, rfl⟩
        have h64 : I6n cv.n := by have := cmpR_64 x.op [b9]; rw [hcm] at this; exact this
        rw [hcm] at hst
        have Hst2 := Lib.hid hst
        have Hcm := Lib.hid hcm
        have H64 := Lib.hid h64
        have HJ2 := Lib.hid J2
        have HS2 := Lib.hid S2
        clear hlm hlm2 hst hcm h64 J2 S2
        cases lm
        · have hT := HT.out
          rw [Hst.out, Hst2.out] at hT
          subst hT
          have r0 := HJ2.out.res.cell0
          have r1 := HJ2.out.res.cell1
          have r2 := HJ2.out.res.cell2
          have o0 := HJ2.out.none.cell0
          have o1 := HJ2.out.none.cell1
          have o2 := HJ2.out.none.cell2
          have f0 := HJ2.out.res.frozen 0
          have f1 := HJ2.out.res.frozen 1
          have f2 := HJ2.out.res.frozen 2
          have HF := Lib.hid (HJ2.out.fin nl)
          clear bA bB N2
          go_wp2
          exact ret_valX (a := nl) (z := .int .i64 30) Tryz.results48 rfl rfl HF.out.1 rfl ⟨rfl, HF.out.2⟩
        have x0 := bA.cell0
        have y0 := bB.cell0
        have x1 := bA.cell1
        have y1 := bB.cell1
        have x2 := bA.cell2
        have y2 := bB.cell2
        have n0 := N2.cell0
        go_wp2_with fail
        clear x0 x1 x2 y0 y1 y2 n0
        refine (do1_c x.op nl b9 w5 hone nl_64 Hb64.out).mono ?_
        rintro en w6 ⟨rfl, hb6⟩
        rw [Hcm.out]
        have HJ6 := Lib.hid (HJ2.out.after hb6)
        have HS6 := Lib.hid (HS2.out.after hb6)
        clear hb6 bA bB N2 HJ2 HS2
        cases ck
        · have hT := HT.out
          rw [Hst.out, Hst2.out] at hT
          subst hT
          have r0 := HJ6.out.res.cell0
          have r1 := HJ6.out.res.cell1
          have r2 := HJ6.out.res.cell2
          have o0 := HJ6.out.none.cell0
          have o1 := HJ6.out.none.cell1
          have o2 := HJ6.out.none.cell2
          have f0 := HJ6.out.res.frozen 0
          have f1 := HJ6.out.res.frozen 1
          have f2 := HJ6.out.res.frozen 2
          have hl6 := HJ6.out.size
          have hl7 : w.heap.size < w6.heap.size := by omega
          have hl8 : w.heap.size + 1 < w6.heap.size := by omega
          have HF := Lib.hid (HJ6.out.fin nl)
          go_wp2
          exact ret_valX (a := nl) (z := .int .i64 31) Tryz.results48 rfl rfl (HF.out.1.alloc _) rfl ⟨rfl, HF.out.2.alloc (by rw [put3_size]; omega) _⟩
        have Hgo := Lib.hid (show goS (stepV row) (rest ++ [cv]) (e.drop (k + 1)) = goS (stepV row) [] e by rw [Hst.out, Hst2.out]; rfl)
        have bx6 := Bx.new w6 cv
        have J7 := HJ6.out.after (below_one w6 (.cells #[.int .i64 cv.k, .int .i64 cv.n, .string cv.s] 46))
        have S7 := HS6.out.after (below_one w6 (.cells #[.int .i64 cv.k, .int .i64 cv.n, .string cv.s] 46))
        have Srest : SlG (w6.alloc (.cells #[.int .i64 cv.k, .int .i64 cv.n, .string cv.s] 46)) (some ⟨g, off7, none⟩) 3 valRd rest := by have h := S7.take r; rw [Hls.out, ← Hrl.out, List.take_left] at h; exact h
        have hs7 := J7.size
        have HJ7 := Lib.hid J7
        have HSr := Lib.hid Srest
        clear HJ6 HS6 S7 J7 Srest hown2 hpq hp2 hq2 hnp
        go_wp2_with fail
        generalize w6.alloc (.cells #[.int .i64 cv.k, .int .i64 cv.n, .string cv.s] 46) = w7 at bx6 HJ7 HSr hs7 ⊢
        generalize w6.heap.size = gx at bx6 ⊢
        have y0 := bx6.cell0
        have y1 := bx6.cell1
        have y2 := bx6.cell2
        have hgx := bx6.lt
        have hwr : IntKind.i64.wrap ((r : Int) + 1 - 1) = (r : Int) := by rw [IntKind.wrap_i64]; omega
        have hwr2 : IntKind.i64.wrap (r : Int) = (r : Int) := by rw [IntKind.wrap_i64]; omega
        have hq1 : (r : Int) < (r : Int) + 1 := by omega
        have hq2 : (r : Int) ≤ (c7 : Int) := by omega
        have hq3 : r ≤ c7 := by omega
        have HG := Lib.hid bx6
        clear bx6
        have hw0 : IntKind.i64.wrap 0 = 0 := by rw [IntKind.wrap_i64]; rfl
        have hc0 : (0 : Int) ≤ (c7 : Int) := by omega
        have sz1 : (w7.alloc (.cells #[.int .i64 cv.k, .int .i64 cv.n, .string cv.s] 46)).heap.size = w7.heap.size + 1 := by simp
        have sz2 : (w7.alloc (.cells #[] 46)).heap.size = w7.heap.size + 1 := by simp
        have HOc : Hid (OwnW (w7.alloc (.cells #[] 46)) w7.heap.size (.slice (some ⟨w7.heap.size, 0, none⟩) 0 0) []) := Lib.hid (OwnG.made w7 _ _ #[] 0 (Nat.le_refl _) (Nat.zero_le _) rfl)
        have HOb : Hid (OwnW ((w7.alloc (.cells #[.int .i64 cv.k, .int .i64 cv.n, .string cv.s] 46)).alloc (.cells #[] 46)) w7.heap.size (.slice (some ⟨w7.heap.size + 1, 0, none⟩) 0 0) []) := Lib.hid (by have h := OwnG.made (rd := valRd) (S := 3) (w7.alloc (.cells #[.int .i64 cv.k, .int .i64 cv.n, .string cv.s] 46)) w7.heap.size 46 #[] 0 (by rw [sz1]; omega) (Nat.zero_le _) rfl; rw [sz1] at h; exact h)
        have HXa : Hid (SlG ((w7.alloc (.cells #[] 46)).alloc (.cells #[.int .i64 cv.k, .int .i64 cv.n, .string cv.s] 46)) (some ⟨w7.heap.size + 1, 0, none⟩) 3 valRd [cv]) := Lib.hid (by have h := SlG.new (w := w7.alloc (.cells #[] 46)) (E := 46) valOk.len [cv] rfl; rw [sz2] at h; exact h)
        have HXb : Hid (SlG ((w7.alloc (.cells #[.int .i64 cv.k, .int .i64 cv.n, .string cv.s] 46)).alloc (.cells #[] 46)) (some ⟨w7.heap.size, 0, none⟩) 3 valRd [cv]) := Lib.hid ((SlG.new (w := w7) (E := 46) valOk.len [cv] rfl).alloc _)
        have Hin := Lib.hid (show ∀ z ∈ rest ++ [cv], I6n z.n from fun z hz => by rcases List.mem_append.1 hz with h | h; exact HJ7.out.in64 z (by rw [Hls.out]; exact List.mem_append_left _ h); (simp at h; rw [h]; exact H64.out))
        have HS : Hid (∀ w' : World, Below w7.heap.size w7 w' → w'.cell? ⟨gx, 0, none⟩ = some (.int .i64 cv.k) ∧ w'.cell? ⟨gx, 1, none⟩ = some (.int .i64 cv.n) ∧ w'.cell? ⟨gx, 2, none⟩ = some (.string cv.s)) := Lib.hid fun w' hb' => ⟨(hb'.cell hgx).trans y0, (hb'.cell hgx).trans y1, (hb'.cell hgx).trans y2⟩
        have Hrl0 := Lib.hid (show ([] : List Val).length + rest.length = r by rw [Hrl.out]; simp)
        have Hrl1 := Lib.hid (show rest.length + [cv].length = r + 1 by rw [Hrl.out]; rfl)
        clear sz1 sz2
        go_region_held3 (fun w' => w'.cell? ⟨gx, 0, none⟩ = some (.int .i64 cv.k) ∧ w'.cell? ⟨gx, 1, none⟩ = some (.int .i64 cv.n) ∧ w'.cell? ⟨gx, 2, none⟩ = some (.string cv.s))
         (first
           | exact HS.out _ HbS.out
           | go_keep)
         (first
           | (refine step_appL valOk (by rfl) (.tmp 119) (.tmp 125) (by rfl) w7.heap.size _ ([] : List Val) rest (by rfl) HOc.out (some ⟨g, off7, none⟩) r c7 (by rfl) Hrl.out (HSr.out.alloc (.cells #[] 46)) (by rw [Hrl0.out]; unfold maxLen; omega) (by rw [Hrl0.out]; omega) (by first | (simp; done) | (simp; omega)) ?_
              intro A8 c8 w8 hv hg hl
              rw [List.nil_append] at hv
              rw [Hrl0.out] at hv hl ⊢
              have HbS : Hid (Below w7.heap.size w7 w8) := Lib.hid (((below_one w7 (.cells #[] 46)).drew).grown hg (by first | (simp; done) | (simp; omega)) (fun k hk => by cases hk; first | (simp; done) | (simp; omega)))
              have HO8 := Lib.hid hv
              clear hv hg hl)
           | (refine step_appL valOk (by rfl) (.tmp 119) (.tmp 125) (by rfl) w7.heap.size _ ([] : List Val) rest (by rfl) (HOc.out.alloc (.cells #[.int .i64 cv.k, .int .i64 cv.n, .string cv.s] 46)) (some ⟨g, off7, none⟩) r c7 (by rfl) Hrl.out ((HSr.out.alloc (.cells #[] 46)).alloc (.cells #[.int .i64 cv.k, .int .i64 cv.n, .string cv.s] 46)) (by rw [Hrl0.out]; unfold maxLen; omega) (by rw [Hrl0.out]; omega) (by first | (simp; done) | (simp; omega)) ?_
              intro A8 c8 w8 hv hg hl
              rw [List.nil_append] at hv
              rw [Hrl0.out] at hv hl ⊢
              have HbS : Hid (Below w7.heap.size w7 w8) := Lib.hid (((below_two w7 (.cells #[] 46) (.cells #[.int .i64 cv.k, .int .i64 cv.n, .string cv.s] 46)).drew).grown hg (by first | (simp; done) | (simp; omega)) (fun k hk => by cases hk; first | (simp; done) | (simp; omega)))
              have HO8 := Lib.hid hv
              have HX8 := Lib.hid (SlG.grown (show SlG (((w7.alloc (.cells #[] 46)).alloc (.cells #[.int .i64 cv.k, .int .i64 cv.n, .string cv.s] 46))).drew (some ⟨w7.heap.size + 1, 0, none⟩) 3 valRd [cv] from HXa.out) hg (show some (w7.heap.size + 1) ≠ some (w7.heap.size) by intro h; injection h with h; omega))
              clear hv hg hl)
           | (refine step_appL valOk (by rfl) (.tmp 119) (.tmp 125) (by rfl) w7.heap.size _ ([] : List Val) rest (by rfl) HOb.out (some ⟨g, off7, none⟩) r c7 (by rfl) Hrl.out ((HSr.out.alloc (.cells #[.int .i64 cv.k, .int .i64 cv.n, .string cv.s] 46)).alloc (.cells #[] 46)) (by rw [Hrl0.out]; unfold maxLen; omega) (by rw [Hrl0.out]; omega) (by first | (simp; done) | (simp; omega)) ?_
              intro A8 c8 w8 hv hg hl
              rw [List.nil_append] at hv
              rw [Hrl0.out] at hv hl ⊢
              have HbS : Hid (Below w7.heap.size w7 w8) := Lib.hid (((below_two w7 (.cells #[.int .i64 cv.k, .int .i64 cv.n, .string cv.s] 46) (.cells #[] 46)).drew).grown hg (by first | (simp; done) | (simp; omega)) (fun k hk => by cases hk; first | (simp; done) | (simp; omega)))
              have HO8 := Lib.hid hv
              have HX8 := Lib.hid (SlG.grown (show SlG (((w7.alloc (.cells #[.int .i64 cv.k, .int .i64 cv.n, .string cv.s] 46)).alloc (.cells #[] 46))).drew (some ⟨w7.heap.size, 0, none⟩) 3 valRd [cv] from HXb.out) hg (show some (w7.heap.size) ≠ some (w7.heap.size + 1) by intro h; injection h with h; omega))
              clear hv hg hl)
           | (refine step_appL valOk (by rfl) (.tmp 126) (.tmp 128) (by rfl) w7.heap.size _ rest [cv] (by rfl) HO8.out _ 1 1 (by rfl) rfl HX8.out (by rw [Hrl1.out]; unfold maxLen; omega) (by rw [Hrl1.out]; omega) (by first | exact HbS.out.size | (have := HbS.out.size; simp; omega)) ?_
              intro A9 c9 w9 hv hg hl
              rw [Hrl1.out] at hv hl ⊢
              have HbT : Hid (Below w7.heap.size w7 w9) := Lib.hid (HbS.out.grown hg (by first | exact HbS.out.size | (have := HbS.out.size; simp; omega)) (fun k hk => (HO8.out.lt k hk).1))
              have HO9 := Lib.hid hv
              clear hv hg hl HbS
              have HbS := HbT
              clear HbT)
           | (refine step_appL valOk (by rfl) (.tmp 126) (.tmp 128) (by rfl) w7.heap.size _ rest [cv] (by rfl) (HO8.out.alloc (.cells #[.int .i64 cv.k, .int .i64 cv.n, .string cv.s] 46)) _ 1 1 (by rfl) rfl (SlG.new valOk.len [cv] rfl) (by rw [Hrl1.out]; unfold maxLen; omega) (by rw [Hrl1.out]; omega) (by first | exact HbS.out.size | (have := HbS.out.size; simp; omega)) ?_
              intro A9 c9 w9 hv hg hl
              rw [Hrl1.out] at hv hl ⊢
              have HbT : Hid (Below w7.heap.size w7 w9) := Lib.hid ((HbS.out.alloc HbS.out.size (.cells #[.int .i64 cv.k, .int .i64 cv.n, .string cv.s] 46)).grown hg (by first | exact HbS.out.size | (have := HbS.out.size; simp; omega)) (fun k hk => (HO8.out.lt k hk).1))
              have HO9 := Lib.hid hv
              clear hv hg hl HbS
              have HbS := HbT
              clear HbT))
        all_goals
         have HJ9 := Lib.hid (show EvJ w (.slice A9 (r + 1) c9) (rest ++ [cv]) w9 from ⟨HO9.out.mono hs7, (HJ7.out.base.after HbS.out).res, (HJ7.out.base.after HbS.out).none, (HJ7.out.base.after HbS.out).below, Hin.out⟩)
         clear HO9 HbS HO8
         go_wp2
         go_roundw
         case rel => exact ⟨k + 1, rest ++ [cv], by omega, by rw [List.length_append, Hrl.out]; show r + 1 ≤ _; omega, by go_num, HJ9, Hgo⟩
         case measure => simp [intOf]; omega
      · skip
        have hbz := below_two w1' (.cells #[.int .i64 b9.k, .int .i64 b9.n, .string b9.s] 46) (.cells #[.int .i64 nl.k, .int .i64 nl.n, .string nl.s] 46)
        have J2 := (HJ1.out.after hbz).drew
        have N2 : Nx (((w1'.alloc (.cells #[.int .i64 b9.k, .int .i64 b9.n, .string b9.s] 46)).alloc (.cells #[.int .i64 nl.k, .int .i64 nl.n, .string nl.s] 46)).drew) wr.heap.size x := by have h := HN.out.after hbz; exact h
        have F1 : Bx (((w1'.alloc (.cells #[.int .i64 b9.k, .int .i64 b9.n, .string b9.s] 46)).alloc (.cells #[.int .i64 nl.k, .int .i64 nl.n, .string nl.s] 46)).drew) w1'.heap.size b9 := (Bx.new w1' b9).alloc _
        have F2 : Bx (((w1'.alloc (.cells #[.int .i64 b9.k, .int .i64 b9.n, .string b9.s] 46)).alloc (.cells #[.int .i64 nl.k, .int .i64 nl.n, .string nl.s] 46)).drew) (w1'.heap.size + 1) nl := Bx.new1 w1' nl _
        have S2 : SlG (((w1'.alloc (.cells #[.int .i64 b9.k, .int .i64 b9.n, .string b9.s] 46)).alloc (.cells #[.int .i64 nl.k, .int .i64 nl.n, .string nl.s] 46)).drew) (some ⟨g, off7, none⟩) 3 valRd ls := by have h := HSl.out.after hbz; exact h
        have hown2 : ∀ k, (Value.slice (some ⟨g, off7, none⟩) ls.length c7).ownBlock = some k → k < w1'.heap.size := fun k hk => (HJ1.out.own.lt k hk).2
        clear hbz hwr hq1 hq2 hq3  z0 z1 z2 o0 o1 o2 n0 n1 n2 n3 n4
        generalize ((w1'.alloc (.cells #[.int .i64 b9.k, .int .i64 b9.n, .string b9.s] 46)).alloc (.cells #[.int .i64 nl.k, .int .i64 nl.n, .string nl.s] 46)).drew = w2 at J2 N2 F1 F2 S2 ⊢
        generalize hq : w1'.heap.size + 1 = q at F2 ⊢
        generalize hp : w1'.heap.size = p at F1 hown2 ⊢
        have hpq : p < q := by omega
        have hp2 : w.heap.size + 2 ≤ p := by omega
        have hq2 : w.heap.size + 2 ≤ q := by omega
        have hnp : wr.heap.size < p := by omega
        rw [HL.out] at J2 hown2
        have bA := F2
        have bB := F1
        clear F1 F2 hq
        have x0 := bA.cell0
        have y0 := bB.cell0
        have n0 := N2.cell0
        go_wp2_with fail
        clear x0 y0 n0
        refine (leavesR_c x.op nl.k b9.k w2).mono ?_
        rintro en w5 ⟨rfl, rfl⟩
        obtain ⟨⟨lk, lm⟩, hlm⟩ : ∃ z, lvR x.op nl.k b9.k = z := ⟨_, rfl⟩
        rw [hlm]
        have hlm2 : mtR x.op [b9] = lm := by
         have h1 := lv_one x.op nl.k b9.k hone
         rw [hlm] at h1
         exact h1.symm
        have hst : stepV row ls x = if lm then (if (cmpR x.op [b9]).2 then .inr (rest ++ [(cmpR x.op [b9]).1]) else .inl 31) else .inl 30 := by
         rw [Hls.out, stepV_op row rest [b9] x h0b h1b htt.symm, hlm2]
        obtain ⟨⟨cv, ck⟩, hcm⟩ : ∃ z, cmpR x.op [b9] = z := ⟨_, rfl⟩
        have h64 : I6n cv.n := by have := cmpR_64 x.op [b9]; rw [hcm] at this; exact this
        rw [hcm] at hst
        have Hst2 := Lib.hid hst
        have Hcm := Lib.hid hcm
        have H64 := Lib.hid h64
        have HJ2 := Lib.hid J2
        have HS2 := Lib.hid S2
        clear hlm hlm2 hst hcm h64 J2 S2
        cases lm
        · have hT := HT.out
          rw [Hst.out, Hst2.out] at hT
          subst hT
          have r0 := HJ2.out.res.cell0
          have r1 := HJ2.out.res.cell1
          have r2 := HJ2.out.res.cell2
          have o0 := HJ2.out.none.cell0
          have o1 := HJ2.out.none.cell1
          have o2 := HJ2.out.none.cell2
          have f0 := HJ2.out.res.frozen 0
          have f1 := HJ2.out.res.frozen 1
          have f2 := HJ2.out.res.frozen 2
          have HF := Lib.hid (HJ2.out.fin nl)
          clear bA bB N2
          go_wp2
          exact ret_valX (a := nl) (z := .int .i64 30) Tryz.results48 rfl rfl HF.out.1 rfl ⟨rfl, HF.out.2⟩
        have x0 := bA.cell0
        have y0 := bB.cell0
        have x1 := bA.cell1
        have y1 := bB.cell1
        have x2 := bA.cell2
        have y2 := bB.cell2
        have n0 := N2.cell0
        go_wp2_with fail
        clear x0 x1 x2 y0 y1 y2 n0
        refine (do1_c x.op nl b9 w5 hone nl_64 Hb64.out).mono ?_
        rintro en w6 ⟨rfl, hb6⟩
        rw [Hcm.out]
        have HJ6 := Lib.hid (HJ2.out.after hb6)
        have HS6 := Lib.hid (HS2.out.after hb6)
        clear hb6 bA bB N2 HJ2 HS2
        cases ck
        · have hT := HT.out
          rw [Hst.out, Hst2.out] at hT
          subst hT
          have r0 := HJ6.out.res.cell0
          have r1 := HJ6.out.res.cell1
          have r2 := HJ6.out.res.cell2
          have o0 := HJ6.out.none.cell0
          have o1 := HJ6.out.none.cell1
          have o2 := HJ6.out.none.cell2
          have f0 := HJ6.out.res.frozen 0
          have f1 := HJ6.out.res.frozen 1
          have f2 := HJ6.out.res.frozen 2
          have hl6 := HJ6.out.size
          have hl7 : w.heap.size < w6.heap.size := by omega
          have hl8 : w.heap.size + 1 < w6.heap.size := by omega
          have HF := Lib.hid (HJ6.out.fin nl)
          go_wp2
          exact ret_valX (a := nl) (z := .int .i64 31) Tryz.results48 rfl rfl (HF.out.1.alloc _) rfl ⟨rfl, HF.out.2.alloc (by rw [put3_size]; omega) _⟩
        have Hgo := Lib.hid (show goS (stepV row) (rest ++ [cv]) (e.drop (k + 1)) = goS (stepV row) [] e by rw [Hst.out, Hst2.out]; rfl)
        have bx6 := Bx.new w6 cv
        have J7 := HJ6.out.after (below_one w6 (.cells #[.int .i64 cv.k, .int .i64 cv.n, .string cv.s] 46))
        have S7 := HS6.out.after (below_one w6 (.cells #[.int .i64 cv.k, .int .i64 cv.n, .string cv.s] 46))
        have Srest : SlG (w6.alloc (.cells #[.int .i64 cv.k, .int .i64 cv.n, .string cv.s] 46)) (some ⟨g, off7, none⟩) 3 valRd rest := by have h := S7.take r; rw [Hls.out, ← Hrl.out, List.take_left] at h; exact h
        have hs7 := J7.size
        have HJ7 := Lib.hid J7
        have HSr := Lib.hid Srest
        clear HJ6 HS6 S7 J7 Srest hown2 hpq hp2 hq2 hnp
        go_wp2_with fail
        generalize w6.alloc (.cells #[.int .i64 cv.k, .int .i64 cv.n, .string cv.s] 46) = w7 at bx6 HJ7 HSr hs7 ⊢
        generalize w6.heap.size = gx at bx6 ⊢
        have y0 := bx6.cell0
        have y1 := bx6.cell1
        have y2 := bx6.cell2
        have hgx := bx6.lt
        have hwr : IntKind.i64.wrap ((r : Int) + 1 - 1) = (r : Int) := by rw [IntKind.wrap_i64]; omega
        have hwr2 : IntKind.i64.wrap (r : Int) = (r : Int) := by rw [IntKind.wrap_i64]; omega
        have hq1 : (r : Int) < (r : Int) + 1 := by omega
        have hq2 : (r : Int) ≤ (c7 : Int) := by omega
        have hq3 : r ≤ c7 := by omega
        have HG := Lib.hid bx6
        clear bx6
        have hw0 : IntKind.i64.wrap 0 = 0 := by rw [IntKind.wrap_i64]; rfl
        have hc0 : (0 : Int) ≤ (c7 : Int) := by omega
        have sz1 : (w7.alloc (.cells #[.int .i64 cv.k, .int .i64 cv.n, .string cv.s] 46)).heap.size = w7.heap.size + 1 := by simp
        have sz2 : (w7.alloc (.cells #[] 46)).heap.size = w7.heap.size + 1 := by simp
        have HOc : Hid (OwnW (w7.alloc (.cells #[] 46)) w7.heap.size (.slice (some ⟨w7.heap.size, 0, none⟩) 0 0) []) := Lib.hid (OwnG.made w7 _ _ #[] 0 (Nat.le_refl _) (Nat.zero_le _) rfl)
        have HOb : Hid (OwnW ((w7.alloc (.cells #[.int .i64 cv.k, .int .i64 cv.n, .string cv.s] 46)).alloc (.cells #[] 46)) w7.heap.size (.slice (some ⟨w7.heap.size + 1, 0, none⟩) 0 0) []) := Lib.hid (by have h := OwnG.made (rd := valRd) (S := 3) (w7.alloc (.cells #[.int .i64 cv.k, .int .i64 cv.n, .string cv.s] 46)) w7.heap.size 46 #[] 0 (by rw [sz1]; omega) (Nat.zero_le _) rfl; rw [sz1] at h; exact h)
        have HXa : Hid (SlG ((w7.alloc (.cells #[] 46)).alloc (.cells #[.int .i64 cv.k, .int .i64 cv.n, .string cv.s] 46)) (some ⟨w7.heap.size + 1, 0, none⟩) 3 valRd [cv]) := Lib.hid (by have h := SlG.new (w := w7.alloc (.cells #[] 46)) (E := 46) valOk.len [cv] rfl; rw [sz2] at h; exact h)
        have HXb : Hid (SlG ((w7.alloc (.cells #[.int .i64 cv.k, .int .i64 cv.n, .string cv.s] 46)).alloc (.cells #[] 46)) (some ⟨w7.heap.size, 0, none⟩) 3 valRd [cv]) := Lib.hid ((SlG.new (w := w7) (E := 46) valOk.len [cv] rfl).alloc _)
        have Hin := Lib.hid (show ∀ z ∈ rest ++ [cv], I6n z.n from fun z hz => by rcases List.mem_append.1 hz with h | h; exact HJ7.out.in64 z (by rw [Hls.out]; exact List.mem_append_left _ h); (simp at h; rw [h]; exact H64.out))
        have HS : Hid (∀ w' : World, Below w7.heap.size w7 w' → w'.cell? ⟨gx, 0, none⟩ = some (.int .i64 cv.k) ∧ w'.cell? ⟨gx, 1, none⟩ = some (.int .i64 cv.n) ∧ w'.cell? ⟨gx, 2, none⟩ = some (.string cv.s)) := Lib.hid fun w' hb' => ⟨(hb'.cell hgx).trans y0, (hb'.cell hgx).trans y1, (hb'.cell hgx).trans y2⟩
        have Hrl0 := Lib.hid (show ([] : List Val).length + rest.length = r by rw [Hrl.out]; simp)
        have Hrl1 := Lib.hid (show rest.length + [cv].length = r + 1 by rw [Hrl.out]; rfl)
        clear sz1 sz2
        go_region_held3 (fun w' => w'.cell? ⟨gx, 0, none⟩ = some (.int .i64 cv.k) ∧ w'.cell? ⟨gx, 1, none⟩ = some (.int .i64 cv.n) ∧ w'.cell? ⟨gx, 2, none⟩ = some (.string cv.s))
         (first
           | exact HS.out _ HbS.out
           | go_keep)
         (first
           | (refine step_appL valOk (by rfl) (.tmp 119) (.tmp 125) (by rfl) w7.heap.size _ ([] : List Val) rest (by rfl) HOc.out (some ⟨g, off7, none⟩) r c7 (by rfl) Hrl.out (HSr.out.alloc (.cells #[] 46)) (by rw [Hrl0.out]; unfold maxLen; omega) (by rw [Hrl0.out]; omega) (by first | (simp; done) | (simp; omega)) ?_
              intro A8 c8 w8 hv hg hl
              rw [List.nil_append] at hv
              rw [Hrl0.out] at hv hl ⊢
              have HbS : Hid (Below w7.heap.size w7 w8) := Lib.hid (((below_one w7 (.cells #[] 46)).drew).grown hg (by first | (simp; done) | (simp; omega)) (fun k hk => by cases hk; first | (simp; done) | (simp; omega)))
              have HO8 := Lib.hid hv
              clear hv hg hl)
           | (refine step_appL valOk (by rfl) (.tmp 119) (.tmp 125) (by rfl) w7.heap.size _ ([] : List Val) rest (by rfl) (HOc.out.alloc (.cells #[.int .i64 cv.k, .int .i64 cv.n, .string cv.s] 46)) (some ⟨g, off7, none⟩) r c7 (by rfl) Hrl.out ((HSr.out.alloc (.cells #[] 46)).alloc (.cells #[.int .i64 cv.k, .int .i64 cv.n, .string cv.s] 46)) (by rw [Hrl0.out]; unfold maxLen; omega) (by rw [Hrl0.out]; omega) (by first | (simp; done) | (simp; omega)) ?_
              intro A8 c8 w8 hv hg hl
              rw [List.nil_append] at hv
              rw [Hrl0.out] at hv hl ⊢
              have HbS : Hid (Below w7.heap.size w7 w8) := Lib.hid (((below_two w7 (.cells #[] 46) (.cells #[.int .i64 cv.k, .int .i64 cv.n, .string cv.s] 46)).drew).grown hg (by first | (simp; done) | (simp; omega)) (fun k hk => by cases hk; first | (simp; done) | (simp; omega)))
              have HO8 := Lib.hid hv
              have HX8 := Lib.hid (SlG.grown (show SlG (((w7.alloc (.cells #[] 46)).alloc (.cells #[.int .i64 cv.k, .int .i64 cv.n, .string cv.s] 46))).drew (some ⟨w7.heap.size + 1, 0, none⟩) 3 valRd [cv] from HXa.out) hg (show some (w7.heap.size + 1) ≠ some (w7.heap.size) by intro h; injection h with h; omega))
              clear hv hg hl)
           | (refine step_appL valOk (by rfl) (.tmp 119) (.tmp 125) (by rfl) w7.heap.size _ ([] : List Val) rest (by rfl) HOb.out (some ⟨g, off7, none⟩) r c7 (by rfl) Hrl.out ((HSr.out.alloc (.cells #[.int .i64 cv.k, .int .i64 cv.n, .string cv.s] 46)).alloc (.cells #[] 46)) (by rw [Hrl0.out]; unfold maxLen; omega) (by rw [Hrl0.out]; omega) (by first | (simp; done) | (simp; omega)) ?_
              intro A8 c8 w8 hv hg hl
              rw [List.nil_append] at hv
              rw [Hrl0.out] at hv hl ⊢
              have HbS : Hid (Below w7.heap.size w7 w8) := Lib.hid (((below_two w7 (.cells #[.int .i64 cv.k, .int .i64 cv.n, .string cv.s] 46) (.cells #[] 46)).drew).grown hg (by first | (simp; done) | (simp; omega)) (fun k hk => by cases hk; first | (simp; done) | (simp; omega)))
              have HO8 := Lib.hid hv
              have HX8 := Lib.hid (SlG.grown (show SlG (((w7.alloc (.cells #[.int .i64 cv.k, .int .i64 cv.n, .string cv.s] 46)).alloc (.cells #[] 46))).drew (some ⟨w7.heap.size, 0, none⟩) 3 valRd [cv] from HXb.out) hg (show some (w7.heap.size) ≠ some (w7.heap.size + 1) by intro h; injection h with h; omega))
              clear hv hg hl)
           | (refine step_appL valOk (by rfl) (.tmp 126) (.tmp 128) (by rfl) w7.heap.size _ rest [cv] (by rfl) HO8.out _ 1 1 (by rfl) rfl HX8.out (by rw [Hrl1.out]; unfold maxLen; omega) (by rw [Hrl1.out]; omega) (by first | exact HbS.out.size | (have := HbS.out.size; simp; omega)) ?_
              intro A9 c9 w9 hv hg hl
              rw [Hrl1.out] at hv hl ⊢
              have HbT : Hid (Below w7.heap.size w7 w9) := Lib.hid (HbS.out.grown hg (by first | exact HbS.out.size | (have := HbS.out.size; simp; omega)) (fun k hk => (HO8.out.lt k hk).1))
              have HO9 := Lib.hid hv
              clear hv hg hl HbS
              have HbS := HbT
              clear HbT)
           | (refine step_appL valOk (by rfl) (.tmp 126) (.tmp 128) (by rfl) w7.heap.size _ rest [cv] (by rfl) (HO8.out.alloc (.cells #[.int .i64 cv.k, .int .i64 cv.n, .string cv.s] 46)) _ 1 1 (by rfl) rfl (SlG.new valOk.len [cv] rfl) (by rw [Hrl1.out]; unfold maxLen; omega) (by rw [Hrl1.out]; omega) (by first | exact HbS.out.size | (have := HbS.out.size; simp; omega)) ?_
              intro A9 c9 w9 hv hg hl
              rw [Hrl1.out] at hv hl ⊢
              have HbT : Hid (Below w7.heap.size w7 w9) := Lib.hid ((HbS.out.alloc HbS.out.size (.cells #[.int .i64 cv.k, .int .i64 cv.n, .string cv.s] 46)).grown hg (by first | exact HbS.out.size | (have := HbS.out.size; simp; omega)) (fun k hk => (HO8.out.lt k hk).1))
              have HO9 := Lib.hid hv
              clear hv hg hl HbS
              have HbS := HbT
              clear HbT))
        all_goals
         have HJ9 := Lib.hid (show EvJ w (.slice A9 (r + 1) c9) (rest ++ [cv]) w9 from ⟨HO9.out.mono hs7, (HJ7.out.base.after HbS.out).res, (HJ7.out.base.after HbS.out).none, (HJ7.out.base.after HbS.out).below, Hin.out⟩)
         clear HO9 HbS HO8
         go_wp2
         go_roundw
         case rel => exact ⟨k + 1, rest ++ [cv], by omega, by rw [List.length_append, Hrl.out]; show r + 1 ≤ _; omega, by go_num, HJ9, Hgo⟩
         case measure => simp [intOf]; omega
    · obtain ⟨htk, htt, h0b, h1b⟩ := tk_two x.op htwo
      rw [htk]
      by_cases hfew : L < 2
      · skip
        have hT := HT.out
        rw [Hst.out, stepV_few row ls x h0b h1b (by rw [htt, HL.out]; exact hfew)] at hT
        subst hT
        have r0 := HJ1.out.res.cell0
        have r1 := HJ1.out.res.cell1
        have r2 := HJ1.out.res.cell2
        have f0 := HJ1.out.res.frozen 0
        have f1 := HJ1.out.res.frozen 1
        have f2 := HJ1.out.res.frozen 2
        have o0 := HJ1.out.none.cell0
        have o1 := HJ1.out.none.cell1
        have o2 := HJ1.out.none.cell2
        have HF := Lib.hid (HJ1.out.fin nl)
        go_wp2
        exact ret_valX (a := nl) (z := .int .i64 30) Tryz.results48 rfl rfl HF.out.1 rfl ⟨rfl, HF.out.2⟩
      obtain ⟨r, rfl⟩ : ∃ r, L = r + 2 := ⟨L - 2, by omega⟩
      obtain ⟨rest, a, b9, hls, hrl⟩ : ∃ rest a b9, ls = rest ++ [a, b9] ∧ rest.length = r := split2 ls r HL.out
      obtain ⟨A8, c8, hv8, hle8, _, hsl⟩ := HJ1.out.own.sl valOk.len
      rw [HL.out] at hv8 hle8
      injection hv8 with q1 _ q3
      subst q1 q3
      have HSl := Lib.hid hsl
      rcases hsl with q0 | ⟨g, off7, rfl, hlt7, hc7⟩
      · rw [q0] at hls; simp at hls
      have ga : ls[r]? = some a := by rw [hls, List.getElem?_append_right (by omega), hrl, Nat.sub_self]; rfl
      have gb : ls[r + 1]? = some b9 := by rw [hls, List.getElem?_append_right (by omega), hrl, show r + 1 - r = 1 by omega]; rfl
      have a0 := hc7 r a ga 0 _ rfl
      have a1 := hc7 r a ga 1 _ rfl
      have a2 := hc7 r a ga 2 _ rfl
      have z0 := hc7 (r + 1) b9 gb 0 _ rfl
      have z1 := hc7 (r + 1) b9 gb 1 _ rfl
      have z2 := hc7 (r + 1) b9 gb 2 _ rfl
      rw [Nat.add_zero] at a0 z0
      have Ha64 := Lib.hid (HJ1.out.in64 a (by rw [hls]; simp))
      have Hb64 := Lib.hid (HJ1.out.in64 b9 (by rw [hls]; simp))
      have Hls := Lib.hid hls
      have Hrl := Lib.hid hrl
      clear hc7 hls hrl gb ga
      have o0 := HJ1.out.none.cell0
      have o1 := HJ1.out.none.cell1
      have o2 := HJ1.out.none.cell2
      have hr9 : r ≤ 100 := by omega
      have hwr : IntKind.i64.wrap ((r : Int) + 2 - 1) = ((r + 1 : Nat) : Int) := by rw [IntKind.wrap_i64]; omega
      have hq1 : (r : Int) < (r : Int) + 1 := by omega
      have hq2 : (0 : Int) ≤ (r : Int) + 1 := by omega
      have hq3 : (r : Int) + 1 < (r : Int) + 2 := by omega
      go_wp2_with fail
      have hl1 : w.heap.size + 1 < w1'.heap.size := by omega
      have hl0 : w.heap.size < w1'.heap.size := by omega
      go_region
      · skip
        have hbz := below_two w1' (.cells #[.int .i64 nl.k, .int .i64 nl.n, .string nl.s] 46) (.cells #[.int .i64 b9.k, .int .i64 b9.n, .string b9.s] 46)
        have J2 := (HJ1.out.after hbz).drew
        have N2 : Nx (((w1'.alloc (.cells #[.int .i64 nl.k, .int .i64 nl.n, .string nl.s] 46)).alloc (.cells #[.int .i64 b9.k, .int .i64 b9.n, .string b9.s] 46)).drew) wr.heap.size x := by have h := HN.out.after hbz; exact h
        have F1 : Bx (((w1'.alloc (.cells #[.int .i64 nl.k, .int .i64 nl.n, .string nl.s] 46)).alloc (.cells #[.int .i64 b9.k, .int .i64 b9.n, .string b9.s] 46)).drew) w1'.heap.size nl := (Bx.new w1' nl).alloc _
        have F2 : Bx (((w1'.alloc (.cells #[.int .i64 nl.k, .int .i64 nl.n, .string nl.s] 46)).alloc (.cells #[.int .i64 b9.k, .int .i64 b9.n, .string b9.s] 46)).drew) (w1'.heap.size + 1) b9 := Bx.new1 w1' b9 _
        have S2 : SlG (((w1'.alloc (.cells #[.int .i64 nl.k, .int .i64 nl.n, .string nl.s] 46)).alloc (.cells #[.int .i64 b9.k, .int .i64 b9.n, .string b9.s] 46)).drew) (some ⟨g, off7, none⟩) 3 valRd ls := by have h := HSl.out.after hbz; exact h
        have hown2 : ∀ k, (Value.slice (some ⟨g, off7, none⟩) ls.length c7).ownBlock = some k → k < w1'.heap.size := fun k hk => (HJ1.out.own.lt k hk).2
        clear hbz hwr hq1 hq2 hq3 a0 a1 a2 z0 z1 z2 o0 o1 o2 n0 n1 n2 n3 n4
        generalize ((w1'.alloc (.cells #[.int .i64 nl.k, .int .i64 nl.n, .string nl.s] 46)).alloc (.cells #[.int .i64 b9.k, .int .i64 b9.n, .string b9.s] 46)).drew = w2 at J2 N2 F1 F2 S2 ⊢
        generalize hq : w1'.heap.size + 1 = q at F2 ⊢
        generalize hp : w1'.heap.size = p at F1 hown2 ⊢
        have hpq : p < q := by omega
        have hp2 : w.heap.size + 2 ≤ p := by omega
        have hq2 : w.heap.size + 2 ≤ q := by omega
        have hnp : wr.heap.size < p := by omega
        rw [HL.out] at J2 hown2
        have bA := F1
        have bB := F2
        clear F1 F2 hq
        have ga : ls[r]? = some a := by rw [Hls.out, List.getElem?_append_right (by rw [Hrl.out]; exact Nat.le_refl _), Hrl.out, Nat.sub_self]; rfl
        rcases S2 with s0 | ⟨g9, off9, hA9, hlt9, hc9⟩
        · rw [s0] at ga; cases ga
        injection hA9 with hA9
        injection hA9 with e1 e2 _
        subst e1 e2
        have a0 := hc9 r a ga 0 _ rfl
        have a1 := hc9 r a ga 1 _ rfl
        have a2 := hc9 r a ga 2 _ rfl
        rw [Nat.add_zero] at a0
        have S2 : SlG w2 (some ⟨g, off7, none⟩) 3 valRd ls := .inr ⟨g, off7, rfl, hlt9, hc9⟩
        have hw2 : IntKind.i64.wrap ((r : Int) + 2 - 2) = (r : Int) := by rw [IntKind.wrap_i64]; omega
        have x0 := bA.cell0
        have f0 := bA.frozen 0
        have x1 := bA.cell1
        have f1 := bA.frozen 1
        have x2 := bA.cell2
        have f2 := bA.frozen 2
        have y0 := bB.cell0
        have n0 := N2.cell0
        have hgA : g ≠ p := by have := hown2 g; have hh : (Value.slice (some ⟨g, off7, none⟩) (r + 2) c7).ownBlock = some g := rfl; have := hown2 g hh; omega
        clear hc9 ga
        have hJp : EvJ w (.slice (some ⟨g, off7, none⟩) (r + 2) c7) ls (put3 w2 p a) := J2.putp (by omega) (fun k hk => by have := hown2 k hk; omega) a
        have bA3 := bA.put a
        have bB3 : Bx (put3 w2 p a) q b9 := put3_other bB (by omega)
        have N3 : Nx (put3 w2 p a) wr.heap.size x := (put3_heap w2 p wr.heap.size a (by omega)).trans N2
        have S3 : SlG (put3 w2 p a) (some ⟨g, off7, none⟩) 3 valRd ls := S2.putp (fun b hb => by injection hb with hb; rw [← hb]; exact hgA) a
        skip
        go_wp2_with fail
        clear a0 a1 a2 x0 x1 x2 f0 f1 f2 y0 n0 J2 bA bB N2 S2 hw2 hlt9
        rw [put3_fold]
        generalize put3 w2 p a = w3 at hJp bA3 bB3 N3 S3 ⊢
        have J2 := hJp
        have bA := bA3
        have bB := bB3
        have N2 := N3
        have S2 := S3
        clear hJp bA3 bB3 N3 S3
        refine (leavesR_c x.op a.k b9.k w3).mono ?_
        rintro en w5 ⟨rfl, rfl⟩
        obtain ⟨⟨lk, lm⟩, hlm⟩ : ∃ z, lvR x.op a.k b9.k = z := ⟨_, rfl⟩
        rw [hlm]
        have hlm2 : mtR x.op [a, b9] = lm := by
         have h1 := lv_two x.op a.k b9.k htwo.1 htwo.2
         rw [hlm] at h1
         exact h1.symm
        have hst : stepV row ls x = if lm then (if (cmpR x.op [a, b9]).2 then .inr (rest ++ [(cmpR x.op [a, b9]).1]) else .inl 31) else .inl 30 := by
         rw [Hls.out, stepV_op row rest [a, b9] x h0b h1b htt.symm, hlm2]
        obtain ⟨⟨cv, ck⟩, hcm⟩ : ∃ z, cmpR x.op [a, b9] = z := ⟨_, rfl⟩
        have h64 : I6n cv.n := by have := cmpR_64 x.op [a, b9]; rw [hcm] at this; exact this
        rw [hcm] at hst
        have Hst2 := Lib.hid hst
        have Hcm := Lib.hid hcm
        have H64 := Lib.hid h64
        have HJ2 := Lib.hid J2
        have HS2 := Lib.hid S2
        clear hlm hlm2 hst hcm h64 J2 S2
        cases lm
        · have hT := HT.out
          rw [Hst.out, Hst2.out] at hT
          subst hT
          have r0 := HJ2.out.res.cell0
          have r1 := HJ2.out.res.cell1
          have r2 := HJ2.out.res.cell2
          have o0 := HJ2.out.none.cell0
          have o1 := HJ2.out.none.cell1
          have o2 := HJ2.out.none.cell2
          have f0 := HJ2.out.res.frozen 0
          have f1 := HJ2.out.res.frozen 1
          have f2 := HJ2.out.res.frozen 2
          have HF := Lib.hid (HJ2.out.fin nl)
          clear bA bB N2
          go_wp2
          exact ret_valX (a := nl) (z := .int .i64 30) Tryz.results48 rfl rfl HF.out.1 rfl ⟨rfl, HF.out.2⟩
        have x0 := bA.cell0
        have y0 := bB.cell0
        have x1 := bA.cell1
        have y1 := bB.cell1
        have x2 := bA.cell2
        have y2 := bB.cell2
        have n0 := N2.cell0
        go_wp2_with fail
        clear x0 x1 x2 y0 y1 y2 n0
        refine (do2_c x.op a b9 w5 htwo.1 htwo.2 Ha64.out Hb64.out).mono ?_
        rintro en w6 ⟨rfl, hb6⟩
        rw [Hcm.out]
        have HJ6 := Lib.hid (HJ2.out.after hb6)
        have HS6 := Lib.hid (HS2.out.after hb6)
        clear hb6 bA bB N2 HJ2 HS2
        cases ck
        · have hT := HT.out
          rw [Hst.out, Hst2.out] at hT
          subst hT
          have r0 := HJ6.out.res.cell0
          have r1 := HJ6.out.res.cell1
          have r2 := HJ6.out.res.cell2
          have o0 := HJ6.out.none.cell0
          have o1 := HJ6.out.none.cell1
          have o2 := HJ6.out.none.cell2
          have f0 := HJ6.out.res.frozen 0
          have f1 := HJ6.out.res.frozen 1
          have f2 := HJ6.out.res.frozen 2
          have hl6 := HJ6.out.size
          have hl7 : w.heap.size < w6.heap.size := by omega
          have hl8 : w.heap.size + 1 < w6.heap.size := by omega
          have HF := Lib.hid (HJ6.out.fin nl)
          go_wp2
          exact ret_valX (a := nl) (z := .int .i64 31) Tryz.results48 rfl rfl (HF.out.1.alloc _) rfl ⟨rfl, HF.out.2.alloc (by rw [put3_size]; omega) _⟩
        have Hgo := Lib.hid (show goS (stepV row) (rest ++ [cv]) (e.drop (k + 1)) = goS (stepV row) [] e by rw [Hst.out, Hst2.out]; rfl)
        have bx6 := Bx.new w6 cv
        have J7 := HJ6.out.after (below_one w6 (.cells #[.int .i64 cv.k, .int .i64 cv.n, .string cv.s] 46))
        have S7 := HS6.out.after (below_one w6 (.cells #[.int .i64 cv.k, .int .i64 cv.n, .string cv.s] 46))
        have Srest : SlG (w6.alloc (.cells #[.int .i64 cv.k, .int .i64 cv.n, .string cv.s] 46)) (some ⟨g, off7, none⟩) 3 valRd rest := by have h := S7.take r; rw [Hls.out, ← Hrl.out, List.take_left] at h; exact h
        have hs7 := J7.size
        have HJ7 := Lib.hid J7
        have HSr := Lib.hid Srest
        clear HJ6 HS6 S7 J7 Srest hown2 hpq hp2 hq2 hnp
        go_wp2_with fail
        generalize w6.alloc (.cells #[.int .i64 cv.k, .int .i64 cv.n, .string cv.s] 46) = w7 at bx6 HJ7 HSr hs7 ⊢
        generalize w6.heap.size = gx at bx6 ⊢
        have y0 := bx6.cell0
        have y1 := bx6.cell1
        have y2 := bx6.cell2
        have hgx := bx6.lt
        have hwr : IntKind.i64.wrap ((r : Int) + 2 - 2) = (r : Int) := by rw [IntKind.wrap_i64]; omega
        have hwr2 : IntKind.i64.wrap (r : Int) = (r : Int) := by rw [IntKind.wrap_i64]; omega
        have hq1 : (r : Int) < (r : Int) + 1 := by omega
        have hq2 : (r : Int) ≤ (c7 : Int) := by omega
        have hq3 : r ≤ c7 := by omega
        have HG := Lib.hid bx6
        clear bx6
        have hw0 : IntKind.i64.wrap 0 = 0 := by rw [IntKind.wrap_i64]; rfl
        have hc0 : (0 : Int) ≤ (c7 : Int) := by omega
        have sz1 : (w7.alloc (.cells #[.int .i64 cv.k, .int .i64 cv.n, .string cv.s] 46)).heap.size = w7.heap.size + 1 := by simp
        have sz2 : (w7.alloc (.cells #[] 46)).heap.size = w7.heap.size + 1 := by simp
        have HOc : Hid (OwnW (w7.alloc (.cells #[] 46)) w7.heap.size (.slice (some ⟨w7.heap.size, 0, none⟩) 0 0) []) := Lib.hid (OwnG.made w7 _ _ #[] 0 (Nat.le_refl _) (Nat.zero_le _) rfl)
        have HOb : Hid (OwnW ((w7.alloc (.cells #[.int .i64 cv.k, .int .i64 cv.n, .string cv.s] 46)).alloc (.cells #[] 46)) w7.heap.size (.slice (some ⟨w7.heap.size + 1, 0, none⟩) 0 0) []) := Lib.hid (by have h := OwnG.made (rd := valRd) (S := 3) (w7.alloc (.cells #[.int .i64 cv.k, .int .i64 cv.n, .string cv.s] 46)) w7.heap.size 46 #[] 0 (by rw [sz1]; omega) (Nat.zero_le _) rfl; rw [sz1] at h; exact h)
        have HXa : Hid (SlG ((w7.alloc (.cells #[] 46)).alloc (.cells #[.int .i64 cv.k, .int .i64 cv.n, .string cv.s] 46)) (some ⟨w7.heap.size + 1, 0, none⟩) 3 valRd [cv]) := Lib.hid (by have h := SlG.new (w := w7.alloc (.cells #[] 46)) (E := 46) valOk.len [cv] rfl; rw [sz2] at h; exact h)
        have HXb : Hid (SlG ((w7.alloc (.cells #[.int .i64 cv.k, .int .i64 cv.n, .string cv.s] 46)).alloc (.cells #[] 46)) (some ⟨w7.heap.size, 0, none⟩) 3 valRd [cv]) := Lib.hid ((SlG.new (w := w7) (E := 46) valOk.len [cv] rfl).alloc _)
        have Hin := Lib.hid (show ∀ z ∈ rest ++ [cv], I6n z.n from fun z hz => by rcases List.mem_append.1 hz with h | h; exact HJ7.out.in64 z (by rw [Hls.out]; exact List.mem_append_left _ h); (simp at h; rw [h]; exact H64.out))
        have HS : Hid (∀ w' : World, Below w7.heap.size w7 w' → w'.cell? ⟨gx, 0, none⟩ = some (.int .i64 cv.k) ∧ w'.cell? ⟨gx, 1, none⟩ = some (.int .i64 cv.n) ∧ w'.cell? ⟨gx, 2, none⟩ = some (.string cv.s)) := Lib.hid fun w' hb' => ⟨(hb'.cell hgx).trans y0, (hb'.cell hgx).trans y1, (hb'.cell hgx).trans y2⟩
        have Hrl0 := Lib.hid (show ([] : List Val).length + rest.length = r by rw [Hrl.out]; simp)
        have Hrl1 := Lib.hid (show rest.length + [cv].length = r + 1 by rw [Hrl.out]; rfl)
        clear sz1 sz2
        go_region_held3 (fun w' => w'.cell? ⟨gx, 0, none⟩ = some (.int .i64 cv.k) ∧ w'.cell? ⟨gx, 1, none⟩ = some (.int .i64 cv.n) ∧ w'.cell? ⟨gx, 2, none⟩ = some (.string cv.s))
         (first
           | exact HS.out _ HbS.out
           | go_keep)
         (first
           | (refine step_appL valOk (by rfl) (.tmp 119) (.tmp 125) (by rfl) w7.heap.size _ ([] : List Val) rest (by rfl) HOc.out (some ⟨g, off7, none⟩) r c7 (by rfl) Hrl.out (HSr.out.alloc (.cells #[] 46)) (by rw [Hrl0.out]; unfold maxLen; omega) (by rw [Hrl0.out]; omega) (by first | (simp; done) | (simp; omega)) ?_
              intro A8 c8 w8 hv hg hl
              rw [List.nil_append] at hv
              rw [Hrl0.out] at hv hl ⊢
              have HbS : Hid (Below w7.heap.size w7 w8) := Lib.hid (((below_one w7 (.cells #[] 46)).drew).grown hg (by first | (simp; done) | (simp; omega)) (fun k hk => by cases hk; first | (simp; done) | (simp; omega)))
              have HO8 := Lib.hid hv
              clear hv hg hl)
           | (refine step_appL valOk (by rfl) (.tmp 119) (.tmp 125) (by rfl) w7.heap.size _ ([] : List Val) rest (by rfl) (HOc.out.alloc (.cells #[.int .i64 cv.k, .int .i64 cv.n, .string cv.s] 46)) (some ⟨g, off7, none⟩) r c7 (by rfl) Hrl.out ((HSr.out.alloc (.cells #[] 46)).alloc (.cells #[.int .i64 cv.k, .int .i64 cv.n, .string cv.s] 46)) (by rw [Hrl0.out]; unfold maxLen; omega) (by rw [Hrl0.out]; omega) (by first | (simp; done) | (simp; omega)) ?_
              intro A8 c8 w8 hv hg hl
              rw [List.nil_append] at hv
              rw [Hrl0.out] at hv hl ⊢
              have HbS : Hid (Below w7.heap.size w7 w8) := Lib.hid (((below_two w7 (.cells #[] 46) (.cells #[.int .i64 cv.k, .int .i64 cv.n, .string cv.s] 46)).drew).grown hg (by first | (simp; done) | (simp; omega)) (fun k hk => by cases hk; first | (simp; done) | (simp; omega)))
              have HO8 := Lib.hid hv
              have HX8 := Lib.hid (SlG.grown (show SlG (((w7.alloc (.cells #[] 46)).alloc (.cells #[.int .i64 cv.k, .int .i64 cv.n, .string cv.s] 46))).drew (some ⟨w7.heap.size + 1, 0, none⟩) 3 valRd [cv] from HXa.out) hg (show some (w7.heap.size + 1) ≠ some (w7.heap.size) by intro h; injection h with h; omega))
              clear hv hg hl)
           | (refine step_appL valOk (by rfl) (.tmp 119) (.tmp 125) (by rfl) w7.heap.size _ ([] : List Val) rest (by rfl) HOb.out (some ⟨g, off7, none⟩) r c7 (by rfl) Hrl.out ((HSr.out.alloc (.cells #[.int .i64 cv.k, .int .i64 cv.n, .string cv.s] 46)).alloc (.cells #[] 46)) (by rw [Hrl0.out]; unfold maxLen; omega) (by rw [Hrl0.out]; omega) (by first | (simp; done) | (simp; omega)) ?_
              intro A8 c8 w8 hv hg hl
              rw [List.nil_append] at hv
              rw [Hrl0.out] at hv hl ⊢
              have HbS : Hid (Below w7.heap.size w7 w8) := Lib.hid (((below_two w7 (.cells #[.int .i64 cv.k, .int .i64 cv.n, .string cv.s] 46) (.cells #[] 46)).drew).grown hg (by first | (simp; done) | (simp; omega)) (fun k hk => by cases hk; first | (simp; done) | (simp; omega)))
              have HO8 := Lib.hid hv
              have HX8 := Lib.hid (SlG.grown (show SlG (((w7.alloc (.cells #[.int .i64 cv.k, .int .i64 cv.n, .string cv.s] 46)).alloc (.cells #[] 46))).drew (some ⟨w7.heap.size, 0, none⟩) 3 valRd [cv] from HXb.out) hg (show some (w7.heap.size) ≠ some (w7.heap.size + 1) by intro h; injection h with h; omega))
              clear hv hg hl)
           | (refine step_appL valOk (by rfl) (.tmp 126) (.tmp 128) (by rfl) w7.heap.size _ rest [cv] (by rfl) HO8.out _ 1 1 (by rfl) rfl HX8.out (by rw [Hrl1.out]; unfold maxLen; omega) (by rw [Hrl1.out]; omega) (by first | exact HbS.out.size | (have := HbS.out.size; simp; omega)) ?_
              intro A9 c9 w9 hv hg hl
              rw [Hrl1.out] at hv hl ⊢
              have HbT : Hid (Below w7.heap.size w7 w9) := Lib.hid (HbS.out.grown hg (by first | exact HbS.out.size | (have := HbS.out.size; simp; omega)) (fun k hk => (HO8.out.lt k hk).1))
              have HO9 := Lib.hid hv
              clear hv hg hl HbS
              have HbS := HbT
              clear HbT)
           | (refine step_appL valOk (by rfl) (.tmp 126) (.tmp 128) (by rfl) w7.heap.size _ rest [cv] (by rfl) (HO8.out.alloc (.cells #[.int .i64 cv.k, .int .i64 cv.n, .string cv.s] 46)) _ 1 1 (by rfl) rfl (SlG.new valOk.len [cv] rfl) (by rw [Hrl1.out]; unfold maxLen; omega) (by rw [Hrl1.out]; omega) (by first | exact HbS.out.size | (have := HbS.out.size; simp; omega)) ?_
              intro A9 c9 w9 hv hg hl
              rw [Hrl1.out] at hv hl ⊢
              have HbT : Hid (Below w7.heap.size w7 w9) := Lib.hid ((HbS.out.alloc HbS.out.size (.cells #[.int .i64 cv.k, .int .i64 cv.n, .string cv.s] 46)).grown hg (by first | exact HbS.out.size | (have := HbS.out.size; simp; omega)) (fun k hk => (HO8.out.lt k hk).1))
              have HO9 := Lib.hid hv
              clear hv hg hl HbS
              have HbS := HbT
              clear HbT))
        all_goals
         have HJ9 := Lib.hid (show EvJ w (.slice A9 (r + 1) c9) (rest ++ [cv]) w9 from ⟨HO9.out.mono hs7, (HJ7.out.base.after HbS.out).res, (HJ7.out.base.after HbS.out).none, (HJ7.out.base.after HbS.out).below, Hin.out⟩)
         clear HO9 HbS HO8
         go_wp2
         go_roundw
         case rel => exact ⟨k + 1, rest ++ [cv], by omega, by rw [List.length_append, Hrl.out]; show r + 1 ≤ _; omega, by go_num, HJ9, Hgo⟩
         case measure => simp [intOf]; omega
      · skip
        have hbz := below_two w1' (.cells #[.int .i64 b9.k, .int .i64 b9.n, .string b9.s] 46) (.cells #[.int .i64 nl.k, .int .i64 nl.n, .string nl.s] 46)
        have J2 := (HJ1.out.after hbz).drew
        have N2 : Nx (((w1'.alloc (.cells #[.int .i64 b9.k, .int .i64 b9.n, .string b9.s] 46)).alloc (.cells #[.int .i64 nl.k, .int .i64 nl.n, .string nl.s] 46)).drew) wr.heap.size x := by have h := HN.out.after hbz; exact h
        have F1 : Bx (((w1'.alloc (.cells #[.int .i64 b9.k, .int .i64 b9.n, .string b9.s] 46)).alloc (.cells #[.int .i64 nl.k, .int .i64 nl.n, .string nl.s] 46)).drew) w1'.heap.size b9 := (Bx.new w1' b9).alloc _
        have F2 : Bx (((w1'.alloc (.cells #[.int .i64 b9.k, .int .i64 b9.n, .string b9.s] 46)).alloc (.cells #[.int .i64 nl.k, .int .i64 nl.n, .string nl.s] 46)).drew) (w1'.heap.size + 1) nl := Bx.new1 w1' nl _
        have S2 : SlG (((w1'.alloc (.cells #[.int .i64 b9.k, .int .i64 b9.n, .string b9.s] 46)).alloc (.cells #[.int .i64 nl.k, .int .i64 nl.n, .string nl.s] 46)).drew) (some ⟨g, off7, none⟩) 3 valRd ls := by have h := HSl.out.after hbz; exact h
        have hown2 : ∀ k, (Value.slice (some ⟨g, off7, none⟩) ls.length c7).ownBlock = some k → k < w1'.heap.size := fun k hk => (HJ1.out.own.lt k hk).2
        clear hbz hwr hq1 hq2 hq3 a0 a1 a2 z0 z1 z2 o0 o1 o2 n0 n1 n2 n3 n4
        generalize ((w1'.alloc (.cells #[.int .i64 b9.k, .int .i64 b9.n, .string b9.s] 46)).alloc (.cells #[.int .i64 nl.k, .int .i64 nl.n, .string nl.s] 46)).drew = w2 at J2 N2 F1 F2 S2 ⊢
        generalize hq : w1'.heap.size + 1 = q at F2 ⊢
        generalize hp : w1'.heap.size = p at F1 hown2 ⊢
        have hpq : p < q := by omega
        have hp2 : w.heap.size + 2 ≤ p := by omega
        have hq2 : w.heap.size + 2 ≤ q := by omega
        have hnp : wr.heap.size < p := by omega
        rw [HL.out] at J2 hown2
        have bA := F2
        have bB := F1
        clear F1 F2 hq
        have ga : ls[r]? = some a := by rw [Hls.out, List.getElem?_append_right (by rw [Hrl.out]; exact Nat.le_refl _), Hrl.out, Nat.sub_self]; rfl
        rcases S2 with s0 | ⟨g9, off9, hA9, hlt9, hc9⟩
        · rw [s0] at ga; cases ga
        injection hA9 with hA9
        injection hA9 with e1 e2 _
        subst e1 e2
        have a0 := hc9 r a ga 0 _ rfl
        have a1 := hc9 r a ga 1 _ rfl
        have a2 := hc9 r a ga 2 _ rfl
        rw [Nat.add_zero] at a0
        have S2 : SlG w2 (some ⟨g, off7, none⟩) 3 valRd ls := .inr ⟨g, off7, rfl, hlt9, hc9⟩
        have hw2 : IntKind.i64.wrap ((r : Int) + 2 - 2) = (r : Int) := by rw [IntKind.wrap_i64]; omega
        have x0 := bA.cell0
        have f0 := bA.frozen 0
        have x1 := bA.cell1
        have f1 := bA.frozen 1
        have x2 := bA.cell2
        have f2 := bA.frozen 2
        have y0 := bB.cell0
        have n0 := N2.cell0
        have hgA : g ≠ q := by have := hown2 g; have hh : (Value.slice (some ⟨g, off7, none⟩) (r + 2) c7).ownBlock = some g := rfl; have := hown2 g hh; omega
        clear hc9 ga
        have hJp : EvJ w (.slice (some ⟨g, off7, none⟩) (r + 2) c7) ls (put3 w2 q a) := J2.putp (by omega) (fun k hk => by have := hown2 k hk; omega) a
        have bA3 := bA.put a
        have bB3 : Bx (put3 w2 q a) p b9 := put3_other bB (by omega)
        have N3 : Nx (put3 w2 q a) wr.heap.size x := (put3_heap w2 q wr.heap.size a (by omega)).trans N2
        have S3 : SlG (put3 w2 q a) (some ⟨g, off7, none⟩) 3 valRd ls := S2.putp (fun b hb => by injection hb with hb; rw [← hb]; exact hgA) a
        skip
        go_wp2_with fail
        clear a0 a1 a2 x0 x1 x2 f0 f1 f2 y0 n0 J2 bA bB N2 S2 hw2 hlt9
        rw [put3_fold]
        generalize put3 w2 q a = w3 at hJp bA3 bB3 N3 S3 ⊢
        have J2 := hJp
        have bA := bA3
        have bB := bB3
        have N2 := N3
        have S2 := S3
        clear hJp bA3 bB3 N3 S3
        refine (leavesR_c x.op a.k b9.k w3).mono ?_
        rintro en w5 ⟨rfl, rfl⟩
        obtain ⟨⟨lk, lm⟩, hlm⟩ : ∃ z, lvR x.op a.k b9.k = z := ⟨_, rfl⟩
        rw [hlm]
        have hlm2 : mtR x.op [a, b9] = lm := by
         have h1 := lv_two x.op a.k b9.k htwo.1 htwo.2
         rw [hlm] at h1
         exact h1.symm
        have hst : stepV row ls x = if lm then (if (cmpR x.op [a, b9]).2 then .inr (rest ++ [(cmpR x.op [a, b9]).1]) else .inl 31) else .inl 30 := by
         rw [Hls.out, stepV_op row rest [a, b9] x h0b h1b htt.symm, hlm2]
        obtain ⟨⟨cv, ck⟩, hcm⟩ : ∃ z, cmpR x.op [a, b9] = z := ⟨_, rfl⟩
        have h64 : I6n cv.n := by have := cmpR_64 x.op [a, b9]; rw [hcm] at this; exact this
        rw [hcm] at hst
        have Hst2 := Lib.hid hst
        have Hcm := Lib.hid hcm
        have H64 := Lib.hid h64
        have HJ2 := Lib.hid J2
        have HS2 := Lib.hid S2
        clear hlm hlm2 hst hcm h64 J2 S2
        cases lm
        · have hT := HT.out
          rw [Hst.out, Hst2.out] at hT
          subst hT
          have r0 := HJ2.out.res.cell0
          have r1 := HJ2.out.res.cell1
          have r2 := HJ2.out.res.cell2
          have o0 := HJ2.out.none.cell0
          have o1 := HJ2.out.none.cell1
          have o2 := HJ2.out.none.cell2
          have f0 := HJ2.out.res.frozen 0
          have f1 := HJ2.out.res.frozen 1
          have f2 := HJ2.out.res.frozen 2
          have HF := Lib.hid (HJ2.out.fin nl)
          clear bA bB N2
          go_wp2
          exact ret_valX (a := nl) (z := .int .i64 30) Tryz.results48 rfl rfl HF.out.1 rfl ⟨rfl, HF.out.2⟩
        have x0 := bA.cell0
        have y0 := bB.cell0
        have x1 := bA.cell1
        have y1 := bB.cell1
        have x2 := bA.cell2
        have y2 := bB.cell2
        have n0 := N2.cell0
        go_wp2_with fail
        clear x0 x1 x2 y0 y1 y2 n0
        refine (do2_c x.op a b9 w5 htwo.1 htwo.2 Ha64.out Hb64.out).mono ?_
        rintro en w6 ⟨rfl, hb6⟩
        rw [Hcm.out]
        have HJ6 := Lib.hid (HJ2.out.after hb6)
        have HS6 := Lib.hid (HS2.out.after hb6)
        clear hb6 bA bB N2 HJ2 HS2
        cases ck
        · have hT := HT.out
          rw [Hst.out, Hst2.out] at hT
          subst hT
          have r0 := HJ6.out.res.cell0
          have r1 := HJ6.out.res.cell1
          have r2 := HJ6.out.res.cell2
          have o0 := HJ6.out.none.cell0
          have o1 := HJ6.out.none.cell1
          have o2 := HJ6.out.none.cell2
          have f0 := HJ6.out.res.frozen 0
          have f1 := HJ6.out.res.frozen 1
          have f2 := HJ6.out.res.frozen 2
          have hl6 := HJ6.out.size
          have hl7 : w.heap.size < w6.heap.size := by omega
          have hl8 : w.heap.size + 1 < w6.heap.size := by omega
          have HF := Lib.hid (HJ6.out.fin nl)
          go_wp2
          exact ret_valX (a := nl) (z := .int .i64 31) Tryz.results48 rfl rfl (HF.out.1.alloc _) rfl ⟨rfl, HF.out.2.alloc (by rw [put3_size]; omega) _⟩
        have Hgo := Lib.hid (show goS (stepV row) (rest ++ [cv]) (e.drop (k + 1)) = goS (stepV row) [] e by rw [Hst.out, Hst2.out]; rfl)
        have bx6 := Bx.new w6 cv
        have J7 := HJ6.out.after (below_one w6 (.cells #[.int .i64 cv.k, .int .i64 cv.n, .string cv.s] 46))
        have S7 := HS6.out.after (below_one w6 (.cells #[.int .i64 cv.k, .int .i64 cv.n, .string cv.s] 46))
        have Srest : SlG (w6.alloc (.cells #[.int .i64 cv.k, .int .i64 cv.n, .string cv.s] 46)) (some ⟨g, off7, none⟩) 3 valRd rest := by have h := S7.take r; rw [Hls.out, ← Hrl.out, List.take_left] at h; exact h
        have hs7 := J7.size
        have HJ7 := Lib.hid J7
        have HSr := Lib.hid Srest
        clear HJ6 HS6 S7 J7 Srest hown2 hpq hp2 hq2 hnp
        go_wp2_with fail
        generalize w6.alloc (.cells #[.int .i64 cv.k, .int .i64 cv.n, .string cv.s] 46) = w7 at bx6 HJ7 HSr hs7 ⊢
        generalize w6.heap.size = gx at bx6 ⊢
        have y0 := bx6.cell0
        have y1 := bx6.cell1
        have y2 := bx6.cell2
        have hgx := bx6.lt
        have hwr : IntKind.i64.wrap ((r : Int) + 2 - 2) = (r : Int) := by rw [IntKind.wrap_i64]; omega
        have hwr2 : IntKind.i64.wrap (r : Int) = (r : Int) := by rw [IntKind.wrap_i64]; omega
        have hq1 : (r : Int) < (r : Int) + 1 := by omega
        have hq2 : (r : Int) ≤ (c7 : Int) := by omega
        have hq3 : r ≤ c7 := by omega
        have HG := Lib.hid bx6
        clear bx6
        have hw0 : IntKind.i64.wrap 0 = 0 := by rw [IntKind.wrap_i64]; rfl
        have hc0 : (0 : Int) ≤ (c7 : Int) := by omega
        have sz1 : (w7.alloc (.cells #[.int .i64 cv.k, .int .i64 cv.n, .string cv.s] 46)).heap.size = w7.heap.size + 1 := by simp
        have sz2 : (w7.alloc (.cells #[] 46)).heap.size = w7.heap.size + 1 := by simp
        have HOc : Hid (OwnW (w7.alloc (.cells #[] 46)) w7.heap.size (.slice (some ⟨w7.heap.size, 0, none⟩) 0 0) []) := Lib.hid (OwnG.made w7 _ _ #[] 0 (Nat.le_refl _) (Nat.zero_le _) rfl)
        have HOb : Hid (OwnW ((w7.alloc (.cells #[.int .i64 cv.k, .int .i64 cv.n, .string cv.s] 46)).alloc (.cells #[] 46)) w7.heap.size (.slice (some ⟨w7.heap.size + 1, 0, none⟩) 0 0) []) := Lib.hid (by have h := OwnG.made (rd := valRd) (S := 3) (w7.alloc (.cells #[.int .i64 cv.k, .int .i64 cv.n, .string cv.s] 46)) w7.heap.size 46 #[] 0 (by rw [sz1]; omega) (Nat.zero_le _) rfl; rw [sz1] at h; exact h)
        have HXa : Hid (SlG ((w7.alloc (.cells #[] 46)).alloc (.cells #[.int .i64 cv.k, .int .i64 cv.n, .string cv.s] 46)) (some ⟨w7.heap.size + 1, 0, none⟩) 3 valRd [cv]) := Lib.hid (by have h := SlG.new (w := w7.alloc (.cells #[] 46)) (E := 46) valOk.len [cv] rfl; rw [sz2] at h; exact h)
        have HXb : Hid (SlG ((w7.alloc (.cells #[.int .i64 cv.k, .int .i64 cv.n, .string cv.s] 46)).alloc (.cells #[] 46)) (some ⟨w7.heap.size, 0, none⟩) 3 valRd [cv]) := Lib.hid ((SlG.new (w := w7) (E := 46) valOk.len [cv] rfl).alloc _)
        have Hin := Lib.hid (show ∀ z ∈ rest ++ [cv], I6n z.n from fun z hz => by rcases List.mem_append.1 hz with h | h; exact HJ7.out.in64 z (by rw [Hls.out]; exact List.mem_append_left _ h); (simp at h; rw [h]; exact H64.out))
        have HS : Hid (∀ w' : World, Below w7.heap.size w7 w' → w'.cell? ⟨gx, 0, none⟩ = some (.int .i64 cv.k) ∧ w'.cell? ⟨gx, 1, none⟩ = some (.int .i64 cv.n) ∧ w'.cell? ⟨gx, 2, none⟩ = some (.string cv.s)) := Lib.hid fun w' hb' => ⟨(hb'.cell hgx).trans y0, (hb'.cell hgx).trans y1, (hb'.cell hgx).trans y2⟩
        have Hrl0 := Lib.hid (show ([] : List Val).length + rest.length = r by rw [Hrl.out]; simp)
        have Hrl1 := Lib.hid (show rest.length + [cv].length = r + 1 by rw [Hrl.out]; rfl)
        clear sz1 sz2
        go_region_held3 (fun w' => w'.cell? ⟨gx, 0, none⟩ = some (.int .i64 cv.k) ∧ w'.cell? ⟨gx, 1, none⟩ = some (.int .i64 cv.n) ∧ w'.cell? ⟨gx, 2, none⟩ = some (.string cv.s))
         (first
           | exact HS.out _ HbS.out
           | go_keep)
         (first
           | (refine step_appL valOk (by rfl) (.tmp 119) (.tmp 125) (by rfl) w7.heap.size _ ([] : List Val) rest (by rfl) HOc.out (some ⟨g, off7, none⟩) r c7 (by rfl) Hrl.out (HSr.out.alloc (.cells #[] 46)) (by rw [Hrl0.out]; unfold maxLen; omega) (by rw [Hrl0.out]; omega) (by first | (simp; done) | (simp; omega)) ?_
              intro A8 c8 w8 hv hg hl
              rw [List.nil_append] at hv
              rw [Hrl0.out] at hv hl ⊢
              have HbS : Hid (Below w7.heap.size w7 w8) := Lib.hid (((below_one w7 (.cells #[] 46)).drew).grown hg (by first | (simp; done) | (simp; omega)) (fun k hk => by cases hk; first | (simp; done) | (simp; omega)))
              have HO8 := Lib.hid hv
              clear hv hg hl)
           | (refine step_appL valOk (by rfl) (.tmp 119) (.tmp 125) (by rfl) w7.heap.size _ ([] : List Val) rest (by rfl) (HOc.out.alloc (.cells #[.int .i64 cv.k, .int .i64 cv.n, .string cv.s] 46)) (some ⟨g, off7, none⟩) r c7 (by rfl) Hrl.out ((HSr.out.alloc (.cells #[] 46)).alloc (.cells #[.int .i64 cv.k, .int .i64 cv.n, .string cv.s] 46)) (by rw [Hrl0.out]; unfold maxLen; omega) (by rw [Hrl0.out]; omega) (by first | (simp; done) | (simp; omega)) ?_
              intro A8 c8 w8 hv hg hl
              rw [List.nil_append] at hv
              rw [Hrl0.out] at hv hl ⊢
              have HbS : Hid (Below w7.heap.size w7 w8) := Lib.hid (((below_two w7 (.cells #[] 46) (.cells #[.int .i64 cv.k, .int .i64 cv.n, .string cv.s] 46)).drew).grown hg (by first | (simp; done) | (simp; omega)) (fun k hk => by cases hk; first | (simp; done) | (simp; omega)))
              have HO8 := Lib.hid hv
              have HX8 := Lib.hid (SlG.grown (show SlG (((w7.alloc (.cells #[] 46)).alloc (.cells #[.int .i64 cv.k, .int .i64 cv.n, .string cv.s] 46))).drew (some ⟨w7.heap.size + 1, 0, none⟩) 3 valRd [cv] from HXa.out) hg (show some (w7.heap.size + 1) ≠ some (w7.heap.size) by intro h; injection h with h; omega))
              clear hv hg hl)
           | (refine step_appL valOk (by rfl) (.tmp 119) (.tmp 125) (by rfl) w7.heap.size _ ([] : List Val) rest (by rfl) HOb.out (some ⟨g, off7, none⟩) r c7 (by rfl) Hrl.out ((HSr.out.alloc (.cells #[.int .i64 cv.k, .int .i64 cv.n, .string cv.s] 46)).alloc (.cells #[] 46)) (by rw [Hrl0.out]; unfold maxLen; omega) (by rw [Hrl0.out]; omega) (by first | (simp; done) | (simp; omega)) ?_
              intro A8 c8 w8 hv hg hl
              rw [List.nil_append] at hv
              rw [Hrl0.out] at hv hl ⊢
              have HbS : Hid (Below w7.heap.size w7 w8) := Lib.hid (((below_two w7 (.cells #[.int .i64 cv.k, .int .i64 cv.n, .string cv.s] 46) (.cells #[] 46)).drew).grown hg (by first | (simp; done) | (simp; omega)) (fun k hk => by cases hk; first | (simp; done) | (simp; omega)))
              have HO8 := Lib.hid hv
              have HX8 := Lib.hid (SlG.grown (show SlG (((w7.alloc (.cells #[.int .i64 cv.k, .int .i64 cv.n, .string cv.s] 46)).alloc (.cells #[] 46))).drew (some ⟨w7.heap.size, 0, none⟩) 3 valRd [cv] from HXb.out) hg (show some (w7.heap.size) ≠ some (w7.heap.size + 1) by intro h; injection h with h; omega))
              clear hv hg hl)
           | (refine step_appL valOk (by rfl) (.tmp 126) (.tmp 128) (by rfl) w7.heap.size _ rest [cv] (by rfl) HO8.out _ 1 1 (by rfl) rfl HX8.out (by rw [Hrl1.out]; unfold maxLen; omega) (by rw [Hrl1.out]; omega) (by first | exact HbS.out.size | (have := HbS.out.size; simp; omega)) ?_
              intro A9 c9 w9 hv hg hl
              rw [Hrl1.out] at hv hl ⊢
              have HbT : Hid (Below w7.heap.size w7 w9) := Lib.hid (HbS.out.grown hg (by first | exact HbS.out.size | (have := HbS.out.size; simp; omega)) (fun k hk => (HO8.out.lt k hk).1))
              have HO9 := Lib.hid hv
              clear hv hg hl HbS
              have HbS := HbT
              clear HbT)
           | (refine step_appL valOk (by rfl) (.tmp 126) (.tmp 128) (by rfl) w7.heap.size _ rest [cv] (by rfl) (HO8.out.alloc (.cells #[.int .i64 cv.k, .int .i64 cv.n, .string cv.s] 46)) _ 1 1 (by rfl) rfl (SlG.new valOk.len [cv] rfl) (by rw [Hrl1.out]; unfold maxLen; omega) (by rw [Hrl1.out]; omega) (by first | exact HbS.out.size | (have := HbS.out.size; simp; omega)) ?_
              intro A9 c9 w9 hv hg hl
              rw [Hrl1.out] at hv hl ⊢
              have HbT : Hid (Below w7.heap.size w7 w9) := Lib.hid ((HbS.out.alloc HbS.out.size (.cells #[.int .i64 cv.k, .int .i64 cv.n, .string cv.s] 46)).grown hg (by first | exact HbS.out.size | (have := HbS.out.size; simp; omega)) (fun k hk => (HO8.out.lt k hk).1))
              have HO9 := Lib.hid hv
              clear hv hg hl HbS
              have HbS := HbT
              clear HbT))
        all_goals
         have HJ9 := Lib.hid (show EvJ w (.slice A9 (r + 1) c9) (rest ++ [cv]) w9 from ⟨HO9.out.mono hs7, (HJ7.out.base.after HbS.out).res, (HJ7.out.base.after HbS.out).none, (HJ7.out.base.after HbS.out).below, Hin.out⟩)
         clear HO9 HbS HO8
         go_wp2
         go_roundw
         case rel => exact ⟨k + 1, rest ++ [cv], by omega, by rw [List.length_append, Hrl.out]; show r + 1 ≤ _; omega, by go_num, HJ9, Hgo⟩
         case measure => simp [intOf]; omega
  · have hkn : k = n := by omega
    have hstep := hinv.out
    rw [List.drop_eq_nil_of_le (by rw [Hn.out]; omega), goS] at hstep
    have hT := HT.out
    rw [← hstep] at hT
    clear hstep hinv
    match ls, hT, hJ with
    | [], hT, hJ =>
      obtain rfl : R = (nl, 30) := hT
      have r0 := hJ.out.res.cell0
      have r1 := hJ.out.res.cell1
      have r2 := hJ.out.res.cell2
      have f0 := hJ.out.res.frozen 0
      have f1 := hJ.out.res.frozen 1
      have f2 := hJ.out.res.frozen 2
      have o0 := hJ.out.none.cell0
      have o1 := hJ.out.none.cell1
      have o2 := hJ.out.none.cell2
      have HF := Lib.hid (hJ.out.fin nl)
      go_wp2
      exact ret_valX (a := nl) (z := .int .i64 30) Tryz.results48 rfl rfl HF.out.1 rfl ⟨rfl, HF.out.2⟩
    | [y], hT, hJ =>
      obtain rfl : R = (y, 0) := hT
      have r0 := hJ.out.res.cell0
      have r1 := hJ.out.res.cell1
      have r2 := hJ.out.res.cell2
      have f0 := hJ.out.res.frozen 0
      have f1 := hJ.out.res.frozen 1
      have f2 := hJ.out.res.frozen 2
      have o0 := hJ.out.none.cell0
      have o1 := hJ.out.none.cell1
      have o2 := hJ.out.none.cell2
      have HF := Lib.hid (hJ.out.fin y)
      obtain ⟨A8, c8, hv8, _, _, hsl⟩ := hJ.out.own.sl valOk.len
      injection hv8 with q1 _ q3
      subst q1 q3
      rcases hsl with h0 | ⟨g, off, rfl, hlt, hc⟩
      · cases h0
      have y0 := hc 0 y rfl 0 _ rfl
      have y1 := hc 0 y rfl 1 _ rfl
      have y2 := hc 0 y rfl 2 _ rfl
      simp only [Nat.zero_mul, Nat.add_zero] at y0 y1 y2
      clear hc
      go_wp2
      exact ret_valX (a := y) (z := .int .i64 0) Tryz.results48 rfl rfl HF.out.1 rfl ⟨rfl, HF.out.2⟩
    | y :: y2 :: r, hT, hJ =>
      obtain rfl : R = (nl, 30) := hT
      have r0 := hJ.out.res.cell0
      have r1 := hJ.out.res.cell1
      have r2 := hJ.out.res.cell2
      have f0 := hJ.out.res.frozen 0
      have f1 := hJ.out.res.frozen 1
      have f2 := hJ.out.res.frozen 2
      have o0 := hJ.out.none.cell0
      have o1 := hJ.out.none.cell1
      have o2 := hJ.out.none.cell2
      have HF := Lib.hid (hJ.out.fin nl)
      have hL2 : ((((y :: y2 :: r).length : Nat) : Int) != 1) = true := by simp; omega
      obtain ⟨L, hL⟩ : ∃ L, (y :: y2 :: r).length = L := ⟨_, rfl⟩
      rw [hL] at hL2 ⊢
      have hL9 : L ≤ 100 := by rw [← hL]; omega
      clear hL
      go_wp2
      exact ret_valX (a := nl) (z := .int .i64 30) Tryz.results48 rfl rfl HF.out.1 rfl ⟨rfl, HF.out.2⟩
theorem reval_c (A A2 : Option Addr) (n c m c2 : Nat) (e : List Nd) (row : List Val) (w : World) (hn : e.length = n) (hs : SlN w A e) (hmax : n ≤ maxLen) (hm : row.length = m) (hmax2 : m ≤ maxLen) (hs2 : Sl w A2 row) (hz : ∀ x ∈ e, x.v.s.size ≤ maxLen) (hr64 : ∀ v ∈ row, I6n v.n) (he64 : ∀ x ∈ e, I6n x.v.n) :
 Calls Tryz.prog 48 #[.slice A n c, .slice A2 m c2] w fun en w' => en = .returned (.tuple #[(evalR e row).1.v, .int .i64 (evalR e row).2]) ∧ Below w.heap.size w w' := by
 by_cases h : n ≤ 100
 · exact reval_few A A2 n c m c2 e row w hn hs h hm hmax2 hs2 hz hr64 he64
 · have e1 : evalR e row = (nl, 1) := by unfold evalR; rw [if_pos (by omega)]
   rw [e1]
   exact reval_many A A2 n c m c2 w (by omega) hmax
end Go.Proofs.YtbpopkgpepmlcaaGreat
