/-
  What a step makes of the stack, told as the document tells it: plain facts.
-/
import Derived.Test.YticofedglhfdpaaGreatDoorRDo
import Derived.Test.YticofedglhfdpaaGreatDoorEval
import Derived.Test.YticofedglhfdpaaGreatDoorOwnG
namespace Go.Proofs.YticofedglhfdpaaGreatDoor
open Go Go.RowKit

theorem tk_bad (op : Int) (h : tkR op = -1) : (op == 0) = false ∧ (op == 1) = false ∧ takes op = 0 ∧ ∀ l, (kindR op l).2 = false := by
  unfold tkR at h
  cases h0 : op == 0
  · cases h1 : op == 1
    · cases h9 : op == 9
      · cases h10 : op == 10
        · cases h2 : (decide (2 ≤ op) && decide (op ≤ 8))
          · refine ⟨rfl, rfl, ?_, fun l => ?_⟩
            · have a1 : ¬ (2 ≤ op ∧ op ≤ 8) := by simpa using h2
              have a2 : ¬ (op = 9 ∨ op = 10) := by simp at h9 h10; omega
              unfold takes
              rw [if_neg a1, if_neg a2]
            · have a1 : ¬ (2 ≤ op ∧ op ≤ 8) := by simpa using h2
              have e : ∀ k : Int, 2 ≤ k → k ≤ 8 → (op == k) = false := fun k hk hk' => by simp; omega
              unfold kindR
              rw [e 2 (by omega) (by omega), e 3 (by omega) (by omega), e 4 (by omega) (by omega), e 5 (by omega) (by omega), e 6 (by omega) (by omega), e 7 (by omega) (by omega), e 8 (by omega) (by omega), h9, h10]
              rfl
          · rw [h0, h1, h9, h10, h2] at h; cases h
        · rw [h0, h1, h9, h10] at h; cases h
      · rw [h0, h1, h9] at h; cases h
    · rw [h0, h1] at h; cases h
  · rw [h0] at h; cases h
theorem tk_cases (op : Int) : tkR op = -1 ∨ op = 0 ∨ op = 1 ∨ (op = 9 ∨ op = 10) ∨ (2 ≤ op ∧ op ≤ 8) := by
  unfold tkR
  cases h0 : op == 0
  · cases h1 : op == 1
    · cases h9 : op == 9
      · cases h10 : op == 10
        · cases h2 : (decide (2 ≤ op) && decide (op ≤ 8))
          · exact .inl rfl
          · exact .inr (.inr (.inr (.inr (by simpa using h2))))
        · exact .inr (.inr (.inr (.inl (.inr (by simpa using h10)))))
      · exact .inr (.inr (.inr (.inl (.inl (by simpa using h9)))))
    · exact .inr (.inr (.inl (by simpa using h1)))
  · exact .inr (.inl (by simpa using h0))
theorem tk_two (op : Int) (h : 2 ≤ op ∧ op ≤ 8) : tkR op = 2 ∧ takes op = 2 ∧ (op == 0) = false ∧ (op == 1) = false := by
  have e : ∀ k : Int, k < 2 ∨ 8 < k → (op == k) = false := fun k hk => by simp; omega
  refine ⟨?_, ?_, e 0 (by omega), e 1 (by omega)⟩
  · unfold tkR
    rw [e 0 (by omega), e 1 (by omega), e 9 (by omega), e 10 (by omega), decide_eq_true h.1, decide_eq_true h.2]
    rfl
  · unfold takes
    rw [if_pos h]
theorem tk_one (op : Int) (h : op = 9 ∨ op = 10) : tkR op = 1 ∧ takes op = 1 ∧ (op == 0) = false ∧ (op == 1) = false := by
  rcases h with rfl | rfl <;> exact ⟨rfl, rfl, rfl, rfl⟩
theorem stepV_bad (row ls : List Val) (x : Nd) (h : tkR x.op = -1) : stepV row ls x = .inl 30 := by
  obtain ⟨h0, h1, ht, hk⟩ := tk_bad x.op h
  have e : lvV row ls x = (nl, 30, ls.take (ls.length - 0)) := by
    unfold lvV
    rw [h0, h1, ht, if_neg Bool.false_ne_true, if_neg Bool.false_ne_true, if_neg (Nat.not_lt_zero _)]
    unfold opR mtR
    rw [hk]
    rfl
  unfold stepV
  rw [e]
  rfl
theorem stepV_few (row ls : List Val) (x : Nd) (h0 : (x.op == 0) = false) (h1 : (x.op == 1) = false) (h : ls.length < takes x.op) : stepV row ls x = .inl 30 := by
  have e : lvV row ls x = (nl, 30, ls) := by
    unfold lvV
    rw [h0, h1, if_neg Bool.false_ne_true, if_neg Bool.false_ne_true, if_pos h]
  unfold stepV
  rw [e]
  rfl
theorem stepV_col (row ls : List Val) (x : Nd) (h0 : (x.op == 0) = true) (i : Nat) (v : Val) (hi : x.n = i) (hv : row[i]? = some v) : stepV row ls x = .inr (ls ++ [v]) := by
  have e : lvV row ls x = (v, 0, ls) := by
    unfold lvV
    rw [h0, if_pos rfl]
    unfold vcolR
    rw [hi, if_neg (by omega), Int.toNat_natCast, hv]
  unfold stepV
  rw [e]
  rfl
theorem stepV_nocol (row ls : List Val) (x : Nd) (h0 : (x.op == 0) = true) (h : x.n < 0 ∨ (row.length : Int) ≤ x.n) : stepV row ls x = .inl 30 := by
  have e : lvV row ls x = (nl, 30, ls) := by
    unfold lvV
    rw [h0, if_pos rfl]
    unfold vcolR
    rcases h with h | h
    · rw [if_pos h]
    · by_cases h' : x.n < 0
      · rw [if_pos h']
      · rw [if_neg h', List.getElem?_eq_none (by omega)]
  unfold stepV
  rw [e]
  rfl
theorem stepV_con (row ls : List Val) (x : Nd) (h0 : (x.op == 0) = false) (h1 : (x.op == 1) = true) : stepV row ls x = if rmB x.v then .inr (ls ++ [x.v]) else .inl 30 := by
  have e : lvV row ls x = ((conR x.v).1, (conR x.v).2, ls) := by
    unfold lvV
    rw [h0, h1, if_neg Bool.false_ne_true, if_pos rfl]
  unfold stepV
  rw [e]
  unfold conR
  rw [may_rm]
  cases rmB x.v <;> rfl
theorem stepV_op (row rest ts : List Val) (x : Nd) (h0 : (x.op == 0) = false) (h1 : (x.op == 1) = false) (ht : ts.length = takes x.op) :
    stepV row (rest ++ ts) x = if mtR x.op ts then (if (cmpR x.op ts).2 then .inr (rest ++ [(cmpR x.op ts).1]) else .inl 31) else .inl 30 := by
  have hl : (rest ++ ts).length - takes x.op = rest.length := by rw [List.length_append, ht]; omega
  have e : lvV row (rest ++ ts) x = ((opR x.op ts).1, (opR x.op ts).2, rest) := by
    unfold lvV
    rw [h0, h1, if_neg Bool.false_ne_true, if_neg Bool.false_ne_true, if_neg (by rw [List.length_append, ht]; omega), hl, List.drop_left, List.take_left]
  unfold stepV
  rw [e]
  unfold opR
  cases mtR x.op ts
  · rfl
  · cases (cmpR x.op ts).2 <;> rfl

/-- What a step leaves is of 64 bits. -/
theorem nl_64 : N64 nl.n := ⟨by decide, by decide⟩
theorem tv_64 (b : Bool) : N64 (tv b).n := by cases b <;> exact ⟨by decide, by decide⟩
theorem nt_64 (x : Val) : N64 (nt x).n := by
  unfold nt
  split
  · exact ⟨by decide, by decide⟩
  · split
    · exact ⟨by decide, by decide⟩
    · exact ⟨by decide, by decide⟩
theorem wrap_64 (n : Int) : N64 (wrap64 n) := by unfold N64 wrap64; omega
theorem comp_64 (x y : Val) (r : Int) (f : Bool) (hr : N64 r) : N64 (comp x y r f).1.n := by
  unfold comp
  split
  · exact nl_64
  · split
    · exact nl_64
    · split
      · exact hr
      · exact nl_64
theorem dec_64 (s t : Val) (hs : N64 s.n) : ∀ (l : List Val) (a : Val), N64 a.n → N64 (dec s t a l).n
  | [], a, h => by rw [dec]; exact h
  | v :: r, a, h => by
    rw [dec]
    split
    · exact hs
    · split
      · exact dec_64 s t hs r _ h
      · exact dec_64 s t hs r _ nl_64
theorem unl_64 (b : Bool) (l : List Val) : N64 (unl b l).n := by
  unfold unl
  split
  · exact nl_64
  · exact tv_64 b
theorem mulIs_64 (a b : Int) : N64 (mulIs a b) := by
  unfold mulIs
  split
  · exact ⟨by decide, by decide⟩
  · split
    · exact ⟨by decide, by decide⟩
    · exact wrap_64 _
theorem cmpR_64 (op : Int) (l : List Val) : N64 (cmpR op l).1.n := by
  unfold cmpR
  split
  · exact comp_64 _ _ _ _ (wrap_64 _)
  · split
    · exact comp_64 _ _ _ _ (wrap_64 _)
    · split
      · exact comp_64 _ _ _ _ (mulIs_64 _ _)
      · split
        · exact unl_64 _ _
        · split
          · exact unl_64 _ _
          · split
            · exact dec_64 ff _ ⟨by decide, by decide⟩ l _ (by rw [nt_ff]; exact ⟨by decide, by decide⟩)
            · split
              · exact dec_64 tt _ ⟨by decide, by decide⟩ l _ (by rw [nt_tt]; exact ⟨by decide, by decide⟩)
              · split
                · exact nt_64 _
                · exact tv_64 _

theorem split1 (ls : List Val) (r : Nat) (h : ls.length = r + 1) : ∃ rest b, ls = rest ++ [b] ∧ rest.length = r := by
  refine ⟨ls.take r, ls[r]'(by omega), ?_, by rw [List.length_take]; omega⟩
  have e : ls.drop r = [ls[r]'(by omega)] := by
    rw [List.drop_eq_getElem_cons (by omega), List.drop_eq_nil_of_le (by omega)]
  rw [← e, List.take_append_drop]
theorem split2 (ls : List Val) (r : Nat) (h : ls.length = r + 2) : ∃ rest a b, ls = rest ++ [a, b] ∧ rest.length = r := by
  refine ⟨ls.take r, ls[r]'(by omega), ls[r + 1]'(by omega), ?_, by rw [List.length_take]; omega⟩
  have e : ls.drop r = [ls[r]'(by omega), ls[r + 1]'(by omega)] := by
    rw [List.drop_eq_getElem_cons (by omega), List.drop_eq_getElem_cons (by omega), List.drop_eq_nil_of_le (by omega)]
  rw [← e, List.take_append_drop]
/-- What is answered of what is left. -/
def outV : Sum Int (List Val) → Val × Int
  | .inl er => (nl, er)
  | .inr [] => (nl, 30)
  | .inr [x] => (x, 0)
  | .inr (_ :: _ :: _) => (nl, 30)
theorem evalR_out (e : List Nd) (row : List Val) (h : e.length ≤ 100) : evalR e row = outV (goS (stepV row) [] e) := by
  unfold evalR
  rw [if_neg (by omega)]
  match goS (stepV row) [] e with
  | .inl er => rfl
  | .inr [] => rfl
  | .inr [x] => rfl
  | .inr (_ :: _ :: _) => rfl
def valRd (x : Val) : List Value := [.int .i64 x.k, .int .i64 x.n, .string x.s]
theorem valOk : ElOk Tryz.prog 24 31 3 32 nl.v valRd where
  under := Tryz.underlying24
  info := by kernel_rfl
  zs := rfl
  pos := by decide
  len := fun _ => rfl
  one := fun x u hu => by
    simp [valRd] at hu
    rcases hu with rfl | rfl | rfl <;> rfl
abbrev OwnW (w : World) (B : Nat) (v : Value) (l : List Val) : Prop := OwnG w B 31 3 valRd v l
theorem sl_slG {w : World} {A : Option Addr} {l : List Val} (h : Sl w A l) : SlG w A 3 valRd l := by
  rcases h with h | ⟨b, off, hA, hlt, h⟩
  · exact .inl h
  · refine .inr ⟨b, off, hA, hlt, fun i x hx j u hu => ?_⟩
    obtain ⟨h0, h1, h2⟩ := h i x hx
    match j, hu with
    | 0, hu => simp [valRd] at hu; subst hu; exact h0
    | 1, hu => simp [valRd] at hu; subst hu; exact h1
    | 2, hu => simp [valRd] at hu; subst hu; exact h2
    | j + 3, hu => simp [valRd] at hu
theorem slG_sl {w : World} {A : Option Addr} {l : List Val} (h : SlG w A 3 valRd l) : Sl w A l := by
  rcases h with h | ⟨b, off, hA, hlt, h⟩
  · exact .inl h
  · exact .inr ⟨b, off, hA, hlt, fun i x hx => ⟨h i x hx 0 _ rfl, h i x hx 1 _ rfl, h i x hx 2 _ rfl⟩⟩
theorem SlG.take {α : Type} {rd : α → List Value} {S : Nat} {w : World} {A : Option Addr} {xs : List α} (h : SlG w A S rd xs) (n : Nat) : SlG w A S rd (xs.take n) := by
  rcases h with h | ⟨b, off, hA, hlt, h⟩
  · exact .inl (by rw [h]; simp)
  · refine .inr ⟨b, off, hA, hlt, fun i x hx j u hu => h i x ?_ j u hu⟩
    rw [List.getElem?_take] at hx
    split at hx
    · exact hx
    · cases hx
/-- append of nothing, in a statement whose order Go leaves open. -/
theorem step_appG0 {α : Type} {rd : α → List Value} {S : Nat} {P : Program} {T E : TypeId} {bytes : Nat} {z : Value} {ops : Array Oper} {o : Oper} {a : Act} {w : World} {K : Act → World → Prop} {Q : Exit → Act → World → Prop} {F : Prop} (he : ElOk P T E S bytes z rd) (hgd : o.guard = none) (s y : Operand) (ho : o.op = .call { callee := .builtin .append, args := #[s, y], argTypes := #[T, T] })
    (B : Nat) (v : Value) (xs : List α) (hs : a.eval s = v) (hb : OwnG w B E S rd v xs) (A : Option Addr) (c : Nat) (hy : a.eval y = .slice A 0 c)
    (h : K (a.put o.dst v) w) : if Region.wanted o (yielded ops a.tmps) = true then Oper.wp P o a w K Q else F := by
  have hw : Region.wanted o (yielded ops a.tmps) = true := by simp [Region.wanted, hgd]
  rw [if_pos hw]
  have hr : (Builtin.append_ #[T, T] o.type #[v, .slice A 0 c]).run P w = .ok v w := by
    obtain ⟨i0, hi, hz0, hz1, hz2⟩ := he.parts
    cases A with
    | none => exact app_none he w v B c o.type xs hb
    | some ad =>
      have hl : (loadCells ad 0).run P w = .ok #[] w := by simp [loadCells, loadCellsFrom]
      rcases hb.2 with ⟨rfl, _⟩ | ⟨g, cap, cur, rfl, _, _, hnc, _⟩
      · simp [Builtin.append_, run_underlying he.under, sizeOf, typeInfo, hi, Builtin.lenOf, Builtin.firstCells, hl]
      · simp [Builtin.append_, run_underlying he.under, sizeOf, typeInfo, hi, Builtin.lenOf, Builtin.firstCells, hnc, storeCells, hl]
  unfold Oper.wp execOp
  simp only [ho, resolve, invoke, builtin, Sem.run_bind, Sem.run_pure, Result.andThen_ok, List.map_toArray, List.map_cons, List.map_nil, hs, hy, hr]
  exact h
end Go.Proofs.YticofedglhfdpaaGreatDoor
