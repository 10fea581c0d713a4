/-
  Part 1 of 7 of what the proof leans on: each part below says what it proves, and of what; no condition besides.
-/
import Derived.Orders
import Derived.Below
import Derived.KernelRfl
import Derived.Test.YtjgpmnffagdhlaaGreatDoorProg
import Derived.WalkKit
import Derived.WalkSpells
import Derived.WalkLawsBesides
import Derived.Deep.QuietTactic
import Derived.Deep.RegionWith
import Derived.Deep.DrawnRows
import Derived.BigQuiet
import Derived.Lib.Hide
import Derived.Laws.StructEq
import Derived.Maps.AppendAt
import Derived.Deep.AppendLies
import Derived.OwnWalk
import Derived.Lib.BufSteps
import Derived.Lib.Replace
import Derived.Lib.ReplaceLaws
import Derived.Lib.ItoaNum
import Derived.Lib.Join
import Derived.Lib.AtoiAll
import Derived.Lib.Bytealg
set_option linter.unusedVariables false
set_option linter.unusedSimpArgs false
namespace Go.Proofs.YtjgpmnffagdhlaaGreatDoor
open Go Go.RowKit
namespace Reg
/-- The direct binding predecessors of an operation. -/
def direct (o : Oper) : List Nat := (o.after.toList.filter fun e => Region.binds .any e).map (·.on)
/-- What slot t holds. -/
def slot (a : Act) (t : Tmp) : Value := a.tmps.getD t undef
def dsts (ops : Array Oper) : List Tmp := ops.toList.filterMap (·.dst)
/-- What the table says of operation i. -/
def At (see : Nat → List Tmp) (fact : Nat → List Value → World → Prop) (i : Nat) (a : Act) (w : World) : Prop := fact i ((see i).map (slot a)) w
/-- THE TABLE IS IN ORDER: what it reads as it was before (olds) is written by such alone as wait for it; each operation's binding predecessors stand before it; what it leans on (deps) are its predecessors, or those of one of them; the slots that its fact looks at are written by itself, or by one that it leans on, or by nobody. -/
def okAt (ops : Array Oper) (see deps olds : Nat → List Nat) (i : Nat) (o : Oper) : Bool :=
  ((olds i).all fun t => (List.range ops.size).all fun k => match ops[k]? with
    | some ok => ok.dst != some t || (direct ok).contains i
    | none => true) &&
  ((direct o).all fun j => decide (j < i)) &&
  ((deps i).all fun j => (direct o).any fun k => j == k || (deps k).contains j) &&
  ((List.range ops.size).all fun k => match (ops[k]?).bind (·.dst) with
    | some d => !(see i).contains d || k == i || (deps i).contains k
    | none => true)
def ok (ops : Array Oper) (see deps olds : Nat → List Nat) : Bool :=
  (List.range ops.size).all fun i => match ops[i]? with
    | some o => okAt ops see deps olds i o
    | none => true
section
variable {P : Program} {ops : Array Oper} {Q : Exit → Act → World → Prop} {see deps olds : Nat → List Nat} {fact : Nat → List Value → World → Prop}
theorem ok_spec (h : ok ops see deps olds = true) {i : Nat} {o : Oper} (hi : ops[i]? = some o) : okAt ops see deps olds i o = true := by
  have hlt : i < ops.size := (Array.getElem?_eq_some_iff.1 hi).1
  have := List.all_eq_true.1 h i (List.mem_range.2 hlt)
  simpa [hi] using this
/-- What is known while the region runs. -/
structure Inv (ops : Array Oper) (see : Nat → List Nat) (fact : Nat → List Value → World → Prop) (B : Nat) (a0 : Act) (w0 : World) (listed : Array Bool) (a : Act) (w : World) : Prop where
  defers : a.defers = a0.defers
  size : a.tmps.size = a0.tmps.size
  old : ∀ t, (∀ k o, ops[k]? = some o → o.dst = some t → listed.getD k true = false) → slot a t = slot a0 t
  below : Below B w0 w
  down : ∀ i o, ops[i]? = some o → listed.getD i true = true → ∀ j ∈ direct o, listed.getD j true = true
  facts : ∀ i, i < ops.size → listed.getD i true = true → At see fact i a w
/-- What one operation owes. -/
def StepOk (P : Program) (ops : Array Oper) (Q : Exit → Act → World → Prop) (see deps olds : Nat → List Nat) (fact : Nat → List Value → World → Prop) (B : Nat) (a0 : Act) (w0 : World) (i : Nat) (o : Oper) : Prop :=
  ∀ (a : Act) (w : World), a.tmps.size = a0.tmps.size → (∀ t, t ∉ dsts ops → slot a t = slot a0 t) → (∀ t ∈ olds i, slot a t = slot a0 t) → Below B w0 w → (∀ j ∈ deps i, At see fact j a w) →
    wpOp P ops Q i (fun a' w' => ∃ v, a' = a.put o.dst v ∧ At see fact i a' w' ∧ Below B w w' ∧ ∀ j, j ≠ i → j < ops.size → At see fact j a w → At see fact j a w') a w
theorem slot_put_ne (a : Act) (dst : Option Tmp) (v : Value) (t : Tmp) (h : dst ≠ some t) : slot (a.put dst v) t = slot a t := by
  cases dst with
  | none => rfl
  | some d =>
    have hne : d ≠ t := fun e => h (by rw [e])
    simp [slot, Act.put, Array.getElem?_setIfInBounds_ne hne]
theorem slot_put_same (a : Act) (d : Tmp) (v : Value) (h : d < a.tmps.size) : slot (a.put (some d) v) d = v := by
  simp [slot, Act.put, h]
theorem size_put (a : Act) (dst : Option Tmp) (v : Value) : (a.put dst v).tmps.size = a.tmps.size := by
  cases dst <;> simp [Act.put]
theorem defers_put (a : Act) (dst : Option Tmp) (v : Value) : (a.put dst v).defers = a.defers := by
  cases dst <;> rfl
theorem at_put {i : Nat} {a : Act} {w : World} {dst : Option Tmp} {v : Value} (h : ∀ d, dst = some d → d ∉ see i) (hf : At see fact i a w) : At see fact i (a.put dst v) w := by
  unfold At at *
  have : (see i).map (slot (a.put dst v)) = (see i).map (slot a) := List.map_congr_left fun t ht => slot_put_ne a dst v t (fun e => h t e ht)
  rw [this]; exact hf
theorem listed_lt {listed : Array Bool} {j : Nat} (h : listed.getD j true = false) : j < listed.size := by
  rcases Nat.lt_or_ge j listed.size with h' | h'
  · exact h'
  · simp [Array.getElem?_eq_none h'] at h
theorem getD_set {listed : Array Bool} {i j : Nat} (h : (listed.setIfInBounds i true).getD j true = true) : j = i ∨ listed.getD j true = true := by
  by_cases e : j = i
  · exact .inl e
  · right; rw [getD_set_ne true (fun e' => e e'.symm)] at h; exact h
theorem no_writer {t : Tmp} (h : t ∉ dsts ops) {k : Nat} {o : Oper} (hk : ops[k]? = some o) : o.dst ≠ some t :=
  fun hd => h (List.mem_filterMap.2 ⟨o, by have := Array.mem_of_getElem? hk; simpa using this, hd⟩)
theorem Inv.rest {B : Nat} {a0 : Act} {w0 : World} {listed : Array Bool} {a : Act} {w : World} (h : Inv ops see fact B a0 w0 listed a w) (t : Tmp) (ht : t ∉ dsts ops) : slot a t = slot a0 t :=
  h.old t fun _ _ hk hd => absurd hd (no_writer ht hk)
/-- What an operation leans on is listed once it may come up, or has. -/
theorem deps_listed (hok : ok ops see deps olds = true) {listed : Array Bool} (down : ∀ i o, ops[i]? = some o → listed.getD i true = true → ∀ j ∈ direct o, listed.getD j true = true) :
    ∀ (n i : Nat) (o : Oper), i ≤ n → ops[i]? = some o → (∀ j ∈ direct o, listed.getD j true = true) → ∀ j ∈ deps i, listed.getD j true = true := by
  intro n
  induction n with
  | zero =>
    intro i o hi ho hd j hj
    have h := ok_spec hok ho
    simp only [okAt, Bool.and_eq_true, List.all_eq_true, List.any_eq_true, decide_eq_true_eq] at h
    obtain ⟨k, hk, _⟩ := h.1.2 j hj
    have := h.1.1.2 k hk
    omega
  | succ n ih =>
    intro i o hi ho hd j hj
    have h := ok_spec hok ho
    simp only [okAt, Bool.and_eq_true, List.all_eq_true, List.any_eq_true, decide_eq_true_eq] at h
    obtain ⟨k, hk, hjk⟩ := h.1.2 j hj
    have hki := h.1.1.2 k hk
    rcases Bool.or_eq_true _ _ ▸ hjk with e | e
    · have : j = k := by simpa using e
      subst this; exact hd j hk
    · have hko : k < ops.size := by have := (Array.getElem?_eq_some_iff.1 ho).1; omega
      exact ih k ops[k] (by omega) (Array.getElem?_eq_getElem hko) (down k ops[k] (Array.getElem?_eq_getElem hko) (hd k hk)) j (by simpa using e)
theorem wpAny_inv (hok : ok ops see deps olds = true) {B : Nat} {a0 : Act} {w0 : World}
    (hstep : ∀ i o, ops[i]? = some o → StepOk P ops Q see deps olds fact B a0 w0 i o)
    (hend : ∀ a w, a.defers = a0.defers → a.tmps.size = a0.tmps.size → (∀ t, t ∉ dsts ops → slot a t = slot a0 t) → Below B w0 w → (∀ i, i < ops.size → At see fact i a w) → Q .normal a w) :
    ∀ (fuel : Nat) (listed : Array Bool) (a : Act) (w : World), listed.size = ops.size → (listed.toList.countP fun b => !b) ≤ fuel → Inv ops see fact B a0 w0 listed a w → wpAny P .any ops Q fuel listed a w := by
  have final : ∀ (listed : Array Bool) (a : Act) (w : World), listed.size = ops.size → Inv ops see fact B a0 w0 listed a w → Region.ready .any ops listed = [] → Q .normal a w := by
    intro listed a w hsz hI hr
    have all : ∀ (n i : Nat), i < n → i < ops.size → listed.getD i true = true := by
      intro n
      induction n with
      | zero => intro i hi; omega
      | succ n ih =>
        intro i hi ho
        cases hl : listed.getD i true with
        | true => rfl
        | false =>
          have hmem : i ∈ Region.ready .any ops listed := by
            refine mem_ready.2 ⟨hl, ops[i], Array.getElem?_eq_getElem ho, fun e he hb => ?_⟩
            have hdir : e.on ∈ direct ops[i] := List.mem_map.2 ⟨e, List.mem_filter.2 ⟨by simpa using he, hb⟩, rfl⟩
            have h := ok_spec hok (Array.getElem?_eq_getElem ho)
            simp only [okAt, Bool.and_eq_true, List.all_eq_true, decide_eq_true_eq] at h
            have hlt := h.1.1.2 _ hdir
            have := ih e.on (by omega) (by omega)
            have hs : e.on < listed.size := by omega
            simp [hs] at this ⊢
            exact this
          rw [hr] at hmem; cases hmem
    exact hend a w hI.defers hI.size hI.rest hI.below fun i hi => hI.facts i hi (all (i + 1) i (by omega) hi)
  intro fuel
  induction fuel with
  | zero =>
    intro listed a w hsz hc hI
    have hnil : Region.ready .any ops listed = [] := by
      rcases hr : Region.ready .any ops listed with _ | ⟨x, xs⟩
      · rfl
      · exfalso
        have hx : x ∈ Region.ready .any ops listed := by rw [hr]; simp
        have h0 := (mem_ready.1 hx).1
        have hlt := listed_lt h0
        have : false ∈ listed.toList := by
          have : listed[x] = false := by simpa [hlt] using h0
          exact this ▸ (by simp : listed[x] ∈ listed.toList)
        have hp : 0 < listed.toList.countP fun b => !b := List.countP_pos_iff.2 ⟨false, this, rfl⟩
        omega
    exact ⟨hnil, final listed a w hsz hI hnil⟩
  | succ fuel ih =>
    intro listed a w hsz hc hI
    refine ⟨final listed a w hsz hI, fun i hi => ?_⟩
    obtain ⟨h0, o, ho, hall⟩ := mem_ready.1 hi
    have hilt : i < ops.size := (Array.getElem?_eq_some_iff.1 ho).1
    have hdir : ∀ j ∈ direct o, listed.getD j true = true := by
      intro j hj
      obtain ⟨e, he, rfl⟩ := List.mem_map.1 hj
      obtain ⟨he1, he2⟩ := List.mem_filter.1 he
      have := hall e (by simpa using he1) he2
      rcases Nat.lt_or_ge e.on listed.size with h' | h'
      · simp [h'] at this ⊢; exact this
      · simp [Array.getElem?_eq_none h'] at this
    have hdeps := deps_listed hok hI.down i i o (Nat.le_refl _) ho hdir
    have hdepslt : ∀ j ∈ deps i, j < ops.size := by
      intro j hj
      -- every dep is before i
      have key : ∀ (n i : Nat) (o : Oper), i ≤ n → ops[i]? = some o → ∀ j ∈ deps i, j < i := by
        intro n
        induction n with
        | zero =>
          intro i o hi ho j hj
          have h := ok_spec hok ho
          simp only [okAt, Bool.and_eq_true, List.all_eq_true, List.any_eq_true, decide_eq_true_eq] at h
          obtain ⟨k, hk, _⟩ := h.1.2 j hj
          have := h.1.1.2 k hk
          omega
        | succ n ihn =>
          intro i o hi ho j hj
          have h := ok_spec hok ho
          simp only [okAt, Bool.and_eq_true, List.all_eq_true, List.any_eq_true, decide_eq_true_eq] at h
          obtain ⟨k, hk, hjk⟩ := h.1.2 j hj
          have hki := h.1.1.2 k hk
          rcases Bool.or_eq_true _ _ ▸ hjk with e | e
          · have : j = k := by simpa using e
            omega
          · have hko : k < ops.size := by have := (Array.getElem?_eq_some_iff.1 ho).1; omega
            have := ihn k ops[k] (by omega) (Array.getElem?_eq_getElem hko) j (by simpa using e)
            omega
      have := key i i o (Nat.le_refl _) ho j hj
      omega
    have hOld : ∀ t ∈ olds i, slot a t = slot a0 t := by
      intro t ht
      refine hI.old t fun k ok hk hd => ?_
      have h := ok_spec hok ho
      simp only [okAt, Bool.and_eq_true, List.all_eq_true] at h
      have hkk := h.1.1.1 t ht k (List.mem_range.2 (Array.getElem?_eq_some_iff.1 hk).1)
      simp only [hk, hd, bne_self_eq_false, Bool.false_or, List.contains_iff_mem] at hkk
      cases hl : listed.getD k true with
      | false => rfl
      | true =>
        have := hI.down k ok hk hl i hkk
        rw [this] at h0; cases h0
    refine wpOp_mono ?_ (hstep i o ho a w hI.size hI.rest hOld hI.below fun j hj => hI.facts j (hdepslt j hj) (hdeps j hj))
    rintro a' w' ⟨v, rfl, hfi, hbw, hkeep⟩
    have hnl : ∀ j, j < ops.size → listed.getD j true = true → i ∉ deps j := by
      intro j hj hlj hmem
      have := deps_listed hok hI.down j j ops[j] (Nat.le_refl _) (Array.getElem?_eq_getElem hj) (hI.down j ops[j] (Array.getElem?_eq_getElem hj) hlj) i hmem
      rw [this] at h0; cases h0
    refine ih _ _ _ (by simpa using hsz) ?_ ⟨?_, ?_, ?_, ?_, ?_, ?_⟩
    · -- the count goes down
      have hls : i < listed.size := listed_lt h0
      have hv : listed[i] = false := by simpa [hls] using h0
      have hset : (listed.setIfInBounds i true).toList = listed.toList.set i true := by simp
      rw [hset, List.countP_set (by simpa using hls)]
      have h1 : listed.toList[i] = false := by simpa using hv
      simp only [h1, Bool.not_false, if_true, Bool.not_true, Bool.false_eq_true, if_false]
      omega
    · rw [defers_put]; exact hI.defers
    · rw [size_put]; exact hI.size
    · intro t ht
      have hne : o.dst ≠ some t := fun hd => by
        have := ht i o ho hd
        have hls : i < listed.size := listed_lt h0
        simp [hls] at this
      rw [slot_put_ne _ _ _ _ hne]
      refine hI.old t fun k ok hk hd => ?_
      have := ht k ok hk hd
      by_cases e : i = k
      · subst e; exact h0
      · rwa [getD_set_ne true e] at this
    · exact hI.below.trans hbw
    · intro j oj hoj hlj k hk
      rcases getD_set hlj with rfl | hl
      · rw [ho] at hoj; cases hoj
        have hki : k ≠ j := by
          have h := ok_spec hok ho
          simp only [okAt, Bool.and_eq_true, List.all_eq_true, decide_eq_true_eq] at h
          have := h.1.1.2 k hk
          omega
        rw [getD_set_ne true (Ne.symm hki)]; exact hdir k hk
      · have := hI.down j oj hoj hl k hk
        by_cases e : i = k
        · subst e; rw [this] at h0; cases h0
        · rw [getD_set_ne true e]; exact this
    · intro j hj hlj
      rcases getD_set hlj with rfl | hl
      · exact hfi
      · have hji : j ≠ i := by rintro rfl; rw [hl] at h0; cases h0
        have hfj := hkeep j hji hj (hI.facts j hj hl)
        refine at_put (fun d hd hmem => ?_) hfj
        have h := ok_spec hok (Array.getElem?_eq_getElem hj)
        simp only [okAt, Bool.and_eq_true, List.all_eq_true] at h
        have := h.2 i (List.mem_range.2 hilt)
        simp only [ho, Option.bind_some, hd] at this
        simp only [Bool.or_eq_true, Bool.not_eq_true', beq_iff_eq, List.contains_iff_mem] at this
        rcases this with (h1 | h1) | h1
        · simp [hmem] at h1
        · exact hji h1.symm
        · exact hnl j hj hl h1
/-- A REGION THAT DRAWS ITS ORDER, BY THE TABLE. -/
theorem wp_region_facts {id : Nat} {a : Act} {w : World} (hm : P.follows .mixedOrders = true) (see deps olds : Nat → List Nat) (fact : Nat → List Value → World → Prop) (hok : ok ops see deps olds = true)
    (B : Nat) (hstep : ∀ i o, ops[i]? = some o → StepOk P ops Q see deps olds fact B a w i o)
    (hend : ∀ a' w', a'.defers = a.defers → a'.tmps.size = a.tmps.size → (∀ t, t ∉ dsts ops → slot a' t = slot a t) → Below B w w' → (∀ i, i < ops.size → At see fact i a' w') → Q .normal a' w') :
    (Code.region id ops true).wp P Q a w := by
  refine wp_region_any hm ?_
  refine wpAny_inv hok (B := B) (a0 := a) (w0 := w) hstep hend ops.size _ a _ (by simp) ?_ ⟨rfl, rfl, fun _ _ => rfl, (Below.refl _ _).drew, ?_, ?_⟩
  · refine Nat.le_trans List.countP_le_length ?_
    simp
  · intro i o hi hl
    have hlt : i < ops.size := (Array.getElem?_eq_some_iff.1 hi).1
    simp [hlt] at hl
  · intro i hi hl
    simp [hi] at hl
end
end Reg
end Go.Proofs.YtjgpmnffagdhlaaGreatDoor
namespace Go.Proofs.YtjgpmnffagdhlaaGreatDoor
open Go Go.RowKit
namespace Reg
/-- The frame with these values put. -/
def putAll (a : Act) : List (Tmp × Value) → Act
  | [] => a
  | x :: l => putAll (a.put (some x.1) x.2) l
theorem putAll_size (l : List (Tmp × Value)) : ∀ a : Act, (putAll a l).tmps.size = a.tmps.size := by
  induction l with
  | nil => intro a; rfl
  | cons x l ih => intro a; rw [putAll, ih, size_put]
theorem putAll_defers (l : List (Tmp × Value)) : ∀ a : Act, (putAll a l).defers = a.defers := by
  induction l with
  | nil => intro a; rfl
  | cons x l ih => intro a; rw [putAll, ih, defers_put]
theorem putAll_other (l : List (Tmp × Value)) (t : Tmp) : ∀ a : Act, t ∉ l.map (·.1) → slot (putAll a l) t = slot a t := by
  induction l with
  | nil => intro a _; rfl
  | cons x l ih =>
    intro a h
    simp only [List.map_cons, List.mem_cons, not_or] at h
    rw [putAll, ih _ h.2, slot_put_ne]
    intro e; injection e with e; exact h.1 e.symm
theorem putAll_at (l : List (Tmp × Value)) (t : Tmp) (v : Value) : ∀ a : Act, t < a.tmps.size → (l.map (·.1)).Nodup → (t, v) ∈ l → slot (putAll a l) t = v := by
  induction l with
  | nil => intro a _ _ h; cases h
  | cons x l ih =>
    intro a ht hn h
    simp only [List.map_cons, List.nodup_cons] at hn
    rw [putAll]
    rcases List.mem_cons.1 h with rfl | h
    · rw [putAll_other _ _ _ hn.1, slot_put_same _ _ _ ht]
    · exact ih _ (by rw [size_put]; exact ht) hn.2 h
/-- The frame at the end: what is known, and what is left open. -/
def fin (a : Act) (vals : List (Tmp × Value)) (free : List Tmp) (g : Tmp → Value) : Act := putAll a (vals ++ free.map fun t => (t, g t))
/-- The frame in which an operation is carried out: the late slots are as they were, for those that come before they are written. -/
def fr (a : Act) (vals late : List (Tmp × Value)) (free : List Tmp) (early : Nat → Bool) (i : Nat) (g : Tmp → Value) : Act := if early i then fin a vals free g else fin a (vals ++ late) free g
/-- What an operation reads as it was before. -/
def oldsOf (ops : Array Oper) (late : List (Tmp × Value)) (early : Nat → Bool) (i : Nat) : List Tmp :=
  match ops[i]? with
  | some o => if early i then (o.looksAt ops).filter fun t => (late.map (·.1)).contains t else []
  | none => []
/-- The table is in order. -/
def plan (ops : Array Oper) (n : Nat) (vals late : List (Tmp × Value)) (free : List Tmp) (sf : Nat → List Tmp) (early : Nat → Bool) : Bool :=
  (((vals ++ late).map (·.1) ++ free).all fun t => decide (t < n) && (dsts ops).contains t) &&
  ((dsts ops).all fun t => ((vals ++ late).map (·.1) ++ free).contains t) &&
  decide (((vals ++ late).map (·.1) ++ free).Nodup) &&
  decide ((dsts ops).Nodup) &&
  ((List.range ops.size).all fun i => match ops[i]? with
    | none => true
    | some o =>
      ((direct o).all fun j => decide (j < i)) &&
      ((oldsOf ops late early i).all fun t => (List.range ops.size).all fun k => match ops[k]? with
        | some ok => ok.dst != some t || (direct ok).contains i
        | none => true) &&
      ((o.looksAt ops).all fun t => !(dsts ops).contains t || (oldsOf ops late early i).contains t || (direct o).any fun j => ((ops[j]?).bind (·.dst)) == some t) &&
      ((sf i).all fun t => free.contains t && (o.dst == some t || (direct o).any fun j => ((ops[j]?).bind (·.dst)) == some t)))
def seeOf (ops : Array Oper) (sf : Nat → List Tmp) (i : Nat) : List Tmp := (((ops[i]?).bind (·.dst)).toList) ++ sf i
def depsOf (ops : Array Oper) (i : Nat) : List Nat := ((ops[i]?).map direct).getD []
def factOf (ops : Array Oper) (vals : List (Tmp × Value)) (p : Nat → List Value → World → Prop) (i : Nat) (vs : List Value) (w : World) : Prop :=
  match (ops[i]?).bind (·.dst) with
  | some d => (∀ v, (d, v) ∈ vals → vs.head? = some v) ∧ p i vs.tail w
  | none => p i vs w
section
variable {P : Program} {ops : Array Oper} {Q : Exit → Act → World → Prop}
theorem wanted_congr (o : Oper) (a a' : Act) (hsz : a.tmps.size = a'.tmps.size) (h : ∀ t ∈ o.looksAt ops, slot a t = slot a' t) : Region.wanted o (yielded ops a.tmps) = Region.wanted o (yielded ops a'.tmps) := by
  unfold Region.wanted
  cases hg : o.guard with
  | none => rfl
  | some gw =>
    obtain ⟨g, want⟩ := gw
    have hy : yielded ops a.tmps g = yielded ops a'.tmps g := by
      unfold yielded
      cases ht : (ops[g]?).bind (·.dst) with
      | none => rfl
      | some t =>
        have := h t (by simp [Oper.looksAt, hg, ht])
        have e : a.tmps[t]? = a'.tmps[t]? := by
          rcases Nat.lt_or_ge t a.tmps.size with hlt | hge
          · have hlt' : t < a'.tmps.size := hsz ▸ hlt
            simp only [slot, Array.getD_eq_getD_getElem?, Array.getElem?_eq_getElem hlt, Array.getElem?_eq_getElem hlt', Option.getD_some] at this
            rw [Array.getElem?_eq_getElem hlt, Array.getElem?_eq_getElem hlt', this]
          · rw [Array.getElem?_eq_none hge, Array.getElem?_eq_none (show a'.tmps.size ≤ t from hsz ▸ hge)]
        simp only [Option.bind_some, e]
    simp only [hy]
theorem exec_congr (o : Oper) (hs : ∀ cs b, o.op ≠ .select cs b) (a a' : Act) (h : ∀ t ∈ o.looksAt ops, slot a t = slot a' t) : execOp a.eval o = execOp a'.eval o :=
  execOp_congr o hs fun x hx => by
    cases x with
    | tmp t => exact h t (List.mem_append_left _ (List.mem_filterMap.2 ⟨.tmp t, by simpa using hx, rfl⟩))
    | _ => rfl
/-- What one operation owes, in the frame at the end. -/
def Does (P : Program) (ops : Array Oper) (vals : List (Tmp × Value)) (sf : Nat → List Tmp) (p : Nat → List Value → World → Prop) (B : Nat) (F : Act) (i : Nat) (o : Oper) (w : World) : Prop :=
  if Region.wanted o (yielded ops F.tmps) = true then
    Oper.wp P o F w (fun a' w' => ∃ v, a' = F.put o.dst v ∧ (∀ d u, o.dst = some d → (d, u) ∈ vals → v = u) ∧ p i ((sf i).map (slot a')) w' ∧ Below B w w' ∧
      ∀ j, j ≠ i → j < ops.size → p j ((sf j).map (slot F)) w → p j ((sf j).map (slot F)) w') (fun _ _ _ => False)
  else (∀ d u, o.dst = some d → (d, u) ∈ vals → undef = u) ∧ p i ((sf i).map (slot (F.put o.dst undef))) w
theorem upon_congr {o : Oper} {a F : Act} {K K' : Act → World → Prop} {r : Result Next} (h : ∀ v w, K' (F.put o.dst v) w → K (a.put o.dst v) w)
    (hnd : ∀ d w, ¬ K' (({ F with defers := d :: F.defers } : Act).put o.dst undef) w) (hh : o.upon P F K' (fun _ _ _ => False) r) : o.upon P a K Q r := by
  cases r with
  | ok n w =>
    cases n with
    | value v => exact h _ _ hh
    | skip => exact h _ _ hh
    | defer d => exact absurd hh (hnd d w)
    | enter f args =>
      refine Calls.mono hh ?_
      intro e w' he
      cases e with
      | returned v => exact h _ _ he
      | panicked c => exact (he : False).elim
      | outgrown => obtain ⟨_, _, hf⟩ := he; exact hf.elim
    | row row args =>
      refine Rows.mono hh ?_
      intro u w' he
      exact h _ _ he
    | _ => exact (hh : False).elim
  | halt x w =>
    cases x <;> exact (hh : False).elim
theorem fr_size (a : Act) (vals late : List (Tmp × Value)) (free : List Tmp) (early : Nat → Bool) (i : Nat) (g : Tmp → Value) : (fr a vals late free early i g).tmps.size = a.tmps.size := by
  unfold fr fin
  split <;> rw [putAll_size]
theorem wp_region_run {id : Nat} {a : Act} {w : World} (hm : P.follows .mixedOrders = true) (hs : Region.noSelect ops = true)
    (vals late : List (Tmp × Value)) (free : List Tmp) (sf : Nat → List Tmp) (early : Nat → Bool) (p : Nat → List Value → World → Prop) (n : Nat) (hn : a.tmps.size = n) (hok : plan ops n vals late free sf early = true)
    (B : Nat) (hstep : ∀ i o, ops[i]? = some o → ∀ (g : Tmp → Value) (w' : World), Below B w w' → (∀ j ∈ direct o, p j ((sf j).map (slot (fr a vals late free early i g))) w') → Does P ops (vals ++ late) sf p B (fr a vals late free early i g) i o w')
    (hend : ∀ (g : Tmp → Value) (w' : World), Below B w w' → (∀ i, i < ops.size → p i ((sf i).map (slot (fin a (vals ++ late) free g))) w') → Q .normal (fin a (vals ++ late) free g) w') :
    (Code.region id ops true).wp P Q a w := by
  have hok' := hok
  simp only [plan, Bool.and_eq_true, List.all_eq_true, decide_eq_true_eq, List.contains_iff_mem] at hok
  obtain ⟨⟨⟨⟨hk1, hk2⟩, hnod⟩, hdn⟩, hop⟩ := hok
  have hkeys : ∀ (l : List (Tmp × Value)) (g : Tmp → Value), (l ++ free.map fun t => (t, g t)).map (·.1) = l.map (·.1) ++ free := fun l g => by simp [List.map_map, Function.comp_def]
  have hopi : ∀ i o, ops[i]? = some o → (∀ j ∈ direct o, j < i) ∧ (∀ t ∈ o.looksAt ops, t ∈ dsts ops → t ∈ oldsOf ops late early i ∨ ∃ j ∈ direct o, (ops[j]?).bind (·.dst) = some t) ∧ (∀ t ∈ sf i, t ∈ free ∧ (o.dst = some t ∨ ∃ j ∈ direct o, (ops[j]?).bind (·.dst) = some t)) := by
    intro i o hi
    have := hop i (List.mem_range.2 (Array.getElem?_eq_some_iff.1 hi).1)
    simp only [hi, Bool.and_eq_true, List.all_eq_true, decide_eq_true_eq, Bool.or_eq_true, Bool.not_eq_true', List.any_eq_true, beq_iff_eq] at this
    refine ⟨this.1.1.1, fun t ht hd => ?_, fun t ht => ⟨by simpa using (this.2 t ht).1, (this.2 t ht).2⟩⟩
    rcases this.1.2 t ht with (h | h) | h
    · simp [hd] at h
    · exact .inl (by simpa using h)
    · exact .inr h
  -- the facts of the law
  have hnod1 : (vals.map (·.1) ++ free).Nodup := by
    have h := hnod
    simp only [List.map_append, List.append_assoc] at h
    have h1 := List.nodup_append.1 h
    have h2 := List.nodup_append.1 h1.2.1
    exact List.nodup_append.2 ⟨h1.1, h2.2.1, fun x hx y hy => h1.2.2 x hx y (List.mem_append_right _ hy)⟩
  have hlatefree : ∀ t, t ∈ late.map (·.1) → t ∉ vals.map (·.1) ++ free := by
    intro t ht hm
    have h := hnod
    simp only [List.map_append, List.append_assoc] at h
    have h1 := List.nodup_append.1 h
    have h2 := List.nodup_append.1 h1.2.1
    rcases List.mem_append.1 hm with hv | hf
    · exact h1.2.2 t hv t (List.mem_append_left _ ht) rfl
    · exact h2.2.2 t ht t hf rfl
  -- what slot t holds in the frame of operation i
  have hslot : ∀ (i : Nat) (a' : Act), a'.tmps.size = a.tmps.size → (∀ t, t ∉ dsts ops → slot a' t = slot a t) → ∀ t, (t ∉ dsts ops ∨ t ∈ free ∨ (∃ v, (t, v) ∈ vals ∧ slot a' t = v) ∨ (early i = false ∧ ∃ v, (t, v) ∈ late ∧ slot a' t = v) ∨ (early i = true ∧ t ∈ late.map (·.1) ∧ slot a' t = slot a t)) → slot a' t = slot (fr a vals late free early i (slot a')) t := by
    intro i a' hsz hrest t ht
    have hfree' : t ∈ free → ∀ l, (l.map (·.1) ++ free).Nodup → slot (fin a l free (slot a')) t = slot a' t := by
      intro hf l hl
      rw [fin, putAll_at _ t (slot a' t) a (by rw [hn]; exact (hk1 t (List.mem_append_right _ hf)).1) (by rw [hkeys]; exact hl) (List.mem_append_right _ (List.mem_map.2 ⟨t, hf, rfl⟩))]
    have hval' : ∀ v, (t, v) ∈ vals ++ late → ∀ l, (t, v) ∈ l → (l.map (·.1) ++ free).Nodup → slot (fin a l free (slot a')) t = v := by
      intro v hv l hl hnn
      rw [fin, putAll_at _ t v a (by rw [hn]; exact (hk1 t (List.mem_append_left _ (List.mem_map.2 ⟨_, hv, rfl⟩))).1) (by rw [hkeys]; exact hnn) (List.mem_append_left _ hl)]
    unfold fr
    rcases ht with ht | ht | ⟨v, hv, hs⟩ | ⟨he, v, hv, hs⟩ | ⟨he, ht, hs⟩
    · have no : t ∉ (vals ++ late).map (·.1) ++ free := fun hm => ht (hk1 t hm).2
      have no1 : t ∉ vals.map (·.1) ++ free := fun hm => no (by
        simp only [List.map_append, List.append_assoc]
        rcases List.mem_append.1 hm with h | h
        · exact List.mem_append_left _ h
        · exact List.mem_append_right _ (List.mem_append_right _ h))
      split
      · rw [hrest t ht, fin, putAll_other _ _ _ (by rw [hkeys]; exact no1)]
      · rw [hrest t ht, fin, putAll_other _ _ _ (by rw [hkeys]; exact no)]
    · split
      · exact (hfree' ht _ hnod1).symm
      · exact (hfree' ht _ hnod).symm
    · split
      · rw [hval' v (List.mem_append_left _ hv) vals hv hnod1, hs]
      · rw [hval' v (List.mem_append_left _ hv) _ (List.mem_append_left _ hv) hnod, hs]
    · rw [if_neg (by rw [he]; exact Bool.false_ne_true), hval' v (List.mem_append_right _ hv) _ (List.mem_append_right _ hv) hnod, hs]
    · rw [if_pos he, hs, fin, putAll_other _ _ _ (by rw [hkeys]; exact hlatefree t ht)]
  have hslotE : ∀ (a' : Act), a'.tmps.size = a.tmps.size → (∀ t, t ∉ dsts ops → slot a' t = slot a t) → ∀ t, (t ∉ dsts ops ∨ t ∈ free ∨ ∃ v, (t, v) ∈ vals ++ late ∧ slot a' t = v) → slot a' t = slot (fin a (vals ++ late) free (slot a')) t := by
    intro a' hsz hrest t ht
    rcases ht with ht | ht | ⟨v, hv, hs⟩
    · rw [hrest t ht, fin, putAll_other]
      rw [hkeys]
      intro hm
      exact ht (hk1 t hm).2
    · rw [fin, putAll_at _ t (slot a' t) a (by rw [hn]; exact (hk1 t (List.mem_append_right _ ht)).1) (by rw [hkeys]; exact hnod) (List.mem_append_right _ (List.mem_map.2 ⟨t, ht, rfl⟩))]
    · rw [hs, fin, putAll_at _ t v a (by rw [hn]; exact (hk1 t (List.mem_append_left _ (List.mem_map.2 ⟨_, hv, rfl⟩))).1) (by rw [hkeys]; exact hnod) (List.mem_append_left _ hv)]
  have hallOk : ok ops (seeOf ops sf) (depsOf ops) (oldsOf ops late early) = true := by
    refine List.all_eq_true.2 fun i hi => ?_
    have hlt := List.mem_range.1 hi
    rw [Array.getElem?_eq_getElem hlt]
    obtain ⟨h1, h2, h3⟩ := hopi i ops[i] (Array.getElem?_eq_getElem hlt)
    simp only [okAt, Bool.and_eq_true, List.all_eq_true, decide_eq_true_eq, List.any_eq_true, Bool.or_eq_true, beq_iff_eq]
    have hold : ∀ t ∈ oldsOf ops late early i, ∀ k ∈ List.range ops.size, (match ops[k]? with | some ok => ok.dst != some t || (direct ok).contains i | none => true) = true := by
      have := hop i (List.mem_range.2 hlt)
      rw [Array.getElem?_eq_getElem hlt] at this
      simp only [Bool.and_eq_true, List.all_eq_true] at this
      exact this.1.1.2
    refine ⟨⟨⟨hold, h1⟩, fun j hj => ⟨j, by simpa [depsOf, hlt] using hj, .inl rfl⟩⟩, fun k hk => ?_⟩
    have hklt := List.mem_range.1 hk
    rw [Array.getElem?_eq_getElem hklt]
    cases hd : ops[k].dst with
    | none => simp [hd]
    | some d =>
      simp only [Option.bind_some, hd, Bool.or_eq_true, Bool.not_eq_true', beq_iff_eq, List.contains_iff_mem]
      by_cases hm : d ∈ seeOf ops sf i
      · -- who writes d
        have uniq : ∀ j, (ops[j]?).bind (·.dst) = some d → j = k := by
          intro j hj
          cases hoj : ops[j]? with
          | none => rw [hoj] at hj; cases hj
          | some oj =>
            rw [hoj] at hj
            have hjlt : j < ops.size := (Array.getElem?_eq_some_iff.1 hoj).1
            -- dsts has no doubles
            have key : ∀ (l : List Oper) (x y : Nat) (ox oy : Oper), (l.filterMap (·.dst)).Nodup → l[x]? = some ox → l[y]? = some oy → ox.dst = some d → oy.dst = some d → x = y := by
              intro l
              induction l with
              | nil => intro x y ox oy _ hx; simp at hx
              | cons z l ih =>
                intro x y ox oy hnn hx hy hdx hdy
                have hl : (l.filterMap (·.dst)).Nodup := by
                  cases hz : z.dst with
                  | none => simpa [List.filterMap_cons, hz] using hnn
                  | some dz => rw [List.filterMap_cons_some (h := hz)] at hnn; exact (List.nodup_cons.1 hnn).2
                have hz0 : z.dst = some d → d ∉ l.filterMap (·.dst) := fun hz => by
                  rw [List.filterMap_cons_some (h := hz)] at hnn; exact (List.nodup_cons.1 hnn).1
                cases x with
                | zero =>
                  cases y with
                  | zero => rfl
                  | succ y =>
                    simp at hx hy; subst hx
                    exact absurd (List.mem_filterMap.2 ⟨oy, List.mem_of_getElem? hy, hdy⟩) (hz0 hdx)
                | succ x =>
                  cases y with
                  | zero =>
                    simp at hx hy; subst hy
                    exact absurd (List.mem_filterMap.2 ⟨ox, List.mem_of_getElem? hx, hdx⟩) (hz0 hdy)
                  | succ y =>
                    simp at hx hy
                    rw [ih x y ox oy hl hx hy hdx hdy]
            exact key ops.toList j k oj ops[k] hdn (by simpa using hoj) (by simp [hklt]) (by simpa using hj) hd
        unfold seeOf at hm
        rw [Array.getElem?_eq_getElem hlt] at hm
        rcases List.mem_append.1 hm with hm | hm
        · left; right
          have : ops[i].dst = some d := by simpa using hm
          exact (uniq i (by rw [Array.getElem?_eq_getElem hlt]; simpa using this)).symm
        · rcases (h3 d hm).2 with h | ⟨j, hj, hjd⟩
          · left; right
            exact (uniq i (by rw [Array.getElem?_eq_getElem hlt]; simpa using h)).symm
          · right
            have := uniq j hjd
            subst this
            simpa [depsOf, hlt] using hj
      · left; left; simpa using hm
  have hfree : ∀ (d : Tmp) (v : Value), (d, v) ∈ vals ++ late → d ∉ free := by
    intro d v hv hf
    have := (List.nodup_append.1 hnod).2.2 d (List.mem_map.2 ⟨_, hv, rfl⟩) d hf
    exact this rfl
  refine wp_region_facts hm (seeOf ops sf) (depsOf ops) (oldsOf ops late early) (factOf ops (vals ++ late) p) hallOk B ?_ ?_
  · intro i o hi a' w' hsz hrest hold hB hdeps
    obtain ⟨h1, h2, h3⟩ := hopi i o hi
    have hilt : i < ops.size := (Array.getElem?_eq_some_iff.1 hi).1
    have hdepsi : depsOf ops i = direct o := by simp [depsOf, hi]
    -- what j's fact says, of j's own p
    have toP : ∀ j, At (seeOf ops sf) (factOf ops (vals ++ late) p) j a' w' → p j ((sf j).map (slot a')) w' := by
      intro j hj
      unfold At factOf seeOf at hj
      cases hd : (ops[j]?).bind (·.dst) with
      | none => simpa [hd] using hj
      | some d => simp only [hd] at hj; simpa using hj.2
    have exact_of : ∀ j ∈ direct o, ∀ t v, (ops[j]?).bind (·.dst) = some t → (t, v) ∈ vals ++ late → slot a' t = v := by
      intro j hj t v hd hv
      have := hdeps j (by rw [hdepsi]; exact hj)
      unfold At factOf seeOf at this
      simp only [hd] at this
      simpa using this.1 v hv
    have agree : ∀ t ∈ o.looksAt ops, slot a' t = slot (fr a vals late free early i (slot a')) t := by
      intro t ht
      refine hslot i a' hsz hrest t ?_
      by_cases hd : t ∈ dsts ops
      · right
        rcases h2 t ht hd with ho | ⟨j, hj, hjd⟩
        · -- it is read as it was
          right; right; right
          have hs := hold t ho
          unfold oldsOf at ho
          rw [hi] at ho
          simp only at ho
          cases he : early i with
          | false => rw [he] at ho; simp at ho
          | true =>
            rw [he] at ho
            simp only [if_true, List.mem_filter, List.contains_iff_mem] at ho
            exact ⟨rfl, ho.2, hs⟩
        · have hmem : t ∈ (vals ++ late).map (·.1) ++ free := hk2 t hd
          rcases List.mem_append.1 hmem with hv | hf
          · obtain ⟨⟨t', v⟩, hv2, rfl⟩ := List.mem_map.1 hv
            have hs := exact_of j hj _ v hjd hv2
            rcases List.mem_append.1 hv2 with h | h
            · exact .inr (.inl ⟨v, h, hs⟩)
            · -- a late slot, already written: this operation is not early
              cases he : early i with
              | false => exact .inr (.inr (.inl ⟨rfl, v, h, hs⟩))
              | true =>
                exfalso
                -- then it is among the olds, and its writer waits for i: but the writer stands before i
                have hol : t' ∈ oldsOf ops late early i := by
                  unfold oldsOf
                  rw [hi]
                  simp only [he, if_true, List.mem_filter, List.contains_iff_mem]
                  exact ⟨ht, List.mem_map.2 ⟨_, h, rfl⟩⟩
                have hjlt : j < ops.size := by have := h1 j hj; omega
                have := hop i (List.mem_range.2 hilt)
                rw [hi] at this
                simp only [Bool.and_eq_true, List.all_eq_true] at this
                have hw := this.1.1.2 t' hol j (List.mem_range.2 hjlt)
                rw [Array.getElem?_eq_getElem hjlt] at hw hjd
                simp only [Option.bind_some] at hjd
                simp only [hjd, bne_self_eq_false, Bool.false_or, List.contains_iff_mem] at hw
                have a1 := (hopi j ops[j] (Array.getElem?_eq_getElem hjlt)).1 i hw
                have a2 := h1 j hj
                omega
          · exact .inl hf
      · exact .inl hd
    have agreeF : ∀ j, (sf j).map (slot (fr a vals late free early i (slot a'))) = (sf j).map (slot a') ∨ j ≥ ops.size := by
      intro j
      rcases Nat.lt_or_ge j ops.size with hj | hj
      · left
        refine List.map_congr_left fun t ht => ?_
        obtain ⟨_, _, h3⟩ := hopi j ops[j] (Array.getElem?_eq_getElem hj)
        exact (hslot i a' hsz hrest t (.inr (.inl (h3 t ht).1))).symm
      · exact .inr hj
    have agreeL : ∀ j, j < ops.size → (sf j).map (slot (fr a vals late free early i (slot a'))) = (sf j).map (slot a') := fun j hj => (agreeF j).resolve_right (by omega)
    have hD := hstep i o hi (slot a') w' hB (fun j hj => by
      have hjlt : j < ops.size := by have := h1 j hj; omega
      rw [agreeL j hjlt]
      exact toP j (hdeps j (by rw [hdepsi]; exact hj)))
    have finish : ∀ (v : Value) (w'' : World), (∀ d u, o.dst = some d → (d, u) ∈ vals ++ late → v = u) → p i ((sf i).map (slot ((fr a vals late free early i (slot a')).put o.dst v))) w'' → Below B w' w'' →
        (∀ j, j ≠ i → j < ops.size → p j ((sf j).map (slot (fr a vals late free early i (slot a')))) w' → p j ((sf j).map (slot (fr a vals late free early i (slot a')))) w'') →
        ∃ v', a'.put o.dst v = a'.put o.dst v' ∧ At (seeOf ops sf) (factOf ops (vals ++ late) p) i (a'.put o.dst v) w'' ∧ Below B w' w'' ∧ ∀ j, j ≠ i → j < ops.size → At (seeOf ops sf) (factOf ops (vals ++ late) p) j a' w' → At (seeOf ops sf) (factOf ops (vals ++ late) p) j a' w'' := by
      intro v w'' hex hp hb hkeep
      have hput : (sf i).map (slot (a'.put o.dst v)) = (sf i).map (slot ((fr a vals late free early i (slot a')).put o.dst v)) := by
        refine List.map_congr_left fun t ht => ?_
        by_cases hd : o.dst = some t
        · have htlt : t < n := (hk1 t (List.mem_append_right _ (h3 t ht).1)).1
          rw [hd, slot_put_same _ _ _ (by rw [hsz, hn]; exact htlt), slot_put_same _ _ _ (by rw [fr_size, hn]; exact htlt)]
        · rw [slot_put_ne _ _ _ _ hd, slot_put_ne _ _ _ _ hd]
          exact hslot i a' hsz hrest t (.inr (.inl (h3 t ht).1))
      refine ⟨v, rfl, ?_, hb, fun j hji hj hat => ?_⟩
      · unfold At factOf seeOf
        simp only [hi, Option.bind_some]
        cases hd : o.dst with
        | none => rw [hd] at hp hput; simp only [Option.toList_none, List.nil_append]; rw [hput]; exact hp
        | some d =>
          rw [hd] at hp hput
          simp only [Option.toList_some, List.cons_append, List.nil_append, List.map_cons, List.head?_cons, List.tail_cons]
          refine ⟨fun u hu => ?_, by rw [hput]; exact hp⟩
          have hdlt : d < n := (hk1 d (List.mem_append_left _ (List.mem_map.2 ⟨_, hu, rfl⟩))).1
          rw [slot_put_same _ _ _ (by rw [hsz, hn]; exact hdlt), hex d u hd hu]
      · have hpj := toP j hat
        have hnew := hkeep j hji hj (by rw [agreeL j hj]; exact hpj)
        rw [agreeL j hj] at hnew
        unfold At factOf seeOf at hat ⊢
        cases hd : (ops[j]?).bind (·.dst) with
        | none => simp only [hd, Option.toList_none, List.nil_append] at hat ⊢; exact hnew
        | some d =>
          simp only [hd] at hat ⊢
          exact ⟨hat.1, by simpa using hnew⟩
    have hsel : ∀ cs b, o.op ≠ .select cs b := fun cs b => Region.noSelect_spec hs i o cs b hi
    unfold wpOp
    simp only [hi]
    unfold Does at hD
    rw [← wanted_congr o a' (fr a vals late free early i (slot a')) (by rw [fr_size, hsz]) agree] at hD
    split
    · rename_i hw
      rw [if_pos hw] at hD
      left
      unfold Oper.wp at hD ⊢
      rw [← exec_congr o hsel a' _ agree] at hD
      refine upon_congr (F := fr a vals late free early i (slot a')) ?_ ?_ hD
      · rintro v w'' ⟨v', he, hex, hp, hb, hkeep⟩
        -- v and v' put the same
        cases hd : o.dst with
        | none =>
          rw [hd] at he hp hex
          have := finish v w'' (by rw [hd]; exact fun d u h => by cases h) (by rw [hd]; exact hp) hb hkeep
          rw [hd] at this
          exact this
        | some d =>
          rw [hd] at he hp
          have hdlt : d < n := (hk1 d (hk2 d (List.mem_filterMap.2 ⟨o, by have := Array.mem_of_getElem? hi; simpa using this, hd⟩))).1
          have hvv : v = v' := by
            have h1 : slot ((fr a vals late free early i (slot a')).put (some d) v) d = slot ((fr a vals late free early i (slot a')).put (some d) v') d := congrArg (fun x => slot x d) he
            rwa [slot_put_same _ _ _ (by rw [fr_size, hn]; exact hdlt), slot_put_same _ _ _ (by rw [fr_size, hn]; exact hdlt)] at h1
          subst hvv
          have := finish v w'' hex (by rw [hd]; exact hp) hb hkeep
          rw [hd] at this
          exact this
      · rintro d w'' ⟨v, he, _⟩
        have h1 := congrArg (fun x => x.defers.length) he
        simp only [defers_put, List.length_cons] at h1
        omega
    · rename_i hw
      rw [if_neg (by simpa using hw)] at hD
      exact finish undef w' hD.1 hD.2 (Below.refl _ _) (fun _ _ _ h => h)
  · intro a' w' hdf hsz hrest hB hall
    have hfin : a' = fin a (vals ++ late) free (slot a') := by
      have ht : a'.tmps = (fin a (vals ++ late) free (slot a')).tmps := by
        refine Array.ext (by rw [fin, putAll_size, hsz]) fun t h1 h2 => ?_
        have hs := hslotE a' hsz hrest t (by
          by_cases hd : t ∈ dsts ops
          · right
            have hmem : t ∈ (vals ++ late).map (·.1) ++ free := hk2 t hd
            rcases List.mem_append.1 hmem with hv | hf
            · right
              obtain ⟨⟨t', v⟩, hv2, rfl⟩ := List.mem_map.1 hv
              obtain ⟨o, ho, hod⟩ := List.mem_filterMap.1 hd
              obtain ⟨i, hi, hoi⟩ := List.mem_iff_getElem.1 ho
              have hi' : i < ops.size := by simpa using hi
              have := hall i hi'
              unfold At factOf seeOf at this
              have hio : ops[i]? = some o := by rw [Array.getElem?_eq_getElem hi']; simpa using hoi
              simp only [hio, Option.bind_some, hod] at this
              exact ⟨v, hv2, by simpa using this.1 v hv2⟩
            · exact .inl hf
          · exact .inl hd)
        simpa [slot, h1, h2] using hs
      have hd : a'.defers = (fin a (vals ++ late) free (slot a')).defers := by rw [hdf, fin, putAll_defers]
      obtain ⟨x, y⟩ := a'
      simp only at ht hd
      cases hF : fin a (vals ++ late) free (slot ⟨x, y⟩) with
      | mk x' y' => rw [hF] at ht hd; simp only at ht hd; rw [ht, hd]
    have hq := hend (slot a') w' hB (fun i hi => by
      have := hall i hi
      rw [← hfin]
      unfold At factOf seeOf at this
      cases hd : (ops[i]?).bind (·.dst) with
      | none => simpa [hd] using this
      | some d => simp only [hd] at this; simpa using this.2)
    rw [← hfin] at hq
    exact hq
/-- What holds of each operation, one by one. -/
def Each (f : Nat → Oper → Prop) : Nat → List Oper → Prop
  | _, [] => True
  | i, o :: l => f i o ∧ Each f (i + 1) l
theorem each_at {f : Nat → Oper → Prop} : ∀ (l : List Oper) (k i : Nat) (o : Oper), Each f k l → l[i]? = some o → f (k + i) o
  | [], _, _, _, _, h => by simp at h
  | x :: l, k, 0, o, h, he => by simp at he; subst he; exact h.1
  | x :: l, k, i + 1, o, h, he => by
    have := each_at l (k + 1) i o h.2 (by simpa using he)
    rwa [Nat.add_assoc, Nat.add_comm 1 i] at this
theorem put_slot (F : Act) (d : Tmp) (v : Value) (h : d < F.tmps.size) (e : F.put (some d) v = F) : slot F d = v := by
  rw [← e, slot_put_same _ _ _ h]
/-- What one operation owes where every value is known: in the frame E in which it is carried out it yields what stands in the frame F at the end, and turns nothing that was there before. -/
def DoesV (P : Program) (ops : Array Oper) (E F : Act) (o : Oper) (w : World) : Prop :=
  if Region.wanted o (yielded ops E.tmps) = true then Oper.wp P o E w (fun a' w' => ∃ v, a' = E.put o.dst v ∧ F.put o.dst v = F ∧ Below w.heap.size w w') (fun _ _ _ => False)
  else F.put o.dst undef = F
/-- A REGION THAT DRAWS ITS ORDER, EVERY VALUE OF IT KNOWN; 'late': slots that are read first, then written. -/
theorem wp_region_late {id : Nat} {a : Act} {w : World} (hm : P.follows .mixedOrders = true) (hs : Region.noSelect ops = true)
    (vals late : List (Tmp × Value)) (early : Nat → Bool) (n : Nat) (hn : a.tmps.size = n) (hok : plan ops n vals late [] (fun _ => []) early = true)
    (hstep : ∀ E F : Act, E = putAll a vals → F = putAll a (vals ++ late) → ∀ w', Below w.heap.size w w' → Each (fun i o => DoesV P ops (if early i then E else F) F o w') 0 ops.toList)
    (hend : ∀ w', Below w.heap.size w w' → Q .normal (putAll a (vals ++ late)) w') :
    (Code.region id ops true).wp P Q a w := by
  have hfin : ∀ g l, fin a l [] g = putAll a l := fun g l => by simp [fin]
  have hok' := hok
  simp only [plan, Bool.and_eq_true, List.all_eq_true, decide_eq_true_eq, List.contains_iff_mem, List.append_nil] at hok
  obtain ⟨⟨⟨⟨hk1, hk2⟩, hnod⟩, hdn⟩, hop⟩ := hok
  refine wp_region_run hm hs vals late [] (fun _ => []) early (fun _ _ _ => True) n hn hok' w.heap.size ?_ ?_
  · intro i o hi g w' hB _
    have hD := each_at ops.toList 0 i o (hstep _ _ rfl rfl w' hB) (by simpa using hi)
    have hfr : fr a vals late [] early i g = if early i then putAll a vals else putAll a (vals ++ late) := by unfold fr; rw [hfin, hfin]
    rw [hfr]
    rw [Nat.zero_add] at hD
    have hex : ∀ (v : Value), (putAll a (vals ++ late)).put o.dst v = putAll a (vals ++ late) → ∀ d u, o.dst = some d → (d, u) ∈ vals ++ late → v = u := by
      intro v hv d u hd hu
      have hdlt : d < n := (hk1 d (List.mem_map.2 ⟨_, hu, rfl⟩)).1
      rw [hd] at hv
      have h1 := put_slot _ d v (by rw [putAll_size, hn]; exact hdlt) hv
      rw [← h1, putAll_at (vals ++ late) d u a (by rw [hn]; exact hdlt) hnod hu]
    generalize (if early i = true then putAll a vals else putAll a (vals ++ late)) = E at hD ⊢
    unfold DoesV at hD
    unfold Does
    split
    · rename_i hw
      rw [if_pos hw] at hD
      unfold Oper.wp at hD ⊢
      refine upon_congr (F := E) ?_ ?_ hD
      · rintro v w'' ⟨v', he, hF, hb⟩
        refine ⟨v', he, hex v' hF, trivial, hb.mono (by have := hB.size; omega), fun _ _ _ h => h⟩
      · rintro d w'' ⟨v, he, _⟩
        have h1 := congrArg (fun x => x.defers.length) he
        simp only [defers_put, List.length_cons] at h1
        omega
    · rename_i hw
      rw [if_neg hw] at hD
      exact ⟨hex undef hD, trivial⟩
  · intro g w' hB _
    rw [hfin]
    exact hend w' hB
/-- A REGION THAT DRAWS ITS ORDER, EVERY VALUE OF IT KNOWN. -/
theorem wp_region_vals {id : Nat} {a : Act} {w : World} (hm : P.follows .mixedOrders = true) (hs : Region.noSelect ops = true)
    (vals : List (Tmp × Value)) (n : Nat) (hn : a.tmps.size = n) (hok : plan ops n vals [] [] (fun _ => []) (fun _ => false) = true)
    (hstep : ∀ F : Act, F = putAll a vals → ∀ w', Below w.heap.size w w' → Each (fun _ o => DoesV P ops F F o w') 0 ops.toList)
    (hend : ∀ w', Below w.heap.size w w' → Q .normal (putAll a vals) w') :
    (Code.region id ops true).wp P Q a w := by
  refine wp_region_late hm hs vals [] (fun _ => false) n hn hok ?_ ?_
  · intro E F _ hF w' hB
    rw [List.append_nil] at hF
    exact hstep F hF w' hB
  · intro w' hB
    rw [List.append_nil]
    exact hend w' hB
theorem doesV_val {E F : Act} {o : Oper} {w : World} {v : Value} (hr : (execOp E.eval o).run P w = .ok (.value v) w) (hw : Region.wanted o (yielded ops E.tmps) = true) (hF : F.put o.dst v = F) : DoesV P ops E F o w := by
  unfold DoesV
  rw [if_pos hw]
  unfold Oper.wp
  rw [hr]
  exact ⟨v, rfl, hF, Below.refl _ _⟩
theorem doesV_call {E F : Act} {o : Oper} {w : World} {v : Value} {f : FuncId} {args : Array Value} (hc : Calls P f args w fun e w' => e = .returned v ∧ Below w.heap.size w w')
    (hr : (execOp E.eval o).run P w = .ok (.enter f args) w) (hw : Region.wanted o (yielded ops E.tmps) = true) (hF : F.put o.dst v = F) : DoesV P ops E F o w := by
  unfold DoesV
  rw [if_pos hw]
  unfold Oper.wp
  rw [hr]
  refine Calls.mono hc ?_
  rintro e w' ⟨rfl, hb⟩
  exact ⟨v, rfl, hF, hb⟩
end
end Reg
end Go.Proofs.YtjgpmnffagdhlaaGreatDoor
namespace Go.Proofs.YtjgpmnffagdhlaaGreatDoor
open Go Go.RowKit
/-- A value of the program: Kind, N, S. -/
structure Val where
  k : Int
  n : Int
  s : ByteArray
abbrev emp : ByteArray := ⟨#[]⟩
abbrev Val.v (a : Val) : Value := .agg #[.int .i64 a.k, .int .i64 a.n, .string a.s]
def Val.eq (a b : Val) : Bool := decide (a.k = b.k) && (decide (a.n = b.n) && decide (a.s.toList = b.s.toList))
theorem toList_inj {a b : ByteArray} (h : a.toList = b.toList) : a = b := by
  rw [ByteArray.toList_eq, ByteArray.toList_eq] at h
  obtain ⟨⟨x⟩⟩ := a
  obtain ⟨⟨y⟩⟩ := b
  simp at h
  rw [h]
theorem Val.eq_iff {a b : Val} : a.eq b = true ↔ a = b := by
  obtain ⟨k, n, s⟩ := a
  obtain ⟨k', n', s'⟩ := b
  simp only [Val.eq, Bool.and_eq_true, decide_eq_true_eq, Val.mk.injEq]
  constructor
  · rintro ⟨h1, h2, h3⟩; exact ⟨h1, h2, toList_inj h3⟩
  · rintro ⟨h1, h2, h3⟩; exact ⟨h1, h2, by rw [h3]⟩
theorem Val.eq_self (a : Val) : a.eq a = true := Val.eq_iff.2 rfl
theorem Val.eq_false {a b : Val} (h : a ≠ b) : a.eq b = false := by
  cases e : a.eq b
  · rfl
  · exact absurd (Val.eq_iff.1 e) h
def tt : Val := ⟨1, 1, emp⟩
def ff : Val := ⟨1, 0, emp⟩
def nl : Val := ⟨0, 0, emp⟩
def tv (b : Bool) : Val := if b then tt else ff
def iv (n : Int) : Val := ⟨2, n, emp⟩
theorem run_eqIn (w : World) (k n k' n' : Int) (s s' : ByteArray) : (Op.equalIn 10000 59 (.agg #[.int .i64 k, .int .i64 n, .string s]) (.agg #[.int .i64 k', .int .i64 n', .string s'])).run Tryz.prog w = .ok (Val.eq ⟨k, n, s⟩ ⟨k', n', s'⟩) w := by
  simp [go_sem, Tryz.underlying59, Tryz.underlying3, Tryz.underlying9]
  by_cases h1 : k = k' <;> by_cases h2 : n = n' <;> by_cases h3 : s.toList = s'.toList <;> simp [Val.eq, h1, h2, h3]
/-- '==' on two values. -/
theorem run_eqV (w : World) (k n k' n' : Int) (s s' : ByteArray) : (binOp .eql 59 (.agg #[.int .i64 k, .int .i64 n, .string s]) (.agg #[.int .i64 k', .int .i64 n', .string s'])).run Tryz.prog w = .ok (.bool (Val.eq ⟨k, n, s⟩ ⟨k', n', s'⟩)) w := by
  rw [run_eql_struct, run_eqIn]; rfl
/-- '!=' on two values. -/
theorem run_neV (w : World) (k n k' n' : Int) (s s' : ByteArray) : (binOp .neq 59 (.agg #[.int .i64 k, .int .i64 n, .string s]) (.agg #[.int .i64 k', .int .i64 n', .string s'])).run Tryz.prog w = .ok (.bool !(Val.eq ⟨k, n, s⟩ ⟨k', n', s'⟩)) w := by
  rw [run_neq_struct, run_eqIn]; rfl
theorem mixed : Tryz.prog.follows .mixedOrders = true := by kernel_rfl
/-- Block b holds the value a. -/
def Bx (w : World) (b : Nat) (a : Val) : Prop := w.heap[b]? = some (.cells #[.int .i64 a.k, .int .i64 a.n, .string a.s] 59 (0, 0))
theorem Bx.cell0 {w : World} {b : Nat} {a : Val} (h : Bx w b a) : w.cell? ⟨b, 0, none⟩ = some (.int .i64 a.k) := by unfold Bx at h; simp [World.cell?, h]
theorem Bx.cell1 {w : World} {b : Nat} {a : Val} (h : Bx w b a) : w.cell? ⟨b, 1, none⟩ = some (.int .i64 a.n) := by unfold Bx at h; simp [World.cell?, h]
theorem Bx.cell2 {w : World} {b : Nat} {a : Val} (h : Bx w b a) : w.cell? ⟨b, 2, none⟩ = some (.string a.s) := by unfold Bx at h; simp [World.cell?, h]
theorem Bx.lt {w : World} {b : Nat} {a : Val} (h : Bx w b a) : b < w.heap.size := by
  rcases Nat.lt_or_ge b w.heap.size with hlt | hge
  · exact hlt
  · unfold Bx at h; rw [Array.getElem?_eq_none hge] at h; cases h
theorem Bx.below {w w' : World} {b B : Nat} {a : Val} (h : Bx w b a) (hb : Below B w w') (hlt : b < B) : Bx w' b a := (hb.block b hlt).trans h
theorem Bx.after {w w' : World} {b : Nat} {a : Val} (h : Bx w b a) (hb : Below w.heap.size w w') : Bx w' b a := h.below hb h.lt
theorem Bx.new (w : World) (a : Val) : Bx (w.alloc (.cells #[.int .i64 a.k, .int .i64 a.n, .string a.s] 59)) w.heap.size a := by
  show (w.heap.push _)[w.heap.size]? = _
  simp
theorem Bx.alloc {w : World} {b : Nat} {a : Val} (h : Bx w b a) (o : Obj) : Bx (w.alloc o) b a := (Below.heap_alloc w o b h.lt).trans h
theorem Bx.load {w : World} {b : Nat} {a : Val} (h : Bx w b a) : (Instr.loadAt 59 (.pointer (some ⟨b, 0, none⟩))).run Tryz.prog w = .ok a.v w := by
  have h0 := h.cell0
  have h1 := h.cell1
  have h2 := h.cell2
  go_simp
theorem ev_move {P : Program} {F : Act} {w : World} {x : Operand} {o : Oper} (ho : o.op = .move x) : (execOp F.eval o).run P w = .ok (.value (F.eval x)) w := by
  simp [execOp, ho]
theorem ev_assign {P : Program} {F : Act} {w : World} {x : Operand} {o : Oper} (ho : o.op = .assign x) : (execOp F.eval o).run P w = .ok (.value (F.eval x)) w := by
  simp [execOp, ho]
theorem ev_call {F : Act} {w : World} {f : FuncId} {args : Array Operand} {ats : Array TypeId} {vs : Array Value} {o : Oper} (hE : ∀ args w, (callFunc f args).run Tryz.prog w = .ok (.enter f args) w)
    (ho : o.op = .call { callee := .value (.func f), args := args, argTypes := ats }) (hv : args.map F.eval = vs) : (execOp F.eval o).run Tryz.prog w = .ok (.enter f vs) w := by
  have h := hE (args.map F.eval) w
  subst hv
  simp [execOp, ho, resolve, go_sem, h]
theorem Bx.frozen {w : World} {b : Nat} {a : Val} (h : Bx w b a) (i : Nat) : w.frozen? ⟨b, i, none⟩ = false := by
  unfold Bx at h
  simp [World.frozen?, h]
/-- The world with the value a in block b. -/
def put3 (w : World) (b : Nat) (a : Val) : World := ((w.setCell ⟨b, 0, none⟩ (.int .i64 a.k)).setCell ⟨b, 1, none⟩ (.int .i64 a.n)).setCell ⟨b, 2, none⟩ (.string a.s)
theorem Bx.put {w : World} {b : Nat} {x : Val} (h : Bx w b x) (a : Val) : Bx (put3 w b a) b a := by
  unfold Bx at h
  simp [Bx, put3, World.setCell, Array.getElem?_modify, h]
/-- The end of a walk that has made blocks, and written into them alone. -/
theorem below_one (w : World) (o : Obj) : Below w.heap.size w (w.alloc o) := (Below.refl _ _).alloc (Nat.le_refl _) _
theorem below_two (w : World) (o o' : Obj) : Below w.heap.size w ((w.alloc o).alloc o') := (below_one _ _).alloc (by simp) _
/-- The slice at A reads as the values vs. -/
def Sl (w : World) (A : Option Addr) (vs : List Val) : Prop :=
  vs = [] ∨ ∃ b off, A = some ⟨b, off, none⟩ ∧ b < w.heap.size ∧ ∀ i (a : Val), vs[i]? = some a →
    w.cell? ⟨b, off + i * 3, none⟩ = some (.int .i64 a.k) ∧ w.cell? ⟨b, off + i * 3 + 1, none⟩ = some (.int .i64 a.n) ∧ w.cell? ⟨b, off + i * 3 + 2, none⟩ = some (.string a.s)
theorem Sl.after {w w' : World} {A : Option Addr} {vs : List Val} (h : Sl w A vs) (hb : Below w.heap.size w w') : Sl w' A vs := by
  rcases h with h | ⟨b, off, hA, hlt, h⟩
  · exact .inl h
  · refine .inr ⟨b, off, hA, Nat.lt_of_lt_of_le hlt hb.size, fun i a ha => ?_⟩
    obtain ⟨h0, h1, h2⟩ := h i a ha
    exact ⟨(hb.cell hlt).trans h0, (hb.cell hlt).trans h1, (hb.cell hlt).trans h2⟩
end Go.Proofs.YtjgpmnffagdhlaaGreatDoor
namespace Go.Proofs.YtjgpmnffagdhlaaGreatDoor
open Go Go.RowKit
/-- Whether a value may be, as the program asks it. -/
def mayB (x : Val) : Bool := if x.k == 0 then x.n == 0 && x.s.toList.isEmpty else if x.k == 1 then (x.n == 0 || x.n == 1) && x.s.toList.isEmpty else if x.k == 2 then x.s.toList.isEmpty else if x.k == 3 then x.n == 0 && decide (x.s.size ≤ 1000) else false
/-- A value that may be. -/
def Valid (x : Val) : Prop := (x.k = 0 ∧ x.n = 0 ∧ x.s = emp) ∨ (x.k = 1 ∧ (x.n = 0 ∨ x.n = 1) ∧ x.s = emp) ∨ (x.k = 2 ∧ x.s = emp) ∨ (x.k = 3 ∧ x.n = 0 ∧ x.s.size ≤ 1000)
theorem emp_of {s : ByteArray} (h : s.toList.isEmpty = true) : s = emp := by
  rw [ByteArray.toList_eq] at h
  obtain ⟨⟨l⟩⟩ := s
  simp at h
  rw [h]
theorem valid_of_may (x : Val) (h : mayB x = true) : Valid x := by
  unfold mayB at h
  by_cases h0 : x.k = 0
  · simp only [h0, beq_self_eq_true, if_true, Bool.and_eq_true, beq_iff_eq] at h
    exact .inl ⟨h0, h.1, emp_of h.2⟩
  by_cases h1 : x.k = 1
  · simp [h1] at h
    exact .inr (.inl ⟨h1, h.1, emp_of (by simpa using h.2)⟩)
  by_cases h2 : x.k = 2
  · simp [h2] at h
    exact .inr (.inr (.inl ⟨h2, emp_of (by simpa using h)⟩))
  by_cases h3 : x.k = 3
  · simp [h3] at h
    exact .inr (.inr (.inr ⟨h3, h⟩))
  simp [h0, h1, h2, h3] at h
set_option maxHeartbeats 1000000 in
theorem may_null (x : Val) (w : World) (h : (x.k == 0) = true) : Calls Tryz.prog 69 #[x.v] w fun e w' => e = .returned (.bool (x.n == 0 && x.s.toList.isEmpty)) ∧ Below w.heap.size w w' := by
  cases hn : x.n == 0
  all_goals
    go_enter Tryz.func69, Tryz.ntmps69
    go_wp2
    go_ret
    exact ⟨rfl, below_one _ _⟩
set_option maxHeartbeats 1000000 in
theorem may_bool (x : Val) (w : World) (h0 : (x.k == 0) = false) (h : (x.k == 1) = true) : Calls Tryz.prog 69 #[x.v] w fun e w' => e = .returned (.bool ((x.n == 0 || x.n == 1) && x.s.toList.isEmpty)) ∧ Below w.heap.size w w' := by
  cases hn : x.n == 0
  · cases hn1 : x.n == 1
    all_goals
      go_enter Tryz.func69, Tryz.ntmps69
      go_wp2
      go_ret
      exact ⟨rfl, below_one _ _⟩
  · go_enter Tryz.func69, Tryz.ntmps69
    go_wp2
    go_ret
    exact ⟨rfl, below_one _ _⟩
set_option maxHeartbeats 1000000 in
theorem may_int (x : Val) (w : World) (h0 : (x.k == 0) = false) (h1 : (x.k == 1) = false) (h : (x.k == 2) = true) : Calls Tryz.prog 69 #[x.v] w fun e w' => e = .returned (.bool x.s.toList.isEmpty) ∧ Below w.heap.size w w' := by
  go_enter Tryz.func69, Tryz.ntmps69
  go_wp2
  go_ret
  exact ⟨rfl, below_one _ _⟩
set_option maxHeartbeats 1000000 in
theorem may_text (x : Val) (w : World) (h0 : (x.k == 0) = false) (h1 : (x.k == 1) = false) (h2 : (x.k == 2) = false) (h : (x.k == 3) = true) (hs : x.s.size ≤ maxLen) : Calls Tryz.prog 69 #[x.v] w fun e w' => e = .returned (.bool (x.n == 0 && decide (x.s.size ≤ 1000))) ∧ Below w.heap.size w w' := by
  unfold maxLen at hs
  cases hn : x.n == 0
  · go_enter Tryz.func69, Tryz.ntmps69
    go_wp2
    go_ret
    exact ⟨rfl, below_one _ _⟩
  · by_cases hz : x.s.size ≤ 1000
    · have hz' : decide (x.s.size ≤ 1000) = true := decide_eq_true hz
      have hz2 : decide ((x.s.size : Int) ≤ 1000) = true := decide_eq_true (by omega)
      go_enter Tryz.func69, Tryz.ntmps69
      go_wp2
      go_ret
      exact ⟨by rw [hz']; rfl, below_one _ _⟩
    · have hz' : decide (x.s.size ≤ 1000) = false := decide_eq_false hz
      have hz2 : decide ((x.s.size : Int) ≤ 1000) = false := decide_eq_false (by omega)
      go_enter Tryz.func69, Tryz.ntmps69
      go_wp2
      go_ret
      exact ⟨by rw [hz']; rfl, below_one _ _⟩
set_option maxHeartbeats 1000000 in
theorem may_other (x : Val) (w : World) (h0 : (x.k == 0) = false) (h1 : (x.k == 1) = false) (h2 : (x.k == 2) = false) (h3 : (x.k == 3) = false) : Calls Tryz.prog 69 #[x.v] w fun e w' => e = .returned (.bool false) ∧ Below w.heap.size w w' := by
  go_enter Tryz.func69, Tryz.ntmps69
  go_wp2
  go_ret
  exact ⟨rfl, below_one _ _⟩
theorem may_c (x : Val) (w : World) (hs : x.s.size ≤ maxLen) : Calls Tryz.prog 69 #[x.v] w fun e w' => e = .returned (.bool (mayB x)) ∧ Below w.heap.size w w' := by
  unfold mayB
  cases h0 : x.k == 0
  · cases h1 : x.k == 1
    · cases h2 : x.k == 2
      · cases h3 : x.k == 3
        · exact may_other x w h0 h1 h2 h3
        · exact may_text x w h0 h1 h2 h3 hs
      · exact may_int x w h0 h1 h2
    · exact may_bool x w h0 h1
  · exact may_null x w h0
end Go.Proofs.YtjgpmnffagdhlaaGreatDoor
namespace Go.Proofs.YtjgpmnffagdhlaaGreatDoor
open Go
/-- Each byte c written as new. -/
def sub1 (c : UInt8) (new : List UInt8) : List UInt8 → List UInt8
  | [] => []
  | b :: l => if b = c then new ++ sub1 c new l else b :: sub1 c new l
theorem index_nil (c : UInt8) : Lib.index [] [c] = -1 := rfl
theorem index_same (c : UInt8) (l : List UInt8) : Lib.index (c :: l) [c] = 0 := by simp [Lib.index]
theorem index_other (b c : UInt8) (l : List UInt8) (h : b ≠ c) : Lib.index (b :: l) [c] = if Lib.index l [c] == -1 then -1 else Lib.index l [c] + 1 := by
  rw [Lib.index]
  have : ([c].isPrefixOf (b :: l)) = false := by simp [List.isPrefixOf]; exact fun e => h e.symm
  rw [this]; rfl
theorem replaceK_nil (c : UInt8) (new : List UInt8) : ∀ k, Lib.replaceK [c] new k [] = []
  | 0 => rfl
  | k + 1 => by rw [Lib.replaceK, index_nil]; rfl
theorem replaceK_same (c : UInt8) (new l : List UInt8) (k : Nat) : Lib.replaceK [c] new (k + 1) (c :: l) = new ++ Lib.replaceK [c] new k l := by
  rw [Lib.replaceK_hit [c] new k (c :: l) 0 (index_same c l)]
  simp
theorem replaceK_other (b c : UInt8) (new l : List UInt8) (h : b ≠ c) : ∀ k, Lib.replaceK [c] new k (b :: l) = b :: Lib.replaceK [c] new k l
  | 0 => rfl
  | k + 1 => by
    have hge := Lib.index_ge l [c]
    by_cases hm : Lib.index l [c] = -1
    · have e1 : Lib.index (b :: l) [c] = -1 := by rw [index_other b c l h, hm]; rfl
      rw [Lib.replaceK, Lib.replaceK, e1, hm]; rfl
    · have hne : (Lib.index l [c] == -1) = false := by simpa using hm
      obtain ⟨i, hi⟩ : ∃ i : Nat, Lib.index l [c] = i := ⟨(Lib.index l [c]).toNat, by omega⟩
      have e1 : Lib.index (b :: l) [c] = ((i + 1 : Nat) : Int) := by rw [index_other b c l h, hne, hi]; simp
      rw [Lib.replaceK_hit [c] new k (b :: l) (i + 1) e1, Lib.replaceK_hit [c] new k l i hi]
      have e : i + 1 + [c].length = (i + [c].length) + 1 := by simp
      rw [e, List.drop_succ_cons, List.take_succ_cons]
      simp
theorem replaceK_sub1 (c : UInt8) (new : List UInt8) : ∀ (s : List UInt8) (k : Nat), s.count c ≤ k → Lib.replaceK [c] new k s = sub1 c new s
  | [], k, _ => replaceK_nil c new k
  | b :: l, k, h => by
    by_cases e : b = c
    · subst e
      rw [List.count_cons_self] at h
      obtain ⟨k, rfl⟩ : ∃ j, k = j + 1 := ⟨k - 1, by omega⟩
      rw [replaceK_same, replaceK_sub1 b new l k (by omega), sub1, if_pos rfl]
    · rw [List.count_cons_of_ne e] at h
      rw [replaceK_other b c new l e, replaceK_sub1 c new l k h, sub1, if_neg e]
theorem replaceAll_sub1 (c : UInt8) (new s : List UInt8) (h : [c] ≠ new) : Lib.replaceAll s [c] new = sub1 c new s := by
  have hne : ([c] == new) = false := by simpa using h
  unfold Lib.replaceAll Lib.replace
  rw [hne]
  simp only [Bool.false_eq_true, if_false]
  refine replaceK_sub1 c new s _ ?_
  unfold Lib.replaceNum
  rw [if_pos (.inl (by decide)), Lib.count_one]
  exact Nat.le_refl _
theorem sub1_length (c : UInt8) (new : List UInt8) : ∀ s : List UInt8, (sub1 c new s).length ≤ s.length * (new.length + 1)
  | [] => by simp [sub1]
  | b :: l => by
    have ih := sub1_length c new l
    rw [sub1, List.length_cons, Nat.add_mul, Nat.one_mul]
    by_cases e : b = c
    · rw [if_pos e, List.length_append]; omega
    · rw [if_neg e, List.length_cons]; omega
end Go.Proofs.YtjgpmnffagdhlaaGreatDoor
namespace Go.Proofs.YtjgpmnffagdhlaaGreatDoor
open Go
/-- What a list of digits says. -/
def num (l : List UInt8) : Nat := l.foldl (fun a c => a * 10 + (c.toNat - 48)) 0
theorem num_snoc (l : List UInt8) (c : UInt8) : num (l ++ [c]) = num l * 10 + (c.toNat - 48) := by simp [num]
theorem dig_toNat (k : Nat) (h : k < 10) : (UInt8.ofNat (48 + k)).toNat = 48 + k := by
  rw [UInt8.toNat_ofNat']; omega
theorem num_dec (u : Nat) : num (Lib.decDigits u) = u := by
  induction u using Nat.strongRecOn with
  | _ u ih =>
    rw [Lib.decDigits]
    by_cases h : u < 10
    · rw [dif_pos h]
      simp [num]; omega
    · rw [dif_neg h, num_snoc, ih (u / 10) (by omega), dig_toNat (u % 10) (by omega)]
      omega
/-- A number's text begins with a digit. -/
theorem dec_head (u : Nat) : ∃ c l, Lib.decDigits u = c :: l ∧ 48 ≤ c.toNat ∧ c.toNat ≤ 57 := by
  induction u using Nat.strongRecOn with
  | _ u ih =>
    rw [Lib.decDigits]
    by_cases h : u < 10
    · rw [dif_pos h]
      exact ⟨_, [], rfl, by rw [dig_toNat u h]; omega, by rw [dig_toNat u h]; omega⟩
    · rw [dif_neg h]
      obtain ⟨c, l, hl, h1, h2⟩ := ih (u / 10) (by omega)
      exact ⟨c, l ++ _, by rw [hl]; rfl, h1, h2⟩
/-- A value's text. -/
def textL (x : Val) : List UInt8 :=
  if x.k == 0 then [110, 117, 108, 108] else if x.k == 1 then (if x.n == 0 then [102, 97, 108, 115, 101] else [116, 114, 117, 101]) else if x.k == 2 then Lib.itoa x.n else if x.k == 3 then [39] ++ sub1 39 [39, 39] x.s.data.toList ++ [39] else [63]
/-- What stands behind a value's text in a row's: nothing, or a comma. -/
def Stop (r : List UInt8) : Prop := r = [] ∨ ∃ l, r = 44 :: l
theorem dec_all (u : Nat) : ∀ c ∈ Lib.decDigits u, 48 ≤ c.toNat ∧ c.toNat ≤ 57 := by
  induction u using Nat.strongRecOn with
  | _ u ih =>
    rw [Lib.decDigits]
    by_cases h : u < 10
    · rw [dif_pos h]
      intro c hc
      simp only [List.mem_singleton] at hc
      subst hc
      rw [dig_toNat u h]; omega
    · rw [dif_neg h]
      intro c hc
      rcases List.mem_append.1 hc with hc | hc
      · exact ih (u / 10) (by omega) c hc
      · simp only [List.mem_singleton] at hc
        subst hc
        rw [dig_toNat (u % 10) (by omega)]; omega
theorem tail_cons (x : List UInt8) (r : List (List UInt8)) : Lib.joinTail [44, 32] (x :: r) = 44 :: 32 :: (x ++ Lib.joinTail [44, 32] r) := by
  simp [Lib.joinTail]
theorem sub1_le (c : UInt8) : ∀ l : List UInt8, (sub1 c [c, c] l).length ≤ 2 * l.length
  | [] => Nat.le_refl _
  | b :: l => by
    rw [sub1]
    have := sub1_le c l
    split <;> simp <;> omega
theorem dec_len (u : Nat) (k : Nat) (h : u < 10 ^ (k + 1)) : (Lib.decDigits u).length ≤ k + 1 := by
  induction k generalizing u with
  | zero =>
    rw [Lib.decDigits, dif_pos (by simpa using h)]
    simp
  | succ k ih =>
    rw [Lib.decDigits]
    by_cases h10 : u < 10
    · rw [dif_pos h10]; simp
    · rw [dif_neg h10]
      have : u / 10 < 10 ^ (k + 1) := by
        rw [Nat.pow_succ] at h
        exact (Nat.div_lt_iff_lt_mul (by decide)).2 h
      have := ih (u / 10) this
      simp
      omega
theorem itoa_len (a : Int) (h : -9223372036854775808 ≤ a ∧ a ≤ 9223372036854775807) : (Lib.itoa a).length ≤ 21 := by
  unfold Lib.itoa
  split
  · rw [List.length_cons]
    exact Nat.succ_le_succ (dec_len _ 19 (by omega))
  · exact Nat.le_trans (dec_len _ 19 (by omega)) (by decide)
theorem text_len (x : Val) (hn : -9223372036854775808 ≤ x.n ∧ x.n ≤ 9223372036854775807) (hs : x.s.size ≤ 2000) : (textL x).length ≤ 5000 := by
  unfold textL
  split
  · simp
  split
  · split <;> simp
  split
  · have := itoa_len x.n hn
    omega
  split
  · have h1 := sub1_le 39 x.s.data.toList
    have h2 : x.s.data.toList.length = x.s.size := rfl
    simp only [List.length_append, List.length_cons, List.length_nil]
    omega
  · simp
end Go.Proofs.YtjgpmnffagdhlaaGreatDoor
namespace Go.Proofs.YtjgpmnffagdhlaaGreatDoor
open Go
/-- A token: Kind, Text, V. -/
structure Tk where
  k : Int
  t : ByteArray
  v : Val
def Tk.eq (a b : Tk) : Bool := decide (a.k = b.k) && (decide (a.t.toList = b.t.toList) && a.v.eq b.v)
theorem Tk.eq_iff {a b : Tk} : a.eq b = true ↔ a = b := by
  obtain ⟨k, t, v⟩ := a
  obtain ⟨k', t', v'⟩ := b
  simp only [Tk.eq, Bool.and_eq_true, decide_eq_true_eq, Tk.mk.injEq, Val.eq_iff]
  constructor
  · rintro ⟨h1, h2, h3⟩; exact ⟨h1, toList_inj h2, h3⟩
  · rintro ⟨h1, h2, h3⟩; exact ⟨h1, by rw [h2], h3⟩
theorem Tk.eq_self (a : Tk) : a.eq a = true := Tk.eq_iff.2 rfl
theorem Tk.eq_false {a b : Tk} (h : a ≠ b) : a.eq b = false := by
  cases e : a.eq b
  · rfl
  · exact absurd (Tk.eq_iff.1 e) h
abbrev ba (l : List UInt8) : ByteArray := ⟨l.toArray⟩
theorem ba_inj {l r : List UInt8} (h : ba l = ba r) : l = r := by simpa using h
theorem ba_of (s : ByteArray) : ba s.data.toList = s := by obtain ⟨⟨l⟩⟩ := s; rfl
def tk0 : Tk := ⟨0, emp, nl⟩
def intT (n : Int) : Tk := ⟨1, emp, iv n⟩
def strT (l : List UInt8) : Tk := ⟨1, emp, ⟨3, 0, ba l⟩⟩
def sgnT (l : List UInt8) : Tk := ⟨2, ba l, nl⟩
def wrdT (l : List UInt8) : Tk := ⟨0, ba l, nl⟩
/-- The signs. -/
def sgns : List UInt8 := [40, 41, 91, 93, 44, 61, 60, 43, 45, 42, 63]
/-- The class of a byte. -/
def cls (b : UInt8) : Int :=
  if b.toNat = 32 then 1 else if 97 ≤ b.toNat ∧ b.toNat ≤ 122 then 2 else if 48 ≤ b.toNat ∧ b.toNat ≤ 57 then 3 else if b.toNat = 95 then 4 else if b.toNat = 39 then 5 else if b.toNat = 45 then 6 else if 0 ≤ Lib.indexByte sgns b then 7 else 0
theorem cls_1 {b : UInt8} : cls b = 1 ↔ b.toNat = 32 := by 
  unfold cls
  repeat' split
  all_goals (first | omega | simp_all)
theorem cls_2 {b : UInt8} : cls b = 2 ↔ 97 ≤ b.toNat ∧ b.toNat ≤ 122 := by 
  unfold cls
  repeat' split
  all_goals (first | omega | simp_all)
theorem cls_3 {b : UInt8} : cls b = 3 ↔ 48 ≤ b.toNat ∧ b.toNat ≤ 57 := by 
  unfold cls
  repeat' split
  all_goals (first | omega | simp_all)
theorem cls_5 {b : UInt8} : cls b = 5 ↔ b.toNat = 39 := by 
  unfold cls
  repeat' split
  all_goals (first | omega | simp_all)
theorem indexByte_mem : ∀ (l : List UInt8) (c : UInt8), 0 ≤ Lib.indexByte l c ↔ c ∈ l
  | [], c => by simp [Lib.indexByte]
  | b :: l, c => by
    have ih := indexByte_mem l c
    have hge := Lib.indexByte_ge l c
    rw [Lib.indexByte]
    by_cases h : b = c
    · subst h; simp
    · have hb : (b == c) = false := by simpa using h
      rw [hb]
      simp only [Bool.false_eq_true, if_false, List.mem_cons]
      by_cases hm : Lib.indexByte l c = -1
      · have : c ∉ l := fun hc => by have := ih.2 hc; omega
        rw [hm]
        have hcb : ¬c = b := fun e => h e.symm
        simp [this, hcb]
      · have hne : (Lib.indexByte l c == -1) = false := by simpa using hm
        rw [hne]
        have hc : c ∈ l := ih.1 (by omega)
        simp [hc]
        omega
theorem byte_of {b : UInt8} {n : Nat} (h : b.toNat = n) : b = UInt8.ofNat n := by rw [← h]; simp
/-- Is a byte of one of these classes? -/
def isIn (cs : List Int) (b : UInt8) : Bool := cs.contains (cls b)
abbrev dig : UInt8 → Bool := isIn [3]
abbrev inn : UInt8 → Bool := isIn [2, 3, 4]
abbrev blk : UInt8 → Bool := isIn [1]
theorem dig_iff {b : UInt8} : dig b = true ↔ 48 ≤ b.toNat ∧ b.toNat ≤ 57 := by
  rw [← cls_3]; simp [dig, isIn]
theorem blk_iff {b : UInt8} : blk b = true ↔ b.toNat = 32 := by
  rw [← cls_1]; simp [blk, isIn]
theorem inn_iff {b : UInt8} : inn b = true ↔ cls b = 2 ∨ cls b = 3 ∨ cls b = 4 := by simp [inn, isIn]
/-- A number's token. -/
def numT (w : List UInt8) : Option Tk := match Lib.atoiAll w with
  | .ok v => if Lib.itoa v = w then some (intT v) else none
  | _ => none
/-- What stands in a text, and behind it; the flag: behind a quote. -/
def quoF : Bool → List UInt8 → Option (List UInt8 × List UInt8)
  | false, [] => none
  | true, [] => some ([], [])
  | false, c :: r => if c = 39 then quoF true r else (quoF false r).map fun p => (c :: p.1, p.2)
  | true, c :: r => if c = 39 then (quoF false r).map fun p => (39 :: p.1, p.2) else some ([], c :: r)
/-- A token, and what stands behind it. -/
def tokL : List UInt8 → Option (Tk × List UInt8)
  | [] => none
  | c :: r =>
    if cls c = 2 then some (wrdT ((c :: r).takeWhile inn), (c :: r).dropWhile inn)
    else if cls c = 3 then (numT ((c :: r).takeWhile dig)).map fun t => (t, (c :: r).dropWhile dig)
    else if cls c = 5 then (quoF false r).map fun p => (strT p.1, p.2)
    else if cls c = 6 then (if r.takeWhile dig = [] then some (sgnT [c], r) else (numT (c :: r.takeWhile dig)).map fun t => (t, r.dropWhile dig))
    else if cls c = 7 then some (sgnT [c], r)
    else none
/-- Is a text a word? -/
def wordB (l : List UInt8) : Bool := match l with
  | [] => false
  | c :: r => decide ((c :: r).length ≤ 30) && (decide (cls c = 2) && (c :: r).all inn)
def signB (l : List UInt8) : Bool := match l with
  | [c] => decide (c ∈ sgns)
  | _ => false
/-- Whether a token may be. -/
def mayT (t : Tk) : Bool :=
  if t.k == 0 then wordB t.t.data.toList && t.v.eq nl
  else if t.k == 1 then t.t.toList.isEmpty && ((t.v.k == 2 || t.v.k == 3) && mayB t.v)
  else if t.k == 2 then signB t.t.data.toList && t.v.eq nl else false
/-- The tokens of a text. -/
def lexF : Nat → List UInt8 → Option (List Tk)
  | 0, _ => some []
  | _ + 1, [] => some []
  | n + 1, c :: r => if cls c = 1 then lexF n r else match tokL (c :: r) with
    | none => none
    | some (t, q) => if mayT t then (lexF n q).map (t :: ·) else none
def lexL (l : List UInt8) : Option (List Tk) := lexF l.length l
/-- A token's print. -/
def txtT (t : Tk) : List UInt8 := if t.k == 1 then textL t.v else t.t.data.toList
def printL (l : List Tk) : List UInt8 := Lib.join (l.map txtT) [32]
theorem drop_le (p : UInt8 → Bool) (l : List UInt8) : (l.dropWhile p).length ≤ l.length := by
  have := congrArg List.length (List.takeWhile_append_dropWhile (p := p) (l := l))
  rw [List.length_append] at this
  omega
theorem quo_le : ∀ (l : List UInt8) (b : Bool) (u r : List UInt8), quoF b l = some (u, r) → r.length ≤ l.length
  | [], false, u, r, h => by simp [quoF] at h
  | [], true, u, r, h => by simp [quoF] at h; simp [h.2]
  | c :: l, false, u, r, h => by
    rw [quoF] at h
    split at h
    · have := quo_le l true u r h; simp; omega
    · cases e : quoF false l with
      | none => rw [e] at h; cases h
      | some p =>
        rw [e] at h
        simp at h
        have := quo_le l false p.1 p.2 e
        rw [h.2] at this; simp; omega
  | c :: l, true, u, r, h => by
    rw [quoF] at h
    split at h
    · cases e : quoF false l with
      | none => rw [e] at h; cases h
      | some p =>
        rw [e] at h
        simp at h
        have := quo_le l false p.1 p.2 e
        rw [h.2] at this; simp; omega
    · simp at h; rw [← h.2]; simp
theorem tok_lt {l : List UInt8} {t : Tk} {r : List UInt8} (h : tokL l = some (t, r)) : r.length < l.length := by
  cases l with
  | nil => cases h
  | cons c l =>
    rw [tokL] at h
    split at h
    · rename_i hc
      have hi : inn c = true := inn_iff.2 (.inl hc)
      simp only [Option.some.injEq, Prod.mk.injEq] at h
      rw [← h.2, List.dropWhile_cons, hi]
      have := drop_le inn l
      simp; omega
    split at h
    · rename_i hc
      have hi : dig c = true := dig_iff.2 (cls_3.1 hc)
      cases e : numT ((c :: l).takeWhile dig) with
      | none => rw [e] at h; cases h
      | some q =>
        rw [e] at h
        simp only [Option.map_some, Option.some.injEq, Prod.mk.injEq] at h
        rw [← h.2, List.dropWhile_cons, hi]
        have := drop_le dig l
        simp; omega
    split at h
    · cases e : quoF false l with
      | none => rw [e] at h; cases h
      | some q =>
        rw [e] at h
        simp only [Option.map_some, Option.some.injEq, Prod.mk.injEq] at h
        have := quo_le l false q.1 q.2 e
        rw [← h.2]
        simp; omega
    split at h
    · split at h
      · simp only [Option.some.injEq, Prod.mk.injEq] at h
        rw [← h.2]; simp
      · cases e : numT (c :: l.takeWhile dig) with
        | none => rw [e] at h; cases h
        | some q =>
          rw [e] at h
          simp only [Option.map_some, Option.some.injEq, Prod.mk.injEq] at h
          have := drop_le dig l
          rw [← h.2]; simp; omega
    split at h
    · simp only [Option.some.injEq, Prod.mk.injEq] at h
      rw [← h.2]; simp
    · cases h
theorem lexF_fuel : ∀ (n : Nat) (l : List UInt8), l.length ≤ n → lexF n l = lexF l.length l := by
  intro n
  induction n using Nat.strongRecOn with
  | _ n ih =>
    intro l hl
    cases l with
    | nil => cases n <;> rfl
    | cons c r =>
      cases n with
      | zero => simp at hl
      | succ n =>
        rw [List.length_cons] at hl ⊢
        rw [lexF, lexF]
        split
        · exact ih n (by omega) r (by omega)
        · cases e : tokL (c :: r) with
          | none => rfl
          | some p =>
            obtain ⟨t, q⟩ := p
            have hq := tok_lt e
            rw [List.length_cons] at hq
            simp only
            split
            · rw [ih n (by omega) q (by omega), ih r.length (by omega) q (by omega)]
            · rfl
theorem lex_nil : lexL [] = some [] := rfl
theorem lex_blank {c : UInt8} {r : List UInt8} (h : cls c = 1) : lexL (c :: r) = lexL r := by
  unfold lexL
  rw [List.length_cons, lexF, if_pos h]
theorem lex_tok {c : UInt8} {r : List UInt8} (h : cls c ≠ 1) : lexL (c :: r) = match tokL (c :: r) with
    | none => none
    | some (t, q) => if mayT t then (lexL q).map (t :: ·) else none := by
  unfold lexL
  rw [List.length_cons, lexF, if_neg h]
  cases e : tokL (c :: r) with
  | none => rfl
  | some p =>
    obtain ⟨t, q⟩ := p
    have hq := tok_lt e
    rw [List.length_cons] at hq
    simp only
    rw [lexF_fuel r.length q (by omega)]
theorem lex_drop : ∀ l : List UInt8, lexL (l.dropWhile blk) = lexL l
  | [] => rfl
  | c :: r => by
    rw [List.dropWhile_cons]
    cases h : blk c
    · rfl
    · rw [lex_blank (cls_1.2 (blk_iff.1 h))]
      exact lex_drop r
theorem drop_head (l : List UInt8) : l.dropWhile blk = [] ∨ ∃ c r, l.dropWhile blk = c :: r ∧ cls c ≠ 1 := by
  cases e : l.dropWhile blk with
  | nil => exact .inl rfl
  | cons c r =>
    refine .inr ⟨c, r, rfl, fun h => ?_⟩
    have := List.head_dropWhile_not blk (by rw [e]; simp : l.dropWhile blk ≠ [])
    simp only [e, List.head_cons] at this
    rw [blk_iff.2 (cls_1.1 h)] at this
    cases this
/-- Where there is a blank behind, a token is read as without. -/
theorem take_app (p : UInt8 → Bool) (hp : p 32 = false) (x : List UInt8) : ∀ l : List UInt8, (l ++ 32 :: x).takeWhile p = l.takeWhile p ∧ (l ++ 32 :: x).dropWhile p = l.dropWhile p ++ 32 :: x
  | [] => by simp [hp]
  | c :: l => by
    obtain ⟨h1, h2⟩ := take_app p hp x l
    rw [List.cons_append, List.takeWhile_cons, List.takeWhile_cons, List.dropWhile_cons, List.dropWhile_cons]
    cases p c
    · exact ⟨rfl, rfl⟩
    · simp only [if_true]
      exact ⟨by rw [h1], h2⟩
theorem quo_app (x : List UInt8) : ∀ (l : List UInt8) (b : Bool) (u r : List UInt8), quoF b l = some (u, r) → quoF b (l ++ 32 :: x) = some (u, r ++ 32 :: x)
  | [], false, u, r, h => by simp [quoF] at h
  | [], true, u, r, h => by simp [quoF] at h; rw [h.1, h.2]; rfl
  | c :: l, false, u, r, h => by
    rw [quoF] at h
    rw [List.cons_append, quoF]
    split at h
    · rename_i hc
      rw [if_pos hc]; exact quo_app x l true u r h
    · rename_i hc
      rw [if_neg hc]
      cases e : quoF false l with
      | none => rw [e] at h; cases h
      | some p =>
        rw [e] at h
        simp at h
        rw [quo_app x l false p.1 p.2 e]
        simp [h.1, h.2]
  | c :: l, true, u, r, h => by
    rw [quoF] at h
    rw [List.cons_append, quoF]
    split at h
    · rename_i hc
      rw [if_pos hc]
      cases e : quoF false l with
      | none => rw [e] at h; cases h
      | some p =>
        rw [e] at h
        simp at h
        rw [quo_app x l false p.1 p.2 e]
        simp [h.1, h.2]
    · rename_i hc
      rw [if_neg hc]
      simp at h
      rw [h.1.symm, ← h.2]; simp
theorem tok_app (x : List UInt8) {l : List UInt8} {t : Tk} {r : List UInt8} (h : tokL l = some (t, r)) : tokL (l ++ 32 :: x) = some (t, r ++ 32 :: x) := by
  have hi : inn 32 = false := by decide
  have hd : dig 32 = false := by decide
  cases l with
  | nil => cases h
  | cons c l =>
    obtain ⟨i1, i2⟩ := take_app inn hi x (c :: l)
    obtain ⟨d1, d2⟩ := take_app dig hd x (c :: l)
    obtain ⟨e1, e2⟩ := take_app dig hd x l
    rw [List.cons_append] at i1 i2 d1 d2 ⊢
    rw [tokL] at h ⊢
    rw [i1, i2, d1, d2, e1, e2]
    split at h
    · rename_i hc
      rw [if_pos hc]
      simp only [Option.some.injEq, Prod.mk.injEq] at h ⊢
      exact ⟨h.1, by rw [h.2]⟩
    rename_i hc
    rw [if_neg hc]
    split at h
    · rename_i hc
      rw [if_pos hc]
      cases e : numT ((c :: l).takeWhile dig) with
      | none => rw [e] at h; cases h
      | some q =>
        rw [e] at h
        simp only [Option.map_some, Option.some.injEq, Prod.mk.injEq] at h ⊢
        exact ⟨h.1, by rw [h.2]⟩
    rename_i hc
    rw [if_neg hc]
    split at h
    · rename_i hc
      rw [if_pos hc]
      cases e : quoF false l with
      | none => rw [e] at h; cases h
      | some q =>
        rw [e] at h
        simp only [Option.map_some, Option.some.injEq, Prod.mk.injEq] at h
        rw [quo_app x l false q.1 q.2 e]
        simp only [Option.map_some, Option.some.injEq, Prod.mk.injEq]
        exact ⟨h.1, by rw [h.2]⟩
    rename_i hc
    rw [if_neg hc]
    split at h
    · rename_i hc
      rw [if_pos hc]
      split at h
      · rename_i he
        rw [if_pos he]
        simp only [Option.some.injEq, Prod.mk.injEq] at h ⊢
        exact ⟨h.1, by rw [h.2]⟩
      · rename_i he
        rw [if_neg he]
        cases e : numT (c :: l.takeWhile dig) with
        | none => rw [e] at h; cases h
        | some q =>
          rw [e] at h
          simp only [Option.map_some, Option.some.injEq, Prod.mk.injEq] at h ⊢
          exact ⟨h.1, by rw [h.2]⟩
    rename_i hc
    rw [if_neg hc]
    split at h
    · rename_i hc
      rw [if_pos hc]
      simp only [Option.some.injEq, Prod.mk.injEq] at h ⊢
      exact ⟨h.1, by rw [h.2]⟩
    · cases h
/-- What stands ahead of a blank, and behind it. -/
theorem lex_app (x : List UInt8) : ∀ (n : Nat) (s : List UInt8) (a : List Tk), s.length ≤ n → lexL s = some a → lexL (s ++ 32 :: x) = (lexL x).map (a ++ ·)
  | n, [], a, _, h => by
    rw [lex_nil] at h
    simp only [Option.some.injEq] at h
    rw [← h, List.nil_append, lex_blank (by decide)]
    cases lexL x <;> rfl
  | 0, c :: s, a, hn, _ => by simp at hn
  | n + 1, c :: s, a, hn, h => by
    rw [List.length_cons] at hn
    by_cases hc : cls c = 1
    · rw [lex_blank hc] at h
      rw [List.cons_append, lex_blank hc]
      exact lex_app x n s a (by omega) h
    · rw [lex_tok hc] at h
      rw [List.cons_append, lex_tok hc]
      cases e : tokL (c :: s) with
      | none => rw [e] at h; cases h
      | some p =>
        obtain ⟨t, q⟩ := p
        have hq := tok_lt e
        rw [List.length_cons] at hq
        have e2 := tok_app x e
        rw [List.cons_append] at e2
        rw [e] at h
        rw [e2]
        simp only at h ⊢
        split at h
        · rename_i hm
          rw [if_pos hm]
          cases e3 : lexL q with
          | none => rw [e3] at h; cases h
          | some b =>
            rw [e3] at h
            simp only [Option.map_some, Option.some.injEq] at h
            rw [lex_app x n q b (by omega) e3, ← h]
            cases lexL x <;> simp
        · cases h
/-- Digits are read as the number that they say. -/
theorem fold_ge : ∀ (l : List UInt8) (a : Nat), a ≤ l.foldl (fun a c => a * 10 + (c.toNat - 48)) a
  | [], a => Nat.le_refl _
  | c :: l, a => by
    rw [List.foldl_cons]
    have := fold_ge l (a * 10 + (c.toNat - 48))
    omega
theorem parse_fold : ∀ (l : List UInt8) (a : Nat), (∀ c ∈ l, 48 ≤ c.toNat ∧ c.toNat ≤ 57) → l.foldl (fun a c => a * 10 + (c.toNat - 48)) a < 18446744073709551616 → Lib.parseUint10 a l = .ok (l.foldl (fun a c => a * 10 + (c.toNat - 48)) a)
  | [], a, _, _ => rfl
  | c :: l, a, h, hlt => by
    rw [List.foldl_cons] at hlt
    have := fold_ge l (a * 10 + (c.toNat - 48))
    rw [Lib.parseUint10, if_pos (h c (by simp)), if_neg (by omega), if_neg (by omega), parse_fold l _ (fun d hd => h d (List.mem_cons_of_mem _ hd)) hlt, List.foldl_cons]
theorem parse_dec (u : Nat) (h : u < 18446744073709551616) : Lib.parseMag (Lib.decDigits u) = .ok u := by
  obtain ⟨c, l, hl, _⟩ := dec_head u
  unfold Lib.parseMag
  rw [if_neg (by rw [hl]; simp)]
  have hn := num_dec u
  unfold num at hn
  rw [parse_fold (Lib.decDigits u) 0 (dec_all u) (by rw [hn]; exact h), hn]
theorem atoi_itoa (v : Int) (h : -9223372036854775808 ≤ v ∧ v ≤ 9223372036854775807) : Lib.atoiAll (Lib.itoa v) = .ok v := by
  unfold Lib.itoa
  by_cases hv : v < 0
  · rw [if_pos hv]
    have hp := parse_dec v.natAbs (by omega)
    unfold Lib.atoiAll
    simp only
    rw [if_pos (.inr (by decide)), hp]
    simp only
    rw [if_neg (by rintro ⟨h1, _⟩; exact h1 (by decide)), if_neg (by rintro ⟨_, h2⟩; omega), if_pos (by decide)]
    congr 1
    omega
  · rw [if_neg hv]
    have hp := parse_dec v.toNat (by omega)
    obtain ⟨c, l, hl, h1, h2⟩ := dec_head v.toNat
    rw [hl] at hp ⊢
    unfold Lib.atoiAll
    simp only
    rw [if_neg (by omega), hp]
    simp only
    rw [if_neg (by rintro ⟨_, h2⟩; omega), if_neg (by rintro ⟨h1, _⟩; omega), if_neg (by omega)]
    congr 1
    omega
theorem num_itoa (v : Int) (h : -9223372036854775808 ≤ v ∧ v ≤ 9223372036854775807) : numT (Lib.itoa v) = some (intT v) := by
  unfold numT
  rw [atoi_itoa v h]
  simp
theorem quo_sub : ∀ s : List UInt8, quoF false (sub1 39 [39, 39] s ++ [39]) = some (s, [])
  | [] => rfl
  | c :: s => by
    rw [sub1]
    split
    · rename_i hc
      subst hc
      show quoF false (39 :: 39 :: (sub1 39 [39, 39] s ++ [39])) = _
      rw [quoF, if_pos rfl, quoF, if_pos rfl, quo_sub s]
      rfl
    · rename_i hc
      rw [List.cons_append, quoF, if_neg hc, quo_sub s]
      rfl
/-- A value of 64 bits. -/
def T64 (t : Tk) : Prop := -9223372036854775808 ≤ t.v.n ∧ t.v.n ≤ 9223372036854775807
theorem all_take (p : UInt8 → Bool) : ∀ l : List UInt8, (∀ c ∈ l, p c = true) → l.takeWhile p = l ∧ l.dropWhile p = []
  | [], _ => ⟨rfl, rfl⟩
  | c :: l, h => by
    obtain ⟨h1, h2⟩ := all_take p l (fun d hd => h d (List.mem_cons_of_mem _ hd))
    rw [List.takeWhile_cons, List.dropWhile_cons, h c (by simp)]
    exact ⟨by simp only [if_true]; rw [h1], h2⟩
theorem sgn_cls : ∀ c ∈ sgns, cls c = 6 ∨ cls c = 7 := by decide
/-- A token's print is that token. -/
theorem tok_txt (t : Tk) (hm : mayT t = true) (h6 : T64 t) : tokL (txtT t) = some (t, []) := by
  obtain ⟨k, s, v⟩ := t
  unfold T64 at h6
  unfold mayT at hm
  unfold txtT
  simp only at *
  by_cases h0 : k = 0
  · subst h0
    simp only [beq_self_eq_true, if_true, Bool.and_eq_true, Val.eq_iff] at hm
    obtain ⟨hw, rfl⟩ := hm
    rw [if_neg (by decide)]
    unfold wordB at hw
    split at hw
    · cases hw
    · rename_i c r e
      simp only [Bool.and_eq_true, decide_eq_true_eq, List.all_eq_true] at hw
      obtain ⟨h1, h2⟩ := all_take inn (c :: r) hw.2.2
      rw [e, tokL, if_pos hw.2.1, h1, h2, ← e]
      unfold wrdT
      rw [ba_of]
  have k0 : (k == 0) = false := by simpa using h0
  rw [k0] at hm
  simp only [Bool.false_eq_true, if_false] at hm
  by_cases h1 : k = 1
  · subst h1
    simp only [beq_self_eq_true, if_true, Bool.and_eq_true, Bool.or_eq_true, beq_iff_eq] at hm ⊢
    obtain ⟨he, hk, hv⟩ := hm
    have hs := emp_of he
    subst hs
    obtain ⟨vk, vn, vs⟩ := v
    have hval := valid_of_may _ hv
    simp only at *
    rcases hk with rfl | rfl
    · rcases hval with ⟨hk, _⟩ | ⟨hk, _⟩ | ⟨_, hs⟩ | ⟨hk, _⟩
      · simp at hk
      · simp at hk
      · simp only at hs
        subst hs
        have ht : textL ⟨2, vn, emp⟩ = Lib.itoa vn := rfl
        have hnum := num_itoa vn h6
        rw [ht]
        unfold Lib.itoa at hnum ⊢
        by_cases hneg : vn < 0
        · rw [if_pos hneg] at hnum ⊢
          obtain ⟨a1, a2⟩ := all_take dig (Lib.decDigits vn.natAbs) (fun c hc => dig_iff.2 (dec_all _ c hc))
          obtain ⟨c, l, hl, _⟩ := dec_head vn.natAbs
          rw [tokL, if_neg (by decide), if_neg (by decide), if_neg (by decide), if_pos (by decide), a1, a2, if_neg (by rw [hl]; simp), hnum]
          rfl
        · rw [if_neg hneg] at hnum ⊢
          obtain ⟨a1, a2⟩ := all_take dig (Lib.decDigits vn.toNat) (fun c hc => dig_iff.2 (dec_all _ c hc))
          obtain ⟨c, l, hl, hc1, hc2⟩ := dec_head vn.toNat
          rw [hl] at a1 a2 hnum ⊢
          rw [tokL, if_neg (by rw [cls_2]; omega), if_pos (cls_3.2 ⟨hc1, hc2⟩), a1, a2, hnum]
          rfl
      · simp at hk
    · rcases hval with ⟨hk, _⟩ | ⟨hk, _⟩ | ⟨hk, _⟩ | ⟨_, hn, hs⟩
      · simp at hk
      · simp at hk
      · simp at hk
      · simp only at hn
        subst hn
        have ht : textL ⟨3, 0, vs⟩ = 39 :: (sub1 39 [39, 39] vs.data.toList ++ [39]) := rfl
        rw [ht, tokL, if_neg (by decide), if_neg (by decide), if_pos (by decide), quo_sub]
        simp only [Option.map_some]
        unfold strT
        rw [ba_of]
  have k1 : (k == 1) = false := by simpa using h1
  rw [k1] at hm ⊢
  simp only [Bool.false_eq_true, if_false] at hm ⊢
  by_cases h2 : k = 2
  · subst h2
    simp only [beq_self_eq_true, if_true, Bool.and_eq_true, Val.eq_iff] at hm
    obtain ⟨hw, rfl⟩ := hm
    unfold signB at hw
    split at hw
    · rename_i c e
      simp only [decide_eq_true_eq] at hw
      have hc := sgn_cls c hw
      rw [e, tokL]
      have e2 : sgnT [c] = ⟨2, s, nl⟩ := by unfold sgnT; rw [← e, ba_of]
      rcases hc with hc | hc
      · rw [if_neg (by omega), if_neg (by omega), if_neg (by omega), if_pos hc, List.takeWhile_nil, if_pos rfl, e2]
      · rw [if_neg (by omega), if_neg (by omega), if_neg (by omega), if_neg (by omega), if_pos hc, e2]
    · cases hw
  · have k2 : (k == 2) = false := by simpa using h2
    rw [k2] at hm
    cases hm
theorem lex_txt (t : Tk) (hm : mayT t = true) (h6 : T64 t) : lexL (txtT t) = some [t] := by
  have h := tok_txt t hm h6
  cases e : txtT t with
  | nil => rw [e] at h; cases h
  | cons c r =>
    rw [e] at h
    have hc : cls c ≠ 1 := by
      intro hc
      rw [tokL, if_neg (by omega), if_neg (by omega), if_neg (by omega), if_neg (by omega), if_neg (by omega)] at h
      cases h
    rw [lex_tok hc, h]
    simp only
    rw [if_pos hm, lex_nil]
    rfl
theorem print_cons (t : Tk) (l : List Tk) (h : l ≠ []) : printL (t :: l) = txtT t ++ 32 :: printL l := by
  cases l with
  | nil => exact absurd rfl h
  | cons u l =>
    unfold printL
    rw [List.map_cons, List.map_cons, Lib.join_cons, Lib.join_cons]
    simp [Lib.joinTail]
theorem print_one (t : Tk) : printL [t] = txtT t := by
  unfold printL
  rw [List.map_cons, Lib.join_cons]
  simp [Lib.joinTail]
/-- THE STAGE'S THEOREM, plainly: what is printed is read. -/
theorem lex_print : ∀ l : List Tk, (∀ t ∈ l, mayT t = true) → (∀ t ∈ l, T64 t) → lexL (printL l) = some l
  | [], _, _ => rfl
  | [t], hm, h6 => by rw [print_one]; exact lex_txt t (hm t (by simp)) (h6 t (by simp))
  | t :: u :: l, hm, h6 => by
    rw [print_cons t (u :: l) (by simp), lex_app _ _ _ [t] (Nat.le_refl _) (lex_txt t (hm t (by simp)) (h6 t (by simp))), lex_print (u :: l) (fun x hx => hm x (List.mem_cons_of_mem _ hx)) (fun x hx => h6 x (List.mem_cons_of_mem _ hx))]
    rfl
theorem txt_ne (t : Tk) (hm : mayT t = true) (h6 : T64 t) : txtT t ≠ [] := by
  intro e
  have h := tok_txt t hm h6
  rw [e] at h
  cases h
theorem atoi_64 {w : List UInt8} {v : Int} (e : Lib.atoiAll w = .ok v) : -9223372036854775808 ≤ v ∧ v ≤ 9223372036854775807 := by
  unfold Lib.atoiAll at e
  split at e
  · cases e
  · simp only at e
    split at e
    · cases e
    · cases e
    · split at e
      · cases e
      · split at e
        · cases e
        · rename_i u _ h1 h2
          injection e with e
          subst e
          split <;> omega
theorem num_64 {w : List UInt8} {t : Tk} (h : numT w = some t) : T64 t := by
  unfold numT at h
  split at h
  · rename_i v e
    split at h
    · simp only [Option.some.injEq] at h
      subst h
      exact atoi_64 e
    · cases h
  · cases h
theorem tok_64 {l : List UInt8} {t : Tk} {r : List UInt8} (h : tokL l = some (t, r)) : T64 t := by
  cases l with
  | nil => cases h
  | cons c l =>
    rw [tokL] at h
    split at h
    · simp only [Option.some.injEq, Prod.mk.injEq] at h
      rw [← h.1]; exact ⟨(by decide : (-9223372036854775808 : Int) ≤ 0), (by decide : (0 : Int) ≤ 9223372036854775807)⟩
    split at h
    · cases e : numT ((c :: l).takeWhile dig) with
      | none => rw [e] at h; cases h
      | some q =>
        rw [e] at h
        simp only [Option.map_some, Option.some.injEq, Prod.mk.injEq] at h
        rw [← h.1]; exact num_64 e
    split at h
    · cases e : quoF false l with
      | none => rw [e] at h; cases h
      | some q =>
        rw [e] at h
        simp only [Option.map_some, Option.some.injEq, Prod.mk.injEq] at h
        rw [← h.1]; exact ⟨(by decide : (-9223372036854775808 : Int) ≤ 0), (by decide : (0 : Int) ≤ 9223372036854775807)⟩
    split at h
    · split at h
      · simp only [Option.some.injEq, Prod.mk.injEq] at h
        rw [← h.1]; exact ⟨(by decide : (-9223372036854775808 : Int) ≤ 0), (by decide : (0 : Int) ≤ 9223372036854775807)⟩
      · cases e : numT (c :: l.takeWhile dig) with
        | none => rw [e] at h; cases h
        | some q =>
          rw [e] at h
          simp only [Option.map_some, Option.some.injEq, Prod.mk.injEq] at h
          rw [← h.1]; exact num_64 e
    split at h
    · simp only [Option.some.injEq, Prod.mk.injEq] at h
      rw [← h.1]; exact ⟨(by decide : (-9223372036854775808 : Int) ≤ 0), (by decide : (0 : Int) ≤ 9223372036854775807)⟩
    · cases h
/-- What is read may be, and is of 64 bits. -/
theorem lex_may : ∀ (n : Nat) (s : List UInt8) (a : List Tk), s.length ≤ n → lexL s = some a → ∀ t ∈ a, mayT t = true ∧ T64 t
  | n, [], a, _, h, t, ht => by
    rw [lex_nil] at h
    simp only [Option.some.injEq] at h
    rw [← h] at ht; cases ht
  | 0, c :: s, a, hn, _, t, ht => by simp at hn
  | n + 1, c :: s, a, hn, h, t, ht => by
    rw [List.length_cons] at hn
    by_cases hc : cls c = 1
    · rw [lex_blank hc] at h
      exact lex_may n s a (by omega) h t ht
    · rw [lex_tok hc] at h
      cases e : tokL (c :: s) with
      | none => rw [e] at h; cases h
      | some p =>
        obtain ⟨u, q⟩ := p
        have hq := tok_lt e
        rw [List.length_cons] at hq
        rw [e] at h
        simp only at h
        split at h
        · rename_i hm
          cases e3 : lexL q with
          | none => rw [e3] at h; cases h
          | some b =>
            rw [e3] at h
            simp only [Option.map_some, Option.some.injEq] at h
            rw [← h] at ht
            rcases List.mem_cons.1 ht with rfl | ht
            · exact ⟨hm, tok_64 e⟩
            · exact lex_may n q b (by omega) e3 t ht
        · cases h
end Go.Proofs.YtjgpmnffagdhlaaGreatDoor
namespace Go.Proofs.YtjgpmnffagdhlaaGreatDoor
open Go
/-- A step of an expression: Op, N, V. -/
structure Nd where
  op : Int
  n : Int
  v : Val
def Nd.eq (a b : Nd) : Bool := decide (a.op = b.op) && (decide (a.n = b.n) && a.v.eq b.v)
theorem Nd.eq_iff {a b : Nd} : a.eq b = true ↔ a = b := by
  obtain ⟨o, n, v⟩ := a
  obtain ⟨o', n', v'⟩ := b
  simp only [Nd.eq, Bool.and_eq_true, decide_eq_true_eq, Nd.mk.injEq, Val.eq_iff]
end Go.Proofs.YtjgpmnffagdhlaaGreatDoor
namespace Go.Proofs.YtjgpmnffagdhlaaGreatDoor
open Go
set_option maxRecDepth 100000
def w_table : List UInt8 := [116, 97, 98, 108, 101]
def w_check : List UInt8 := [99, 104, 101, 99, 107]
def w_view : List UInt8 := [118, 105, 101, 119]
def w_from : List UInt8 := [102, 114, 111, 109]
def w_join : List UInt8 := [106, 111, 105, 110]
def w_on : List UInt8 := [111, 110]
def w_where : List UInt8 := [119, 104, 101, 114, 101]
def w_pick : List UInt8 := [112, 105, 99, 107]
def w_group : List UInt8 := [103, 114, 111, 117, 112]
def w_bool : List UInt8 := [98, 111, 111, 108]
def w_int : List UInt8 := [105, 110, 116]
def w_text : List UInt8 := [116, 101, 120, 116]
def w_null : List UInt8 := [110, 117, 108, 108]
def w_unique : List UInt8 := [117, 110, 105, 113, 117, 101]
def w_ref : List UInt8 := [114, 101, 102]
def w_restrict : List UInt8 := [114, 101, 115, 116, 114, 105, 99, 116]
def w_cascade : List UInt8 := [99, 97, 115, 99, 97, 100, 101]
def w_setnull : List UInt8 := [115, 101, 116, 110, 117, 108, 108]
def w_count : List UInt8 := [99, 111, 117, 110, 116]
def w_sum : List UInt8 := [115, 117, 109]
def w_min : List UInt8 := [109, 105, 110]
def w_max : List UInt8 := [109, 97, 120]
def w_true : List UInt8 := [116, 114, 117, 101]
def w_false : List UInt8 := [102, 97, 108, 115, 101]
def w_and : List UInt8 := [97, 110, 100]
def w_or : List UInt8 := [111, 114]
def w_not : List UInt8 := [110, 111, 116]
def s_lp : List UInt8 := [40]
def s_rp : List UInt8 := [41]
def s_lb : List UInt8 := [91]
def s_rb : List UInt8 := [93]
def s_cm : List UInt8 := [44]
def s_eq : List UInt8 := [61]
def s_lt : List UInt8 := [60]
def s_pl : List UInt8 := [43]
def s_mi : List UInt8 := [45]
def s_st : List UInt8 := [42]
def s_qm : List UInt8 := [63]
def kws : List (List UInt8) := [w_table, w_check, w_view, w_from, w_join, w_on, w_where, w_pick, w_group, w_bool, w_int, w_text, w_null, w_unique, w_ref, w_restrict, w_cascade, w_setnull, w_count, w_sum, w_min, w_max, w_true, w_false, w_and, w_or, w_not]
/-- Is a token this word, or sign? -/
def isW (s : List UInt8) (t : Tk) : Bool := (t.k != 1) && (t.t.data.toList == s)
def nameB (l : List UInt8) : Bool := wordB l && !kws.contains l
/-- A column, a table, an aggregate, a view, a definition. -/
structure Cl where
  name : ByteArray
  kind : Int
  nul : Bool
  uni : Bool
  ref : ByteArray
  act : Int
structure Tb where
  name : ByteArray
  cols : List Cl
  checks : List (List Nd)
structure Ag where
  fn : Int
  col : Int
structure Vw where
  name : ByteArray
  frm : ByteArray
  wth : ByteArray
  on0 : Int
  on1 : Int
  whr : List Nd
  pick : List Int
  grp : Bool
  aggs : List Ag
structure Df where
  k : Int
  t : Tb
  v : Vw
def tb0 : Tb := ⟨emp, [], []⟩
def vw0 : Vw := ⟨emp, emp, emp, 0, 0, [], [], false, []⟩
/-- Reading: of tokens, and what is behind. -/
def nameP : List Tk → Option (ByteArray × List Tk)
  | [] => none
  | t :: r => if t.k == 0 && nameB t.t.data.toList then some (t.t, r) else none
def colP : List Tk → Option (Int × List Tk)
  | [] => none
  | t :: r => if t.k == 1 && (t.v.k == 2 && (decide (0 ≤ t.v.n) && decide (t.v.n ≤ 99))) then some (t.v.n, r) else none
def needP (s : List UInt8) : List Tk → Option (List Tk)
  | [] => none
  | t :: r => if isW s t then some r else none
def takeP (s : List UInt8) : List Tk → Bool × List Tk
  | [] => (false, [])
  | t :: r => if isW s t then (true, r) else (false, t :: r)
def oneF : List (List UInt8) → Int → Tk → Option Int
  | [], _, _ => none
  | s :: ws, i, t => if isW s t then some i else oneF ws (i + 1) t
def oneP (ws : List (List UInt8)) : List Tk → Option (Int × List Tk)
  | [] => none
  | t :: r => (oneF ws 0 t).map fun i => (i, r)
def opWs : List (List UInt8) := [s_pl, s_mi, s_st, s_eq, s_lt, w_and, w_or, w_not]
def cWord (n : Nat) : List UInt8 := 99 :: Lib.itoa (n : Int)
def cnum (l : List UInt8) : Option Nat := (List.range 100).find? fun n => l == cWord n
def stepP : List Tk → Option (Nd × List Tk)
  | [] => none
  | t :: r =>
    if isW w_null t then (if (takeP s_qm r).1 then some (⟨10, 0, nl⟩, (takeP s_qm r).2) else some (⟨1, 0, nl⟩, r))
    else if isW w_true t then some (⟨1, 0, tt⟩, r)
    else if isW w_false t then some (⟨1, 0, ff⟩, r)
    else match oneF opWs 2 t with
      | some i => some (⟨i, 0, nl⟩, r)
      | none => if t.k == 1 then some (⟨1, 0, t.v⟩, r) else if t.k == 0 then (cnum t.t.data.toList).map fun (n : Nat) => ((⟨0, (n : Int), nl⟩ : Nd), r) else none
def exprF : Nat → List Tk → Option (List Nd × List Tk)
  | 0, _ => none
  | _ + 1, [] => none
  | n + 1, t :: r => if isW s_rb t then some ([], r) else (stepP (t :: r)).bind fun p => (exprF n p.2).map fun q => (p.1 :: q.1, q.2)
def exprP (l : List Tk) : Option (List Nd × List Tk) := (needP s_lb l).bind fun r => (exprF (r.length + 1) r).bind fun p => if p.1.length ≤ 100 then some p else none
def columnP (l : List Tk) : Option (Cl × List Tk) :=
  (nameP l).bind fun a => (oneP [w_bool, w_int, w_text] a.2).bind fun k =>
    if (takeP w_ref (takeP w_unique (takeP w_null k.2).2).2).1 then
      (nameP (takeP w_ref (takeP w_unique (takeP w_null k.2).2).2).2).bind fun b => (oneP [w_restrict, w_cascade, w_setnull] b.2).map fun c =>
        (⟨a.1, k.1 + 1, (takeP w_null k.2).1, (takeP w_unique (takeP w_null k.2).2).1, b.1, c.1⟩, c.2)
    else some (⟨a.1, k.1 + 1, (takeP w_null k.2).1, (takeP w_unique (takeP w_null k.2).2).1, emp, 0⟩, (takeP w_unique (takeP w_null k.2).2).2)
def sepF {α : Type} (p : List Tk → Option (α × List Tk)) : Nat → List Tk → Option (List α × List Tk)
  | 0, _ => none
  | n + 1, l => (p l).bind fun a => if (takeP s_cm a.2).1 then (sepF p n (takeP s_cm a.2).2).map fun q => (a.1 :: q.1, q.2) else some ([a.1], a.2)
def sepP {α : Type} (p : List Tk → Option (α × List Tk)) (l : List Tk) : Option (List α × List Tk) := sepF p (l.length + 1) l
def checksF : Nat → List Tk → Option (List (List Nd) × List Tk)
  | 0, _ => none
  | n + 1, l => if (takeP w_check l).1 then (exprP (takeP w_check l).2).bind fun e => (checksF n e.2).map fun q => (e.1 :: q.1, q.2) else some ([], l)
def tableP (l : List Tk) : Option (Tb × List Tk) :=
  (nameP l).bind fun a => (needP s_lp a.2).bind fun r => (sepP columnP r).bind fun c => (needP s_rp c.2).bind fun q => (checksF (q.length + 1) q).bind fun k =>
    if c.1.length ≤ 40 ∧ k.1.length ≤ 40 then some (⟨a.1, c.1, k.1⟩, k.2) else none
def aggP (l : List Tk) : Option (Ag × List Tk) :=
  (oneP [w_count, w_sum, w_min, w_max] l).bind fun f => if f.1 = 0 then some (⟨0, 0⟩, f.2) else (colP f.2).map fun c => (⟨f.1, c.1⟩, c.2)
/-- What a view is joined with, where, what is picked, in which groups. -/
def joinP (l : List Tk) : Option ((ByteArray × Int × Int) × List Tk) :=
  if (takeP w_join l).1 then (nameP (takeP w_join l).2).bind fun a => (needP w_on a.2).bind fun r => (colP r).bind fun x => (needP s_eq x.2).bind fun q => (colP q).map fun y => ((a.1, x.1, y.1), y.2)
  else some ((emp, 0, 0), l)
def whereP (l : List Tk) : Option (List Nd × List Tk) := if (takeP w_where l).1 then exprP (takeP w_where l).2 else some ([], l)
def picksP (l : List Tk) : Option (List Int × List Tk) := if l.isEmpty || (takeP w_group l).1 then some ([], l) else sepP colP l
def aggsP (l : List Tk) : Option ((Bool × List Ag) × List Tk) :=
  if (takeP w_group l).1 then (if (takeP w_group l).2.isEmpty then some ((true, []), []) else (sepP aggP (takeP w_group l).2).map fun a => ((true, a.1), a.2))
  else some ((false, []), l)
def viewP (l : List Tk) : Option (Vw × List Tk) :=
  (nameP l).bind fun a => (needP w_from a.2).bind fun r => (nameP r).bind fun b => (joinP b.2).bind fun j => (whereP j.2).bind fun e => (needP w_pick e.2).bind fun q => (picksP q).bind fun k => (aggsP k.2).bind fun g =>
    if k.1.length ≤ 40 ∧ g.1.2.length ≤ 40 then some (⟨a.1, b.1, j.1.1, j.1.2.1, j.1.2.2, e.1, k.1, g.1.1, g.1.2⟩, g.2) else none
/-- All tokens as a definition. -/
def parseD (l : List Tk) : Option Df :=
  (oneP [w_table, w_view] l).bind fun k =>
    if k.1 = 0 then (tableP k.2).bind fun t => if t.2.isEmpty then some ⟨0, t.1, vw0⟩ else none
    else (viewP k.2).bind fun v => if v.2.isEmpty then some ⟨1, tb0, v.1⟩ else none
/-- Printing: the tokens. -/
def tW (l : List UInt8) : Tk := ⟨0, ba l, nl⟩
def tN (b : ByteArray) : Tk := ⟨0, b, nl⟩
def tS (l : List UInt8) : Tk := ⟨2, ba l, nl⟩
def ndT (x : Nd) : List Tk :=
  if x.op = 10 then [tW w_null, tS s_qm]
  else if x.op = 1 then (if x.v.eq nl then [tW w_null] else if x.v.eq tt then [tW w_true] else if x.v.eq ff then [tW w_false] else [⟨1, emp, x.v⟩])
  else if x.op = 0 then [tW (cWord x.n.toNat)]
  else if x.op = 2 then [tS s_pl] else if x.op = 3 then [tS s_mi] else if x.op = 4 then [tS s_st] else if x.op = 5 then [tS s_eq] else if x.op = 6 then [tS s_lt] else if x.op = 7 then [tW w_and] else if x.op = 8 then [tW w_or] else [tW w_not]
def exprT (e : List Nd) : List Tk := tS s_lb :: (e.flatMap ndT ++ [tS s_rb])
def sepT {α : Type} (f : α → List Tk) : List α → List Tk
  | [] => []
  | a :: r => f a ++ (if r.isEmpty then [] else tS s_cm :: sepT f r)
def kindW (k : Int) : List UInt8 := if k = 1 then w_bool else if k = 2 then w_int else w_text
def actW (a : Int) : List UInt8 := if a = 0 then w_restrict else if a = 1 then w_cascade else w_setnull
def fnW (f : Int) : List UInt8 := if f = 0 then w_count else if f = 1 then w_sum else if f = 2 then w_min else w_max
def clT (c : Cl) : List Tk := tN c.name :: tW (kindW c.kind) :: ((if c.nul then [tW w_null] else []) ++ ((if c.uni then [tW w_unique] else []) ++ (if c.ref.toList.isEmpty then [] else [tW w_ref, tN c.ref, tW (actW c.act)])))
def tbT (t : Tb) : List Tk := tN t.name :: tS s_lp :: (sepT clT t.cols ++ tS s_rp :: t.checks.flatMap fun e => tW w_check :: exprT e)
def agT (a : Ag) : List Tk := tW (fnW a.fn) :: (if a.fn = 0 then [] else [intT a.col])
def vwT (v : Vw) : List Tk := tN v.name :: tW w_from :: tN v.frm :: ((if v.wth.toList.isEmpty then [] else [tW w_join, tN v.wth, tW w_on, intT v.on0, tS s_eq, intT v.on1]) ++
  ((if v.whr.isEmpty then [] else tW w_where :: exprT v.whr) ++ tW w_pick :: (sepT (fun n => [intT n]) v.pick ++ (if v.grp then tW w_group :: sepT agT v.aggs else []))))
def toksD (d : Df) : List Tk := if d.k = 0 then tW w_table :: tbT d.t else tW w_view :: vwT d.v
/-- What may be. -/
def colB (n : Int) : Bool := decide (0 ≤ n) && decide (n ≤ 99)
def mayNd (x : Nd) : Bool :=
  if x.op = 0 then colB x.n && x.v.eq nl
  else if x.op = 1 then decide (x.n = 0) && mayB x.v
  else decide (2 ≤ x.op) && (decide (x.op ≤ 10) && (decide (x.n = 0) && x.v.eq nl))
def mayE (e : List Nd) : Bool := decide (e.length ≤ 100) && e.all mayNd
def mayCl (c : Cl) : Bool := nameB c.name.data.toList && (decide (1 ≤ c.kind) && (decide (c.kind ≤ 3) && (if c.ref.toList.isEmpty then decide (c.act = 0) else nameB c.ref.data.toList && (decide (0 ≤ c.act) && decide (c.act ≤ 2)))))
def mayTb (t : Tb) : Bool := nameB t.name.data.toList && (!t.cols.isEmpty && (decide (t.cols.length ≤ 40) && (decide (t.checks.length ≤ 40) && (t.cols.all mayCl && t.checks.all mayE))))
def mayAg (a : Ag) : Bool := if a.fn = 0 then decide (a.col = 0) else decide (0 ≤ a.fn) && (decide (a.fn ≤ 3) && colB a.col)
def mayVw (v : Vw) : Bool := nameB v.name.data.toList && (nameB v.frm.data.toList && ((if v.wth.toList.isEmpty then decide (v.on0 = 0) && decide (v.on1 = 0) else nameB v.wth.data.toList && (colB v.on0 && colB v.on1)) &&
  (mayE v.whr && (decide (v.pick.length ≤ 40) && (v.pick.all colB && (decide (v.aggs.length ≤ 40) && (v.aggs.all mayAg && (v.grp || v.aggs.isEmpty))))))))
def MayD (d : Df) : Prop := (d.k = 0 ∧ mayTb d.t = true ∧ d.v = vw0) ∨ (d.k = 1 ∧ d.t = tb0 ∧ mayVw d.v = true)
theorem take_hit {s : List UInt8} {t : Tk} {r : List Tk} (h : isW s t = true) : takeP s (t :: r) = (true, r) := by simp [takeP, h]
theorem take_miss {s : List UInt8} {t : Tk} {r : List Tk} (h : isW s t = false) : takeP s (t :: r) = (false, t :: r) := by simp [takeP, h]
theorem need_hit {s : List UInt8} {t : Tk} {r : List Tk} (h : isW s t = true) : needP s (t :: r) = some r := by simp [needP, h]
theorem name_print {b : ByteArray} (h : nameB b.data.toList = true) (r : List Tk) : nameP (tN b :: r) = some (b, r) := by simp [nameP, tN, h]
theorem col_print {n : Int} (h : colB n = true) (r : List Tk) : colP (intT n :: r) = some (n, r) := by
  unfold colB at h
  simp only [Bool.and_eq_true, decide_eq_true_eq] at h
  simp [colP, intT, iv, h.1, h.2]
theorem one_kind {k : Int} (h1 : 1 ≤ k) (h3 : k ≤ 3) (r : List Tk) : oneP [w_bool, w_int, w_text] (tW (kindW k) :: r) = some (k - 1, r) := by
  have : k = 1 ∨ k = 2 ∨ k = 3 := by omega
  rcases this with rfl | rfl | rfl <;> rfl
theorem one_act {k : Int} (h1 : 0 ≤ k) (h3 : k ≤ 2) (r : List Tk) : oneP [w_restrict, w_cascade, w_setnull] (tW (actW k) :: r) = some (k, r) := by
  have : k = 0 ∨ k = 1 ∨ k = 2 := by omega
  rcases this with rfl | rfl | rfl <;> rfl
theorem one_fn {k : Int} (h1 : 0 ≤ k) (h3 : k ≤ 3) (r : List Tk) : oneP [w_count, w_sum, w_min, w_max] (tW (fnW k) :: r) = some (k, r) := by
  have : k = 0 ∨ k = 1 ∨ k = 2 ∨ k = 3 := by omega
  rcases this with rfl | rfl | rfl | rfl <;> rfl
/-- What may stand behind a column. -/
def endC (t : Tk) : Prop := t = tS s_cm ∨ t = tS s_rp
theorem endC_miss {t : Tk} (h : endC t) : isW w_null t = false ∧ isW w_unique t = false ∧ isW w_ref t = false := by
  rcases h with rfl | rfl <;> exact ⟨rfl, rfl, rfl⟩
theorem emp_eq {b : ByteArray} (h : b.toList.isEmpty = true) : b = emp := emp_of h
theorem column_print {c : Cl} (h : mayCl c = true) {t : Tk} (ht : endC t) (r : List Tk) : columnP (clT c ++ t :: r) = some (c, t :: r) := by
  obtain ⟨nm, k, nu, un, rf, ac⟩ := c
  unfold mayCl at h
  simp only [Bool.and_eq_true, decide_eq_true_eq] at h
  obtain ⟨h1, h2, h3, h4⟩ := h
  obtain ⟨m1, m2, m3⟩ := endC_miss ht
  have n1 : isW w_null (tW w_unique) = false := rfl
  have n2 : isW w_null (tW w_ref) = false := rfl
  have n3 : isW w_unique (tW w_ref) = false := rfl
  have y1 : isW w_null (tW w_null) = true := rfl
  have y2 : isW w_unique (tW w_unique) = true := rfl
  have y3 : isW w_ref (tW w_ref) = true := rfl
  have hk : k - 1 + 1 = k := by omega
  unfold columnP clT
  simp only [List.cons_append]
  rw [name_print h1]
  simp only [Option.bind_some]
  rw [one_kind h2 h3]
  simp only [Option.bind_some, hk]
  cases hr : rf.toList.isEmpty
  · rw [hr] at h4
    simp only [Bool.false_eq_true, if_false, Bool.and_eq_true, decide_eq_true_eq] at h4
    cases nu <;> cases un <;> simp [take_hit, take_miss, n1, n2, n3, y1, y2, y3, name_print h4.1, one_act h4.2.1 h4.2.2]
  · rw [hr] at h4
    simp only [if_true, decide_eq_true_eq] at h4
    have := emp_eq hr
    subst this
    subst h4
    cases nu <;> cases un <;> simp [take_hit, take_miss, n1, y1, y2, m1, m2, m3]
/-- Lists with commas between. -/
theorem sep_print {α : Type} {p : List Tk → Option (α × List Tk)} {f : α → List Tk} {V : α → Prop} {E : Tk → Prop} (hc : E (tS s_cm)) (hp : ∀ a, V a → ∀ t r, E t → p (f a ++ t :: r) = some (a, t :: r)) :
    ∀ (l : List α) (n : Nat) (t : Tk) (r : List Tk), l ≠ [] → (∀ a ∈ l, V a) → E t → isW s_cm t = false → l.length ≤ n → sepF p n (sepT f l ++ t :: r) = some (l, t :: r)
  | [], _, _, _, h, _, _, _, _ => absurd rfl h
  | a :: l, 0, t, r, _, _, _, _, hn => by simp at hn
  | [a], n + 1, t, r, _, hV, ht, hm, _ => by
    rw [sepF, sepT]
    simp only [List.isEmpty_nil, if_true, List.append_nil]
    rw [hp a (hV a (by simp)) t r ht]
    simp [take_miss hm]
  | a :: b :: l, n + 1, t, r, _, hV, ht, hm, hn => by
    have ih := sep_print (p := p) (f := f) (V := V) (E := E) hc hp (b :: l) n t r (by simp) (fun x hx => hV x (List.mem_cons_of_mem _ hx)) ht hm (by simp at hn ⊢; omega)
    rw [sepF, sepT]
    simp only [List.isEmpty_cons, Bool.false_eq_true, if_false, List.append_assoc, List.cons_append]
    rw [hp a (hV a (by simp)) _ _ hc]
    have hy : isW s_cm (tS s_cm) = true := rfl
    simp only [Option.bind_some, take_hit hy, if_true, ih, Option.map_some]
/-- The same, at the end. -/
theorem sep_print_end {α : Type} {p : List Tk → Option (α × List Tk)} {f : α → List Tk} {V : α → Prop} {E : Tk → Prop} (hc : E (tS s_cm)) (hp : ∀ a, V a → ∀ t r, E t → p (f a ++ t :: r) = some (a, t :: r)) (hp0 : ∀ a, V a → p (f a) = some (a, [])) :
    ∀ (l : List α) (n : Nat), l ≠ [] → (∀ a ∈ l, V a) → l.length ≤ n → sepF p n (sepT f l) = some (l, [])
  | [], _, h, _, _ => absurd rfl h
  | a :: l, 0, _, _, hn => by simp at hn
  | [a], n + 1, _, hV, _ => by
    rw [sepF, sepT]
    simp only [List.isEmpty_nil, if_true, List.append_nil]
    rw [hp0 a (hV a (by simp))]
    simp [takeP]
  | a :: b :: l, n + 1, _, hV, hn => by
    have ih := sep_print_end (p := p) (f := f) (V := V) (E := E) hc hp hp0 (b :: l) n (by simp) (fun x hx => hV x (List.mem_cons_of_mem _ hx)) (by simp at hn ⊢; omega)
    rw [sepF, sepT]
    simp only [List.isEmpty_cons, Bool.false_eq_true, if_false]
    rw [hp a (hV a (by simp)) _ _ hc]
    have hy : isW s_cm (tS s_cm) = true := rfl
    simp only [Option.bind_some, take_hit hy, if_true, ih, Option.map_some]
theorem sepT_len {α : Type} {f : α → List Tk} (hf : ∀ a, 1 ≤ (f a).length) : ∀ l : List α, l.length ≤ (sepT f l).length
  | [] => Nat.zero_le _
  | a :: l => by
    have ih := sepT_len hf l
    have h1 := hf a
    rw [sepT]
    cases l with
    | nil => simpa using h1
    | cons b l =>
      simp only [List.isEmpty_cons, Bool.false_eq_true, if_false, List.length_append, List.length_cons] at ih ⊢
      omega
theorem cnum_c : ∀ n, n < 100 → cnum (cWord n) = some n := by decide +kernel
theorem cnum_lt {l : List UInt8} {n : Nat} (h : cnum l = some n) : n < 100 ∧ l = cWord n := by
  unfold cnum at h
  have h1 := List.find?_some h
  have h2 := List.mem_of_find?_eq_some h
  exact ⟨by simpa using h2, by simpa using h1⟩
theorem nd_head (x : Nd) : ∃ t r, ndT x = t :: r ∧ isW s_rb t = false ∧ isW s_qm t = false := by
  unfold ndT
  repeat' split
  all_goals exact ⟨_, _, rfl, rfl, rfl⟩
theorem step_print {x : Nd} (h : mayNd x = true) {t : Tk} (ht : isW s_qm t = false) (r : List Tk) : stepP (ndT x ++ t :: r) = some (x, t :: r) := by
  obtain ⟨op, n, v⟩ := x
  unfold mayNd at h
  simp only at h
  unfold ndT
  simp only
  by_cases h0 : op = 0
  · subst h0
    simp only [if_true, Bool.and_eq_true, Val.eq_iff] at h
    obtain ⟨hn, rfl⟩ := h
    unfold colB at hn
    simp only [Bool.and_eq_true, decide_eq_true_eq] at hn
    obtain ⟨m, rfl⟩ : ∃ m : Nat, n = m := ⟨n.toNat, by omega⟩
    have hm := cnum_c m (by omega)
    rw [if_neg (by decide), if_neg (by decide), if_pos rfl]
    simp only [List.cons_append, List.nil_append, Int.toNat_natCast]
    have e1 : isW w_null (tW (cWord m)) = false := rfl
    have e2 : isW w_true (tW (cWord m)) = false := rfl
    have e3 : isW w_false (tW (cWord m)) = false := rfl
    have e4 : oneF opWs 2 (tW (cWord m)) = none := rfl
    have e5 : (tW (cWord m)).t.data.toList = cWord m := rfl
    have e6 : ((tW (cWord m)).k == 1) = false := rfl
    have e7 : ((tW (cWord m)).k == 0) = true := rfl
    rw [stepP, e1, e2, e3, e4, e5, e6, e7, hm]
    rfl
  · rw [if_neg h0] at h
    by_cases h1 : op = 1
    · subst h1
      simp only [if_true, Bool.and_eq_true, decide_eq_true_eq] at h
      obtain ⟨rfl, hv⟩ := h
      rw [if_neg (by decide), if_pos rfl]
      split
      · rename_i hv2
        have := Val.eq_iff.1 hv2
        subst this
        have e1 : isW w_null (tW w_null) = true := rfl
        simp [stepP, e1, take_miss ht]
      split
      · rename_i hv2
        have := Val.eq_iff.1 hv2
        subst this
        rfl
      split
      · rename_i hv2
        have := Val.eq_iff.1 hv2
        subst this
        rfl
      · rfl
    · rw [if_neg h1] at h
      simp only [Bool.and_eq_true, decide_eq_true_eq, Val.eq_iff] at h
      obtain ⟨h2, h3, rfl, rfl⟩ := h
      have : op = 2 ∨ op = 3 ∨ op = 4 ∨ op = 5 ∨ op = 6 ∨ op = 7 ∨ op = 8 ∨ op = 9 ∨ op = 10 := by omega
      rcases this with rfl | rfl | rfl | rfl | rfl | rfl | rfl | rfl | rfl <;> rfl
theorem exprF_print (r : List Tk) : ∀ (e : List Nd) (n : Nat), (∀ x ∈ e, mayNd x = true) → e.length < n → exprF n (e.flatMap ndT ++ tS s_rb :: r) = some (e, r)
  | [], 0, _, hn => by simp at hn
  | [], n + 1, _, _ => by
    have e1 : isW s_rb (tS s_rb) = true := rfl
    simp [exprF, e1]
  | x :: e, 0, _, hn => by simp at hn
  | x :: e, n + 1, hV, hn => by
    have ih := exprF_print r e n (fun y hy => hV y (List.mem_cons_of_mem _ hy)) (by simp at hn; omega)
    obtain ⟨t, q, ht, h1, _⟩ := nd_head x
    have hs : ∃ u q', e.flatMap ndT ++ tS s_rb :: r = u :: q' ∧ isW s_qm u = false := by
      cases e with
      | nil => exact ⟨_, _, rfl, rfl⟩
      | cons y e =>
        obtain ⟨u, q', hu, _, h3⟩ := nd_head y
        exact ⟨u, q' ++ (e.flatMap ndT ++ tS s_rb :: r), by rw [List.flatMap_cons, hu]; simp, h3⟩
    obtain ⟨u, q', hu, h3⟩ := hs
    have hst := step_print (hV x (by simp)) h3 q'
    rw [← hu] at hst
    rw [List.flatMap_cons, List.append_assoc]
    rw [ht] at hst ⊢
    rw [List.cons_append] at hst ⊢
    rw [exprF, if_neg (by rw [h1]; simp), hst]
    simp only [Option.bind_some]
    rw [ih]
    rfl
theorem ndT_len (x : Nd) : 1 ≤ (ndT x).length := by
  obtain ⟨t, r, h, _⟩ := nd_head x
  rw [h]; simp
theorem flat_len1 {α β : Type} {f : α → List β} (hf : ∀ a, 1 ≤ (f a).length) : ∀ l : List α, l.length ≤ (l.flatMap f).length
  | [] => Nat.zero_le _
  | a :: l => by
    have := flat_len1 hf l
    have h1 := hf a
    rw [List.flatMap_cons, List.length_append, List.length_cons]
    omega
theorem expr_print {e : List Nd} (h : mayE e = true) (r : List Tk) : exprP (exprT e ++ r) = some (e, r) := by
  unfold mayE at h
  simp only [Bool.and_eq_true, decide_eq_true_eq, List.all_eq_true] at h
  have e1 : isW s_lb (tS s_lb) = true := rfl
  unfold exprP exprT
  simp only [List.cons_append, List.append_assoc, List.nil_append]
  rw [need_hit e1]
  simp only [Option.bind_some]
  rw [exprF_print r e _ h.2 (by
    have := flat_len1 ndT_len e
    simp only [List.length_append, List.length_cons]
    omega)]
  simp [h.1]
theorem checks_print : ∀ (l : List (List Nd)) (n : Nat), (∀ e ∈ l, mayE e = true) → l.length < n → checksF n (l.flatMap fun e => tW w_check :: exprT e) = some (l, [])
  | [], 0, _, hn => by simp at hn
  | [], n + 1, _, _ => rfl
  | e :: l, 0, _, hn => by simp at hn
  | e :: l, n + 1, hV, hn => by
    have ih := checks_print l n (fun y hy => hV y (List.mem_cons_of_mem _ hy)) (by simp at hn; omega)
    have e1 : isW w_check (tW w_check) = true := rfl
    rw [List.flatMap_cons, List.cons_append, checksF, take_hit e1]
    simp only [if_true]
    rw [expr_print (hV e (by simp))]
    simp only [Option.bind_some]
    rw [ih]
    rfl
theorem clT_len (c : Cl) : 1 ≤ (clT c).length := by simp [clT]
theorem table_print {t : Tb} (h : mayTb t = true) : tableP (tbT t) = some (t, []) := by
  obtain ⟨nm, cols, cks⟩ := t
  unfold mayTb at h
  simp only [Bool.and_eq_true, decide_eq_true_eq, List.all_eq_true, Bool.not_eq_true', List.isEmpty_eq_false_iff] at h
  obtain ⟨h1, h2, h3, h4, h5, h6⟩ := h
  have e1 : isW s_lp (tS s_lp) = true := rfl
  have e2 : isW s_rp (tS s_rp) = true := rfl
  unfold tableP tbT
  simp only
  rw [name_print h1]
  simp only [Option.bind_some]
  rw [need_hit e1]
  simp only [Option.bind_some]
  unfold sepP
  rw [sep_print (p := columnP) (f := clT) (V := fun c => mayCl c = true) (E := endC) (.inl rfl) (fun a ha t r ht => column_print ha ht r) cols _ _ _ h2 h5 (.inr rfl) rfl (by
    have := sepT_len clT_len cols
    simp only [List.length_append, List.length_cons]
    omega)]
  simp only [Option.bind_some]
  rw [need_hit e2]
  simp only [Option.bind_some]
  rw [checks_print cks _ h6 (by
    have := flat_len1 (f := fun e => tW w_check :: exprT e) (fun a => by simp) cks
    omega)]
  simp [h3, h4]
theorem agg_print {a : Ag} (h : mayAg a = true) (r : List Tk) : aggP (agT a ++ r) = some (a, r) := by
  obtain ⟨f, c⟩ := a
  unfold mayAg at h
  simp only at h
  unfold aggP agT
  simp only [List.cons_append]
  by_cases h0 : f = 0
  · subst h0
    simp only [if_true, decide_eq_true_eq] at h
    subst h
    rw [one_fn (by decide) (by decide)]
    rfl
  · rw [if_neg h0] at h ⊢
    simp only [Bool.and_eq_true, decide_eq_true_eq] at h
    rw [one_fn h.1 h.2.1]
    simp only [Option.bind_some, List.cons_append, List.nil_append]
    rw [if_neg h0, col_print h.2.2]
    rfl
theorem agT_len (a : Ag) : 1 ≤ (agT a).length := by simp [agT]
theorem join_print {v : Vw} (h : (if v.wth.toList.isEmpty then decide (v.on0 = 0) && decide (v.on1 = 0) else nameB v.wth.data.toList && (colB v.on0 && colB v.on1)) = true) {t : Tk} (ht : isW w_join t = false) (r : List Tk) :
    joinP ((if v.wth.toList.isEmpty then [] else [tW w_join, tN v.wth, tW w_on, intT v.on0, tS s_eq, intT v.on1]) ++ t :: r) = some ((v.wth, v.on0, v.on1), t :: r) := by
  obtain ⟨nm, fr, wt, o0, o1, wh, pk, g, ag⟩ := v
  simp only at *
  cases hw : wt.toList.isEmpty
  · rw [hw] at h
    simp only [Bool.false_eq_true, if_false, Bool.and_eq_true] at h
    have e1 : isW w_join (tW w_join) = true := rfl
    have e2 : isW w_on (tW w_on) = true := rfl
    have e3 : isW s_eq (tS s_eq) = true := rfl
    unfold joinP
    simp only [Bool.false_eq_true, if_false, List.cons_append, List.nil_append]
    rw [take_hit e1]
    simp only [if_true]
    rw [name_print h.1]
    simp only [Option.bind_some]
    rw [need_hit e2]
    simp only [Option.bind_some]
    rw [col_print h.2.1]
    simp only [Option.bind_some]
    rw [need_hit e3]
    simp only [Option.bind_some]
    rw [col_print h.2.2]
    rfl
  · rw [hw] at h
    simp only [if_true, Bool.and_eq_true, decide_eq_true_eq] at h
    have := emp_eq hw
    subst this
    obtain ⟨rfl, rfl⟩ := h
    unfold joinP
    simp [take_miss ht]
theorem where_print {e : List Nd} (h : mayE e = true) (r : List Tk) : whereP ((if e.isEmpty then [] else tW w_where :: exprT e) ++ tW w_pick :: r) = some (e, tW w_pick :: r) := by
  unfold whereP
  cases e with
  | nil =>
    have e1 : isW w_where (tW w_pick) = false := rfl
    simp [take_miss e1]
  | cons x e =>
    have e1 : isW w_where (tW w_where) = true := rfl
    simp only [List.isEmpty_cons, Bool.false_eq_true, if_false, List.cons_append]
    rw [take_hit e1]
    simp only [if_true]
    exact expr_print h _
/-- What may stand behind a column that is picked. -/
def endP (t : Tk) : Prop := t = tS s_cm ∨ t = tW w_group
def grpT (g : Bool) (ag : List Ag) : List Tk := if g then tW w_group :: sepT agT ag else []
theorem picks_print {pk : List Int} (h : ∀ n ∈ pk, colB n = true) (g : Bool) (ag : List Ag) : picksP (sepT (fun n => [intT n]) pk ++ grpT g ag) = some (pk, grpT g ag) := by
  have hp : ∀ a, colB a = true → ∀ t r, endP t → colP ([intT a] ++ t :: r) = some (a, t :: r) := fun a ha t r _ => col_print ha _
  have hp0 : ∀ a, colB a = true → colP [intT a] = some (a, []) := fun a ha => col_print ha []
  have hl : pk.length ≤ (sepT (fun n => [intT n]) pk).length := sepT_len (fun _ => by simp) pk
  have eg : isW w_group (tW w_group) = true := rfl
  cases pk with
  | nil =>
    unfold picksP grpT sepT
    cases g
    · rfl
    · simp only [if_true, List.nil_append]
      rw [take_hit eg]
      simp
  | cons n pk =>
    have hh : ∃ q, sepT (fun n => [intT n]) (n :: pk) = intT n :: q := ⟨_, rfl⟩
    obtain ⟨q, hq⟩ := hh
    have em : isW w_group (intT n) = false := rfl
    have h0 : (((intT n :: q) ++ grpT g ag).isEmpty || (takeP w_group ((intT n :: q) ++ grpT g ag)).1) = false := by
      rw [List.cons_append, take_miss em]; rfl
    unfold picksP
    rw [hq, h0]
    simp only [Bool.false_eq_true, if_false]
    rw [← hq]
    unfold sepP grpT
    cases g
    · simp only [Bool.false_eq_true, if_false, List.append_nil]
      exact sep_print_end (p := colP) (f := fun n => [intT n]) (V := fun n => colB n = true) (E := endP) (.inl rfl) hp hp0 (n :: pk) _ (by simp) h (by omega)
    · simp only [if_true]
      exact sep_print (p := colP) (f := fun n => [intT n]) (V := fun n => colB n = true) (E := endP) (.inl rfl) hp (n :: pk) _ _ _ (by simp) h (.inr rfl) rfl (by
        simp only [List.length_append, List.length_cons] at hl ⊢
        omega)
theorem aggs_print {g : Bool} {ag : List Ag} (h : ∀ a ∈ ag, mayAg a = true) (hg : (g || ag.isEmpty) = true) : aggsP (grpT g ag) = some ((g, ag), []) := by
  have eg : isW w_group (tW w_group) = true := rfl
  unfold aggsP grpT
  cases g
  · simp only [Bool.false_or, List.isEmpty_iff] at hg
    subst hg
    rfl
  · simp only [if_true]
    rw [take_hit eg]
    cases ag with
    | nil => rfl
    | cons a ag =>
      have hh : ∃ t q, sepT agT (a :: ag) = t :: q := ⟨_, _, rfl⟩
      obtain ⟨t, q, hq⟩ := hh
      have hl := sepT_len agT_len (a :: ag)
      simp only [if_true]
      rw [hq]
      simp only [List.isEmpty_cons, Bool.false_eq_true, if_false]
      rw [← hq]
      unfold sepP
      rw [sep_print_end (p := aggP) (f := agT) (V := fun a => mayAg a = true) (E := fun _ => True) trivial (fun a ha t r _ => agg_print ha _) (fun a ha => by have := agg_print ha []; rwa [List.append_nil] at this) (a :: ag) _ (by simp) h (by omega)]
      rfl
theorem view_print {v : Vw} (h : mayVw v = true) : viewP (vwT v) = some (v, []) := by
  unfold mayVw at h
  simp only [Bool.and_eq_true, decide_eq_true_eq, List.all_eq_true] at h
  obtain ⟨h1, h2, h3, h4, h5, h6, h7, h8, h9⟩ := h
  have e1 : isW w_from (tW w_from) = true := rfl
  have e2 : isW w_pick (tW w_pick) = true := rfl
  unfold viewP vwT
  rw [name_print h1]
  simp only [Option.bind_some]
  rw [need_hit e1]
  simp only [Option.bind_some]
  rw [name_print h2]
  simp only [Option.bind_some]
  have hx : ∃ t r, (if v.whr.isEmpty then [] else tW w_where :: exprT v.whr) ++ tW w_pick :: (sepT (fun n => [intT n]) v.pick ++ grpT v.grp v.aggs) = t :: r ∧ isW w_join t = false := by
    cases v.whr with
    | nil => exact ⟨_, _, rfl, rfl⟩
    | cons x e => exact ⟨_, _, rfl, rfl⟩
  obtain ⟨t, r, hx, ht⟩ := hx
  have hg : (if v.grp = true then tW w_group :: sepT agT v.aggs else []) = grpT v.grp v.aggs := rfl
  rw [hg, hx, join_print h3 ht, ← hx]
  simp only [Option.bind_some]
  rw [where_print h4]
  simp only [Option.bind_some]
  rw [need_hit e2]
  simp only [Option.bind_some]
  rw [picks_print h6]
  simp only [Option.bind_some]
  rw [aggs_print h8 (by simpa using h9)]
  simp [h5, h7]
/-- WHAT IS PRINTED IS READ AS IT WAS, in tokens. -/
theorem parse_toks {d : Df} (h : MayD d) : parseD (toksD d) = some d := by
  obtain ⟨k, t, v⟩ := d
  rcases h with ⟨rfl, h1, rfl⟩ | ⟨rfl, rfl, h1⟩
  · have e : oneP [w_table, w_view] (tW w_table :: tbT t) = some (0, tbT t) := rfl
    unfold parseD toksD
    simp only [if_true]
    rw [e]
    simp only [Option.bind_some, if_true]
    rw [table_print h1]
    rfl
  · have e : oneP [w_table, w_view] (tW w_view :: vwT v) = some (1, vwT v) := rfl
    unfold parseD toksD
    have n1 : ¬ (1 : Int) = 0 := by decide
    simp only [if_neg n1]
    rw [e]
    simp only [Option.bind_some, if_neg n1]
    rw [view_print h1]
    rfl
end Go.Proofs.YtjgpmnffagdhlaaGreatDoor
namespace Go.Proofs.YtjgpmnffagdhlaaGreatDoor
open Go
set_option maxRecDepth 100000
/-- Values of 64 bits, in all steps. -/
def N64 (x : Nd) : Prop := -9223372036854775808 ≤ x.v.n ∧ x.v.n ≤ 9223372036854775807
def D64 (d : Df) : Prop := (∀ e ∈ d.t.checks, ∀ x ∈ e, N64 x) ∧ ∀ x ∈ d.v.whr, N64 x
/-- A token that may be, of 64 bits. -/
def Gd (t : Tk) : Prop := mayT t = true ∧ T64 t
theorem gd_tN {b : ByteArray} (h : nameB b.data.toList = true) : Gd (tN b) := by
  unfold nameB at h
  simp only [Bool.and_eq_true] at h
  refine ⟨?_, (by decide : (-9223372036854775808 : Int) ≤ 0), (by decide : (0 : Int) ≤ 9223372036854775807)⟩
  unfold mayT tN
  simp [h.1, Val.eq_self]
theorem gd_tW {l : List UInt8} (h : wordB l = true) : Gd (tW l) := by
  refine ⟨?_, (by decide : (-9223372036854775808 : Int) ≤ 0), (by decide : (0 : Int) ≤ 9223372036854775807)⟩
  unfold mayT tW
  simp [h, Val.eq_self]
theorem gd_tS {l : List UInt8} (h : signB l = true) : Gd (tS l) := by
  refine ⟨?_, (by decide : (-9223372036854775808 : Int) ≤ 0), (by decide : (0 : Int) ≤ 9223372036854775807)⟩
  unfold mayT tS
  simp [h, Val.eq_self]
theorem gd_int {n : Int} (h : colB n = true) : Gd (intT n) := by
  unfold colB at h
  simp only [Bool.and_eq_true, decide_eq_true_eq] at h
  refine ⟨by kernel_rfl, ?_⟩
  unfold T64 intT iv
  simp only
  omega
theorem word_c100 : ∀ n, n < 100 → wordB (cWord n) = true := by decide +kernel
theorem gd_nd {x : Nd} (h : mayNd x = true) (h6 : N64 x) : ∀ t ∈ ndT x, Gd t := by
  obtain ⟨op, n, v⟩ := x
  unfold mayNd at h
  simp only at h
  unfold ndT
  simp only
  by_cases h0 : op = 0
  · subst h0
    simp only [if_true, Bool.and_eq_true] at h
    have hn := h.1
    unfold colB at hn
    simp only [Bool.and_eq_true, decide_eq_true_eq] at hn
    rw [if_neg (by decide), if_neg (by decide), if_pos rfl]
    intro t ht
    simp at ht
    subst ht
    exact gd_tW (word_c100 _ (by omega))
  · rw [if_neg h0] at h
    by_cases h1 : op = 1
    · subst h1
      simp only [if_true, Bool.and_eq_true] at h
      have hv := valid_of_may _ h.2
      rw [if_neg (by decide), if_pos rfl]
      split
      · intro t ht; simp at ht; subst ht; exact gd_tW (by decide)
      split
      · intro t ht; simp at ht; subst ht; exact gd_tW (by decide)
      split
      · intro t ht; simp at ht; subst ht; exact gd_tW (by decide)
      · rename_i n1 n2 n3
        intro t ht
        simp at ht
        subst ht
        refine ⟨?_, h6⟩
        have hk : v.k = 2 ∨ v.k = 3 := by
          rcases hv with ⟨h1, h2, h3⟩ | ⟨h1, h2, h3⟩ | ⟨h1, _⟩ | ⟨h1, _⟩
          · exact absurd (Val.eq_iff.2 (by cases v; simp_all [nl])) n1
          · rcases h2 with h2 | h2
            · exact absurd (Val.eq_iff.2 (by cases v; simp_all [ff])) n3
            · exact absurd (Val.eq_iff.2 (by cases v; simp_all [tt])) n2
          · exact .inl h1
          · exact .inr h1
        unfold mayT
        simp only
        rw [if_neg (by decide), if_pos (by decide)]
        rw [h.2]
        have he : emp.toList.isEmpty = true := by kernel_rfl
        rw [he]
        rcases hk with hk | hk <;> simp [hk]
    · rw [if_neg h1] at h
      simp only [Bool.and_eq_true, decide_eq_true_eq] at h
      obtain ⟨h2, h3, _⟩ := h
      have : op = 2 ∨ op = 3 ∨ op = 4 ∨ op = 5 ∨ op = 6 ∨ op = 7 ∨ op = 8 ∨ op = 9 ∨ op = 10 := by omega
      have a1 : Gd (tS s_pl) := gd_tS (by decide)
      have a2 : Gd (tS s_mi) := gd_tS (by decide)
      have a3 : Gd (tS s_st) := gd_tS (by decide)
      have a4 : Gd (tS s_eq) := gd_tS (by decide)
      have a5 : Gd (tS s_lt) := gd_tS (by decide)
      have a6 : Gd (tW w_and) := gd_tW (by decide)
      have a7 : Gd (tW w_or) := gd_tW (by decide)
      have a8 : Gd (tW w_not) := gd_tW (by decide)
      have a9 : Gd (tW w_null) := gd_tW (by decide)
      have a10 : Gd (tS s_qm) := gd_tS (by decide)
      rcases this with rfl | rfl | rfl | rfl | rfl | rfl | rfl | rfl | rfl <;> simp <;> simp [a1, a2, a3, a4, a5, a6, a7, a8, a9, a10]
theorem gd_expr {e : List Nd} (h : mayE e = true) (h6 : ∀ x ∈ e, N64 x) : ∀ t ∈ exprT e, Gd t := by
  unfold mayE at h
  simp only [Bool.and_eq_true, List.all_eq_true] at h
  intro t ht
  unfold exprT at ht
  simp only [List.mem_cons, List.mem_append, List.mem_flatMap, List.not_mem_nil, or_false] at ht
  rcases ht with rfl | ⟨x, hx, ht⟩ | rfl
  · exact gd_tS (by decide)
  · exact gd_nd (h.2 x hx) (h6 x hx) t ht
  · exact gd_tS (by decide)
theorem gd_sep {α : Type} {f : α → List Tk} : ∀ l : List α, (∀ a ∈ l, ∀ t ∈ f a, Gd t) → ∀ t ∈ sepT f l, Gd t
  | [], _, t, ht => by simp [sepT] at ht
  | a :: l, h, t, ht => by
    rw [sepT] at ht
    rcases List.mem_append.1 ht with ht | ht
    · exact h a (by simp) t ht
    · split at ht
      · simp at ht
      · rcases List.mem_cons.1 ht with rfl | ht
        · exact gd_tS (by decide)
        · exact gd_sep l (fun b hb => h b (List.mem_cons_of_mem _ hb)) t ht
theorem gd_cl {c : Cl} (h : mayCl c = true) : ∀ t ∈ clT c, Gd t := by
  unfold mayCl at h
  simp only [Bool.and_eq_true, decide_eq_true_eq] at h
  obtain ⟨h1, h2, h3, h4⟩ := h
  intro t ht
  unfold clT at ht
  simp only [List.mem_cons, List.mem_append] at ht
  rcases ht with rfl | rfl | ht | ht | ht
  · exact gd_tN h1
  · unfold kindW; split
    · exact gd_tW (by decide)
    split
    · exact gd_tW (by decide)
    · exact gd_tW (by decide)
  · split at ht <;> simp at ht
    subst ht; exact gd_tW (by decide)
  · split at ht <;> simp at ht
    subst ht; exact gd_tW (by decide)
  · split at ht
    · simp at ht
    · rename_i hr
      rw [if_neg hr] at h4
      simp only [Bool.and_eq_true] at h4
      simp at ht
      rcases ht with rfl | rfl | rfl
      · exact gd_tW (by decide)
      · exact gd_tN h4.1
      · unfold actW; split
        · exact gd_tW (by decide)
        split
        · exact gd_tW (by decide)
        · exact gd_tW (by decide)
theorem gd_ag {a : Ag} (h : mayAg a = true) : ∀ t ∈ agT a, Gd t := by
  unfold mayAg at h
  intro t ht
  unfold agT at ht
  rcases List.mem_cons.1 ht with rfl | ht
  · unfold fnW; split
    · exact gd_tW (by decide)
    split
    · exact gd_tW (by decide)
    split
    · exact gd_tW (by decide)
    · exact gd_tW (by decide)
  · split at ht
    · simp at ht
    · rename_i hf
      rw [if_neg hf] at h
      simp only [Bool.and_eq_true] at h
      simp at ht
      subst ht
      exact gd_int h.2.2
/-- What is printed are tokens that may be. -/
theorem toks_gd {d : Df} (h : MayD d) (h6 : D64 d) : ∀ t ∈ toksD d, Gd t := by
  obtain ⟨k, t, v⟩ := d
  rcases h with ⟨rfl, h1, rfl⟩ | ⟨rfl, rfl, h1⟩
  · unfold mayTb at h1
    simp only [Bool.and_eq_true, List.all_eq_true] at h1
    obtain ⟨a1, a2, a3, a4, a5, a6⟩ := h1
    intro u hu
    unfold toksD tbT at hu
    simp only [if_true, List.mem_cons, List.mem_append, List.mem_flatMap] at hu
    rcases hu with rfl | rfl | rfl | hu | rfl | ⟨e, he, rfl | hu⟩
    · exact gd_tW (by decide)
    · exact gd_tN a1
    · exact gd_tS (by decide)
    · exact gd_sep t.cols (fun c hc => gd_cl (a5 c hc)) u hu
    · exact gd_tS (by decide)
    · exact gd_tW (by decide)
    · exact gd_expr (a6 e he) (h6.1 e he) u hu
  · unfold mayVw at h1
    simp only [Bool.and_eq_true, List.all_eq_true] at h1
    obtain ⟨a1, a2, a3, a4, a5, a6, a7, a8, a9⟩ := h1
    intro u hu
    unfold toksD vwT at hu
    have n1 : ¬ (1 : Int) = 0 := by decide
    simp only [if_neg n1, List.mem_cons, List.mem_append] at hu
    rcases hu with rfl | rfl | rfl | rfl | hu | hu | rfl | hu | hu
    · exact gd_tW (by decide)
    · exact gd_tN a1
    · exact gd_tW (by decide)
    · exact gd_tN a2
    · split at hu
      · simp at hu
      · rename_i hw
        rw [if_neg hw] at a3
        simp only [Bool.and_eq_true] at a3
        simp at hu
        rcases hu with rfl | rfl | rfl | rfl | rfl | rfl
        · exact gd_tW (by decide)
        · exact gd_tN a3.1
        · exact gd_tW (by decide)
        · exact gd_int a3.2.1
        · exact gd_tS (by decide)
        · exact gd_int a3.2.2
    · split at hu
      · simp at hu
      · rcases List.mem_cons.1 hu with rfl | hu
        · exact gd_tW (by decide)
        · exact gd_expr a4 h6.2 u hu
    · exact gd_tW (by decide)
    · exact gd_sep v.pick (fun n hn t ht => by simp at ht; subst ht; exact gd_int (a6 n hn)) u hu
    · split at hu
      · rcases List.mem_cons.1 hu with rfl | hu
        · exact gd_tW (by decide)
        · exact gd_sep v.aggs (fun a ha => gd_ag (a8 a ha)) u hu
      · simp at hu
/-- THE STAGE'S THEOREM, plainly, its first half: what is printed is read as it was. -/
theorem print_read {d : Df} (h : MayD d) (h6 : D64 d) : (lexL (printL (toksD d))).bind parseD = some d := by
  have hg := toks_gd h h6
  rw [lex_print _ (fun t ht => (hg t ht).1) (fun t ht => (hg t ht).2)]
  exact parse_toks h
end Go.Proofs.YtjgpmnffagdhlaaGreatDoor
namespace Go.Proofs.YtjgpmnffagdhlaaGreatDoor
open Go
set_option maxRecDepth 100000
/-- How long tokens are in print, each with a blank. -/
def sz : List Tk → Nat
  | [] => 0
  | t :: r => (txtT t).length + 1 + sz r
theorem sz_cons (t : Tk) (r : List Tk) : sz (t :: r) = (txtT t).length + 1 + sz r := rfl
theorem sz_app : ∀ l r : List Tk, sz (l ++ r) = sz l + sz r
  | [], r => by simp [sz]
  | t :: l, r => by rw [List.cons_append, sz_cons, sz_cons, sz_app l r]; omega
theorem sz_tW (l : List UInt8) : (txtT (tW l)).length = l.length := rfl
theorem sz_tS (l : List UInt8) : (txtT (tS l)).length = l.length := rfl
def G (l : List Tk) : Prop := ∀ t ∈ l, Gd t
theorem G.tail {t : Tk} {r : List Tk} (h : G (t :: r)) : G r := fun x hx => h x (List.mem_cons_of_mem _ hx)
theorem G.head {t : Tk} {r : List Tk} (h : G (t :: r)) : Gd t := h t (by simp)
theorem isW_len {s : List UInt8} {t : Tk} (h : isW s t = true) : (txtT t).length = s.length := by
  unfold isW at h
  simp only [Bool.and_eq_true, bne_iff_ne, ne_eq, beq_iff_eq] at h
  unfold txtT
  rw [if_neg (by simpa using h.1), h.2]
theorem name_acc {l r : List Tk} {b : ByteArray} (h : nameP l = some (b, r)) (hg : G l) : nameB b.data.toList = true ∧ G r ∧ sz [tN b] + sz r = sz l := by
  cases l with
  | nil => cases h
  | cons t q =>
    rw [nameP] at h
    split at h
    · rename_i hc
      simp only [Bool.and_eq_true, beq_iff_eq] at hc
      simp only [Option.some.injEq, Prod.mk.injEq] at h
      obtain ⟨rfl, rfl⟩ := h
      refine ⟨hc.2, hg.tail, ?_⟩
      have e : (txtT t).length = (txtT (tN t.t)).length := by
        unfold txtT tN
        rw [if_neg (by rw [hc.1]; decide), if_neg (by simp)]
      rw [sz_cons, sz_cons, e]
      simp [sz]
    · cases h
theorem col_acc {l r : List Tk} {n : Int} (h : colP l = some (n, r)) (hg : G l) : colB n = true ∧ G r ∧ sz [intT n] + sz r = sz l := by
  cases l with
  | nil => cases h
  | cons t q =>
    rw [colP] at h
    split at h
    · rename_i hc
      simp only [Bool.and_eq_true, beq_iff_eq] at hc
      simp only [Option.some.injEq, Prod.mk.injEq] at h
      obtain ⟨rfl, rfl⟩ := h
      refine ⟨by unfold colB; simp [hc.2.2.1, hc.2.2.2], hg.tail, ?_⟩
      have e : (txtT t).length = (txtT (intT t.v.n)).length := by
        unfold txtT intT
        rw [if_pos (by rw [hc.1]; decide), if_pos (by simp)]
        have hk := hc.2.1
        unfold textL
        rw [hk]
        rfl
      rw [sz_cons, sz_cons, e]
      simp [sz]
    · cases h
theorem need_acc {s : List UInt8} {l r : List Tk} (h : needP s l = some r) (hg : G l) : G r ∧ s.length + 1 + sz r = sz l := by
  cases l with
  | nil => cases h
  | cons t q =>
    rw [needP] at h
    split at h
    · rename_i hc
      simp only [Option.some.injEq] at h
      subst h
      exact ⟨hg.tail, by rw [sz_cons, isW_len hc]⟩
    · cases h
theorem take_acc (s : List UInt8) (l : List Tk) (hg : G l) : G (takeP s l).2 ∧ (if (takeP s l).1 then s.length + 1 else 0) + sz (takeP s l).2 = sz l := by
  cases l with
  | nil => exact ⟨hg, by simp [takeP, sz]⟩
  | cons t q =>
    rw [takeP]
    split
    · rename_i hc
      exact ⟨hg.tail, by simp [sz_cons, isW_len hc]⟩
    · exact ⟨hg, by simp⟩
theorem one3 {a b c : List UInt8} {l r : List Tk} {k : Int} (h : oneP [a, b, c] l = some (k, r)) (hg : G l) : G r ∧ ((k = 0 ∧ a.length + 1 + sz r = sz l) ∨ (k = 1 ∧ b.length + 1 + sz r = sz l) ∨ (k = 2 ∧ c.length + 1 + sz r = sz l)) := by
  cases l with
  | nil => cases h
  | cons t q =>
    rw [oneP] at h
    simp only [oneF] at h
    rw [sz_cons]
    split at h
    · rename_i hc
      simp at h
      obtain ⟨rfl, rfl⟩ := h
      exact ⟨hg.tail, .inl ⟨rfl, by rw [isW_len hc]⟩⟩
    split at h
    · rename_i hc
      simp at h
      obtain ⟨rfl, rfl⟩ := h
      exact ⟨hg.tail, .inr (.inl ⟨rfl, by rw [isW_len hc]⟩)⟩
    split at h
    · rename_i hc
      simp at h
      obtain ⟨rfl, rfl⟩ := h
      exact ⟨hg.tail, .inr (.inr ⟨rfl, by rw [isW_len hc]⟩)⟩
    · cases h
theorem one4 {a b c d : List UInt8} {l r : List Tk} {k : Int} (h : oneP [a, b, c, d] l = some (k, r)) (hg : G l) : G r ∧ ((k = 0 ∧ a.length + 1 + sz r = sz l) ∨ (k = 1 ∧ b.length + 1 + sz r = sz l) ∨ (k = 2 ∧ c.length + 1 + sz r = sz l) ∨ (k = 3 ∧ d.length + 1 + sz r = sz l)) := by
  cases l with
  | nil => cases h
  | cons t q =>
    rw [oneP] at h
    simp only [oneF] at h
    rw [sz_cons]
    split at h
    · rename_i hc
      simp at h
      obtain ⟨rfl, rfl⟩ := h
      exact ⟨hg.tail, .inl ⟨rfl, by rw [isW_len hc]⟩⟩
    split at h
    · rename_i hc
      simp at h
      obtain ⟨rfl, rfl⟩ := h
      exact ⟨hg.tail, .inr (.inl ⟨rfl, by rw [isW_len hc]⟩)⟩
    split at h
    · rename_i hc
      simp at h
      obtain ⟨rfl, rfl⟩ := h
      exact ⟨hg.tail, .inr (.inr (.inl ⟨rfl, by rw [isW_len hc]⟩))⟩
    split at h
    · rename_i hc
      simp at h
      obtain ⟨rfl, rfl⟩ := h
      exact ⟨hg.tail, .inr (.inr (.inr ⟨rfl, by rw [isW_len hc]⟩))⟩
    · cases h
theorem one2 {a b : List UInt8} {l r : List Tk} {k : Int} (h : oneP [a, b] l = some (k, r)) (hg : G l) : G r ∧ ((k = 0 ∧ a.length + 1 + sz r = sz l) ∨ (k = 1 ∧ b.length + 1 + sz r = sz l)) := by
  cases l with
  | nil => cases h
  | cons t q =>
    rw [oneP] at h
    simp only [oneF] at h
    rw [sz_cons]
    split at h
    · rename_i hc
      simp at h
      obtain ⟨rfl, rfl⟩ := h
      exact ⟨hg.tail, .inl ⟨rfl, by rw [isW_len hc]⟩⟩
    split at h
    · rename_i hc
      simp at h
      obtain ⟨rfl, rfl⟩ := h
      exact ⟨hg.tail, .inr ⟨rfl, by rw [isW_len hc]⟩⟩
    · cases h
/-- A step with an operation. -/
theorem op_acc {t : Tk} {i : Int} (h : oneF opWs 2 t = some i) : mayNd ⟨i, 0, nl⟩ = true ∧ N64 ⟨i, 0, nl⟩ ∧ sz (ndT ⟨i, 0, nl⟩) = (txtT t).length + 1 := by
  have hn : N64 ⟨i, 0, nl⟩ := ⟨(by decide : (-9223372036854775808 : Int) ≤ 0), (by decide : (0 : Int) ≤ 9223372036854775807)⟩
  unfold opWs at h
  simp only [oneF] at h
  repeat' split at h
  all_goals first
    | (cases h; done)
    | (rename_i hc
       simp only [Option.some.injEq] at h
       subst h
       refine ⟨by kernel_rfl, hn, ?_⟩
       rw [isW_len hc]
       rfl)
theorem step_acc {l r : List Tk} {x : Nd} (h : stepP l = some (x, r)) (hg : G l) : mayNd x = true ∧ N64 x ∧ G r ∧ sz (ndT x) + sz r = sz l := by
  have z0 : (-9223372036854775808 : Int) ≤ 0 := by decide
  have z1 : (0 : Int) ≤ 9223372036854775807 := by decide
  cases l with
  | nil => cases h
  | cons t q =>
    rw [stepP] at h
    have hq := take_acc s_qm q hg.tail
    split at h
    · rename_i hc
      split at h
      · rename_i hq1
        simp only [Option.some.injEq, Prod.mk.injEq] at h
        obtain ⟨rfl, rfl⟩ := h
        refine ⟨by kernel_rfl, ⟨z0, z1⟩, hq.1, ?_⟩
        have h2 := hq.2
        rw [hq1] at h2
        rw [sz_cons, isW_len hc, ← h2]
        show sz [tW w_null, tS s_qm] + _ = _
        simp only [sz, sz_tW, sz_tS, if_true]
        omega
      · simp only [Option.some.injEq, Prod.mk.injEq] at h
        obtain ⟨rfl, rfl⟩ := h
        refine ⟨by kernel_rfl, ⟨z0, z1⟩, hg.tail, ?_⟩
        rw [sz_cons, isW_len hc]
        have e : ndT ⟨1, 0, nl⟩ = [tW w_null] := by kernel_rfl
        rw [e]
        simp only [sz, sz_tW]
    split at h
    · rename_i hc
      simp only [Option.some.injEq, Prod.mk.injEq] at h
      obtain ⟨rfl, rfl⟩ := h
      refine ⟨by kernel_rfl, ⟨(by decide : (-9223372036854775808 : Int) ≤ 1), (by decide : (1 : Int) ≤ 9223372036854775807)⟩, hg.tail, ?_⟩
      rw [sz_cons, isW_len hc]
      have e : ndT ⟨1, 0, tt⟩ = [tW w_true] := by kernel_rfl
      rw [e]
      simp only [sz, sz_tW]
    split at h
    · rename_i hc
      simp only [Option.some.injEq, Prod.mk.injEq] at h
      obtain ⟨rfl, rfl⟩ := h
      refine ⟨by kernel_rfl, ⟨z0, z1⟩, hg.tail, ?_⟩
      rw [sz_cons, isW_len hc]
      have e : ndT ⟨1, 0, ff⟩ = [tW w_false] := by kernel_rfl
      rw [e]
      simp only [sz, sz_tW]
    split at h
    · rename_i i hi
      simp only [Option.some.injEq, Prod.mk.injEq] at h
      obtain ⟨rfl, rfl⟩ := h
      obtain ⟨h1, h2, h3⟩ := op_acc hi
      exact ⟨h1, h2, hg.tail, by rw [sz_cons, h3]⟩
    split at h
    · rename_i hk
      simp only [Option.some.injEq, Prod.mk.injEq] at h
      obtain ⟨rfl, rfl⟩ := h
      obtain ⟨hm, h6⟩ := hg.head
      obtain ⟨k, s, v⟩ := t
      simp only [beq_iff_eq] at hk
      subst hk
      unfold mayT at hm
      simp only at hm
      rw [if_neg (by decide), if_pos (by decide)] at hm
      simp only [Bool.and_eq_true, Bool.or_eq_true, beq_iff_eq] at hm
      obtain ⟨hs, hk, hv⟩ := hm
      refine ⟨by unfold mayNd; simp [hv], h6, hg.tail, ?_⟩
      have e : ndT ⟨1, 0, v⟩ = [⟨1, emp, v⟩] := by
        unfold ndT
        have n1 : v ≠ nl := fun e => by rw [e] at hk; simp [nl] at hk
        have n2 : v ≠ tt := fun e => by rw [e] at hk; simp [tt] at hk
        have n3 : v ≠ ff := fun e => by rw [e] at hk; simp [ff] at hk
        rw [if_neg (by simp), if_pos rfl]
        simp only [Val.eq_false n1, Val.eq_false n2, Val.eq_false n3]
        rfl
      rw [e]
      simp only [sz]
      rfl
    split at h
    · rename_i hk
      cases hcn : cnum t.t.data.toList with
      | none => rw [hcn] at h; cases h
      | some n =>
        rw [hcn] at h
        simp only [Option.map_some, Option.some.injEq, Prod.mk.injEq] at h
        obtain ⟨rfl, rfl⟩ := h
        obtain ⟨hn, hl⟩ := cnum_lt hcn
        refine ⟨?_, ⟨z0, z1⟩, hg.tail, ?_⟩
        · unfold mayNd colB
          simp only [if_true, Bool.and_eq_true, decide_eq_true_eq]
          exact ⟨⟨by omega, by omega⟩, Val.eq_self _⟩
        · have e : ndT ⟨0, n, nl⟩ = [tW (cWord n)] := by
            unfold ndT
            rw [if_neg (by simp), if_neg (by simp), if_pos rfl, Int.toNat_natCast]
          rw [e, sz_cons]
          simp only [sz, sz_tW]
          have e2 : (txtT t).length = (cWord n).length := by
            unfold txtT
            rw [if_neg (by simp only [beq_iff_eq] at hk; rw [hk]; decide), hl]
          omega
    · cases h
theorem exprF_acc : ∀ (n : Nat) (l r : List Tk) (e : List Nd), exprF n l = some (e, r) → G l → (∀ x ∈ e, mayNd x = true ∧ N64 x) ∧ G r ∧ sz (e.flatMap ndT) + 2 + sz r = sz l
  | 0, _, _, _, h, _ => by cases h
  | n + 1, [], _, _, h, _ => by cases h
  | n + 1, t :: q, r, e, h, hg => by
    rw [exprF] at h
    split at h
    · rename_i hc
      simp only [Option.some.injEq, Prod.mk.injEq] at h
      obtain ⟨rfl, rfl⟩ := h
      refine ⟨fun x hx => (by cases hx), hg.tail, ?_⟩
      rw [sz_cons, isW_len hc]
      simp [sz, s_rb]
    · cases hs : stepP (t :: q) with
      | none => rw [hs] at h; cases h
      | some p =>
        obtain ⟨x, q1⟩ := p
        rw [hs] at h
        simp only [Option.bind_some] at h
        cases he : exprF n q1 with
        | none => rw [he] at h; cases h
        | some p2 =>
          obtain ⟨e2, q2⟩ := p2
          rw [he] at h
          simp only [Option.map_some, Option.some.injEq, Prod.mk.injEq] at h
          obtain ⟨rfl, rfl⟩ := h
          obtain ⟨h1, h2, h3, h4⟩ := step_acc hs hg
          obtain ⟨k1, k2, k3⟩ := exprF_acc n q1 q2 e2 he h3
          refine ⟨fun y hy => ?_, k2, ?_⟩
          · rcases List.mem_cons.1 hy with rfl | hy
            · exact ⟨h1, h2⟩
            · exact k1 y hy
          · rw [List.flatMap_cons, sz_app]
            omega
theorem expr_acc {l r : List Tk} {e : List Nd} (h : exprP l = some (e, r)) (hg : G l) : mayE e = true ∧ (∀ x ∈ e, N64 x) ∧ G r ∧ sz (exprT e) + sz r = sz l := by
  unfold exprP at h
  cases hn : needP s_lb l with
  | none => rw [hn] at h; cases h
  | some q =>
    rw [hn] at h
    simp only [Option.bind_some] at h
    obtain ⟨hg2, hz⟩ := need_acc hn hg
    cases he : exprF (q.length + 1) q with
    | none => rw [he] at h; cases h
    | some p =>
      rw [he] at h
      simp only [Option.bind_some] at h
      split at h
      · rename_i hl
        simp only [Option.some.injEq] at h
        subst h
        obtain ⟨h1, h2, h3⟩ := exprF_acc _ _ _ _ he hg2
        refine ⟨?_, fun x hx => (h1 x hx).2, h2, ?_⟩
        · unfold mayE
          simp only [Bool.and_eq_true, decide_eq_true_eq, List.all_eq_true]
          exact ⟨hl, fun x hx => (h1 x hx).1⟩
        · unfold exprT
          rw [sz_cons, sz_app]
          simp only [sz, sz_tS, s_lb, s_rb, List.length_cons, List.length_nil] at hz ⊢
          omega
      · cases h
theorem sepF_acc {α : Type} {p : List Tk → Option (α × List Tk)} {f : α → List Tk} {V : α → Prop} (hp : ∀ l r a, p l = some (a, r) → G l → V a ∧ G r ∧ sz (f a) + sz r = sz l) :
    ∀ (n : Nat) (l r : List Tk) (xs : List α), sepF p n l = some (xs, r) → G l → xs ≠ [] ∧ (∀ a ∈ xs, V a) ∧ G r ∧ sz (sepT f xs) + sz r = sz l
  | 0, _, _, _, h, _ => by cases h
  | n + 1, l, r, xs, h, hg => by
    rw [sepF] at h
    cases hs : p l with
    | none => rw [hs] at h; cases h
    | some q =>
      obtain ⟨a, q1⟩ := q
      rw [hs] at h
      simp only [Option.bind_some] at h
      obtain ⟨h1, h2, h3⟩ := hp _ _ _ hs hg
      obtain ⟨t1, t2⟩ := take_acc s_cm q1 h2
      split at h
      · rename_i hc
        cases he : sepF p n (takeP s_cm q1).2 with
        | none => rw [he] at h; cases h
        | some p2 =>
          obtain ⟨xs2, q2⟩ := p2
          rw [he] at h
          simp only [Option.map_some, Option.some.injEq, Prod.mk.injEq] at h
          obtain ⟨rfl, rfl⟩ := h
          obtain ⟨k0, k1, k2, k3⟩ := sepF_acc hp n _ _ _ he t1
          refine ⟨by simp, fun b hb => ?_, k2, ?_⟩
          · rcases List.mem_cons.1 hb with rfl | hb
            · exact h1
            · exact k1 b hb
          · rw [sepT]
            cases xs2 with
            | nil => exact absurd rfl k0
            | cons b bs =>
              simp only [List.isEmpty_cons, Bool.false_eq_true, if_false]
              rw [sz_app, sz_cons, sz_tS]
              rw [hc] at t2
              simp only [if_true] at t2
              omega
      · simp only [Option.some.injEq, Prod.mk.injEq] at h
        obtain ⟨rfl, rfl⟩ := h
        refine ⟨by simp, fun b hb => by simp at hb; rw [hb]; exact h1, h2, ?_⟩
        simp [sepT, h3]
theorem column_acc {l r : List Tk} {c : Cl} (h : columnP l = some (c, r)) (hg : G l) : mayCl c = true ∧ G r ∧ sz (clT c) + sz r = sz l := by
  unfold columnP at h
  cases hn : nameP l with
  | none => rw [hn] at h; cases h
  | some a =>
    obtain ⟨nm, q1⟩ := a
    rw [hn] at h
    simp only [Option.bind_some] at h
    obtain ⟨n1, n2, n3⟩ := name_acc hn hg
    cases hk : oneP [w_bool, w_int, w_text] q1 with
    | none => rw [hk] at h; cases h
    | some b =>
      obtain ⟨k, q2⟩ := b
      rw [hk] at h
      simp only [Option.bind_some] at h
      obtain ⟨k1, k2⟩ := one3 hk n2
      have hkz : 0 ≤ k ∧ k ≤ 2 ∧ sz [tW (kindW (k + 1))] + sz q2 = sz q1 := by
        rcases k2 with ⟨rfl, h2⟩ | ⟨rfl, h2⟩ | ⟨rfl, h2⟩
        · exact ⟨by decide, by decide, by rw [← h2]; rfl⟩
        · exact ⟨by decide, by decide, by rw [← h2]; rfl⟩
        · exact ⟨by decide, by decide, by rw [← h2]; rfl⟩
      obtain ⟨z0, z2, hkz⟩ := hkz
      obtain ⟨u1, u2⟩ := take_acc w_null q2 k1
      generalize takeP w_null q2 = T1 at h u1 u2
      obtain ⟨b1, q3⟩ := T1
      simp only at h u1 u2
      obtain ⟨v1, v2⟩ := take_acc w_unique q3 u1
      generalize takeP w_unique q3 = T2 at h v1 v2
      obtain ⟨b2, q4⟩ := T2
      simp only at h v1 v2
      obtain ⟨x1, x2⟩ := take_acc w_ref q4 v1
      have hb1 : sz (if b1 then [tW w_null] else []) = if b1 then w_null.length + 1 else 0 := by cases b1 <;> rfl
      have hb2 : sz (if b2 then [tW w_unique] else []) = if b2 then w_unique.length + 1 else 0 := by cases b2 <;> rfl
      split at h
      · rename_i hr
        rw [hr] at x2
        simp only [if_true] at x2
        cases hm : nameP (takeP w_ref q4).2 with
        | none => rw [hm] at h; cases h
        | some c1 =>
          obtain ⟨rf, q5⟩ := c1
          rw [hm] at h
          simp only [Option.bind_some] at h
          obtain ⟨m1, m2, m3⟩ := name_acc hm x1
          cases ho : oneP [w_restrict, w_cascade, w_setnull] q5 with
          | none => rw [ho] at h; cases h
          | some d1 =>
            obtain ⟨ac, q6⟩ := d1
            rw [ho] at h
            simp only [Option.map_some, Option.some.injEq, Prod.mk.injEq] at h
            obtain ⟨rfl, rfl⟩ := h
            obtain ⟨o1, o2⟩ := one3 ho m2
            have hoz : 0 ≤ ac ∧ ac ≤ 2 ∧ sz [tW (actW ac)] + sz q6 = sz q5 := by
              rcases o2 with ⟨rfl, h2⟩ | ⟨rfl, h2⟩ | ⟨rfl, h2⟩
              · exact ⟨by decide, by decide, by rw [← h2]; rfl⟩
              · exact ⟨by decide, by decide, by rw [← h2]; rfl⟩
              · exact ⟨by decide, by decide, by rw [← h2]; rfl⟩
            have hre : rf.toList.isEmpty = false := by
              cases e : rf.toList.isEmpty
              · rfl
              · have := emp_eq e
                subst this
                exact absurd m1 (by decide)
            refine ⟨?_, o1, ?_⟩
            · unfold mayCl
              simp only [hre, Bool.and_eq_true, decide_eq_true_eq, Bool.false_eq_true, if_false]
              exact ⟨n1, by omega, by omega, m1, hoz.1, hoz.2.1⟩
            · unfold clT
              simp only [hre, Bool.false_eq_true, if_false]
              rw [sz_cons, sz_cons, sz_app, sz_app, hb1, hb2]
              have e1 : sz [tW w_ref, tN rf, tW (actW ac)] = w_ref.length + 1 + sz [tN rf] + sz [tW (actW ac)] := by simp [sz, sz_tW]; omega
              have e2 : sz [tN nm] = (txtT (tN nm)).length + 1 := by simp [sz]
              have e3 : sz [tW (kindW (k + 1))] = (txtT (tW (kindW (k + 1)))).length + 1 := by simp [sz]
              rw [e1]
              omega
      · rename_i hr
        simp only [Option.some.injEq, Prod.mk.injEq] at h
        obtain ⟨rfl, rfl⟩ := h
        have hre : emp.toList.isEmpty = true := by kernel_rfl
        refine ⟨?_, v1, ?_⟩
        · unfold mayCl
          simp only [hre, Bool.and_eq_true, decide_eq_true_eq, if_true]
          exact ⟨n1, by omega, by omega, trivial⟩
        · unfold clT
          simp only [hre, if_true, List.append_nil]
          rw [sz_cons, sz_cons, sz_app, hb1, hb2]
          have e2 : sz [tN nm] = (txtT (tN nm)).length + 1 := by simp [sz]
          have e3 : sz [tW (kindW (k + 1))] = (txtT (tW (kindW (k + 1)))).length + 1 := by simp [sz]
          omega
theorem checksF_acc : ∀ (n : Nat) (l r : List Tk) (es : List (List Nd)), checksF n l = some (es, r) → G l → (∀ e ∈ es, mayE e = true ∧ ∀ x ∈ e, N64 x) ∧ G r ∧ sz (es.flatMap fun e => tW w_check :: exprT e) + sz r = sz l
  | 0, _, _, _, h, _ => by cases h
  | n + 1, l, r, es, h, hg => by
    rw [checksF] at h
    obtain ⟨t1, t2⟩ := take_acc w_check l hg
    split at h
    · rename_i hc
      rw [hc] at t2
      simp only [if_true] at t2
      cases he : exprP (takeP w_check l).2 with
      | none => rw [he] at h; cases h
      | some p =>
        obtain ⟨e, q⟩ := p
        rw [he] at h
        simp only [Option.bind_some] at h
        obtain ⟨e1, e2, e3, e4⟩ := expr_acc he t1
        cases hk : checksF n q with
        | none => rw [hk] at h; cases h
        | some p2 =>
          obtain ⟨es2, q2⟩ := p2
          rw [hk] at h
          simp only [Option.map_some, Option.some.injEq, Prod.mk.injEq] at h
          obtain ⟨rfl, rfl⟩ := h
          obtain ⟨k1, k2, k3⟩ := checksF_acc n q q2 es2 hk e3
          refine ⟨fun y hy => ?_, k2, ?_⟩
          · rcases List.mem_cons.1 hy with rfl | hy
            · exact ⟨e1, e2⟩
            · exact k1 y hy
          · rw [List.flatMap_cons, List.cons_append, sz_cons, sz_app, sz_tW]
            omega
    · simp only [Option.some.injEq, Prod.mk.injEq] at h
      obtain ⟨rfl, rfl⟩ := h
      exact ⟨fun x hx => (by cases hx), hg, by simp [sz]⟩
theorem table_acc {l r : List Tk} {t : Tb} (h : tableP l = some (t, r)) (hg : G l) : mayTb t = true ∧ (∀ e ∈ t.checks, ∀ x ∈ e, N64 x) ∧ G r ∧ sz (tbT t) + sz r = sz l := by
  unfold tableP at h
  cases hn : nameP l with
  | none => rw [hn] at h; cases h
  | some a =>
    obtain ⟨nm, q1⟩ := a
    rw [hn] at h
    simp only [Option.bind_some] at h
    obtain ⟨n1, n2, n3⟩ := name_acc hn hg
    cases hl : needP s_lp q1 with
    | none => rw [hl] at h; cases h
    | some q2 =>
      rw [hl] at h
      simp only [Option.bind_some] at h
      obtain ⟨l1, l2⟩ := need_acc hl n2
      cases hc : sepP columnP q2 with
      | none => rw [hc] at h; cases h
      | some b =>
        obtain ⟨cols, q3⟩ := b
        rw [hc] at h
        simp only [Option.bind_some] at h
        obtain ⟨c0, c1, c2, c3⟩ := sepF_acc (f := clT) (V := fun c => mayCl c = true) (fun l r a ha hg => column_acc ha hg) _ _ _ _ hc l1
        cases hr : needP s_rp q3 with
        | none => rw [hr] at h; cases h
        | some q4 =>
          rw [hr] at h
          simp only [Option.bind_some] at h
          obtain ⟨r1, r2⟩ := need_acc hr c2
          cases hk : checksF (q4.length + 1) q4 with
          | none => rw [hk] at h; cases h
          | some b2 =>
            obtain ⟨cks, q5⟩ := b2
            rw [hk] at h
            simp only [Option.bind_some] at h
            obtain ⟨k1, k2, k3⟩ := checksF_acc _ _ _ _ hk r1
            split at h
            · rename_i hle
              simp only [Option.some.injEq, Prod.mk.injEq] at h
              obtain ⟨rfl, rfl⟩ := h
              refine ⟨?_, fun e he => (k1 e he).2, k2, ?_⟩
              · unfold mayTb
                simp only [Bool.and_eq_true, decide_eq_true_eq, List.all_eq_true, Bool.not_eq_true', List.isEmpty_eq_false_iff]
                exact ⟨n1, c0, hle.1, hle.2, c1, fun e he => (k1 e he).1⟩
              · unfold tbT
                have e2 : sz [tN nm] = (txtT (tN nm)).length + 1 := by simp [sz]
                simp only [sz_cons, sz_app, sz_tS]
                omega
            · cases h
theorem agg_acc {l r : List Tk} {a : Ag} (h : aggP l = some (a, r)) (hg : G l) : mayAg a = true ∧ G r ∧ sz (agT a) + sz r = sz l := by
  unfold aggP at h
  cases hf : oneP [w_count, w_sum, w_min, w_max] l with
  | none => rw [hf] at h; cases h
  | some p =>
    obtain ⟨f, q⟩ := p
    rw [hf] at h
    simp only [Option.bind_some] at h
    obtain ⟨g1, g2⟩ := one4 hf hg
    have hfz : 0 ≤ f ∧ f ≤ 3 ∧ sz [tW (fnW f)] + sz q = sz l := by
      rcases g2 with ⟨rfl, h2⟩ | ⟨rfl, h2⟩ | ⟨rfl, h2⟩ | ⟨rfl, h2⟩
      · exact ⟨by decide, by decide, by rw [← h2]; rfl⟩
      · exact ⟨by decide, by decide, by rw [← h2]; rfl⟩
      · exact ⟨by decide, by decide, by rw [← h2]; rfl⟩
      · exact ⟨by decide, by decide, by rw [← h2]; rfl⟩
    have e1 : sz [tW (fnW f)] = (txtT (tW (fnW f))).length + 1 := by simp [sz]
    split at h
    · rename_i h0
      simp only [Option.some.injEq, Prod.mk.injEq] at h
      obtain ⟨rfl, rfl⟩ := h
      subst h0
      refine ⟨by kernel_rfl, g1, ?_⟩
      unfold agT
      simp only [if_true]
      exact hfz.2.2
    · rename_i h0
      cases hc : colP q with
      | none => rw [hc] at h; cases h
      | some p2 =>
        obtain ⟨c, q2⟩ := p2
        rw [hc] at h
        simp only [Option.map_some, Option.some.injEq, Prod.mk.injEq] at h
        obtain ⟨rfl, rfl⟩ := h
        obtain ⟨c1, c2, c3⟩ := col_acc hc g1
        refine ⟨?_, c2, ?_⟩
        · unfold mayAg
          simp only [if_neg h0, Bool.and_eq_true, decide_eq_true_eq]
          exact ⟨hfz.1, hfz.2.1, c1⟩
        · unfold agT
          simp only [if_neg h0]
          rw [sz_cons]
          omega
def joinB (w : ByteArray) (a b : Int) : Bool := if w.toList.isEmpty then decide (a = 0) && decide (b = 0) else nameB w.data.toList && (colB a && colB b)
def joinT (w : ByteArray) (a b : Int) : List Tk := if w.toList.isEmpty then [] else [tW w_join, tN w, tW w_on, intT a, tS s_eq, intT b]
theorem join_acc {l r : List Tk} {w : ByteArray} {a b : Int} (h : joinP l = some ((w, a, b), r)) (hg : G l) : joinB w a b = true ∧ G r ∧ sz (joinT w a b) + sz r = sz l := by
  unfold joinP at h
  obtain ⟨t1, t2⟩ := take_acc w_join l hg
  split at h
  · rename_i hc
    rw [hc] at t2
    simp only [if_true] at t2
    cases hn : nameP (takeP w_join l).2 with
    | none => rw [hn] at h; cases h
    | some p =>
      obtain ⟨nm, q1⟩ := p
      rw [hn] at h
      simp only [Option.bind_some] at h
      obtain ⟨n1, n2, n3⟩ := name_acc hn t1
      cases ho : needP w_on q1 with
      | none => rw [ho] at h; cases h
      | some q2 =>
        rw [ho] at h
        simp only [Option.bind_some] at h
        obtain ⟨o1, o2⟩ := need_acc ho n2
        cases hx : colP q2 with
        | none => rw [hx] at h; cases h
        | some p3 =>
          obtain ⟨x, q3⟩ := p3
          rw [hx] at h
          simp only [Option.bind_some] at h
          obtain ⟨x1, x2, x3⟩ := col_acc hx o1
          cases he : needP s_eq q3 with
          | none => rw [he] at h; cases h
          | some q4 =>
            rw [he] at h
            simp only [Option.bind_some] at h
            obtain ⟨e1, e2⟩ := need_acc he x2
            cases hy : colP q4 with
            | none => rw [hy] at h; cases h
            | some p5 =>
              obtain ⟨y, q5⟩ := p5
              rw [hy] at h
              simp only [Option.map_some, Option.some.injEq, Prod.mk.injEq] at h
              obtain ⟨⟨rfl, rfl, rfl⟩, rfl⟩ := h
              obtain ⟨y1, y2, y3⟩ := col_acc hy e1
              have hre : nm.toList.isEmpty = false := by
                cases e : nm.toList.isEmpty
                · rfl
                · have := emp_eq e
                  subst this
                  exact absurd n1 (by decide)
              refine ⟨?_, y2, ?_⟩
              · unfold joinB
                simp only [hre, Bool.false_eq_true, if_false, Bool.and_eq_true]
                exact ⟨n1, x1, y1⟩
              · unfold joinT
                simp only [hre, Bool.false_eq_true, if_false]
                have k1 : sz [tN nm] = (txtT (tN nm)).length + 1 := by simp [sz]
                have k2 : sz [intT x] = (txtT (intT x)).length + 1 := by simp [sz]
                have k3 : sz [intT y] = (txtT (intT y)).length + 1 := by simp [sz]
                simp only [sz_cons, sz_tW, sz_tS]
                simp only [sz] at *
                omega
  · simp only [Option.some.injEq, Prod.mk.injEq] at h
    obtain ⟨⟨rfl, rfl, rfl⟩, rfl⟩ := h
    exact ⟨by kernel_rfl, hg, by have e : joinT emp 0 0 = [] := by kernel_rfl
                                 rw [e]; simp [sz]⟩
theorem where_acc {l r : List Tk} {e : List Nd} (h : whereP l = some (e, r)) (hg : G l) : mayE e = true ∧ (∀ x ∈ e, N64 x) ∧ G r ∧ sz (if e.isEmpty then [] else tW w_where :: exprT e) + sz r ≤ sz l := by
  unfold whereP at h
  obtain ⟨t1, t2⟩ := take_acc w_where l hg
  split at h
  · rename_i hc
    rw [hc] at t2
    simp only [if_true] at t2
    obtain ⟨e1, e2, e3, e4⟩ := expr_acc h t1
    refine ⟨e1, e2, e3, ?_⟩
    split
    · simp only [sz]; omega
    · rw [sz_cons, sz_tW]; omega
  · simp only [Option.some.injEq, Prod.mk.injEq] at h
    obtain ⟨rfl, rfl⟩ := h
    exact ⟨rfl, fun x hx => (by cases hx), hg, by simp [sz]⟩
theorem picks_acc {l r : List Tk} {pk : List Int} (h : picksP l = some (pk, r)) (hg : G l) : (∀ n ∈ pk, colB n = true) ∧ G r ∧ sz (sepT (fun n => [intT n]) pk) + sz r = sz l := by
  unfold picksP at h
  split at h
  · simp only [Option.some.injEq, Prod.mk.injEq] at h
    obtain ⟨rfl, rfl⟩ := h
    exact ⟨fun x hx => (by cases hx), hg, by simp [sepT, sz]⟩
  · obtain ⟨_, c1, c2, c3⟩ := sepF_acc (f := fun n => [intT n]) (V := fun n => colB n = true) (fun l r a ha hg => col_acc ha hg) _ _ _ _ h hg
    exact ⟨c1, c2, c3⟩
theorem aggs_acc {l r : List Tk} {g : Bool} {ag : List Ag} (h : aggsP l = some ((g, ag), r)) (hg : G l) : (∀ a ∈ ag, mayAg a = true) ∧ (g || ag.isEmpty) = true ∧ G r ∧ sz (grpT g ag) + sz r = sz l := by
  unfold aggsP at h
  obtain ⟨t1, t2⟩ := take_acc w_group l hg
  split at h
  · rename_i hc
    rw [hc] at t2
    simp only [if_true] at t2
    split at h
    · rename_i he
      simp only [Option.some.injEq, Prod.mk.injEq] at h
      obtain ⟨⟨rfl, rfl⟩, rfl⟩ := h
      have := List.isEmpty_iff.1 he
      rw [this] at t2
      refine ⟨fun x hx => (by cases hx), rfl, fun x hx => (by cases hx), ?_⟩
      rw [← t2]
      rfl
    · cases hs : sepP aggP (takeP w_group l).2 with
      | none => rw [hs] at h; cases h
      | some p =>
        obtain ⟨a2, q⟩ := p
        rw [hs] at h
        simp only [Option.map_some, Option.some.injEq, Prod.mk.injEq] at h
        obtain ⟨⟨rfl, rfl⟩, rfl⟩ := h
        obtain ⟨_, c1, c2, c3⟩ := sepF_acc (f := agT) (V := fun a => mayAg a = true) (fun l r a ha hg => agg_acc ha hg) _ _ _ _ hs t1
        refine ⟨c1, rfl, c2, ?_⟩
        unfold grpT
        simp only [if_true]
        rw [sz_cons, sz_tW]
        omega
  · simp only [Option.some.injEq, Prod.mk.injEq] at h
    obtain ⟨⟨rfl, rfl⟩, rfl⟩ := h
    exact ⟨fun x hx => (by cases hx), rfl, hg, by simp [grpT, sz]⟩
theorem view_acc {l r : List Tk} {v : Vw} (h : viewP l = some (v, r)) (hg : G l) : mayVw v = true ∧ (∀ x ∈ v.whr, N64 x) ∧ G r ∧ sz (vwT v) + sz r ≤ sz l := by
  unfold viewP at h
  cases hn : nameP l with
  | none => rw [hn] at h; cases h
  | some a =>
    obtain ⟨nm, q1⟩ := a
    rw [hn] at h
    simp only [Option.bind_some] at h
    obtain ⟨n1, n2, n3⟩ := name_acc hn hg
    cases hf : needP w_from q1 with
    | none => rw [hf] at h; cases h
    | some q2 =>
      rw [hf] at h
      simp only [Option.bind_some] at h
      obtain ⟨f1, f2⟩ := need_acc hf n2
      cases hm : nameP q2 with
      | none => rw [hm] at h; cases h
      | some b =>
        obtain ⟨fr, q3⟩ := b
        rw [hm] at h
        simp only [Option.bind_some] at h
        obtain ⟨m1, m2, m3⟩ := name_acc hm f1
        cases hj : joinP q3 with
        | none => rw [hj] at h; cases h
        | some c =>
          obtain ⟨⟨wt, x, y⟩, q4⟩ := c
          rw [hj] at h
          simp only [Option.bind_some] at h
          obtain ⟨j1, j2, j3⟩ := join_acc hj m2
          cases hw : whereP q4 with
          | none => rw [hw] at h; cases h
          | some d =>
            obtain ⟨e, q5⟩ := d
            rw [hw] at h
            simp only [Option.bind_some] at h
            obtain ⟨w1, w2, w3, w4⟩ := where_acc hw j2
            cases hp : needP w_pick q5 with
            | none => rw [hp] at h; cases h
            | some q6 =>
              rw [hp] at h
              simp only [Option.bind_some] at h
              obtain ⟨p1, p2⟩ := need_acc hp w3
              cases hk : picksP q6 with
              | none => rw [hk] at h; cases h
              | some g0 =>
                obtain ⟨pk, q7⟩ := g0
                rw [hk] at h
                simp only [Option.bind_some] at h
                obtain ⟨k1, k2, k3⟩ := picks_acc hk p1
                cases hq : aggsP q7 with
                | none => rw [hq] at h; cases h
                | some g3 =>
                  obtain ⟨⟨gr, ag⟩, q8⟩ := g3
                  rw [hq] at h
                  simp only [Option.bind_some] at h
                  obtain ⟨a1, a2, a3, a4⟩ := aggs_acc hq k2
                  split at h
                  · rename_i hle
                    simp only [Option.some.injEq, Prod.mk.injEq] at h
                    obtain ⟨rfl, rfl⟩ := h
                    refine ⟨?_, w2, a3, ?_⟩
                    · unfold mayVw
                      simp only [Bool.and_eq_true, decide_eq_true_eq, List.all_eq_true]
                      exact ⟨n1, m1, j1, w1, hle.1, k1, hle.2, a1, a2⟩
                    · have k1 : sz [tN nm] = (txtT (tN nm)).length + 1 := by simp [sz]
                      have k2 : sz [tN fr] = (txtT (tN fr)).length + 1 := by simp [sz]
                      have hv : vwT ⟨nm, fr, wt, x, y, e, pk, gr, ag⟩ = tN nm :: tW w_from :: tN fr :: (joinT wt x y ++ ((if e.isEmpty then [] else tW w_where :: exprT e) ++ tW w_pick :: (sepT (fun n => [intT n]) pk ++ grpT gr ag))) := rfl
                      rw [hv]
                      simp only [sz_cons, sz_app, sz_tW]
                      omega
                  · cases h
/-- WHAT IS READ MAY BE, and its print is no longer. -/
theorem parse_acc {l : List Tk} {d : Df} (h : parseD l = some d) (hg : G l) : MayD d ∧ D64 d ∧ sz (toksD d) ≤ sz l := by
  unfold parseD at h
  cases ho : oneP [w_table, w_view] l with
  | none => rw [ho] at h; cases h
  | some p =>
    obtain ⟨k, q⟩ := p
    rw [ho] at h
    simp only [Option.bind_some] at h
    obtain ⟨g1, g2⟩ := one2 ho hg
    split at h
    · rename_i h0
      rcases g2 with ⟨_, g2⟩ | ⟨h1, _⟩
      · cases ht : tableP q with
        | none => rw [ht] at h; cases h
        | some a =>
          obtain ⟨t, r⟩ := a
          rw [ht] at h
          simp only [Option.bind_some] at h
          obtain ⟨t1, t2, t3, t4⟩ := table_acc ht g1
          split at h
          · simp only [Option.some.injEq] at h
            subst h
            refine ⟨.inl ⟨rfl, t1, rfl⟩, ⟨t2, fun x hx => (by cases hx)⟩, ?_⟩
            unfold toksD
            simp only [if_true]
            rw [sz_cons, sz_tW]
            omega
          · cases h
      · omega
    · rename_i h0
      rcases g2 with ⟨h1, _⟩ | ⟨_, g2⟩
      · omega
      · cases ht : viewP q with
        | none => rw [ht] at h; cases h
        | some a =>
          obtain ⟨v, r⟩ := a
          rw [ht] at h
          simp only [Option.bind_some] at h
          obtain ⟨t1, t2, t3, t4⟩ := view_acc ht g1
          split at h
          · simp only [Option.some.injEq] at h
            subst h
            refine ⟨.inr ⟨rfl, rfl, t1⟩, ⟨fun e he => (by cases he), t2⟩, ?_⟩
            unfold toksD
            rw [if_neg (by simp), sz_cons, sz_tW]
            dsimp only
            omega
          · cases h
end Go.Proofs.YtjgpmnffagdhlaaGreatDoor
namespace Go.Proofs.YtjgpmnffagdhlaaGreatDoor
open Go
set_option maxRecDepth 100000
theorem quo_cost : ∀ (l : List UInt8) (b : Bool) (u q : List UInt8), quoF b l = some (u, q) → (sub1 39 [39, 39] u).length + (if b then 0 else 1) + q.length = l.length
  | [], false, u, q, h => by simp [quoF] at h
  | [], true, u, q, h => by simp [quoF] at h; simp [h.1, h.2, sub1]
  | c :: l, false, u, q, h => by
    rw [quoF] at h
    split at h
    · have := quo_cost l true u q h
      simp only [if_true] at this
      simp only [Bool.false_eq_true, if_false, List.length_cons]; omega
    · rename_i hc
      cases e : quoF false l with
      | none => rw [e] at h; cases h
      | some p =>
        rw [e] at h
        simp only [Option.map_some, Option.some.injEq, Prod.mk.injEq] at h
        have := quo_cost l false p.1 p.2 e
        simp only [Bool.false_eq_true, if_false] at this
        rw [← h.1, ← h.2, sub1, if_neg hc]
        simp only [Bool.false_eq_true, if_false, List.length_cons]; omega
  | c :: l, true, u, q, h => by
    rw [quoF] at h
    split at h
    · rename_i hc
      cases e : quoF false l with
      | none => rw [e] at h; cases h
      | some p =>
        rw [e] at h
        simp only [Option.map_some, Option.some.injEq, Prod.mk.injEq] at h
        have := quo_cost l false p.1 p.2 e
        simp only [Bool.false_eq_true, if_false] at this
        rw [← h.1, ← h.2, sub1, if_pos rfl]
        simp only [if_true, List.length_append, List.length_cons, List.length_nil]; omega
    · simp only [Option.some.injEq, Prod.mk.injEq] at h
      rw [← h.1, ← h.2]
      simp [sub1]
theorem num_txt {w : List UInt8} {t : Tk} (h : numT w = some t) : txtT t = w := by
  unfold numT at h
  split at h
  · split at h
    · rename_i v _ hv
      simp only [Option.some.injEq] at h
      subst h
      have e : txtT (intT v) = Lib.itoa v := rfl
      rw [e, hv]
    · cases h
  · cases h
theorem take_drop_len (p : UInt8 → Bool) (l : List UInt8) : (l.takeWhile p).length + (l.dropWhile p).length = l.length := by
  have := congrArg List.length (List.takeWhile_append_dropWhile (p := p) (l := l))
  rwa [List.length_append] at this
theorem tok_cost {l : List UInt8} {t : Tk} {q : List UInt8} (h : tokL l = some (t, q)) : (txtT t).length + q.length = l.length := by
  cases l with
  | nil => cases h
  | cons c l =>
    rw [tokL] at h
    split at h
    · simp only [Option.some.injEq, Prod.mk.injEq] at h
      rw [← h.1, ← h.2]
      exact take_drop_len inn (c :: l)
    split at h
    · cases e : numT ((c :: l).takeWhile dig) with
      | none => rw [e] at h; cases h
      | some u =>
        rw [e] at h
        simp only [Option.map_some, Option.some.injEq, Prod.mk.injEq] at h
        rw [← h.1, ← h.2, num_txt e]
        exact take_drop_len dig (c :: l)
    split at h
    · cases e : quoF false l with
      | none => rw [e] at h; cases h
      | some p =>
        rw [e] at h
        simp only [Option.map_some, Option.some.injEq, Prod.mk.injEq] at h
        have hc := quo_cost l false p.1 p.2 e
        simp only [Bool.false_eq_true, if_false] at hc
        have et : txtT (strT p.1) = 39 :: (sub1 39 [39, 39] p.1 ++ [39]) := rfl
        rw [← h.1, ← h.2, et]
        simp only [List.length_cons, List.length_append, List.length_nil]
        omega
    split at h
    · split at h
      · simp only [Option.some.injEq, Prod.mk.injEq] at h
        rw [← h.1, ← h.2]
        show 1 + l.length = l.length + 1
        omega
      · cases e : numT (c :: l.takeWhile dig) with
        | none => rw [e] at h; cases h
        | some u =>
          rw [e] at h
          simp only [Option.map_some, Option.some.injEq, Prod.mk.injEq] at h
          rw [← h.1, ← h.2, num_txt e]
          have := take_drop_len dig l
          simp only [List.length_cons]
          omega
    split at h
    · simp only [Option.some.injEq, Prod.mk.injEq] at h
      rw [← h.1, ← h.2]
      show 1 + l.length = l.length + 1
      omega
    · cases h
/-- How long tokens are in print. -/
def tl : List Tk → Nat
  | [] => 0
  | t :: r => (txtT t).length + tl r
theorem lex_cost : ∀ (n : Nat) (s : List UInt8) (a : List Tk), s.length ≤ n → lexL s = some a → tl a ≤ s.length
  | n, [], a, _, h => by
    rw [lex_nil] at h
    simp only [Option.some.injEq] at h
    rw [← h]; exact Nat.zero_le _
  | 0, c :: s, a, hn, _ => by simp at hn
  | n + 1, c :: s, a, hn, h => by
    rw [List.length_cons] at hn
    by_cases hc : cls c = 1
    · rw [lex_blank hc] at h
      have := lex_cost n s a (by omega) h
      rw [List.length_cons]; omega
    · rw [lex_tok hc] at h
      cases e : tokL (c :: s) with
      | none => rw [e] at h; cases h
      | some p =>
        obtain ⟨u, q⟩ := p
        have hq := tok_lt e
        have hk := tok_cost e
        rw [List.length_cons] at hq
        rw [e] at h
        simp only at h
        split at h
        · cases e3 : lexL q with
          | none => rw [e3] at h; cases h
          | some b =>
            rw [e3] at h
            simp only [Option.map_some, Option.some.injEq] at h
            have := lex_cost n q b (by omega) e3
            rw [← h, tl]
            omega
        · cases h
theorem sz_tl : ∀ l : List Tk, G l → sz l ≤ 2 * tl l
  | [], _ => Nat.zero_le _
  | t :: r, hg => by
    have ih := sz_tl r hg.tail
    have h1 := txt_ne t hg.head.1 hg.head.2
    have h2 : 1 ≤ (txtT t).length := List.length_pos_iff.2 h1
    rw [sz, tl]
    omega
theorem print_sz : ∀ l : List Tk, (printL l).length ≤ sz l
  | [] => Nat.le_refl _
  | [t] => by rw [print_one, sz]; omega
  | t :: u :: l => by
    have ih := print_sz (u :: l)
    rw [print_cons t (u :: l) (by simp), sz, List.length_append, List.length_cons]
    omega
/-- WHAT IS READ MAY BE PRINTED, and the print is at most twice as long. -/
theorem read_print {s : List UInt8} {a : List Tk} {d : Df} (hs : lexL s = some a) (hp : parseD a = some d) : MayD d ∧ D64 d ∧ (printL (toksD d)).length ≤ 2 * s.length := by
  have hm := lex_may s.length s a (Nat.le_refl _) hs
  have hg : G a := fun t ht => hm t ht
  obtain ⟨h1, h2, h3⟩ := parse_acc hp hg
  have h4 := sz_tl a hg
  have h5 := lex_cost s.length s a (Nat.le_refl _) hs
  have h6 := print_sz (toksD d)
  exact ⟨h1, h2, by omega⟩
end Go.Proofs.YtjgpmnffagdhlaaGreatDoor
