/-
  A law for a statement whose order Go leaves open: if what each operation yields can be said beforehand, by facts that later operations leave alone, then all facts hold at the end, whatever the order. It has no condition beyond those that it names.
-/
import Derived.Orders
import Derived.Below
import Derived.KernelRfl
namespace Go.Proofs.YtmgmdkagnhmihaaDoor
open Go Go.RowKit

namespace Reg

/-- The direct binding predecessors of an operation. -/
def direct (o : Oper) : List Nat := (o.after.toList.filter fun e => Region.binds .any e).map (·.on)

/-- What slot t holds. -/
def slot (a : Act) (t : Tmp) : Value := a.tmps.getD t undef

def dsts (ops : Array Oper) : List Tmp := ops.toList.filterMap (·.dst)

/-- What the table says of operation i. -/
def At (see : Nat → List Tmp) (fact : Nat → List Value → World → Prop) (i : Nat) (a : Act) (w : World) : Prop := fact i ((see i).map (slot a)) w

/-- THE TABLE IS IN ORDER: what it reads as it was before (olds) is written by such alone as wait for it; each operation's binding predecessors stand before it; what it leans on (deps) are its predecessors, or those of one of them; the slots that its fact looks at are written by itself, or by one that it leans on, or by nobody. -/
def okAt (ops : Array Oper) (see deps olds : Nat → List Nat) (i : Nat) (o : Oper) : Bool :=
  ((olds i).all fun t => (List.range ops.size).all fun k => match ops[k]? with
    | some ok => ok.dst != some t || (direct ok).contains i
    | none => true) &&
  ((direct o).all fun j => decide (j < i)) &&
  ((deps i).all fun j => (direct o).any fun k => j == k || (deps k).contains j) &&
  ((List.range ops.size).all fun k => match (ops[k]?).bind (·.dst) with
    | some d => !(see i).contains d || k == i || (deps i).contains k
    | none => true)

def ok (ops : Array Oper) (see deps olds : Nat → List Nat) : Bool :=
  (List.range ops.size).all fun i => match ops[i]? with
    | some o => okAt ops see deps olds i o
    | none => true

section
variable {P : Program} {ops : Array Oper} {Q : Exit → Act → World → Prop} {see deps olds : Nat → List Nat} {fact : Nat → List Value → World → Prop}

theorem ok_spec (h : ok ops see deps olds = true) {i : Nat} {o : Oper} (hi : ops[i]? = some o) : okAt ops see deps olds i o = true := by
  have hlt : i < ops.size := (Array.getElem?_eq_some_iff.1 hi).1
  have := List.all_eq_true.1 h i (List.mem_range.2 hlt)
  simpa [hi] using this

/-- What is known while the region runs. -/
structure Inv (ops : Array Oper) (see : Nat → List Nat) (fact : Nat → List Value → World → Prop) (B : Nat) (a0 : Act) (w0 : World) (listed : Array Bool) (a : Act) (w : World) : Prop where
  defers : a.defers = a0.defers
  size : a.tmps.size = a0.tmps.size
  old : ∀ t, (∀ k o, ops[k]? = some o → o.dst = some t → listed.getD k true = false) → slot a t = slot a0 t
  below : Below B w0 w
  down : ∀ i o, ops[i]? = some o → listed.getD i true = true → ∀ j ∈ direct o, listed.getD j true = true
  facts : ∀ i, i < ops.size → listed.getD i true = true → At see fact i a w

/-- What one operation owes. -/
def StepOk (P : Program) (ops : Array Oper) (Q : Exit → Act → World → Prop) (see deps olds : Nat → List Nat) (fact : Nat → List Value → World → Prop) (B : Nat) (a0 : Act) (w0 : World) (i : Nat) (o : Oper) : Prop :=
  ∀ (a : Act) (w : World), a.tmps.size = a0.tmps.size → (∀ t, t ∉ dsts ops → slot a t = slot a0 t) → (∀ t ∈ olds i, slot a t = slot a0 t) → Below B w0 w → (∀ j ∈ deps i, At see fact j a w) →
    wpOp P ops Q i (fun a' w' => ∃ v, a' = a.put o.dst v ∧ At see fact i a' w' ∧ Below B w w' ∧ ∀ j, j ≠ i → j < ops.size → At see fact j a w → At see fact j a w') a w

theorem slot_put_ne (a : Act) (dst : Option Tmp) (v : Value) (t : Tmp) (h : dst ≠ some t) : slot (a.put dst v) t = slot a t := by
  cases dst with
  | none => rfl
  | some d =>
    have hne : d ≠ t := fun e => h (by rw [e])
    simp [slot, Act.put, Array.getElem?_setIfInBounds_ne hne]

theorem slot_put_same (a : Act) (d : Tmp) (v : Value) (h : d < a.tmps.size) : slot (a.put (some d) v) d = v := by
  simp [slot, Act.put, h]

theorem size_put (a : Act) (dst : Option Tmp) (v : Value) : (a.put dst v).tmps.size = a.tmps.size := by
  cases dst <;> simp [Act.put]

theorem defers_put (a : Act) (dst : Option Tmp) (v : Value) : (a.put dst v).defers = a.defers := by
  cases dst <;> rfl

theorem at_put {i : Nat} {a : Act} {w : World} {dst : Option Tmp} {v : Value} (h : ∀ d, dst = some d → d ∉ see i) (hf : At see fact i a w) : At see fact i (a.put dst v) w := by
  unfold At at *
  have : (see i).map (slot (a.put dst v)) = (see i).map (slot a) := List.map_congr_left fun t ht => slot_put_ne a dst v t (fun e => h t e ht)
  rw [this]; exact hf

theorem listed_lt {listed : Array Bool} {j : Nat} (h : listed.getD j true = false) : j < listed.size := by
  rcases Nat.lt_or_ge j listed.size with h' | h'
  · exact h'
  · simp [Array.getElem?_eq_none h'] at h

theorem getD_set {listed : Array Bool} {i j : Nat} (h : (listed.setIfInBounds i true).getD j true = true) : j = i ∨ listed.getD j true = true := by
  by_cases e : j = i
  · exact .inl e
  · right; rw [getD_set_ne true (fun e' => e e'.symm)] at h; exact h

theorem no_writer {t : Tmp} (h : t ∉ dsts ops) {k : Nat} {o : Oper} (hk : ops[k]? = some o) : o.dst ≠ some t :=
  fun hd => h (List.mem_filterMap.2 ⟨o, by have := Array.mem_of_getElem? hk; simpa using this, hd⟩)
theorem Inv.rest {B : Nat} {a0 : Act} {w0 : World} {listed : Array Bool} {a : Act} {w : World} (h : Inv ops see fact B a0 w0 listed a w) (t : Tmp) (ht : t ∉ dsts ops) : slot a t = slot a0 t :=
  h.old t fun _ _ hk hd => absurd hd (no_writer ht hk)

/-- What an operation leans on is listed once it may come up, or has. -/
theorem deps_listed (hok : ok ops see deps olds = true) {listed : Array Bool} (down : ∀ i o, ops[i]? = some o → listed.getD i true = true → ∀ j ∈ direct o, listed.getD j true = true) :
    ∀ (n i : Nat) (o : Oper), i ≤ n → ops[i]? = some o → (∀ j ∈ direct o, listed.getD j true = true) → ∀ j ∈ deps i, listed.getD j true = true := by
  intro n
  induction n with
  | zero =>
    intro i o hi ho hd j hj
    have h := ok_spec hok ho
    simp only [okAt, Bool.and_eq_true, List.all_eq_true, List.any_eq_true, decide_eq_true_eq] at h
    obtain ⟨k, hk, _⟩ := h.1.2 j hj
    have := h.1.1.2 k hk
    omega
  | succ n ih =>
    intro i o hi ho hd j hj
    have h := ok_spec hok ho
    simp only [okAt, Bool.and_eq_true, List.all_eq_true, List.any_eq_true, decide_eq_true_eq] at h
    obtain ⟨k, hk, hjk⟩ := h.1.2 j hj
    have hki := h.1.1.2 k hk
    rcases Bool.or_eq_true _ _ ▸ hjk with e | e
    · have : j = k := by simpa using e
      subst this; exact hd j hk
    · have hko : k < ops.size := by have := (Array.getElem?_eq_some_iff.1 ho).1; omega
      exact ih k ops[k] (by omega) (Array.getElem?_eq_getElem hko) (down k ops[k] (Array.getElem?_eq_getElem hko) (hd k hk)) j (by simpa using e)

theorem wpAny_inv (hok : ok ops see deps olds = true) {B : Nat} {a0 : Act} {w0 : World}
    (hstep : ∀ i o, ops[i]? = some o → StepOk P ops Q see deps olds fact B a0 w0 i o)
    (hend : ∀ a w, a.defers = a0.defers → a.tmps.size = a0.tmps.size → (∀ t, t ∉ dsts ops → slot a t = slot a0 t) → Below B w0 w → (∀ i, i < ops.size → At see fact i a w) → Q .normal a w) :
    ∀ (fuel : Nat) (listed : Array Bool) (a : Act) (w : World), listed.size = ops.size → (listed.toList.countP fun b => !b) ≤ fuel → Inv ops see fact B a0 w0 listed a w → wpAny P .any ops Q fuel listed a w := by
  have final : ∀ (listed : Array Bool) (a : Act) (w : World), listed.size = ops.size → Inv ops see fact B a0 w0 listed a w → Region.ready .any ops listed = [] → Q .normal a w := by
    intro listed a w hsz hI hr
    have all : ∀ (n i : Nat), i < n → i < ops.size → listed.getD i true = true := by
      intro n
      induction n with
      | zero => intro i hi; omega
      | succ n ih =>
        intro i hi ho
        cases hl : listed.getD i true with
        | true => rfl
        | false =>
          have hmem : i ∈ Region.ready .any ops listed := by
            refine mem_ready.2 ⟨hl, ops[i], Array.getElem?_eq_getElem ho, fun e he hb => ?_⟩
            have hdir : e.on ∈ direct ops[i] := List.mem_map.2 ⟨e, List.mem_filter.2 ⟨by simpa using he, hb⟩, rfl⟩
            have h := ok_spec hok (Array.getElem?_eq_getElem ho)
            simp only [okAt, Bool.and_eq_true, List.all_eq_true, decide_eq_true_eq] at h
            have hlt := h.1.1.2 _ hdir
            have := ih e.on (by omega) (by omega)
            have hs : e.on < listed.size := by omega
            simp [hs] at this ⊢
            exact this
          rw [hr] at hmem; cases hmem
    exact hend a w hI.defers hI.size hI.rest hI.below fun i hi => hI.facts i hi (all (i + 1) i (by omega) hi)
  intro fuel
  induction fuel with
  | zero =>
    intro listed a w hsz hc hI
    have hnil : Region.ready .any ops listed = [] := by
      rcases hr : Region.ready .any ops listed with _ | ⟨x, xs⟩
      · rfl
      · exfalso
        have hx : x ∈ Region.ready .any ops listed := by rw [hr]; simp
        have h0 := (mem_ready.1 hx).1
        have hlt := listed_lt h0
        have : false ∈ listed.toList := by
          have : listed[x] = false := by simpa [hlt] using h0
          exact this ▸ (by simp : listed[x] ∈ listed.toList)
        have hp : 0 < listed.toList.countP fun b => !b := List.countP_pos_iff.2 ⟨false, this, rfl⟩
        omega
    exact ⟨hnil, final listed a w hsz hI hnil⟩
  | succ fuel ih =>
    intro listed a w hsz hc hI
    refine ⟨final listed a w hsz hI, fun i hi => ?_⟩
    obtain ⟨h0, o, ho, hall⟩ := mem_ready.1 hi
    have hilt : i < ops.size := (Array.getElem?_eq_some_iff.1 ho).1
    have hdir : ∀ j ∈ direct o, listed.getD j true = true := by
      intro j hj
      obtain ⟨e, he, rfl⟩ := List.mem_map.1 hj
      obtain ⟨he1, he2⟩ := List.mem_filter.1 he
      have := hall e (by simpa using he1) he2
      rcases Nat.lt_or_ge e.on listed.size with h' | h'
      · simp [h'] at this ⊢; exact this
      · simp [Array.getElem?_eq_none h'] at this
    have hdeps := deps_listed hok hI.down i i o (Nat.le_refl _) ho hdir
    have hdepslt : ∀ j ∈ deps i, j < ops.size := by
      intro j hj
      -- every dep is before i
      have key : ∀ (n i : Nat) (o : Oper), i ≤ n → ops[i]? = some o → ∀ j ∈ deps i, j < i := by
        intro n
        induction n with
        | zero =>
          intro i o hi ho j hj
          have h := ok_spec hok ho
          simp only [okAt, Bool.and_eq_true, List.all_eq_true, List.any_eq_true, decide_eq_true_eq] at h
          obtain ⟨k, hk, _⟩ := h.1.2 j hj
          have := h.1.1.2 k hk
          omega
        | succ n ihn =>
          intro i o hi ho j hj
          have h := ok_spec hok ho
          simp only [okAt, Bool.and_eq_true, List.all_eq_true, List.any_eq_true, decide_eq_true_eq] at h
          obtain ⟨k, hk, hjk⟩ := h.1.2 j hj
          have hki := h.1.1.2 k hk
          rcases Bool.or_eq_true _ _ ▸ hjk with e | e
          · have : j = k := by simpa using e
            omega
          · have hko : k < ops.size := by have := (Array.getElem?_eq_some_iff.1 ho).1; omega
            have := ihn k ops[k] (by omega) (Array.getElem?_eq_getElem hko) j (by simpa using e)
            omega
      have := key i i o (Nat.le_refl _) ho j hj
      omega
    have hOld : ∀ t ∈ olds i, slot a t = slot a0 t := by
      intro t ht
      refine hI.old t fun k ok hk hd => ?_
      have h := ok_spec hok ho
      simp only [okAt, Bool.and_eq_true, List.all_eq_true] at h
      have hkk := h.1.1.1 t ht k (List.mem_range.2 (Array.getElem?_eq_some_iff.1 hk).1)
      simp only [hk, hd, bne_self_eq_false, Bool.false_or, List.contains_iff_mem] at hkk
      cases hl : listed.getD k true with
      | false => rfl
      | true =>
        have := hI.down k ok hk hl i hkk
        rw [this] at h0; cases h0
    refine wpOp_mono ?_ (hstep i o ho a w hI.size hI.rest hOld hI.below fun j hj => hI.facts j (hdepslt j hj) (hdeps j hj))
    rintro a' w' ⟨v, rfl, hfi, hbw, hkeep⟩
    have hnl : ∀ j, j < ops.size → listed.getD j true = true → i ∉ deps j := by
      intro j hj hlj hmem
      have := deps_listed hok hI.down j j ops[j] (Nat.le_refl _) (Array.getElem?_eq_getElem hj) (hI.down j ops[j] (Array.getElem?_eq_getElem hj) hlj) i hmem
      rw [this] at h0; cases h0
    refine ih _ _ _ (by simpa using hsz) ?_ ⟨?_, ?_, ?_, ?_, ?_, ?_⟩
    · -- the count goes down
      have hls : i < listed.size := listed_lt h0
      have hv : listed[i] = false := by simpa [hls] using h0
      have hset : (listed.setIfInBounds i true).toList = listed.toList.set i true := by simp
      rw [hset, List.countP_set (by simpa using hls)]
      have h1 : listed.toList[i] = false := by simpa using hv
      simp only [h1, Bool.not_false, if_true, Bool.not_true, Bool.false_eq_true, if_false]
      omega
    · rw [defers_put]; exact hI.defers
    · rw [size_put]; exact hI.size
    · intro t ht
      have hne : o.dst ≠ some t := fun hd => by
        have := ht i o ho hd
        have hls : i < listed.size := listed_lt h0
        simp [hls] at this
      rw [slot_put_ne _ _ _ _ hne]
      refine hI.old t fun k ok hk hd => ?_
      have := ht k ok hk hd
      by_cases e : i = k
      · subst e; exact h0
      · rwa [getD_set_ne true e] at this
    · exact hI.below.trans hbw
    · intro j oj hoj hlj k hk
      rcases getD_set hlj with rfl | hl
      · rw [ho] at hoj; cases hoj
        have hki : k ≠ j := by
          have h := ok_spec hok ho
          simp only [okAt, Bool.and_eq_true, List.all_eq_true, decide_eq_true_eq] at h
          have := h.1.1.2 k hk
          omega
        rw [getD_set_ne true (Ne.symm hki)]; exact hdir k hk
      · have := hI.down j oj hoj hl k hk
        by_cases e : i = k
        · subst e; rw [this] at h0; cases h0
        · rw [getD_set_ne true e]; exact this
    · intro j hj hlj
      rcases getD_set hlj with rfl | hl
      · exact hfi
      · have hji : j ≠ i := by rintro rfl; rw [hl] at h0; cases h0
        have hfj := hkeep j hji hj (hI.facts j hj hl)
        refine at_put (fun d hd hmem => ?_) hfj
        have h := ok_spec hok (Array.getElem?_eq_getElem hj)
        simp only [okAt, Bool.and_eq_true, List.all_eq_true] at h
        have := h.2 i (List.mem_range.2 hilt)
        simp only [ho, Option.bind_some, hd] at this
        simp only [Bool.or_eq_true, Bool.not_eq_true', beq_iff_eq, List.contains_iff_mem] at this
        rcases this with (h1 | h1) | h1
        · simp [hmem] at h1
        · exact hji h1.symm
        · exact hnl j hj hl h1

/-- A REGION THAT DRAWS ITS ORDER, BY THE TABLE. -/
theorem wp_region_facts {id : Nat} {a : Act} {w : World} (hm : P.follows .mixedOrders = true) (see deps olds : Nat → List Nat) (fact : Nat → List Value → World → Prop) (hok : ok ops see deps olds = true)
    (B : Nat) (hstep : ∀ i o, ops[i]? = some o → StepOk P ops Q see deps olds fact B a w i o)
    (hend : ∀ a' w', a'.defers = a.defers → a'.tmps.size = a.tmps.size → (∀ t, t ∉ dsts ops → slot a' t = slot a t) → Below B w w' → (∀ i, i < ops.size → At see fact i a' w') → Q .normal a' w') :
    (Code.region id ops true).wp P Q a w := by
  refine wp_region_any hm ?_
  refine wpAny_inv hok (B := B) (a0 := a) (w0 := w) hstep hend ops.size _ a _ (by simp) ?_ ⟨rfl, rfl, fun _ _ => rfl, (Below.refl _ _).drew, ?_, ?_⟩
  · refine Nat.le_trans List.countP_le_length ?_
    simp
  · intro i o hi hl
    have hlt : i < ops.size := (Array.getElem?_eq_some_iff.1 hi).1
    simp [hlt] at hl
  · intro i hi hl
    simp [hi] at hl
end
end Reg
end Go.Proofs.YtmgmdkagnhmihaaDoor
