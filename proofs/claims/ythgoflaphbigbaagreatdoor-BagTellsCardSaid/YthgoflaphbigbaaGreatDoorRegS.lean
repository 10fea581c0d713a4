/-
  The law for a statement whose order Go leaves open, with a condition that sees which operations have come up, and some slots. It has no condition beyond those that it names.
-/
import Derived.Test.YthgoflaphbigbaaGreatDoorRun
namespace Go.Proofs.YthgoflaphbigbaaGreatDoor
open Go Go.RowKit

namespace RegS
open Reg

section
variable {P : Program} {ops : Array Oper} {Q : Exit → Act → World → Prop} {see deps olds : Nat → List Nat} {fact : Nat → List Value → World → Prop}

/-- What is known while the region runs. -/
structure Inv (ops : Array Oper) (see : Nat → List Nat) (fact : Nat → List Value → World → Prop) (J : Array Bool → List Value → World → Prop) (ms : List Tmp) (a0 : Act) (listed : Array Bool) (a : Act) (w : World) : Prop where
  defers : a.defers = a0.defers
  size : a.tmps.size = a0.tmps.size
  old : ∀ t, (∀ k o, ops[k]? = some o → o.dst = some t → listed.getD k true = false) → slot a t = slot a0 t
  below : J listed (ms.map (slot a)) w
  down : ∀ i o, ops[i]? = some o → listed.getD i true = true → ∀ j ∈ direct o, listed.getD j true = true
  facts : ∀ i, i < ops.size → listed.getD i true = true → At see fact i a w

/-- What one operation owes. -/
def StepOk (P : Program) (ops : Array Oper) (Q : Exit → Act → World → Prop) (see deps olds : Nat → List Nat) (fact : Nat → List Value → World → Prop) (J : Array Bool → List Value → World → Prop) (ms : List Tmp) (a0 : Act) (i : Nat) (o : Oper) : Prop :=
  ∀ (a : Act) (w : World) (listed : Array Bool), a.tmps.size = a0.tmps.size → (∀ t, t ∉ dsts ops → slot a t = slot a0 t) → (∀ t ∈ olds i, slot a t = slot a0 t) → listed.getD i true = false → listed.size = ops.size → (∀ j ∈ direct o, listed.getD j true = true) → J listed (ms.map (slot a)) w → (∀ j ∈ deps i, At see fact j a w) →
    wpOp P ops Q i (fun a' w' => ∃ v, a' = a.put o.dst v ∧ At see fact i a' w' ∧ J (listed.setIfInBounds i true) (ms.map (slot a')) w' ∧ ∀ j, j ≠ i → j < ops.size → At see fact j a w → At see fact j a w') a w


theorem Inv.rest {J : Array Bool → List Value → World → Prop} {ms : List Tmp} {a0 : Act} {listed : Array Bool} {a : Act} {w : World} (h : Inv ops see fact J ms a0 listed a w) (t : Tmp) (ht : t ∉ dsts ops) : slot a t = slot a0 t :=
  h.old t fun _ _ hk hd => absurd hd (no_writer ht hk)

theorem wpAny_inv (hok : ok ops see deps olds = true) {J : Array Bool → List Value → World → Prop} {ms : List Tmp} {a0 : Act}
    (hstep : ∀ i o, ops[i]? = some o → StepOk P ops Q see deps olds fact J ms a0 i o)
    (hend : ∀ a w (listed : Array Bool), (∀ i, i < ops.size → listed.getD i true = true) → a.defers = a0.defers → a.tmps.size = a0.tmps.size → (∀ t, t ∉ dsts ops → slot a t = slot a0 t) → J listed (ms.map (slot a)) w → (∀ i, i < ops.size → At see fact i a w) → Q .normal a w) :
    ∀ (fuel : Nat) (listed : Array Bool) (a : Act) (w : World), listed.size = ops.size → (listed.toList.countP fun b => !b) ≤ fuel → Inv ops see fact J ms a0 listed a w → wpAny P .any ops Q fuel listed a w := by
  have final : ∀ (listed : Array Bool) (a : Act) (w : World), listed.size = ops.size → Inv ops see fact J ms a0 listed a w → Region.ready .any ops listed = [] → Q .normal a w := by
    intro listed a w hsz hI hr
    have all : ∀ (n i : Nat), i < n → i < ops.size → listed.getD i true = true := by
      intro n
      induction n with
      | zero => intro i hi; omega
      | succ n ih =>
        intro i hi ho
        cases hl : listed.getD i true with
        | true => rfl
        | false =>
          have hmem : i ∈ Region.ready .any ops listed := by
            refine mem_ready.2 ⟨hl, ops[i], Array.getElem?_eq_getElem ho, fun e he hb => ?_⟩
            have hdir : e.on ∈ direct ops[i] := List.mem_map.2 ⟨e, List.mem_filter.2 ⟨by simpa using he, hb⟩, rfl⟩
            have h := ok_spec hok (Array.getElem?_eq_getElem ho)
            simp only [okAt, Bool.and_eq_true, List.all_eq_true, decide_eq_true_eq] at h
            have hlt := h.1.1.2 _ hdir
            have := ih e.on (by omega) (by omega)
            have hs : e.on < listed.size := by omega
            simp [hs] at this ⊢
            exact this
          rw [hr] at hmem; cases hmem
    exact hend a w listed (fun i hi => all (i + 1) i (by omega) hi) hI.defers hI.size hI.rest hI.below fun i hi => hI.facts i hi (all (i + 1) i (by omega) hi)
  intro fuel
  induction fuel with
  | zero =>
    intro listed a w hsz hc hI
    have hnil : Region.ready .any ops listed = [] := by
      rcases hr : Region.ready .any ops listed with _ | ⟨x, xs⟩
      · rfl
      · exfalso
        have hx : x ∈ Region.ready .any ops listed := by rw [hr]; simp
        have h0 := (mem_ready.1 hx).1
        have hlt := listed_lt h0
        have : false ∈ listed.toList := by
          have : listed[x] = false := by simpa [hlt] using h0
          exact this ▸ (by simp : listed[x] ∈ listed.toList)
        have hp : 0 < listed.toList.countP fun b => !b := List.countP_pos_iff.2 ⟨false, this, rfl⟩
        omega
    exact ⟨hnil, final listed a w hsz hI hnil⟩
  | succ fuel ih =>
    intro listed a w hsz hc hI
    refine ⟨final listed a w hsz hI, fun i hi => ?_⟩
    obtain ⟨h0, o, ho, hall⟩ := mem_ready.1 hi
    have hilt : i < ops.size := (Array.getElem?_eq_some_iff.1 ho).1
    have hdir : ∀ j ∈ direct o, listed.getD j true = true := by
      intro j hj
      obtain ⟨e, he, rfl⟩ := List.mem_map.1 hj
      obtain ⟨he1, he2⟩ := List.mem_filter.1 he
      have := hall e (by simpa using he1) he2
      rcases Nat.lt_or_ge e.on listed.size with h' | h'
      · simp [h'] at this ⊢; exact this
      · simp [Array.getElem?_eq_none h'] at this
    have hdeps := deps_listed hok hI.down i i o (Nat.le_refl _) ho hdir
    have hdepslt : ∀ j ∈ deps i, j < ops.size := by
      intro j hj
      -- every dep is before i
      have key : ∀ (n i : Nat) (o : Oper), i ≤ n → ops[i]? = some o → ∀ j ∈ deps i, j < i := by
        intro n
        induction n with
        | zero =>
          intro i o hi ho j hj
          have h := ok_spec hok ho
          simp only [okAt, Bool.and_eq_true, List.all_eq_true, List.any_eq_true, decide_eq_true_eq] at h
          obtain ⟨k, hk, _⟩ := h.1.2 j hj
          have := h.1.1.2 k hk
          omega
        | succ n ihn =>
          intro i o hi ho j hj
          have h := ok_spec hok ho
          simp only [okAt, Bool.and_eq_true, List.all_eq_true, List.any_eq_true, decide_eq_true_eq] at h
          obtain ⟨k, hk, hjk⟩ := h.1.2 j hj
          have hki := h.1.1.2 k hk
          rcases Bool.or_eq_true _ _ ▸ hjk with e | e
          · have : j = k := by simpa using e
            omega
          · have hko : k < ops.size := by have := (Array.getElem?_eq_some_iff.1 ho).1; omega
            have := ihn k ops[k] (by omega) (Array.getElem?_eq_getElem hko) j (by simpa using e)
            omega
      have := key i i o (Nat.le_refl _) ho j hj
      omega
    have hOld : ∀ t ∈ olds i, slot a t = slot a0 t := by
      intro t ht
      refine hI.old t fun k ok hk hd => ?_
      have h := ok_spec hok ho
      simp only [okAt, Bool.and_eq_true, List.all_eq_true] at h
      have hkk := h.1.1.1 t ht k (List.mem_range.2 (Array.getElem?_eq_some_iff.1 hk).1)
      simp only [hk, hd, bne_self_eq_false, Bool.false_or, List.contains_iff_mem] at hkk
      cases hl : listed.getD k true with
      | false => rfl
      | true =>
        have := hI.down k ok hk hl i hkk
        rw [this] at h0; cases h0
    refine wpOp_mono ?_ (hstep i o ho a w listed hI.size hI.rest hOld h0 hsz hdir hI.below fun j hj => hI.facts j (hdepslt j hj) (hdeps j hj))
    rintro a' w' ⟨v, rfl, hfi, hbw, hkeep⟩
    have hnl : ∀ j, j < ops.size → listed.getD j true = true → i ∉ deps j := by
      intro j hj hlj hmem
      have := deps_listed hok hI.down j j ops[j] (Nat.le_refl _) (Array.getElem?_eq_getElem hj) (hI.down j ops[j] (Array.getElem?_eq_getElem hj) hlj) i hmem
      rw [this] at h0; cases h0
    refine ih _ _ _ (by simpa using hsz) ?_ ⟨?_, ?_, ?_, ?_, ?_, ?_⟩
    · -- the count goes down
      have hls : i < listed.size := listed_lt h0
      have hv : listed[i] = false := by simpa [hls] using h0
      have hset : (listed.setIfInBounds i true).toList = listed.toList.set i true := by simp
      rw [hset, List.countP_set (by simpa using hls)]
      have h1 : listed.toList[i] = false := by simpa using hv
      simp only [h1, Bool.not_false, if_true, Bool.not_true, Bool.false_eq_true, if_false]
      omega
    · rw [defers_put]; exact hI.defers
    · rw [size_put]; exact hI.size
    · intro t ht
      have hne : o.dst ≠ some t := fun hd => by
        have := ht i o ho hd
        have hls : i < listed.size := listed_lt h0
        simp [hls] at this
      rw [slot_put_ne _ _ _ _ hne]
      refine hI.old t fun k ok hk hd => ?_
      have := ht k ok hk hd
      by_cases e : i = k
      · subst e; exact h0
      · rwa [getD_set_ne true e] at this
    · exact hbw
    · intro j oj hoj hlj k hk
      rcases getD_set hlj with rfl | hl
      · rw [ho] at hoj; cases hoj
        have hki : k ≠ j := by
          have h := ok_spec hok ho
          simp only [okAt, Bool.and_eq_true, List.all_eq_true, decide_eq_true_eq] at h
          have := h.1.1.2 k hk
          omega
        rw [getD_set_ne true (Ne.symm hki)]; exact hdir k hk
      · have := hI.down j oj hoj hl k hk
        by_cases e : i = k
        · subst e; rw [this] at h0; cases h0
        · rw [getD_set_ne true e]; exact this
    · intro j hj hlj
      rcases getD_set hlj with rfl | hl
      · exact hfi
      · have hji : j ≠ i := by rintro rfl; rw [hl] at h0; cases h0
        have hfj := hkeep j hji hj (hI.facts j hj hl)
        refine at_put (fun d hd hmem => ?_) hfj
        have h := ok_spec hok (Array.getElem?_eq_getElem hj)
        simp only [okAt, Bool.and_eq_true, List.all_eq_true] at h
        have := h.2 i (List.mem_range.2 hilt)
        simp only [ho, Option.bind_some, hd] at this
        simp only [Bool.or_eq_true, Bool.not_eq_true', beq_iff_eq, List.contains_iff_mem] at this
        rcases this with (h1 | h1) | h1
        · simp [hmem] at h1
        · exact hji h1.symm
        · exact hnl j hj hl h1

/-- A REGION THAT DRAWS ITS ORDER, BY THE TABLE. -/
theorem wp_region_facts {id : Nat} {a : Act} {w : World} (hm : P.follows .mixedOrders = true) (see deps olds : Nat → List Nat) (fact : Nat → List Value → World → Prop) (hok : ok ops see deps olds = true)
    (J : Array Bool → List Value → World → Prop) (ms : List Tmp) (hJ : J (Array.replicate ops.size false) (ms.map (slot a)) w.drew) (hstep : ∀ i o, ops[i]? = some o → StepOk P ops Q see deps olds fact J ms a i o)
    (hend : ∀ a' w' (listed : Array Bool), (∀ i, i < ops.size → listed.getD i true = true) → a'.defers = a.defers → a'.tmps.size = a.tmps.size → (∀ t, t ∉ dsts ops → slot a' t = slot a t) → J listed (ms.map (slot a')) w' → (∀ i, i < ops.size → At see fact i a' w') → Q .normal a' w') :
    (Code.region id ops true).wp P Q a w := by
  refine wp_region_any hm ?_
  refine wpAny_inv hok (J := J) (ms := ms) (a0 := a) hstep hend ops.size _ a _ (by simp) ?_ ⟨rfl, rfl, fun _ _ => rfl, hJ, ?_, ?_⟩
  · refine Nat.le_trans List.countP_le_length ?_
    simp
  · intro i o hi hl
    have hlt : i < ops.size := (Array.getElem?_eq_some_iff.1 hi).1
    simp [hlt] at hl
  · intro i hi hl
    simp [hi] at hl
end

section
variable {P : Program} {ops : Array Oper} {Q : Exit → Act → World → Prop}

/-- What one operation owes, in the frame at the end. -/
def Does (P : Program) (ops : Array Oper) (vals : List (Tmp × Value)) (sf : Nat → List Tmp) (p : Nat → List Value → World → Prop) (J : Array Bool → List Value → World → Prop) (ms : List Tmp) (listed : Array Bool) (F : Act) (i : Nat) (o : Oper) (w : World) : Prop :=
  if Region.wanted o (yielded ops F.tmps) = true then
    Oper.wp P o F w (fun a' w' => ∃ v, a' = F.put o.dst v ∧ (∀ d u, o.dst = some d → (d, u) ∈ vals → v = u) ∧ p i ((sf i).map (slot a')) w' ∧ J (listed.setIfInBounds i true) (ms.map (slot a')) w' ∧
      ∀ j, j ≠ i → j < ops.size → p j ((sf j).map (slot F)) w → p j ((sf j).map (slot F)) w') (fun _ _ _ => False)
  else ((∀ d u, o.dst = some d → (d, u) ∈ vals → undef = u) ∧ p i ((sf i).map (slot (F.put o.dst undef))) w) ∧ J (listed.setIfInBounds i true) (ms.map (slot (F.put o.dst undef))) w


/-- The table is in order; the slots fl are free, and early operations read them as they were. -/
def planS (ops : Array Oper) (n : Nat) (vals late : List (Tmp × Value)) (fl free : List Tmp) (sf : Nat → List Tmp) (early : Nat → Bool) : Bool :=
  (((vals ++ late).map (·.1) ++ free).all fun t => decide (t < n) && (dsts ops).contains t) &&
  ((dsts ops).all fun t => ((vals ++ late).map (·.1) ++ free).contains t) &&
  decide (((vals ++ late).map (·.1) ++ free).Nodup) &&
  decide ((dsts ops).Nodup) &&
  ((List.range ops.size).all fun i => match ops[i]? with
    | none => true
    | some o =>
      ((direct o).all fun j => decide (j < i)) &&
      ((oldsOf ops (late ++ fl.map fun t => (t, undef)) early i).all fun t => (List.range ops.size).all fun k => match ops[k]? with
        | some ok => ok.dst != some t || (direct ok).contains i
        | none => true) &&
      ((o.looksAt ops).all fun t => !(dsts ops).contains t || (oldsOf ops (late ++ fl.map fun t => (t, undef)) early i).contains t || (direct o).any fun j => ((ops[j]?).bind (·.dst)) == some t) &&
      ((sf i).all fun t => free.contains t && (o.dst == some t || (direct o).any fun j => ((ops[j]?).bind (·.dst)) == some t)))
theorem wp_region_run {id : Nat} {a : Act} {w : World} (hm : P.follows .mixedOrders = true) (hs : Region.noSelect ops = true)
    (vals late : List (Tmp × Value)) (fl free : List Tmp) (hfl : ∀ t ∈ fl, t ∈ free) (sf : Nat → List Tmp) (early : Nat → Bool) (p : Nat → List Value → World → Prop) (n : Nat) (hn : a.tmps.size = n) (hok : planS ops n vals late fl free sf early = true)
    (J : Array Bool → List Value → World → Prop) (ms : List Tmp) (hms : ∀ t ∈ ms, t ∈ free) (hJ : J (Array.replicate ops.size false) (ms.map (slot a)) w.drew) (hstep : ∀ i o, ops[i]? = some o → ∀ (g : Tmp → Value) (w' : World) (listed : Array Bool), listed.getD i true = false → listed.size = ops.size → (∀ j ∈ direct o, listed.getD j true = true) → J listed (ms.map (slot (fr a vals late free early i g))) w' → (∀ t ∈ fl, t ∈ oldsOf ops (late ++ fl.map fun t => (t, undef)) early i → slot (fr a vals late free early i g) t = slot a t) → (∀ j ∈ direct o, p j ((sf j).map (slot (fr a vals late free early i g))) w') → Does P ops (vals ++ late) sf p J ms listed (fr a vals late free early i g) i o w')
    (hend : ∀ (g : Tmp → Value) (w' : World) (listed : Array Bool), (∀ i, i < ops.size → listed.getD i true = true) → J listed (ms.map (slot (fin a (vals ++ late) free g))) w' → (∀ i, i < ops.size → p i ((sf i).map (slot (fin a (vals ++ late) free g))) w') → Q .normal (fin a (vals ++ late) free g) w') :
    (Code.region id ops true).wp P Q a w := by
  have hok' := hok
  simp only [planS, Bool.and_eq_true, List.all_eq_true, decide_eq_true_eq, List.contains_iff_mem] at hok
  obtain ⟨⟨⟨⟨hk1, hk2⟩, hnod⟩, hdn⟩, hop⟩ := hok
  have hkeys : ∀ (l : List (Tmp × Value)) (g : Tmp → Value), (l ++ free.map fun t => (t, g t)).map (·.1) = l.map (·.1) ++ free := fun l g => by simp [List.map_map, Function.comp_def]
  have hopi : ∀ i o, ops[i]? = some o → (∀ j ∈ direct o, j < i) ∧ (∀ t ∈ o.looksAt ops, t ∈ dsts ops → t ∈ oldsOf ops (late ++ fl.map fun t => (t, undef)) early i ∨ ∃ j ∈ direct o, (ops[j]?).bind (·.dst) = some t) ∧ (∀ t ∈ sf i, t ∈ free ∧ (o.dst = some t ∨ ∃ j ∈ direct o, (ops[j]?).bind (·.dst) = some t)) := by
    intro i o hi
    have := hop i (List.mem_range.2 (Array.getElem?_eq_some_iff.1 hi).1)
    simp only [hi, Bool.and_eq_true, List.all_eq_true, decide_eq_true_eq, Bool.or_eq_true, Bool.not_eq_true', List.any_eq_true, beq_iff_eq] at this
    refine ⟨this.1.1.1, fun t ht hd => ?_, fun t ht => ⟨by simpa using (this.2 t ht).1, (this.2 t ht).2⟩⟩
    rcases this.1.2 t ht with (h | h) | h
    · simp [hd] at h
    · exact .inl (by simpa using h)
    · exact .inr h
  -- the facts of the law
  have hnod1 : (vals.map (·.1) ++ free).Nodup := by
    have h := hnod
    simp only [List.map_append, List.append_assoc] at h
    have h1 := List.nodup_append.1 h
    have h2 := List.nodup_append.1 h1.2.1
    exact List.nodup_append.2 ⟨h1.1, h2.2.1, fun x hx y hy => h1.2.2 x hx y (List.mem_append_right _ hy)⟩
  have hlatefree : ∀ t, t ∈ late.map (·.1) → t ∉ vals.map (·.1) ++ free := by
    intro t ht hm
    have h := hnod
    simp only [List.map_append, List.append_assoc] at h
    have h1 := List.nodup_append.1 h
    have h2 := List.nodup_append.1 h1.2.1
    rcases List.mem_append.1 hm with hv | hf
    · exact h1.2.2 t hv t (List.mem_append_left _ ht) rfl
    · exact h2.2.2 t ht t hf rfl
  -- what slot t holds in the frame of operation i
  have hslot : ∀ (i : Nat) (a' : Act), a'.tmps.size = a.tmps.size → (∀ t, t ∉ dsts ops → slot a' t = slot a t) → ∀ t, (t ∉ dsts ops ∨ t ∈ free ∨ (∃ v, (t, v) ∈ vals ∧ slot a' t = v) ∨ (early i = false ∧ ∃ v, (t, v) ∈ late ∧ slot a' t = v) ∨ (early i = true ∧ t ∈ late.map (·.1) ∧ slot a' t = slot a t)) → slot a' t = slot (fr a vals late free early i (slot a')) t := by
    intro i a' hsz hrest t ht
    have hfree' : t ∈ free → ∀ l, (l.map (·.1) ++ free).Nodup → slot (fin a l free (slot a')) t = slot a' t := by
      intro hf l hl
      rw [fin, putAll_at _ t (slot a' t) a (by rw [hn]; exact (hk1 t (List.mem_append_right _ hf)).1) (by rw [hkeys]; exact hl) (List.mem_append_right _ (List.mem_map.2 ⟨t, hf, rfl⟩))]
    have hval' : ∀ v, (t, v) ∈ vals ++ late → ∀ l, (t, v) ∈ l → (l.map (·.1) ++ free).Nodup → slot (fin a l free (slot a')) t = v := by
      intro v hv l hl hnn
      rw [fin, putAll_at _ t v a (by rw [hn]; exact (hk1 t (List.mem_append_left _ (List.mem_map.2 ⟨_, hv, rfl⟩))).1) (by rw [hkeys]; exact hnn) (List.mem_append_left _ hl)]
    unfold fr
    rcases ht with ht | ht | ⟨v, hv, hs⟩ | ⟨he, v, hv, hs⟩ | ⟨he, ht, hs⟩
    · have no : t ∉ (vals ++ late).map (·.1) ++ free := fun hm => ht (hk1 t hm).2
      have no1 : t ∉ vals.map (·.1) ++ free := fun hm => no (by
        simp only [List.map_append, List.append_assoc]
        rcases List.mem_append.1 hm with h | h
        · exact List.mem_append_left _ h
        · exact List.mem_append_right _ (List.mem_append_right _ h))
      split
      · rw [hrest t ht, fin, putAll_other _ _ _ (by rw [hkeys]; exact no1)]
      · rw [hrest t ht, fin, putAll_other _ _ _ (by rw [hkeys]; exact no)]
    · split
      · exact (hfree' ht _ hnod1).symm
      · exact (hfree' ht _ hnod).symm
    · split
      · rw [hval' v (List.mem_append_left _ hv) vals hv hnod1, hs]
      · rw [hval' v (List.mem_append_left _ hv) _ (List.mem_append_left _ hv) hnod, hs]
    · rw [if_neg (by rw [he]; exact Bool.false_ne_true), hval' v (List.mem_append_right _ hv) _ (List.mem_append_right _ hv) hnod, hs]
    · rw [if_pos he, hs, fin, putAll_other _ _ _ (by rw [hkeys]; exact hlatefree t ht)]
  have hslotE : ∀ (a' : Act), a'.tmps.size = a.tmps.size → (∀ t, t ∉ dsts ops → slot a' t = slot a t) → ∀ t, (t ∉ dsts ops ∨ t ∈ free ∨ ∃ v, (t, v) ∈ vals ++ late ∧ slot a' t = v) → slot a' t = slot (fin a (vals ++ late) free (slot a')) t := by
    intro a' hsz hrest t ht
    rcases ht with ht | ht | ⟨v, hv, hs⟩
    · rw [hrest t ht, fin, putAll_other]
      rw [hkeys]
      intro hm
      exact ht (hk1 t hm).2
    · rw [fin, putAll_at _ t (slot a' t) a (by rw [hn]; exact (hk1 t (List.mem_append_right _ ht)).1) (by rw [hkeys]; exact hnod) (List.mem_append_right _ (List.mem_map.2 ⟨t, ht, rfl⟩))]
    · rw [hs, fin, putAll_at _ t v a (by rw [hn]; exact (hk1 t (List.mem_append_left _ (List.mem_map.2 ⟨_, hv, rfl⟩))).1) (by rw [hkeys]; exact hnod) (List.mem_append_left _ hv)]
  have hallOk : ok ops (seeOf ops sf) (depsOf ops) (oldsOf ops (late ++ fl.map fun t => (t, undef)) early) = true := by
    refine List.all_eq_true.2 fun i hi => ?_
    have hlt := List.mem_range.1 hi
    rw [Array.getElem?_eq_getElem hlt]
    obtain ⟨h1, h2, h3⟩ := hopi i ops[i] (Array.getElem?_eq_getElem hlt)
    simp only [okAt, Bool.and_eq_true, List.all_eq_true, decide_eq_true_eq, List.any_eq_true, Bool.or_eq_true, beq_iff_eq]
    have hold : ∀ t ∈ oldsOf ops (late ++ fl.map fun t => (t, undef)) early i, ∀ k ∈ List.range ops.size, (match ops[k]? with | some ok => ok.dst != some t || (direct ok).contains i | none => true) = true := by
      have := hop i (List.mem_range.2 hlt)
      rw [Array.getElem?_eq_getElem hlt] at this
      simp only [Bool.and_eq_true, List.all_eq_true] at this
      exact this.1.1.2
    refine ⟨⟨⟨hold, h1⟩, fun j hj => ⟨j, by simpa [depsOf, hlt] using hj, .inl rfl⟩⟩, fun k hk => ?_⟩
    have hklt := List.mem_range.1 hk
    rw [Array.getElem?_eq_getElem hklt]
    cases hd : ops[k].dst with
    | none => simp [hd]
    | some d =>
      simp only [Option.bind_some, hd, Bool.or_eq_true, Bool.not_eq_true', beq_iff_eq, List.contains_iff_mem]
      by_cases hm : d ∈ seeOf ops sf i
      · -- who writes d
        have uniq : ∀ j, (ops[j]?).bind (·.dst) = some d → j = k := by
          intro j hj
          cases hoj : ops[j]? with
          | none => rw [hoj] at hj; cases hj
          | some oj =>
            rw [hoj] at hj
            have hjlt : j < ops.size := (Array.getElem?_eq_some_iff.1 hoj).1
            -- dsts has no doubles
            have key : ∀ (l : List Oper) (x y : Nat) (ox oy : Oper), (l.filterMap (·.dst)).Nodup → l[x]? = some ox → l[y]? = some oy → ox.dst = some d → oy.dst = some d → x = y := by
              intro l
              induction l with
              | nil => intro x y ox oy _ hx; simp at hx
              | cons z l ih =>
                intro x y ox oy hnn hx hy hdx hdy
                have hl : (l.filterMap (·.dst)).Nodup := by
                  cases hz : z.dst with
                  | none => simpa [List.filterMap_cons, hz] using hnn
                  | some dz => rw [List.filterMap_cons_some (h := hz)] at hnn; exact (List.nodup_cons.1 hnn).2
                have hz0 : z.dst = some d → d ∉ l.filterMap (·.dst) := fun hz => by
                  rw [List.filterMap_cons_some (h := hz)] at hnn; exact (List.nodup_cons.1 hnn).1
                cases x with
                | zero =>
                  cases y with
                  | zero => rfl
                  | succ y =>
                    simp at hx hy; subst hx
                    exact absurd (List.mem_filterMap.2 ⟨oy, List.mem_of_getElem? hy, hdy⟩) (hz0 hdx)
                | succ x =>
                  cases y with
                  | zero =>
                    simp at hx hy; subst hy
                    exact absurd (List.mem_filterMap.2 ⟨ox, List.mem_of_getElem? hx, hdx⟩) (hz0 hdy)
                  | succ y =>
                    simp at hx hy
                    rw [ih x y ox oy hl hx hy hdx hdy]
            exact key ops.toList j k oj ops[k] hdn (by simpa using hoj) (by simp [hklt]) (by simpa using hj) hd
        unfold seeOf at hm
        rw [Array.getElem?_eq_getElem hlt] at hm
        rcases List.mem_append.1 hm with hm | hm
        · left; right
          have : ops[i].dst = some d := by simpa using hm
          exact (uniq i (by rw [Array.getElem?_eq_getElem hlt]; simpa using this)).symm
        · rcases (h3 d hm).2 with h | ⟨j, hj, hjd⟩
          · left; right
            exact (uniq i (by rw [Array.getElem?_eq_getElem hlt]; simpa using h)).symm
          · right
            have := uniq j hjd
            subst this
            simpa [depsOf, hlt] using hj
      · left; left; simpa using hm
  have hfree : ∀ (d : Tmp) (v : Value), (d, v) ∈ vals ++ late → d ∉ free := by
    intro d v hv hf
    have := (List.nodup_append.1 hnod).2.2 d (List.mem_map.2 ⟨_, hv, rfl⟩) d hf
    exact this rfl
  refine wp_region_facts hm (seeOf ops sf) (depsOf ops) (oldsOf ops (late ++ fl.map fun t => (t, undef)) early) (factOf ops (vals ++ late) p) hallOk J ms hJ ?_ ?_
  · intro i o hi a' w' listed hsz hrest hold hli hls hld hB hdeps
    obtain ⟨h1, h2, h3⟩ := hopi i o hi
    have hilt : i < ops.size := (Array.getElem?_eq_some_iff.1 hi).1
    have hdepsi : depsOf ops i = direct o := by simp [depsOf, hi]
    -- what j's fact says, of j's own p
    have toP : ∀ j, At (seeOf ops sf) (factOf ops (vals ++ late) p) j a' w' → p j ((sf j).map (slot a')) w' := by
      intro j hj
      unfold At factOf seeOf at hj
      cases hd : (ops[j]?).bind (·.dst) with
      | none => simpa [hd] using hj
      | some d => simp only [hd] at hj; simpa using hj.2
    have exact_of : ∀ j ∈ direct o, ∀ t v, (ops[j]?).bind (·.dst) = some t → (t, v) ∈ vals ++ late → slot a' t = v := by
      intro j hj t v hd hv
      have := hdeps j (by rw [hdepsi]; exact hj)
      unfold At factOf seeOf at this
      simp only [hd] at this
      simpa using this.1 v hv
    have agree : ∀ t ∈ o.looksAt ops, slot a' t = slot (fr a vals late free early i (slot a')) t := by
      intro t ht
      refine hslot i a' hsz hrest t ?_
      by_cases hd : t ∈ dsts ops
      · right
        rcases h2 t ht hd with ho | ⟨j, hj, hjd⟩
        · -- it is read as it was
          have hs := hold t ho
          unfold oldsOf at ho
          rw [hi] at ho
          simp only at ho
          cases he : early i with
          | false => rw [he] at ho; simp at ho
          | true =>
            rw [he] at ho
            simp only [if_true, List.mem_filter, List.contains_iff_mem] at ho
            have hm2 := ho.2
            rw [List.map_append, List.mem_append] at hm2
            rcases hm2 with hm2 | hm2
            · exact .inr (.inr (.inr ⟨rfl, hm2, hs⟩))
            · left
              obtain ⟨⟨t2, v2⟩, hmem2, rfl⟩ := List.mem_map.1 hm2
              obtain ⟨t3, ht3, he3⟩ := List.mem_map.1 hmem2
              cases he3
              exact hfl _ ht3
        · have hmem : t ∈ (vals ++ late).map (·.1) ++ free := hk2 t hd
          rcases List.mem_append.1 hmem with hv | hf
          · obtain ⟨⟨t', v⟩, hv2, rfl⟩ := List.mem_map.1 hv
            have hs := exact_of j hj _ v hjd hv2
            rcases List.mem_append.1 hv2 with h | h
            · exact .inr (.inl ⟨v, h, hs⟩)
            · -- a late slot, already written: this operation is not early
              cases he : early i with
              | false => exact .inr (.inr (.inl ⟨rfl, v, h, hs⟩))
              | true =>
                exfalso
                -- then it is among the olds, and its writer waits for i: but the writer stands before i
                have hol : t' ∈ oldsOf ops (late ++ fl.map fun t => (t, undef)) early i := by
                  unfold oldsOf
                  rw [hi]
                  simp only [he, if_true, List.mem_filter, List.contains_iff_mem]
                  exact ⟨ht, by rw [List.map_append]; exact List.mem_append_left _ (List.mem_map.2 ⟨_, h, rfl⟩)⟩
                have hjlt : j < ops.size := by have := h1 j hj; omega
                have := hop i (List.mem_range.2 hilt)
                rw [hi] at this
                simp only [Bool.and_eq_true, List.all_eq_true] at this
                have hw := this.1.1.2 t' hol j (List.mem_range.2 hjlt)
                rw [Array.getElem?_eq_getElem hjlt] at hw hjd
                simp only [Option.bind_some] at hjd
                simp only [hjd, bne_self_eq_false, Bool.false_or, List.contains_iff_mem] at hw
                have a1 := (hopi j ops[j] (Array.getElem?_eq_getElem hjlt)).1 i hw
                have a2 := h1 j hj
                omega
          · exact .inl hf
      · exact .inl hd
    have agreeF : ∀ j, (sf j).map (slot (fr a vals late free early i (slot a'))) = (sf j).map (slot a') ∨ j ≥ ops.size := by
      intro j
      rcases Nat.lt_or_ge j ops.size with hj | hj
      · left
        refine List.map_congr_left fun t ht => ?_
        obtain ⟨_, _, h3⟩ := hopi j ops[j] (Array.getElem?_eq_getElem hj)
        exact (hslot i a' hsz hrest t (.inr (.inl (h3 t ht).1))).symm
      · exact .inr hj
    have agreeL : ∀ j, j < ops.size → (sf j).map (slot (fr a vals late free early i (slot a'))) = (sf j).map (slot a') := fun j hj => (agreeF j).resolve_right (by omega)
    have hmsF : ms.map (slot (fr a vals late free early i (slot a'))) = ms.map (slot a') := List.map_congr_left fun t ht => (hslot i a' hsz hrest t (.inr (.inl (hms t ht)))).symm
    have hD := hstep i o hi (slot a') w' listed hli hls hld (by rw [hmsF]; exact hB) (fun t ht ho => by rw [← hslot i a' hsz hrest t (.inr (.inl (hfl t ht)))]; exact hold t ho) (fun j hj => by
      have hjlt : j < ops.size := by have := h1 j hj; omega
      rw [agreeL j hjlt]
      exact toP j (hdeps j (by rw [hdepsi]; exact hj)))
    have finish : ∀ (v : Value) (w'' : World), (∀ d u, o.dst = some d → (d, u) ∈ vals ++ late → v = u) → p i ((sf i).map (slot ((fr a vals late free early i (slot a')).put o.dst v))) w'' → J (listed.setIfInBounds i true) (ms.map (slot ((fr a vals late free early i (slot a')).put o.dst v))) w'' →
        (∀ j, j ≠ i → j < ops.size → p j ((sf j).map (slot (fr a vals late free early i (slot a')))) w' → p j ((sf j).map (slot (fr a vals late free early i (slot a')))) w'') →
        ∃ v', a'.put o.dst v = a'.put o.dst v' ∧ At (seeOf ops sf) (factOf ops (vals ++ late) p) i (a'.put o.dst v) w'' ∧ J (listed.setIfInBounds i true) (ms.map (slot (a'.put o.dst v))) w'' ∧ ∀ j, j ≠ i → j < ops.size → At (seeOf ops sf) (factOf ops (vals ++ late) p) j a' w' → At (seeOf ops sf) (factOf ops (vals ++ late) p) j a' w'' := by
      intro v w'' hex hp hb hkeep
      have hput : (sf i).map (slot (a'.put o.dst v)) = (sf i).map (slot ((fr a vals late free early i (slot a')).put o.dst v)) := by
        refine List.map_congr_left fun t ht => ?_
        by_cases hd : o.dst = some t
        · have htlt : t < n := (hk1 t (List.mem_append_right _ (h3 t ht).1)).1
          rw [hd, slot_put_same _ _ _ (by rw [hsz, hn]; exact htlt), slot_put_same _ _ _ (by rw [fr_size, hn]; exact htlt)]
        · rw [slot_put_ne _ _ _ _ hd, slot_put_ne _ _ _ _ hd]
          exact hslot i a' hsz hrest t (.inr (.inl (h3 t ht).1))
      have hmsP : ms.map (slot (a'.put o.dst v)) = ms.map (slot ((fr a vals late free early i (slot a')).put o.dst v)) := by
        refine List.map_congr_left fun t ht => ?_
        by_cases hd : o.dst = some t
        · have htlt : t < n := (hk1 t (List.mem_append_right _ (hms t ht))).1
          rw [hd, slot_put_same _ _ _ (by rw [hsz, hn]; exact htlt), slot_put_same _ _ _ (by rw [fr_size, hn]; exact htlt)]
        · rw [slot_put_ne _ _ _ _ hd, slot_put_ne _ _ _ _ hd]
          exact hslot i a' hsz hrest t (.inr (.inl (hms t ht)))
      refine ⟨v, rfl, ?_, by rw [hmsP]; exact hb, fun j hji hj hat => ?_⟩
      · unfold At factOf seeOf
        simp only [hi, Option.bind_some]
        cases hd : o.dst with
        | none => rw [hd] at hp hput; simp only [Option.toList_none, List.nil_append]; rw [hput]; exact hp
        | some d =>
          rw [hd] at hp hput
          simp only [Option.toList_some, List.cons_append, List.nil_append, List.map_cons, List.head?_cons, List.tail_cons]
          refine ⟨fun u hu => ?_, by rw [hput]; exact hp⟩
          have hdlt : d < n := (hk1 d (List.mem_append_left _ (List.mem_map.2 ⟨_, hu, rfl⟩))).1
          rw [slot_put_same _ _ _ (by rw [hsz, hn]; exact hdlt), hex d u hd hu]
      · have hpj := toP j hat
        have hnew := hkeep j hji hj (by rw [agreeL j hj]; exact hpj)
        rw [agreeL j hj] at hnew
        unfold At factOf seeOf at hat ⊢
        cases hd : (ops[j]?).bind (·.dst) with
        | none => simp only [hd, Option.toList_none, List.nil_append] at hat ⊢; exact hnew
        | some d =>
          simp only [hd] at hat ⊢
          exact ⟨hat.1, by simpa using hnew⟩
    have hsel : ∀ cs b, o.op ≠ .select cs b := fun cs b => Region.noSelect_spec hs i o cs b hi
    unfold wpOp
    simp only [hi]
    unfold Does at hD
    rw [← wanted_congr o a' (fr a vals late free early i (slot a')) (by rw [fr_size, hsz]) agree] at hD
    split
    · rename_i hw
      rw [if_pos hw] at hD
      left
      unfold Oper.wp at hD ⊢
      rw [← exec_congr o hsel a' _ agree] at hD
      refine upon_congr (F := fr a vals late free early i (slot a')) ?_ ?_ hD
      · rintro v w'' ⟨v', he, hex, hp, hb, hkeep⟩
        -- v and v' put the same
        cases hd : o.dst with
        | none =>
          rw [hd] at he hp hex
          have := finish v w'' (by rw [hd]; exact fun d u h => by cases h) (by rw [hd]; exact hp) hb hkeep
          rw [hd] at this
          exact this
        | some d =>
          rw [hd] at he hp
          have hdlt : d < n := (hk1 d (hk2 d (List.mem_filterMap.2 ⟨o, by have := Array.mem_of_getElem? hi; simpa using this, hd⟩))).1
          have hvv : v = v' := by
            have h1 : slot ((fr a vals late free early i (slot a')).put (some d) v) d = slot ((fr a vals late free early i (slot a')).put (some d) v') d := congrArg (fun x => slot x d) he
            rwa [slot_put_same _ _ _ (by rw [fr_size, hn]; exact hdlt), slot_put_same _ _ _ (by rw [fr_size, hn]; exact hdlt)] at h1
          subst hvv
          have := finish v w'' hex (by rw [hd]; exact hp) hb hkeep
          rw [hd] at this
          exact this
      · rintro d w'' ⟨v, he, _⟩
        have h1 := congrArg (fun x => x.defers.length) he
        simp only [defers_put, List.length_cons] at h1
        omega
    · rename_i hw
      rw [if_neg (by simpa using hw)] at hD
      exact finish undef w' hD.1.1 hD.1.2 hD.2 (fun _ _ _ h => h)
  · intro a' w' listed hlall hdf hsz hrest hB hall
    have hfin : a' = fin a (vals ++ late) free (slot a') := by
      have ht : a'.tmps = (fin a (vals ++ late) free (slot a')).tmps := by
        refine Array.ext (by rw [fin, putAll_size, hsz]) fun t h1 h2 => ?_
        have hs := hslotE a' hsz hrest t (by
          by_cases hd : t ∈ dsts ops
          · right
            have hmem : t ∈ (vals ++ late).map (·.1) ++ free := hk2 t hd
            rcases List.mem_append.1 hmem with hv | hf
            · right
              obtain ⟨⟨t', v⟩, hv2, rfl⟩ := List.mem_map.1 hv
              obtain ⟨o, ho, hod⟩ := List.mem_filterMap.1 hd
              obtain ⟨i, hi, hoi⟩ := List.mem_iff_getElem.1 ho
              have hi' : i < ops.size := by simpa using hi
              have := hall i hi'
              unfold At factOf seeOf at this
              have hio : ops[i]? = some o := by rw [Array.getElem?_eq_getElem hi']; simpa using hoi
              simp only [hio, Option.bind_some, hod] at this
              exact ⟨v, hv2, by simpa using this.1 v hv2⟩
            · exact .inl hf
          · exact .inl hd)
        simpa [slot, h1, h2] using hs
      have hd : a'.defers = (fin a (vals ++ late) free (slot a')).defers := by rw [hdf, fin, putAll_defers]
      obtain ⟨x, y⟩ := a'
      simp only at ht hd
      cases hF : fin a (vals ++ late) free (slot ⟨x, y⟩) with
      | mk x' y' => rw [hF] at ht hd; simp only at ht hd; rw [ht, hd]
    have hq := hend (slot a') w' listed hlall (by rw [← hfin]; exact hB) (fun i hi => by
      have := hall i hi
      rw [← hfin]
      unfold At factOf seeOf at this
      cases hd : (ops[i]?).bind (·.dst) with
      | none => simpa [hd] using this
      | some d => simp only [hd] at this; simpa using this.2)
    rw [← hfin] at hq
    exact hq
end
end RegS
end Go.Proofs.YthgoflaphbigbaaGreatDoor
