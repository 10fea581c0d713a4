/-
  Part 6 of 8 of what the proof leans on: each part below says what it proves, and of what; no condition besides.
-/
import Derived.Test.YtamekagminbejaaGreatDoorQ05
import Derived.Lib.AppendZeros
set_option linter.unusedVariables false
set_option linter.unusedSimpArgs false
namespace Go.Proofs.YtamekagminbejaaGreatDoor
open Go Go.RowKit
namespace RegT
open Reg
section
variable {P : Program} {ops : Array Oper} {Q : Exit → Act → World → Prop} {see deps olds : Nat → List Nat} {fact : Nat → List Value → World → Prop}
structure Inv (ops : Array Oper) (see : Nat → List Nat) (fact : Nat → List Value → World → Prop) (J : Bool → World → Prop) (i0 : Nat) (a0 : Act) (listed : Array Bool) (a : Act) (w : World) : Prop where
 defers : a.defers = a0.defers
 size : a.tmps.size = a0.tmps.size
 old : ∀ t, (∀ k o, ops[k]? = some o → o.dst = some t → listed.getD k true = false) → slot a t = slot a0 t
 below : J (listed.getD i0 true) w
 down : ∀ i o, ops[i]? = some o → listed.getD i true = true → ∀ j ∈ direct o, listed.getD j true = true
 facts : ∀ i, i < ops.size → listed.getD i true = true → At see fact i a w
def StepOk (P : Program) (ops : Array Oper) (Q : Exit → Act → World → Prop) (see deps olds : Nat → List Nat) (fact : Nat → List Value → World → Prop) (J : Bool → World → Prop) (i0 : Nat) (a0 : Act) (i : Nat) (o : Oper) : Prop :=
 ∀ (a : Act) (w : World) (ph : Bool), a.tmps.size = a0.tmps.size → (∀ t, t ∉ dsts ops → slot a t = slot a0 t) → (∀ t ∈ olds i, slot a t = slot a0 t) → (i = i0 → ph = false) → J ph w → (∀ j ∈ deps i, At see fact j a w) →
  wpOp P ops Q i (fun a' w' => ∃ v, a' = a.put o.dst v ∧ At see fact i a' w' ∧ J (decide (i = i0) || ph) w' ∧ ∀ j, j ≠ i → j < ops.size → At see fact j a w → At see fact j a w') a w
theorem Inv.rest {J : Bool → World → Prop} {i0 : Nat} {a0 : Act} {listed : Array Bool} {a : Act} {w : World} (h : Inv ops see fact J i0 a0 listed a w) (t : Tmp) (ht : t ∉ dsts ops) : slot a t = slot a0 t :=
 h.old t fun _ _ hk hd => absurd hd (no_writer ht hk)
theorem wpAny_inv (hok : ok ops see deps olds = true) {J : Bool → World → Prop} {i0 : Nat} {a0 : Act} (hi0 : i0 < ops.size)
 (hstep : ∀ i o, ops[i]? = some o → StepOk P ops Q see deps olds fact J i0 a0 i o)
 (hend : ∀ a w, a.defers = a0.defers → a.tmps.size = a0.tmps.size → (∀ t, t ∉ dsts ops → slot a t = slot a0 t) → J true w → (∀ i, i < ops.size → At see fact i a w) → Q .normal a w) :
 ∀ (fuel : Nat) (listed : Array Bool) (a : Act) (w : World), listed.size = ops.size → (listed.toList.countP fun b => !b) ≤ fuel → Inv ops see fact J i0 a0 listed a w → wpAny P .any ops Q fuel listed a w := by
 have final : ∀ (listed : Array Bool) (a : Act) (w : World), listed.size = ops.size → Inv ops see fact J i0 a0 listed a w → Region.ready .any ops listed = [] → Q .normal a w := by
  intro listed a w hsz hI hr
  have all : ∀ (n i : Nat), i < n → i < ops.size → listed.getD i true = true := by
   intro n
   induction n with
   | zero => intro i hi; omega
   | succ n ih =>
     intro i hi ho
     cases hl : listed.getD i true with
     | true => rfl
     | false =>
       have hmem : i ∈ Region.ready .any ops listed := by
        refine mem_ready.2 ⟨hl, ops[i], Array.getElem?_eq_getElem ho, fun e he hb => ?_⟩
        have hdir : e.on ∈ direct ops[i] := List.mem_map.2 ⟨e, List.mem_filter.2 ⟨by simpa using he, hb⟩, rfl⟩
        have h := ok_spec hok (Array.getElem?_eq_getElem ho)
        simp only [okAt, Bool.and_eq_true, List.all_eq_true, decide_eq_true_eq] at h
        have hlt := h.1.1.2 _ hdir
        have := ih e.on (by omega) (by omega)
        have hs : e.on < listed.size := by omega
        simp [hs] at this ⊢
        exact this
       rw [hr] at hmem; cases hmem
  exact hend a w hI.defers hI.size hI.rest (by have h := hI.below; rw [all (i0 + 1) i0 (by omega) hi0] at h; exact h) fun i hi => hI.facts i hi (all (i + 1) i (by omega) hi)
 intro fuel
 induction fuel with
 | zero =>
   intro listed a w hsz hc hI
   have hnil : Region.ready .any ops listed = [] := by
    rcases hr : Region.ready .any ops listed with _ | ⟨x, xs⟩
    · rfl
    · exfalso
      have hx : x ∈ Region.ready .any ops listed := by rw [hr]; simp
      have h0 := (mem_ready.1 hx).1
      have hlt := listed_lt h0
      have : false ∈ listed.toList := by
       have : listed[x] = false := by simpa [hlt] using h0
       exact this ▸ (by simp : listed[x] ∈ listed.toList)
      have hp : 0 < listed.toList.countP fun b => !b := List.countP_pos_iff.2 ⟨false, this, rfl⟩
      omega
   exact ⟨hnil, final listed a w hsz hI hnil⟩
 | succ fuel ih =>
   intro listed a w hsz hc hI
   refine ⟨final listed a w hsz hI, fun i hi => ?_⟩
   obtain ⟨h0, o, ho, hall⟩ := mem_ready.1 hi
   have hilt : i < ops.size := (Array.getElem?_eq_some_iff.1 ho).1
   have hdir : ∀ j ∈ direct o, listed.getD j true = true := by
    intro j hj
    obtain ⟨e, he, rfl⟩ := List.mem_map.1 hj
    obtain ⟨he1, he2⟩ := List.mem_filter.1 he
    have := hall e (by simpa using he1) he2
    rcases Nat.lt_or_ge e.on listed.size with h' | h'
    · simp [h'] at this ⊢; exact this
    · simp [Array.getElem?_eq_none h'] at this
   have hdeps := deps_listed hok hI.down i i o (Nat.le_refl _) ho hdir
   have hdepslt : ∀ j ∈ deps i, j < ops.size := by
    intro j hj
    -- every dep is before i
    have key : ∀ (n i : Nat) (o : Oper), i ≤ n → ops[i]? = some o → ∀ j ∈ deps i, j < i := by
     intro n
     induction n with
     | zero =>
       intro i o hi ho j hj
       have h := ok_spec hok ho
       simp only [okAt, Bool.and_eq_true, List.all_eq_true, List.any_eq_true, decide_eq_true_eq] at h
       obtain ⟨k, hk, _⟩ := h.1.2 j hj
       have := h.1.1.2 k hk
       omega
     | succ n ihn =>
       intro i o hi ho j hj
       have h := ok_spec hok ho
       simp only [okAt, Bool.and_eq_true, List.all_eq_true, List.any_eq_true, decide_eq_true_eq] at h
       obtain ⟨k, hk, hjk⟩ := h.1.2 j hj
       have hki := h.1.1.2 k hk
       rcases Bool.or_eq_true _ _ ▸ hjk with e | e
       · have : j = k := by simpa using e
         omega
       · have hko : k < ops.size := by have := (Array.getElem?_eq_some_iff.1 ho).1; omega
         have := ihn k ops[k] (by omega) (Array.getElem?_eq_getElem hko) j (by simpa using e)
         omega
    have := key i i o (Nat.le_refl _) ho j hj
    omega
   have hOld : ∀ t ∈ olds i, slot a t = slot a0 t := by
    intro t ht
    refine hI.old t fun k ok hk hd => ?_
    have h := ok_spec hok ho
    simp only [okAt, Bool.and_eq_true, List.all_eq_true] at h
    have hkk := h.1.1.1 t ht k (List.mem_range.2 (Array.getElem?_eq_some_iff.1 hk).1)
    simp only [hk, hd, bne_self_eq_false, Bool.false_or, List.contains_iff_mem] at hkk
    cases hl : listed.getD k true with
    | false => rfl
    | true =>
      have := hI.down k ok hk hl i hkk
      rw [this] at h0; cases h0
   refine wpOp_mono ?_ (hstep i o ho a w (listed.getD i0 true) hI.size hI.rest hOld (fun e => by rw [← e]; exact h0) hI.below fun j hj => hI.facts j (hdepslt j hj) (hdeps j hj))
   rintro a' w' ⟨v, rfl, hfi, hbw, hkeep⟩
   have hnl : ∀ j, j < ops.size → listed.getD j true = true → i ∉ deps j := by
    intro j hj hlj hmem
    have := deps_listed hok hI.down j j ops[j] (Nat.le_refl _) (Array.getElem?_eq_getElem hj) (hI.down j ops[j] (Array.getElem?_eq_getElem hj) hlj) i hmem
    rw [this] at h0; cases h0
   refine ih _ _ _ (by simpa using hsz) ?_ ⟨?_, ?_, ?_, ?_, ?_, ?_⟩
   · -- the count goes down
     have hls : i < listed.size := listed_lt h0
     have hv : listed[i] = false := by simpa [hls] using h0
     have hset : (listed.setIfInBounds i true).toList = listed.toList.set i true := by simp
     rw [hset, List.countP_set (by simpa using hls)]
     have h1 : listed.toList[i] = false := by simpa using hv
     simp only [h1, Bool.not_false, if_true, Bool.not_true, Bool.false_eq_true, if_false]
     omega
   · rw [defers_put]; exact hI.defers
   · rw [size_put]; exact hI.size
   · intro t ht
     have hne : o.dst ≠ some t := fun hd => by
      have := ht i o ho hd
      have hls : i < listed.size := listed_lt h0
      simp [hls] at this
     rw [slot_put_ne _ _ _ _ hne]
     refine hI.old t fun k ok hk hd => ?_
     have := ht k ok hk hd
     by_cases e : i = k
     · subst e; exact h0
     · rwa [getD_set_ne true e] at this
   · by_cases e : i = i0
     · subst e
       have hls : i < listed.size := listed_lt h0
       have h1 : (listed.setIfInBounds i true).getD i true = true := by simp [hls]
       rw [h1]; simpa using hbw
     · rw [getD_set_ne true e]; simpa [e] using hbw
   · intro j oj hoj hlj k hk
     rcases getD_set hlj with rfl | hl
     · rw [ho] at hoj; cases hoj
       have hki : k ≠ j := by
        have h := ok_spec hok ho
        simp only [okAt, Bool.and_eq_true, List.all_eq_true, decide_eq_true_eq] at h
        have := h.1.1.2 k hk
        omega
       rw [getD_set_ne true (Ne.symm hki)]; exact hdir k hk
     · have := hI.down j oj hoj hl k hk
       by_cases e : i = k
       · subst e; rw [this] at h0; cases h0
       · rw [getD_set_ne true e]; exact this
   · intro j hj hlj
     rcases getD_set hlj with rfl | hl
     · exact hfi
     · have hji : j ≠ i := by rintro rfl; rw [hl] at h0; cases h0
       have hfj := hkeep j hji hj (hI.facts j hj hl)
       refine at_put (fun d hd hmem => ?_) hfj
       have h := ok_spec hok (Array.getElem?_eq_getElem hj)
       simp only [okAt, Bool.and_eq_true, List.all_eq_true] at h
       have := h.2 i (List.mem_range.2 hilt)
       simp only [ho, Option.bind_some, hd] at this
       simp only [Bool.or_eq_true, Bool.not_eq_true', beq_iff_eq, List.contains_iff_mem] at this
       rcases this with (h1 | h1) | h1
       · simp [hmem] at h1
       · exact hji h1.symm
       · exact hnl j hj hl h1
theorem wp_region_facts {id : Nat} {a : Act} {w : World} (hm : P.follows .mixedOrders = true) (see deps olds : Nat → List Nat) (fact : Nat → List Value → World → Prop) (hok : ok ops see deps olds = true)
 (J : Bool → World → Prop) (i0 : Nat) (hi0 : i0 < ops.size) (hJ : J false w.drew) (hstep : ∀ i o, ops[i]? = some o → StepOk P ops Q see deps olds fact J i0 a i o)
 (hend : ∀ a' w', a'.defers = a.defers → a'.tmps.size = a.tmps.size → (∀ t, t ∉ dsts ops → slot a' t = slot a t) → J true w' → (∀ i, i < ops.size → At see fact i a' w') → Q .normal a' w') :
 (Code.region id ops true).wp P Q a w := by
 refine wp_region_any hm ?_
 refine wpAny_inv hok (J := J) (i0 := i0) (a0 := a) hi0 hstep hend ops.size _ a _ (by simp) ?_ ⟨rfl, rfl, fun _ _ => rfl, (by simpa [hi0] using hJ), ?_, ?_⟩
 · refine Nat.le_trans List.countP_le_length ?_
   simp
 · intro i o hi hl
   have hlt : i < ops.size := (Array.getElem?_eq_some_iff.1 hi).1
   simp [hlt] at hl
 · intro i hi hl
   simp [hi] at hl
end
section
variable {P : Program} {ops : Array Oper} {Q : Exit → Act → World → Prop}
def Does (P : Program) (ops : Array Oper) (vals : List (Tmp × Value)) (sf : Nat → List Tmp) (p : Nat → List Value → World → Prop) (J : Bool → World → Prop) (i0 : Nat) (ph : Bool) (F : Act) (i : Nat) (o : Oper) (w : World) : Prop :=
 if Region.wanted o (yielded ops F.tmps) = true then
  Oper.wp P o F w (fun a' w' => ∃ v, a' = F.put o.dst v ∧ (∀ d u, o.dst = some d → (d, u) ∈ vals → v = u) ∧ p i ((sf i).map (slot a')) w' ∧ J (decide (i = i0) || ph) w' ∧
   ∀ j, j ≠ i → j < ops.size → p j ((sf j).map (slot F)) w → p j ((sf j).map (slot F)) w') (fun _ _ _ => False)
 else ((∀ d u, o.dst = some d → (d, u) ∈ vals → undef = u) ∧ p i ((sf i).map (slot (F.put o.dst undef))) w) ∧ i ≠ i0
theorem wp_region_run {id : Nat} {a : Act} {w : World} (hm : P.follows .mixedOrders = true) (hs : Region.noSelect ops = true)
 (vals late : List (Tmp × Value)) (free : List Tmp) (sf : Nat → List Tmp) (early : Nat → Bool) (p : Nat → List Value → World → Prop) (n : Nat) (hn : a.tmps.size = n) (hok : plan ops n vals late free sf early = true)
 (J : Bool → World → Prop) (i0 : Nat) (hi0 : i0 < ops.size) (hJ : J false w.drew) (hstep : ∀ i o, ops[i]? = some o → ∀ (g : Tmp → Value) (w' : World) (ph : Bool), (i = i0 → ph = false) → J ph w' → (∀ j ∈ direct o, p j ((sf j).map (slot (fr a vals late free early i g))) w') → Does P ops (vals ++ late) sf p J i0 ph (fr a vals late free early i g) i o w')
 (hend : ∀ (g : Tmp → Value) (w' : World), J true w' → (∀ i, i < ops.size → p i ((sf i).map (slot (fin a (vals ++ late) free g))) w') → Q .normal (fin a (vals ++ late) free g) w') :
 (Code.region id ops true).wp P Q a w := by
 have hok' := hok
 simp only [plan, Bool.and_eq_true, List.all_eq_true, decide_eq_true_eq, List.contains_iff_mem] at hok
 obtain ⟨⟨⟨⟨hk1, hk2⟩, hnod⟩, hdn⟩, hop⟩ := hok
 have hkeys : ∀ (l : List (Tmp × Value)) (g : Tmp → Value), (l ++ free.map fun t => (t, g t)).map (·.1) = l.map (·.1) ++ free := fun l g => by simp [List.map_map, Function.comp_def]
 have hopi : ∀ i o, ops[i]? = some o → (∀ j ∈ direct o, j < i) ∧ (∀ t ∈ o.looksAt ops, t ∈ dsts ops → t ∈ oldsOf ops late early i ∨ ∃ j ∈ direct o, (ops[j]?).bind (·.dst) = some t) ∧ (∀ t ∈ sf i, t ∈ free ∧ (o.dst = some t ∨ ∃ j ∈ direct o, (ops[j]?).bind (·.dst) = some t)) := by
  intro i o hi
  have := hop i (List.mem_range.2 (Array.getElem?_eq_some_iff.1 hi).1)
  simp only [hi, Bool.and_eq_true, List.all_eq_true, decide_eq_true_eq, Bool.or_eq_true, Bool.not_eq_true', List.any_eq_true, beq_iff_eq] at this
  refine ⟨this.1.1.1, fun t ht hd => ?_, fun t ht => ⟨by simpa using (this.2 t ht).1, (this.2 t ht).2⟩⟩
  rcases this.1.2 t ht with (h | h) | h
  · simp [hd] at h
  · exact .inl (by simpa using h)
  · exact .inr h
 -- the facts of the law
 have hnod1 : (vals.map (·.1) ++ free).Nodup := by
  have h := hnod
  simp only [List.map_append, List.append_assoc] at h
  have h1 := List.nodup_append.1 h
  have h2 := List.nodup_append.1 h1.2.1
  exact List.nodup_append.2 ⟨h1.1, h2.2.1, fun x hx y hy => h1.2.2 x hx y (List.mem_append_right _ hy)⟩
 have hlatefree : ∀ t, t ∈ late.map (·.1) → t ∉ vals.map (·.1) ++ free := by
  intro t ht hm
  have h := hnod
  simp only [List.map_append, List.append_assoc] at h
  have h1 := List.nodup_append.1 h
  have h2 := List.nodup_append.1 h1.2.1
  rcases List.mem_append.1 hm with hv | hf
  · exact h1.2.2 t hv t (List.mem_append_left _ ht) rfl
  · exact h2.2.2 t ht t hf rfl
 -- what slot t holds in the frame of operation i
 have hslot : ∀ (i : Nat) (a' : Act), a'.tmps.size = a.tmps.size → (∀ t, t ∉ dsts ops → slot a' t = slot a t) → ∀ t, (t ∉ dsts ops ∨ t ∈ free ∨ (∃ v, (t, v) ∈ vals ∧ slot a' t = v) ∨ (early i = false ∧ ∃ v, (t, v) ∈ late ∧ slot a' t = v) ∨ (early i = true ∧ t ∈ late.map (·.1) ∧ slot a' t = slot a t)) → slot a' t = slot (fr a vals late free early i (slot a')) t := by
  intro i a' hsz hrest t ht
  have hfree' : t ∈ free → ∀ l, (l.map (·.1) ++ free).Nodup → slot (fin a l free (slot a')) t = slot a' t := by
   intro hf l hl
   rw [fin, putAll_at _ t (slot a' t) a (by rw [hn]; exact (hk1 t (List.mem_append_right _ hf)).1) (by rw [hkeys]; exact hl) (List.mem_append_right _ (List.mem_map.2 ⟨t, hf, rfl⟩))]
  have hval' : ∀ v, (t, v) ∈ vals ++ late → ∀ l, (t, v) ∈ l → (l.map (·.1) ++ free).Nodup → slot (fin a l free (slot a')) t = v := by
   intro v hv l hl hnn
   rw [fin, putAll_at _ t v a (by rw [hn]; exact (hk1 t (List.mem_append_left _ (List.mem_map.2 ⟨_, hv, rfl⟩))).1) (by rw [hkeys]; exact hnn) (List.mem_append_left _ hl)]
  unfold fr
  rcases ht with ht | ht | ⟨v, hv, hs⟩ | ⟨he, v, hv, hs⟩ | ⟨he, ht, hs⟩
  · have no : t ∉ (vals ++ late).map (·.1) ++ free := fun hm => ht (hk1 t hm).2
    have no1 : t ∉ vals.map (·.1) ++ free := fun hm => no (by
     simp only [List.map_append, List.append_assoc]
     rcases List.mem_append.1 hm with h | h
     · exact List.mem_append_left _ h
     · exact List.mem_append_right _ (List.mem_append_right _ h))
    split
    · rw [hrest t ht, fin, putAll_other _ _ _ (by rw [hkeys]; exact no1)]
    · rw [hrest t ht, fin, putAll_other _ _ _ (by rw [hkeys]; exact no)]
  · split
    · exact (hfree' ht _ hnod1).symm
    · exact (hfree' ht _ hnod).symm
  · split
    · rw [hval' v (List.mem_append_left _ hv) vals hv hnod1, hs]
    · rw [hval' v (List.mem_append_left _ hv) _ (List.mem_append_left _ hv) hnod, hs]
  · rw [if_neg (by rw [he]; exact Bool.false_ne_true), hval' v (List.mem_append_right _ hv) _ (List.mem_append_right _ hv) hnod, hs]
  · rw [if_pos he, hs, fin, putAll_other _ _ _ (by rw [hkeys]; exact hlatefree t ht)]
 have hslotE : ∀ (a' : Act), a'.tmps.size = a.tmps.size → (∀ t, t ∉ dsts ops → slot a' t = slot a t) → ∀ t, (t ∉ dsts ops ∨ t ∈ free ∨ ∃ v, (t, v) ∈ vals ++ late ∧ slot a' t = v) → slot a' t = slot (fin a (vals ++ late) free (slot a')) t := by
  intro a' hsz hrest t ht
  rcases ht with ht | ht | ⟨v, hv, hs⟩
  · rw [hrest t ht, fin, putAll_other]
    rw [hkeys]
    intro hm
    exact ht (hk1 t hm).2
  · rw [fin, putAll_at _ t (slot a' t) a (by rw [hn]; exact (hk1 t (List.mem_append_right _ ht)).1) (by rw [hkeys]; exact hnod) (List.mem_append_right _ (List.mem_map.2 ⟨t, ht, rfl⟩))]
  · rw [hs, fin, putAll_at _ t v a (by rw [hn]; exact (hk1 t (List.mem_append_left _ (List.mem_map.2 ⟨_, hv, rfl⟩))).1) (by rw [hkeys]; exact hnod) (List.mem_append_left _ hv)]
 have hallOk : ok ops (seeOf ops sf) (depsOf ops) (oldsOf ops late early) = true := by
  refine List.all_eq_true.2 fun i hi => ?_
  have hlt := List.mem_range.1 hi
  rw [Array.getElem?_eq_getElem hlt]
  obtain ⟨h1, h2, h3⟩ := hopi i ops[i] (Array.getElem?_eq_getElem hlt)
  simp only [okAt, Bool.and_eq_true, List.all_eq_true, decide_eq_true_eq, List.any_eq_true, Bool.or_eq_true, beq_iff_eq]
  have hold : ∀ t ∈ oldsOf ops late early i, ∀ k ∈ List.range ops.size, (match ops[k]? with | some ok => ok.dst != some t || (direct ok).contains i | none => true) = true := by
   have := hop i (List.mem_range.2 hlt)
   rw [Array.getElem?_eq_getElem hlt] at this
   simp only [Bool.and_eq_true, List.all_eq_true] at this
   exact this.1.1.2
  refine ⟨⟨⟨hold, h1⟩, fun j hj => ⟨j, by simpa [depsOf, hlt] using hj, .inl rfl⟩⟩, fun k hk => ?_⟩
  have hklt := List.mem_range.1 hk
  rw [Array.getElem?_eq_getElem hklt]
  cases hd : ops[k].dst with
  | none => simp [hd]
  | some d =>
    simp only [Option.bind_some, hd, Bool.or_eq_true, Bool.not_eq_true', beq_iff_eq, List.contains_iff_mem]
    by_cases hm : d ∈ seeOf ops sf i
    · -- who writes d
      have uniq : ∀ j, (ops[j]?).bind (·.dst) = some d → j = k := by
       intro j hj
       cases hoj : ops[j]? with
       | none => rw [hoj] at hj; cases hj
       | some oj =>
         rw [hoj] at hj
         have hjlt : j < ops.size := (Array.getElem?_eq_some_iff.1 hoj).1
         -- dsts has no doubles
         have key : ∀ (l : List Oper) (x y : Nat) (ox oy : Oper), (l.filterMap (·.dst)).Nodup → l[x]? = some ox → l[y]? = some oy → ox.dst = some d → oy.dst = some d → x = y := by
          intro l
          induction l with
          | nil => intro x y ox oy _ hx; simp at hx
          | cons z l ih =>
            intro x y ox oy hnn hx hy hdx hdy
            have hl : (l.filterMap (·.dst)).Nodup := by
             cases hz : z.dst with
             | none => simpa [List.filterMap_cons, hz] using hnn
             | some dz => rw [List.filterMap_cons_some (h := hz)] at hnn; exact (List.nodup_cons.1 hnn).2
            have hz0 : z.dst = some d → d ∉ l.filterMap (·.dst) := fun hz => by
             rw [List.filterMap_cons_some (h := hz)] at hnn; exact (List.nodup_cons.1 hnn).1
            cases x with
            | zero =>
              cases y with
              | zero => rfl
              | succ y =>
                simp at hx hy; subst hx
                exact absurd (List.mem_filterMap.2 ⟨oy, List.mem_of_getElem? hy, hdy⟩) (hz0 hdx)
            | succ x =>
              cases y with
              | zero =>
                simp at hx hy; subst hy
                exact absurd (List.mem_filterMap.2 ⟨ox, List.mem_of_getElem? hx, hdx⟩) (hz0 hdy)
              | succ y =>
                simp at hx hy
                rw [ih x y ox oy hl hx hy hdx hdy]
         exact key ops.toList j k oj ops[k] hdn (by simpa using hoj) (by simp [hklt]) (by simpa using hj) hd
      unfold seeOf at hm
      rw [Array.getElem?_eq_getElem hlt] at hm
      rcases List.mem_append.1 hm with hm | hm
      · left; right
        have : ops[i].dst = some d := by simpa using hm
        exact (uniq i (by rw [Array.getElem?_eq_getElem hlt]; simpa using this)).symm
      · rcases (h3 d hm).2 with h | ⟨j, hj, hjd⟩
        · left; right
          exact (uniq i (by rw [Array.getElem?_eq_getElem hlt]; simpa using h)).symm
        · right
          have := uniq j hjd
          subst this
          simpa [depsOf, hlt] using hj
    · left; left; simpa using hm
 have hfree : ∀ (d : Tmp) (v : Value), (d, v) ∈ vals ++ late → d ∉ free := by
  intro d v hv hf
  have := (List.nodup_append.1 hnod).2.2 d (List.mem_map.2 ⟨_, hv, rfl⟩) d hf
  exact this rfl
 refine wp_region_facts hm (seeOf ops sf) (depsOf ops) (oldsOf ops late early) (factOf ops (vals ++ late) p) hallOk J i0 hi0 hJ ?_ ?_
 · intro i o hi a' w' ph hsz hrest hold hph hB hdeps
   obtain ⟨h1, h2, h3⟩ := hopi i o hi
   have hilt : i < ops.size := (Array.getElem?_eq_some_iff.1 hi).1
   have hdepsi : depsOf ops i = direct o := by simp [depsOf, hi]
   -- what j's fact says, of j's own p
   have toP : ∀ j, At (seeOf ops sf) (factOf ops (vals ++ late) p) j a' w' → p j ((sf j).map (slot a')) w' := by
    intro j hj
    unfold At factOf seeOf at hj
    cases hd : (ops[j]?).bind (·.dst) with
    | none => simpa [hd] using hj
    | some d => simp only [hd] at hj; simpa using hj.2
   have exact_of : ∀ j ∈ direct o, ∀ t v, (ops[j]?).bind (·.dst) = some t → (t, v) ∈ vals ++ late → slot a' t = v := by
    intro j hj t v hd hv
    have := hdeps j (by rw [hdepsi]; exact hj)
    unfold At factOf seeOf at this
    simp only [hd] at this
    simpa using this.1 v hv
   have agree : ∀ t ∈ o.looksAt ops, slot a' t = slot (fr a vals late free early i (slot a')) t := by
    intro t ht
    refine hslot i a' hsz hrest t ?_
    by_cases hd : t ∈ dsts ops
    · right
      rcases h2 t ht hd with ho | ⟨j, hj, hjd⟩
      · -- it is read as it was
        right; right; right
        have hs := hold t ho
        unfold oldsOf at ho
        rw [hi] at ho
        simp only at ho
        cases he : early i with
        | false => rw [he] at ho; simp at ho
        | true =>
          rw [he] at ho
          simp only [if_true, List.mem_filter, List.contains_iff_mem] at ho
          exact ⟨rfl, ho.2, hs⟩
      · have hmem : t ∈ (vals ++ late).map (·.1) ++ free := hk2 t hd
        rcases List.mem_append.1 hmem with hv | hf
        · obtain ⟨⟨t', v⟩, hv2, rfl⟩ := List.mem_map.1 hv
          have hs := exact_of j hj _ v hjd hv2
          rcases List.mem_append.1 hv2 with h | h
          · exact .inr (.inl ⟨v, h, hs⟩)
          · -- a late slot, already written: this operation is not early
            cases he : early i with
            | false => exact .inr (.inr (.inl ⟨rfl, v, h, hs⟩))
            | true =>
              exfalso
              -- then it is among the olds, and its writer waits for i: but the writer stands before i
              have hol : t' ∈ oldsOf ops late early i := by
               unfold oldsOf
               rw [hi]
               simp only [he, if_true, List.mem_filter, List.contains_iff_mem]
               exact ⟨ht, List.mem_map.2 ⟨_, h, rfl⟩⟩
              have hjlt : j < ops.size := by have := h1 j hj; omega
              have := hop i (List.mem_range.2 hilt)
              rw [hi] at this
              simp only [Bool.and_eq_true, List.all_eq_true] at this
              have hw := this.1.1.2 t' hol j (List.mem_range.2 hjlt)
              rw [Array.getElem?_eq_getElem hjlt] at hw hjd
              simp only [Option.bind_some] at hjd
              simp only [hjd, bne_self_eq_false, Bool.false_or, List.contains_iff_mem] at hw
              have a1 := (hopi j ops[j] (Array.getElem?_eq_getElem hjlt)).1 i hw
              have a2 := h1 j hj
              omega
        · exact .inl hf
    · exact .inl hd
   have agreeF : ∀ j, (sf j).map (slot (fr a vals late free early i (slot a'))) = (sf j).map (slot a') ∨ j ≥ ops.size := by
    intro j
    rcases Nat.lt_or_ge j ops.size with hj | hj
    · left
      refine List.map_congr_left fun t ht => ?_
      obtain ⟨_, _, h3⟩ := hopi j ops[j] (Array.getElem?_eq_getElem hj)
      exact (hslot i a' hsz hrest t (.inr (.inl (h3 t ht).1))).symm
    · exact .inr hj
   have agreeL : ∀ j, j < ops.size → (sf j).map (slot (fr a vals late free early i (slot a'))) = (sf j).map (slot a') := fun j hj => (agreeF j).resolve_right (by omega)
   have hD := hstep i o hi (slot a') w' ph hph hB (fun j hj => by
    have hjlt : j < ops.size := by have := h1 j hj; omega
    rw [agreeL j hjlt]
    exact toP j (hdeps j (by rw [hdepsi]; exact hj)))
   have finish : ∀ (v : Value) (w'' : World), (∀ d u, o.dst = some d → (d, u) ∈ vals ++ late → v = u) → p i ((sf i).map (slot ((fr a vals late free early i (slot a')).put o.dst v))) w'' → J (decide (i = i0) || ph) w'' →
    (∀ j, j ≠ i → j < ops.size → p j ((sf j).map (slot (fr a vals late free early i (slot a')))) w' → p j ((sf j).map (slot (fr a vals late free early i (slot a')))) w'') →
    ∃ v', a'.put o.dst v = a'.put o.dst v' ∧ At (seeOf ops sf) (factOf ops (vals ++ late) p) i (a'.put o.dst v) w'' ∧ J (decide (i = i0) || ph) w'' ∧ ∀ j, j ≠ i → j < ops.size → At (seeOf ops sf) (factOf ops (vals ++ late) p) j a' w' → At (seeOf ops sf) (factOf ops (vals ++ late) p) j a' w'' := by
    intro v w'' hex hp hb hkeep
    have hput : (sf i).map (slot (a'.put o.dst v)) = (sf i).map (slot ((fr a vals late free early i (slot a')).put o.dst v)) := by
     refine List.map_congr_left fun t ht => ?_
     by_cases hd : o.dst = some t
     · have htlt : t < n := (hk1 t (List.mem_append_right _ (h3 t ht).1)).1
       rw [hd, slot_put_same _ _ _ (by rw [hsz, hn]; exact htlt), slot_put_same _ _ _ (by rw [fr_size, hn]; exact htlt)]
     · rw [slot_put_ne _ _ _ _ hd, slot_put_ne _ _ _ _ hd]
       exact hslot i a' hsz hrest t (.inr (.inl (h3 t ht).1))
    refine ⟨v, rfl, ?_, hb, fun j hji hj hat => ?_⟩
    · unfold At factOf seeOf
      simp only [hi, Option.bind_some]
      cases hd : o.dst with
      | none => rw [hd] at hp hput; simp only [Option.toList_none, List.nil_append]; rw [hput]; exact hp
      | some d =>
        rw [hd] at hp hput
        simp only [Option.toList_some, List.cons_append, List.nil_append, List.map_cons, List.head?_cons, List.tail_cons]
        refine ⟨fun u hu => ?_, by rw [hput]; exact hp⟩
        have hdlt : d < n := (hk1 d (List.mem_append_left _ (List.mem_map.2 ⟨_, hu, rfl⟩))).1
        rw [slot_put_same _ _ _ (by rw [hsz, hn]; exact hdlt), hex d u hd hu]
    · have hpj := toP j hat
      have hnew := hkeep j hji hj (by rw [agreeL j hj]; exact hpj)
      rw [agreeL j hj] at hnew
      unfold At factOf seeOf at hat ⊢
      cases hd : (ops[j]?).bind (·.dst) with
      | none => simp only [hd, Option.toList_none, List.nil_append] at hat ⊢; exact hnew
      | some d =>
        simp only [hd] at hat ⊢
        exact ⟨hat.1, by simpa using hnew⟩
   have hsel : ∀ cs b, o.op ≠ .select cs b := fun cs b => Region.noSelect_spec hs i o cs b hi
   unfold wpOp
   simp only [hi]
   unfold Does at hD
   rw [← wanted_congr o a' (fr a vals late free early i (slot a')) (by rw [fr_size, hsz]) agree] at hD
   split
   · rename_i hw
     rw [if_pos hw] at hD
     left
     unfold Oper.wp at hD ⊢
     rw [← exec_congr o hsel a' _ agree] at hD
     refine upon_congr (F := fr a vals late free early i (slot a')) ?_ ?_ hD
     · rintro v w'' ⟨v', he, hex, hp, hb, hkeep⟩
       -- v and v' put the same
       cases hd : o.dst with
       | none =>
         rw [hd] at he hp hex
         have := finish v w'' (by rw [hd]; exact fun d u h => by cases h) (by rw [hd]; exact hp) hb hkeep
         rw [hd] at this
         exact this
       | some d =>
         rw [hd] at he hp
         have hdlt : d < n := (hk1 d (hk2 d (List.mem_filterMap.2 ⟨o, by have := Array.mem_of_getElem? hi; simpa using this, hd⟩))).1
         have hvv : v = v' := by
          have h1 : slot ((fr a vals late free early i (slot a')).put (some d) v) d = slot ((fr a vals late free early i (slot a')).put (some d) v') d := congrArg (fun x => slot x d) he
          rwa [slot_put_same _ _ _ (by rw [fr_size, hn]; exact hdlt), slot_put_same _ _ _ (by rw [fr_size, hn]; exact hdlt)] at h1
         subst hvv
         have := finish v w'' hex (by rw [hd]; exact hp) hb hkeep
         rw [hd] at this
         exact this
     · rintro d w'' ⟨v, he, _⟩
       have h1 := congrArg (fun x => x.defers.length) he
       simp only [defers_put, List.length_cons] at h1
       omega
   · rename_i hw
     rw [if_neg (by simpa using hw)] at hD
     exact finish undef w' hD.1.1 hD.1.2 (by simpa [hD.2] using hB) (fun _ _ _ h => h)
 · intro a' w' hdf hsz hrest hB hall
   have hfin : a' = fin a (vals ++ late) free (slot a') := by
    have ht : a'.tmps = (fin a (vals ++ late) free (slot a')).tmps := by
     refine Array.ext (by rw [fin, putAll_size, hsz]) fun t h1 h2 => ?_
     have hs := hslotE a' hsz hrest t (by
      by_cases hd : t ∈ dsts ops
      · right
        have hmem : t ∈ (vals ++ late).map (·.1) ++ free := hk2 t hd
        rcases List.mem_append.1 hmem with hv | hf
        · right
          obtain ⟨⟨t', v⟩, hv2, rfl⟩ := List.mem_map.1 hv
          obtain ⟨o, ho, hod⟩ := List.mem_filterMap.1 hd
          obtain ⟨i, hi, hoi⟩ := List.mem_iff_getElem.1 ho
          have hi' : i < ops.size := by simpa using hi
          have := hall i hi'
          unfold At factOf seeOf at this
          have hio : ops[i]? = some o := by rw [Array.getElem?_eq_getElem hi']; simpa using hoi
          simp only [hio, Option.bind_some, hod] at this
          exact ⟨v, hv2, by simpa using this.1 v hv2⟩
        · exact .inl hf
      · exact .inl hd)
     simpa [slot, h1, h2] using hs
    have hd : a'.defers = (fin a (vals ++ late) free (slot a')).defers := by rw [hdf, fin, putAll_defers]
    obtain ⟨x, y⟩ := a'
    simp only at ht hd
    cases hF : fin a (vals ++ late) free (slot ⟨x, y⟩) with
    | mk x' y' => rw [hF] at ht hd; simp only at ht hd; rw [ht, hd]
   have hq := hend (slot a') w' hB (fun i hi => by
    have := hall i hi
    rw [← hfin]
    unfold At factOf seeOf at this
    cases hd : (ops[i]?).bind (·.dst) with
    | none => simpa [hd] using this
    | some d => simp only [hd] at this; simpa using this.2)
   rw [← hfin] at hq
   exact hq
def DoesT (P : Program) (ops : Array Oper) (J : Bool → World → Prop) (i0 : Nat) (ph : Bool) (F : Act) (i : Nat) (o : Oper) (w : World) : Prop :=
 if Region.wanted o (yielded ops F.tmps) = true then Oper.wp P o F w (fun a' w' => ∃ v, a' = F.put o.dst v ∧ F.put o.dst v = F ∧ J (decide (i = i0) || ph) w') (fun _ _ _ => False)
 else F.put o.dst undef = F ∧ i ≠ i0
theorem wp_region_two {id : Nat} {a : Act} {w : World} (hm : P.follows .mixedOrders = true) (hs : Region.noSelect ops = true) (J : Bool → World → Prop) (i0 : Nat) (hi0 : i0 < ops.size) (hJ : J false w.drew)
 (vals : List (Tmp × Value)) (n : Nat) (hn : a.tmps.size = n) (hok : plan ops n vals [] [] (fun _ => []) (fun _ => false) = true)
 (hstep : ∀ F : Act, F = putAll a vals → ∀ w' ph, J ph w' → Each (fun i o => (i = i0 → ph = false) → DoesT P ops J i0 ph F i o w') 0 ops.toList)
 (hend : ∀ w', J true w' → Q .normal (putAll a vals) w') :
 (Code.region id ops true).wp P Q a w := by
 have hfin : ∀ g l, fin a l [] g = putAll a l := fun g l => by simp [fin]
 have hok' := hok
 simp only [plan, Bool.and_eq_true, List.all_eq_true, decide_eq_true_eq, List.contains_iff_mem, List.append_nil] at hok
 obtain ⟨⟨⟨⟨hk1, hk2⟩, hnod⟩, hdn⟩, hop⟩ := hok
 refine wp_region_run hm hs vals [] [] (fun _ => []) (fun _ => false) (fun _ _ _ => True) n hn hok' J i0 hi0 hJ ?_ ?_
 · intro i o hi g w' ph hph hB _
   have hD := each_at ops.toList 0 i o (hstep _ rfl w' ph hB) (by simpa using hi)
   have hfr : fr a vals [] [] (fun _ => false) i g = putAll a vals := by
    unfold fr
    rw [if_neg (by simp), hfin, List.append_nil]
   rw [hfr]
   rw [Nat.zero_add] at hD
   replace hD := hD hph
   have hex : ∀ (v : Value), (putAll a vals).put o.dst v = putAll a vals → ∀ d u, o.dst = some d → (d, u) ∈ vals ++ [] → v = u := by
    intro v hv d u hd hu
    rw [List.append_nil] at hu
    have hdlt : d < n := (hk1 d (List.mem_map.2 ⟨_, hu, rfl⟩)).1
    rw [hd] at hv
    have h1 := put_slot _ d v (by rw [putAll_size, hn]; exact hdlt) hv
    rw [← h1, putAll_at vals d u a (by rw [hn]; exact hdlt) hnod hu]
   generalize putAll a vals = E at hD hex ⊢
   unfold DoesT at hD
   unfold Does
   split
   · rename_i hw
     rw [if_pos hw] at hD
     unfold Oper.wp at hD ⊢
     refine upon_congr (F := E) ?_ ?_ hD
     · rintro v w'' ⟨v', he, hF, hb⟩
       exact ⟨v', he, hex v' hF, trivial, hb, fun _ _ _ _ => trivial⟩
     · rintro d w'' ⟨v, he, _⟩
       have h1 := congrArg (fun x => x.defers.length) he
       simp only [defers_put, List.length_cons] at h1
       omega
   · rename_i hw
     rw [if_neg hw] at hD
     exact ⟨⟨hex undef hD.1, trivial⟩, hD.2⟩
 · intro g w' hB hall
   rw [hfin, List.append_nil]
   exact hend w' hB
theorem doesT_val {J : Bool → World → Prop} {i0 i : Nat} {ph : Bool} {F : Act} {o : Oper} {w : World} {v : Value} (hi : i ≠ i0) (hJ : J ph w) (hr : (execOp F.eval o).run P w = .ok (.value v) w) (hw : Region.wanted o (yielded ops F.tmps) = true) (hF : F.put o.dst v = F) : DoesT P ops J i0 ph F i o w := by
 unfold DoesT
 rw [if_pos hw]
 unfold Oper.wp
 rw [hr]
 exact ⟨v, rfl, hF, by simpa [hi] using hJ⟩
theorem doesT_call {J : Bool → World → Prop} {i0 i : Nat} {ph : Bool} {F : Act} {o : Oper} {w : World} {v : Value} {f : FuncId} {args : Array Value} (hi : i ≠ i0) (hJ : ∀ w', Below w.heap.size w w' → J ph w') (hc : Calls P f args w fun e w' => e = .returned v ∧ Below w.heap.size w w')
 (hr : (execOp F.eval o).run P w = .ok (.enter f args) w) (hw : Region.wanted o (yielded ops F.tmps) = true) (hF : F.put o.dst v = F) : DoesT P ops J i0 ph F i o w := by
 unfold DoesT
 rw [if_pos hw]
 unfold Oper.wp
 rw [hr]
 refine Calls.mono hc ?_
 rintro e w' ⟨rfl, hb⟩
 exact ⟨v, rfl, hF, by simpa [hi] using hJ _ hb⟩
theorem doesT_main {J : Bool → World → Prop} {i0 : Nat} {ph : Bool} {F : Act} {o : Oper} {w : World} {v : Value} {f : FuncId} {args : Array Value} (hc : Calls P f args w fun e w' => e = .returned v ∧ J true w')
 (hr : (execOp F.eval o).run P w = .ok (.enter f args) w) (hw : Region.wanted o (yielded ops F.tmps) = true) (hF : F.put o.dst v = F) : DoesT P ops J i0 ph F i0 o w := by
 unfold DoesT
 rw [if_pos hw]
 unfold Oper.wp
 rw [hr]
 refine Calls.mono hc ?_
 rintro e w' ⟨rfl, hb⟩
 exact ⟨v, rfl, hF, by simpa using hb⟩
end
end RegT
end Go.Proofs.YtamekagminbejaaGreatDoor
namespace Go.Proofs.YtamekagminbejaaGreatDoor
open Go Go.RowKit
set_option maxRecDepth 100000
def takes (op : Int) : Nat := if 2 ≤ op ∧ op ≤ 8 then 2 else if op = 9 ∨ op = 10 then 1 else 0
theorem ops_cases (op : Int) : op = 2 ∨ op = 3 ∨ op = 4 ∨ op = 5 ∨ op = 6 ∨ op = 7 ∨ op = 8 ∨ op = 9 ∨ op = 10 ∨ ((op == 2) = false ∧ (op == 3) = false ∧ (op == 4) = false ∧ (op == 5) = false ∧ (op == 6) = false ∧ (op == 7) = false ∧ (op == 8) = false ∧ (op == 9) = false ∧ (op == 10) = false) := by
 simp only [beq_eq_false_iff_ne]
 omega
theorem takes_le (op : Int) : takes op ≤ 2 := by unfold takes; split <;> (try split) <;> omega
set_option maxHeartbeats 1000000 in
theorem operands_c (op : Int) (w : World) : Calls Tryz.prog 165 #[.int .i64 op] w fun e w' => e = .returned (.int .i64 (takes op)) ∧ w' = w := by
 rcases ops_cases op with rfl | rfl | rfl | rfl | rfl | rfl | rfl | rfl | rfl | ⟨h2, h3, h4, h5, h6, h7, h8, h9, h10⟩
 all_goals first
  | (go_enter Tryz.func165, Tryz.ntmps165
     go_wp2
     go_ret
     exact ⟨rfl, rfl⟩)
  | skip
 have e : takes op = 0 := by
  simp only [beq_eq_false_iff_ne] at h2 h3 h4 h5 h6 h7 h8 h9 h10
  unfold takes
  rw [if_neg (by omega), if_neg (by omega)]
 rw [e]
 go_enter Tryz.func165, Tryz.ntmps165
 go_wp2
 go_ret
 exact ⟨rfl, rfl⟩
def fitB (kind : Int) : List Int → Bool
 | [] => true
 | k :: r => !(k != kind && k != 0) && fitB kind r
theorem fit_drop (kind : Int) (ks : List Int) (i : Nat) (k : Int) (h : ks[i]? = some k) : fitB kind (ks.drop i) = (!(k != kind && k != 0) && fitB kind (ks.drop (i + 1))) := by
 have hlt : i < ks.length := (List.getElem?_eq_some_iff.1 h).1
 have hv : ks[i] = k := (List.getElem?_eq_some_iff.1 h).2
 rw [List.drop_eq_getElem_cons hlt, hv, fitB]
set_option maxHeartbeats 2000000 in
theorem fit_c (kind : Int) (A : Option Addr) (n c : Nat) (ks : List Int) (w : World) (hn : ks.length = n) (hmax : n ≤ 1000) (hs : SlI w A ks) :
 Calls Tryz.prog 198 #[.int .i64 kind, .slice A n c] w fun e w' => e = .returned (.bool (fitB kind ks)) ∧ w' = w := by
 have Hn := Lib.hid hn
 have Hs := Lib.hid hs
 clear hn hs
 go_enter Tryz.func198, Tryz.ntmps198
 go_wp2_with fail
 go_loopw [9] (fun i wr => ∃ k : Nat, k ≤ n ∧ i = .int .i64 k ∧ wr = w ∧ Hid (fitB kind (ks.drop k) = fitB kind ks)) (fun i _ => n - (intOf i).toNat)
 case atStart => exact ⟨0, Nat.zero_le _, rfl, rfl, rfl⟩
 case round =>
  obtain ⟨k, hk, rfl, rfl, hinv⟩ := hrel
  by_cases hlt' : k < n
  · obtain ⟨v, hv⟩ : ∃ v, ks[k]? = some v := ⟨ks[k]'(by rw [Hn.out]; exact hlt'), List.getElem?_eq_getElem _⟩
    rcases Hs.out with h0 | ⟨b, off, rfl, hlt, hc⟩
    · rw [h0] at hv; simp at hv
    have c0 := hc k v hv
    have hstep := fit_drop kind ks k v hv
    clear hc hv
    cases h1 : v != kind
    · have Hst := Lib.hid (hstep.symm.trans hinv.out)
      rw [h1] at Hst
      clear hstep
      go_wp2
      go_roundw
      case rel => exact ⟨k + 1, by omega, by go_num, trivial, Lib.hid (by have := Hst.out; simpa using this)⟩
      case measure => simp [intOf]; omega
    · cases h2 : v != 0
      · have Hst := Lib.hid (hstep.symm.trans hinv.out)
        rw [h1, h2] at Hst
        clear hstep
        go_wp2
        go_roundw
        case rel => exact ⟨k + 1, by omega, by go_num, trivial, Lib.hid (by have := Hst.out; simpa using this)⟩
        case measure => simp [intOf]; omega
      · have Hst := Lib.hid (hstep.symm.trans hinv.out)
        rw [h1, h2] at Hst
        clear hstep
        go_wp2
        go_ret
        exact ⟨by rw [← Hst.out]; rfl, rfl⟩
  · have hkn : k = n := by omega
    have hstep := hinv.out
    rw [List.drop_eq_nil_of_le (by rw [Hn.out]; omega)] at hstep
    have Hst := Lib.hid hstep
    clear hstep
    go_wp2
    go_ret
    exact ⟨by rw [← Hst.out]; rfl, rfl⟩
def kindR (op : Int) (ks : List Int) : Int × Bool :=
 if op == 2 || op == 3 || op == 4 then (2, fitB 2 ks) else if op == 5 || op == 6 then (1, fitB (ks.getD 0 0) ks || fitB (ks.getD 1 0) ks) else if op == 7 || op == 8 || op == 9 then (1, fitB 1 ks) else if op == 10 then (1, true) else (0, false)
set_option maxHeartbeats 2000000 in
theorem kindOf_cmp (op : Int) (hop : op = 5 ∨ op = 6) (A : Option Addr) (c : Nat) (x y : Int) (w : World) (hs : SlI w A [x, y]) :
 Calls Tryz.prog 166 #[.int .i64 op, .slice A 2 c] w fun e w' => e = .returned (.tuple #[.int .i64 1, .bool (fitB x [x, y] || fitB y [x, y])]) ∧ w' = w := by
 have Hs := Lib.hid hs
 rcases hs with h0 | ⟨b, off, rfl, hlt, hc⟩
 · cases h0
 have c0 := hc 0 x rfl
 have c1 := hc 1 y rfl
 rw [Nat.add_zero] at c0
 clear hc
 obtain ⟨f1, hf1⟩ : ∃ f1, fitB x [x, y] = f1 := ⟨_, rfl⟩
 obtain ⟨f2, hf2⟩ : ∃ f2, fitB y [x, y] = f2 := ⟨_, rfl⟩
 rw [hf1, hf2]
 have H1 := Lib.hid hf1
 have H2 := Lib.hid hf2
 clear hf1 hf2
 rcases hop with rfl | rfl
 all_goals
  go_enter Tryz.func166, Tryz.ntmps166
  go_wp2_with fail
  refine (fit_c x _ 2 c [x, y] w rfl (by decide) Hs.out).mono ?_
  rintro e w1 ⟨rfl, rfl⟩
  rw [H1.out]
  cases f1
  · go_wp2_with fail
    refine (fit_c y _ 2 c [x, y] w1 rfl (by decide) Hs.out).mono ?_
    rintro e w1 ⟨rfl, rfl⟩
    rw [H2.out]
    go_wp2
    go_ret2
    exact ⟨rfl, rfl⟩
  · go_wp2
    go_ret2
    exact ⟨rfl, rfl⟩
set_option maxHeartbeats 2000000 in
theorem kindOf_one (op kind : Int) (hop : (kind = 2 ∧ (op = 2 ∨ op = 3 ∨ op = 4)) ∨ (kind = 1 ∧ (op = 7 ∨ op = 8 ∨ op = 9))) (A : Option Addr) (n c : Nat) (ks : List Int) (w : World) (hn : ks.length = n) (hmax : n ≤ 1000) (hs : SlI w A ks) :
 Calls Tryz.prog 166 #[.int .i64 op, .slice A n c] w fun e w' => e = .returned (.tuple #[.int .i64 kind, .bool (fitB kind ks)]) ∧ w' = w := by
 obtain ⟨f1, hf1⟩ : ∃ f1, fitB kind ks = f1 := ⟨_, rfl⟩
 rw [hf1]
 have H1 := Lib.hid hf1
 have Hn := Lib.hid hn
 have Hs := Lib.hid hs
 clear hf1 hn hs
 rcases hop with ⟨rfl, rfl | rfl | rfl⟩ | ⟨rfl, rfl | rfl | rfl⟩
 all_goals
  go_enter Tryz.func166, Tryz.ntmps166
  go_wp2_with fail
  refine (fit_c _ _ n c ks w Hn.out hmax Hs.out).mono ?_
  rintro e w1 ⟨rfl, rfl⟩
  rw [H1.out]
  go_wp2
  go_ret2
  exact ⟨rfl, rfl⟩
set_option maxHeartbeats 2000000 in
theorem kindOf_null (A : Option Addr) (n c : Nat) (w : World) :
 Calls Tryz.prog 166 #[.int .i64 10, .slice A n c] w fun e w' => e = .returned (.tuple #[.int .i64 1, .bool true]) ∧ w' = w := by
 go_enter Tryz.func166, Tryz.ntmps166
 go_wp2
 go_ret2
 exact ⟨rfl, rfl⟩
set_option maxHeartbeats 2000000 in
theorem kindOf_other (op : Int) (A : Option Addr) (n c : Nat) (w : World) (h2 : (op == 2) = false) (h3 : (op == 3) = false) (h4 : (op == 4) = false) (h5 : (op == 5) = false) (h6 : (op == 6) = false) (h7 : (op == 7) = false) (h8 : (op == 8) = false) (h9 : (op == 9) = false) (h10 : (op == 10) = false) :
 Calls Tryz.prog 166 #[.int .i64 op, .slice A n c] w fun e w' => e = .returned (.tuple #[.int .i64 0, .bool false]) ∧ w' = w := by
 go_enter Tryz.func166, Tryz.ntmps166
 go_wp2
 go_ret2
 exact ⟨rfl, rfl⟩
theorem kindOf_c (op : Int) (A : Option Addr) (n c : Nat) (ks : List Int) (w : World) (hn : ks.length = n) (ht : ks.length = takes op) (hs : SlI w A ks) :
 Calls Tryz.prog 166 #[.int .i64 op, .slice A n c] w fun e w' => e = .returned (.tuple #[.int .i64 (kindR op ks).1, .bool (kindR op ks).2]) ∧ w' = w := by
 have hmax : n ≤ 1000 := by have := takes_le op; omega
 rcases ops_cases op with rfl | rfl | rfl | rfl | rfl | rfl | rfl | rfl | rfl | ⟨h2, h3, h4, h5, h6, h7, h8, h9, h10⟩
 · exact kindOf_one 2 2 (.inl ⟨rfl, .inl rfl⟩) A n c ks w hn hmax hs
 · exact kindOf_one 3 2 (.inl ⟨rfl, .inr (.inl rfl)⟩) A n c ks w hn hmax hs
 · exact kindOf_one 4 2 (.inl ⟨rfl, .inr (.inr rfl)⟩) A n c ks w hn hmax hs
 · match ks, ht with
   | [x, y], _ => subst hn; exact kindOf_cmp 5 (.inl rfl) A c x y w hs
 · match ks, ht with
   | [x, y], _ => subst hn; exact kindOf_cmp 6 (.inr rfl) A c x y w hs
 · exact kindOf_one 7 1 (.inr ⟨rfl, .inl rfl⟩) A n c ks w hn hmax hs
 · exact kindOf_one 8 1 (.inr ⟨rfl, .inr (.inl rfl)⟩) A n c ks w hn hmax hs
 · exact kindOf_one 9 1 (.inr ⟨rfl, .inr (.inr rfl)⟩) A n c ks w hn hmax hs
 · exact kindOf_null A n c w
 · have e : kindR op ks = (0, false) := by simp [kindR, h2, h3, h4, h5, h6, h7, h8, h9, h10]
   rw [e]
   exact kindOf_other op A n c w h2 h3 h4 h5 h6 h7 h8 h9 h10
def OwnJ (w : World) (B : Nat) (v : Value) (ks : List Int) : Prop := w.ownsRow B 3 1 v ks.length (ks.map (Value.int .i64))
theorem OwnJ.nil (w : World) (B : Nat) : OwnJ w B (.slice none 0 0) [] := World.ownsRow_nil w B _ 1
theorem OwnJ.lt {w : World} {B : Nat} {v : Value} {xs : List Int} (h : OwnJ w B v xs) : ∀ k, v.ownBlock = some k → B ≤ k ∧ k < w.heap.size := fun k hk => World.ownsRow.lt h k hk
theorem OwnJ.same {w w' : World} {B : Nat} {v : Value} {xs : List Int} (h : OwnJ w B v xs) (hb : ∀ k, v.ownBlock = some k → w'.heap[k]? = w.heap[k]?) : OwnJ w' B v xs := by
 obtain ⟨h1, h2⟩ := h
 refine ⟨h1, ?_⟩
 rcases h2 with h2 | ⟨g', cap, cur, hv, hB, hh, h3⟩
 · exact .inl h2
 · exact .inr ⟨g', cap, cur, hv, hB, (hb g' (by rw [hv]; rfl)).trans hh, h3⟩
theorem OwnJ.after {w w' : World} {B : Nat} {v : Value} {xs : List Int} (h : OwnJ w B v xs) (hb : Below w.heap.size w w') : OwnJ w' B v xs := h.same fun k hk => hb.block k (h.lt k hk).2
theorem OwnJ.alloc {w : World} {B : Nat} {v : Value} {xs : List Int} (h : OwnJ w B v xs) (o : Obj) : OwnJ (w.alloc o) B v xs := h.after (below_one w o)
theorem OwnJ.shape {w : World} {B : Nat} {v : Value} {xs : List Int} (h : OwnJ w B v xs) : (v = .slice none 0 0 ∧ xs = []) ∨ ∃ g c, v = .slice (some ⟨g, 0, none⟩) xs.length c ∧ xs.length ≤ c ∧ c ≤ maxLen ∧ ∀ i k, xs[i]? = some k → w.cell? ⟨g, i, none⟩ = some (.int .i64 k) := by
 rcases h.2 with ⟨rfl, hn⟩ | ⟨g, cap, cur, rfl, hB, hh, hle, hm, _⟩
 · exact .inl ⟨rfl, List.eq_nil_of_length_eq_zero hn⟩
 · refine .inr ⟨g, cap, rfl, hle, hm, fun i k hk => ?_⟩
   have := World.ownsRow.cells (g := g) h rfl i (.int .i64 k) (by rw [List.getElem?_map, hk]; rfl)
   rwa [Go.WideShapes.add_plain, Nat.zero_add] at this
theorem OwnJ.isSlice {w : World} {B : Nat} {v : Value} {xs : List Int} (h : OwnJ w B v xs) : ∃ A n c, v = .slice A n c := by
 rcases h.shape with ⟨rfl, _⟩ | ⟨g, c, rfl, _⟩
 · exact ⟨_, _, _, rfl⟩
 · exact ⟨_, _, _, rfl⟩
theorem OwnJ.shrink {w : World} {B g L c : Nat} {xs : List Int} (h : OwnJ w B (.slice (some ⟨g, 0, none⟩) L c) xs) (m : Nat) (hm : m ≤ xs.length) : OwnJ w B (.slice (some ⟨g, 0, none⟩) m c) (xs.take m) := by
 obtain ⟨h1, h2⟩ := h
 refine ⟨by simp, ?_⟩
 rcases h2 with ⟨h2, _⟩ | ⟨g', cap, cur, hv, hB, hh, hle, hmx, hsz, htk⟩
 · cases h2
 · cases hv
   refine .inr ⟨g, c, cur, by rw [List.length_take, Nat.min_eq_left hm], hB, hh, by rw [List.length_take]; omega, hmx, hsz, ?_⟩
   have e : (xs.take m).length * 1 = m := by rw [List.length_take]; omega
   rw [e, List.map_take, ← htk, List.take_take]
   congr 1
   omega
theorem Kx.set {w : World} {b : Nat} {v u : Value} (h : Kx w b v u) (v' : Value) : Kx (w.setCell ⟨b, 0, none⟩ v') b v' u := by
 unfold Kx at *
 simp [World.setCell, Array.getElem?_modify, h]
theorem Kx.apart {w : World} {b B : Nat} {v u x : Value} {xs : List Int} (h : Kx w b v u) (ho : OwnJ w B x xs) : x.ownBlock ≠ some b := by
 intro he
 rcases ho.2 with ⟨rfl, _⟩ | ⟨g, cap, cur, rfl, _, hh, _⟩
 · cases he
 · have hg : g = b := by simpa [Value.ownBlock] using he
   subst hg
   unfold Kx at h
   rw [h] at hh
   injection hh with hh
   injection hh with _ ht _
   exact absurd ht (by decide)
theorem OwnJ.set {w : World} {b B : Nat} {v u x y : Value} {xs : List Int} (ho : OwnJ w B x xs) (h : Kx w b v u) : OwnJ (w.setCell ⟨b, 0, none⟩ y) B x xs :=
 ho.same fun k hk => Below.heap_setCell _ _ _ _ (by rintro rfl; exact h.apart ho hk)
set_option maxHeartbeats 1000000 in
theorem pop_few (b n : Nat) (v u : Value) (ks : List Int) (B : Nat) (w : World) (hk : Kx w b v u) (ho : OwnJ w B v ks) (hn : n ≤ 2) (hl : ks.length < n) :
 Calls Tryz.prog 164 #[.pointer (some ⟨b, 0, none⟩), .int .i64 n] w fun e w' => e = .returned (.tuple #[.slice none 0 0, .bool false]) ∧ w' = w := by
 have c0 := hk.cell0
 have hL : (ks.length : Int) < n := by omega
 rcases ho.shape with ⟨rfl, rfl⟩ | ⟨g, c, rfl, _, _, _⟩
 all_goals
  clear hk ho
  go_enter Tryz.func164, Tryz.ntmps164
  go_wp2
  go_ret2
  exact ⟨rfl, rfl⟩
def PopPost (b n : Nat) (ks : List Int) (B : Nat) (A : Option Addr) (c : Nat) (v' : Value) (w : World) (e : Ending) (w' : World) : Prop :=
 e = .returned (.tuple #[.slice A n c, .bool true]) ∧ w' = w.setCell ⟨b, 0, none⟩ v' ∧ OwnJ w B v' (ks.take (ks.length - n)) ∧ SlI w A (ks.drop (ks.length - n)) ∧ ∀ a, A = some a → a.block ≠ b
set_option maxHeartbeats 1000000 in
theorem pop_nil (b : Nat) (u : Value) (B : Nat) (w : World) (hk : Kx w b (.slice none 0 0) u) :
 Calls Tryz.prog 164 #[.pointer (some ⟨b, 0, none⟩), .int .i64 0] w (PopPost b 0 [] B none 0 (.slice none 0 0) w) := by
 have c0 := hk.cell0
 have f0 := hk.frozen 0
 have hlt := hk.lt
 clear hk
 go_enter Tryz.func164, Tryz.ntmps164
 go_wp2
 go_ret2
 exact ⟨rfl, rfl, OwnJ.nil _ _, .inl rfl, fun a h => by cases h⟩
theorem pop_fin {b n g c L : Nat} {u : Value} {ks : List Int} {B : Nat} {w : World} (hk : Kx w b (.slice (some ⟨g, 0, none⟩) L c) u) (ho : OwnJ w B (.slice (some ⟨g, 0, none⟩) L c) ks) (hL : L = ks.length) (hl : n ≤ L) :
 ∀ e o c', e = Ending.returned (.tuple #[.slice (some ⟨g, o, none⟩) (L - (L - n)) c', .bool true]) → (n = 0 ∨ o = L - n) → PopPost b n ks B (some ⟨g, o, none⟩) c' (.slice (some ⟨g, 0, none⟩) (L - n) c) w e (w.setCell ⟨b, 0, none⟩ (.slice (some ⟨g, 0, none⟩) (L - n) c)) := fun e o c' he ho' => by
 have hgb : g ≠ b := fun e => hk.apart ho (by rw [e]; rfl)
 have hg := (ho.lt g rfl).2
 rcases ho.shape with ⟨h0, _⟩ | ⟨g', c'', h0, hle, hmx, hcell⟩
 · cases h0
 cases h0
 refine ⟨by rw [he, show ks.length - (ks.length - n) = n by omega], rfl, ho.shrink _ (by omega), ?_, fun a ha => by cases ha; exact hgb⟩
 rcases ho' with rfl | rfl
 · exact .inl (by simp)
 · exact .inr ⟨g, _, rfl, hg, fun i k hk => by rw [List.getElem?_drop] at hk; exact hcell _ _ hk⟩
set_option maxHeartbeats 1000000 in
theorem pop_full (b n g c L : Nat) (u : Value) (ks : List Int) (B : Nat) (w : World) (hk : Kx w b (.slice (some ⟨g, 0, none⟩) L c) u) (ho : OwnJ w B (.slice (some ⟨g, 0, none⟩) L c) ks) (hL : L = ks.length) (hn : n ≤ 2) (hl : n ≤ L) (hmax : L ≤ 1000) (hle : L ≤ c) (hc1 : L - n = c) :
 Calls Tryz.prog 164 #[.pointer (some ⟨b, 0, none⟩), .int .i64 n] w (PopPost b n ks B (some ⟨g, 0, none⟩) 0 (.slice (some ⟨g, 0, none⟩) c c) w) := by
 have c0 := hk.cell0
 have f0 := hk.frozen 0
 have hlt := hk.lt
 have hn0 : n = 0 := by omega
 have Hf0 := Lib.hid (show ∀ e, e = Ending.returned (.tuple #[.slice (some ⟨g, 0, none⟩) 0 0, .bool true]) → PopPost b n ks B (some ⟨g, 0, none⟩) 0 (.slice (some ⟨g, 0, none⟩) c c) w e (w.setCell ⟨b, 0, none⟩ (.slice (some ⟨g, 0, none⟩) c c)) from fun e he => by
  have h := pop_fin hk ho hL hl e 0 0 (by rw [he, show L - (L - n) = 0 by omega]) (.inl hn0)
  rwa [hc1] at h)
 clear hn0 hk ho hL
 go_enter Tryz.func164, Tryz.ntmps164
 go_wp2
 go_ret2
 exact Hf0.out _ rfl
set_option maxHeartbeats 1000000 in
theorem pop_more (b n g c L : Nat) (u : Value) (ks : List Int) (B : Nat) (w : World) (hk : Kx w b (.slice (some ⟨g, 0, none⟩) L c) u) (ho : OwnJ w B (.slice (some ⟨g, 0, none⟩) L c) ks) (hL : L = ks.length) (hn : n ≤ 2) (hl : n ≤ L) (hmax : L ≤ 1000) (hle : L ≤ c) (hc1 : L - n < c) :
 Calls Tryz.prog 164 #[.pointer (some ⟨b, 0, none⟩), .int .i64 n] w (PopPost b n ks B (some ⟨g, L - n, none⟩) (c - (L - n)) (.slice (some ⟨g, 0, none⟩) (L - n) c) w) := by
 have c0 := hk.cell0
 have f0 := hk.frozen 0
 have hlt := hk.lt
 have Hfin := Lib.hid (pop_fin hk ho hL hl)
 clear hk ho hL
 go_enter Tryz.func164, Tryz.ntmps164
 go_wp2
 go_ret2
 exact Hfin.out _ _ _ rfl (.inr rfl)
theorem pop_det (n : Nat) (v : Value) (ks : List Int) (w0 : World) (B0 : Nat) (ho0 : OwnJ w0 B0 v ks) (hn : n ≤ 2) (hl : n ≤ ks.length) (hmax : ks.length ≤ 1000) :
 ∃ A c v', ∀ (b : Nat) (u : Value) (B : Nat) (w : World), Kx w b v u → OwnJ w B v ks → Calls Tryz.prog 164 #[.pointer (some ⟨b, 0, none⟩), .int .i64 n] w (PopPost b n ks B A c v' w) := by
 rcases ho0.shape with ⟨rfl, rfl⟩ | ⟨g, c, rfl, hle, _, _⟩
 · obtain rfl : n = 0 := by simpa using hl
   exact ⟨none, 0, _, fun b u B w hk _ => pop_nil b u B w hk⟩
 · have hcc : ks.length - n ≤ c := by omega
   rcases Nat.eq_or_lt_of_le hcc with hc1 | hc1
   · exact ⟨_, _, _, fun b u B w hk ho => pop_full b n g c _ u ks B w hk ho rfl hn hl hmax hle hc1⟩
   · exact ⟨_, _, _, fun b u B w hk ho => pop_more b n g c _ u ks B w hk ho rfl hn hl hmax hle hc1⟩
theorem SlI.set {w : World} {b : Nat} {A : Option Addr} {ks : List Int} {y : Value} (h : SlI w A ks) (hne : ∀ a, A = some a → a.block ≠ b) : SlI (w.setCell ⟨b, 0, none⟩ y) A ks := by
 rcases h with h | ⟨g, off, hA, hlt, h⟩
 · exact .inl h
 · refine .inr ⟨g, off, hA, by simpa [World.setCell] using hlt, fun i k hk => ?_⟩
   have e : (w.setCell ⟨b, 0, none⟩ y).heap[g]? = w.heap[g]? := Below.heap_setCell _ _ _ _ (hne _ hA)
   rw [← h i k hk]
   exact World.cell?_of_block e
theorem intInfo : (Tryz.prog.info? 3).map (fun i => (i.zero, i.size, i.bytes)) = some (some (.int .i64 0), 1, 8) := by kernel_rfl
theorem wpList_appI {ops : Array Oper} {rest : List Oper} {o : Oper} {a : Act} {Q : Exit → Act → World → Prop} {w0 : World} (x : Int) (hgd : o.guard = none) (s y : Operand) (ho : o.op = .call { callee := .builtin .append, args := #[s, y], argTypes := #[33, 33] })
 (B : Nat) (v : Value) (xs : List Int) (hs : a.eval s = v) (hb : OwnJ w0 B v xs) (g : Nat) (hx : a.eval y = .slice (some ⟨g, 0, none⟩) 1 1) (hg : g = w0.heap.size)
 (hmax : xs.length ≤ 1000000) (hB : B ≤ w0.heap.size)
 (h : ∀ v' w', OwnJ w' B v' (xs ++ [x]) → w0.grownBy w' v.ownBlock → wpList Tryz.prog ops Q rest (a.put o.dst v') w') : wpList Tryz.prog ops Q (o :: rest) a (w0.alloc (.cells #[.int .i64 x] 3)) := by
 obtain ⟨i0, hi, hz0, hz1, hz2⟩ := info_parts intInfo
 subst hg
 have hal := hb.alloc (.cells #[.int .i64 x] 3)
 refine wpList_append_own_at _ hgd s y 33 ho B 3 i0 (.int .i64 0) 1 8 Tryz.underlying33 hi hz0 hz1 hz2 (by decide) (by decide) v xs.length (xs.map (Value.int .i64)) hs hal ⟨w0.heap.size, 0, none⟩ 1 1 [.int .i64 x] hx rfl (cell_one_new _ _ _) (by intro u hu; simp at hu; subst hu; rfl) (by unfold maxLen; omega) (by omega) (by simp; omega) ?_
 intro v' w' hown' hgrow _ _
 refine h v' w' ?_ ((World.grownBy_alloc w0 _ _).trans hgrow)
 unfold OwnJ
 rw [List.map_append, List.length_append]
 exact hown'
def PushPost (b : Nat) (u : Value) (ks : List Int) (B : Nat) (w : World) (e : Ending) (w' : World) : Prop :=
 e = .returned (.tuple #[]) ∧ Below B w w' ∧ ∃ v', Kx w' b v' u ∧ OwnJ w' B v' ks
set_option maxHeartbeats 1000000 in
theorem push_c (b : Nat) (x : Int) (v u : Value) (ks : List Int) (B : Nat) (w : World) (hk : Kx w b v u) (ho : OwnJ w B v ks) (hB : B ≤ b) (hmax : ks.length ≤ 1000) :
 Calls Tryz.prog 139 #[.pointer (some ⟨b, 0, none⟩), .int .i64 x] w (PushPost b u (ks ++ [x]) B w) := by
 have c0 := hk.cell0
 have hlt := hk.lt
 have Ho := Lib.hid ho
 have Hk := Lib.hid hk
 clear ho hk
 go_enter Tryz.func139, Tryz.ntmps139
 go_wp2_with (at_builtin; go_must (
  refine wpList_appI x rfl (.tmp 8) (.tmp 10) rfl B _ ks rfl Ho.out _ rfl rfl (by omega) (by omega) ?_
  intro v1 w1 hv1 hg1
  obtain ⟨A1, N1, C1, rfl⟩ := hv1.isSlice
  have hb1 : Below B w w1 := (Below.refl B w).grown hg1 (by omega) (fun k hk => (Ho.out.lt k hk).1)
  have k1 : Kx w1 b v u := (hg1.block b hlt (fun e => Hk.out.apart Ho.out e.symm)).trans Hk.out
  have c1 := k1.cell0
  have f1 := k1.frozen 0
  have l1 := k1.lt
  have Hv1 := Lib.hid hv1
  have Hk1 := Lib.hid k1
  have Hb1 := Lib.hid hb1
  clear hv1 hg1 k1 hb1))
 exact bodyPost_ret (v := .tuple #[]) (by simp [results, Tryz.results139]) rfl ⟨rfl, Hb1.out.setCell hB _, _, Hk1.out.set _, Hv1.out.set Hk1.out⟩
theorem Nx.cell3 {w : World} {b : Nat} {x : Nd} (h : Nx w b x) : w.cell? ⟨b, 3, none⟩ = some (.int .i64 x.v.n) := by unfold Nx at h; simp [World.cell?, h, Nd.cells]
theorem Nx.cell4 {w : World} {b : Nat} {x : Nd} (h : Nx w b x) : w.cell? ⟨b, 4, none⟩ = some (.string x.v.s) := by unfold Nx at h; simp [World.cell?, h, Nd.cells]
theorem Nx.set {w : World} {b c : Nat} {x : Nd} {y v u : Value} (h : Nx w b x) (hk : Kx w c v u) : Nx (w.setCell ⟨c, 0, none⟩ y) b x := by
 refine h.block (Below.heap_setCell _ _ _ _ ?_)
 rintro rfl
 unfold Nx at h
 unfold Kx at hk
 rw [hk] at h
 injection h with h
 injection h with _ ht _
 exact absurd ht (by decide)
set_option maxHeartbeats 1000000 in
theorem result_one (b : Nat) (x : Int) (v u : Value) (B : Nat) (w : World) (hk : Kx w b v u) (ho : OwnJ w B v [x]) :
 Calls Tryz.prog 119 #[.pointer (some ⟨b, 0, none⟩)] w fun e w' => e = .returned (.tuple #[.int .i64 x, .int .i64 0]) ∧ w' = w := by
 have c0 := hk.cell0
 rcases ho.shape with ⟨_, h0⟩ | ⟨g, c, rfl, hc, hm, hcell⟩
 · cases h0
 have c1 := hcell 0 x rfl
 clear hk ho hcell
 go_enter Tryz.func119, Tryz.ntmps119
 go_wp2
 go_ret2
 exact ⟨rfl, rfl⟩
set_option maxHeartbeats 1000000 in
theorem result_bad (b : Nat) (ks : List Int) (v u : Value) (B : Nat) (w : World) (hk : Kx w b v u) (ho : OwnJ w B v ks) (hl : ks.length ≠ 1) :
 Calls Tryz.prog 119 #[.pointer (some ⟨b, 0, none⟩)] w fun e w' => e = .returned (.tuple #[.int .i64 0, .int .i64 30]) ∧ w' = w := by
 have c0 := hk.cell0
 have hl2 : ((ks.length : Int) != 1) = true := by simp; omega
 rcases ho.shape with ⟨rfl, h0⟩ | ⟨g, c, rfl, hc, hm, hcell⟩
 all_goals
  clear hk ho
  go_enter Tryz.func119, Tryz.ntmps119
  go_wp2
  go_ret2
  exact ⟨rfl, rfl⟩
def colR (cols : List Int) (n : Int) : Int × Bool := if n < 0 then (0, false) else match cols[n.toNat]? with
 | none => (0, false)
 | some k => (k, decide (0 < k) && decide (k < 4))
set_option maxHeartbeats 1000000 in
theorem column_low (b : Nat) (n : Int) (w : World) (hn : n < 0) :
 Calls Tryz.prog 162 #[.pointer (some ⟨b, 0, none⟩), .int .i64 n] w fun e w' => e = .returned (.tuple #[.int .i64 0, .bool false]) ∧ w' = w := by
 have h1 : decide (n < 0) = true := decide_eq_true hn
 clear hn
 go_enter Tryz.func162, Tryz.ntmps162
 go_wp2
 go_ret2
 exact ⟨rfl, rfl⟩
set_option maxHeartbeats 1000000 in
theorem column_high (b : Nat) (n m : Nat) (c : Nat) (A : Option Addr) (v : Value) (w : World) (hk : Kx w b v (.slice A m c)) (hn : m ≤ n) :
 Calls Tryz.prog 162 #[.pointer (some ⟨b, 0, none⟩), .int .i64 n] w fun e w' => e = .returned (.tuple #[.int .i64 0, .bool false]) ∧ w' = w := by
 have c1 := hk.cell1
 have h1 : decide ((n : Int) < 0) = false := decide_eq_false (by omega)
 have h2 : decide ((m : Int) ≤ n) = true := decide_eq_true (by omega)
 clear hk
 go_enter Tryz.func162, Tryz.ntmps162
 go_wp2
 go_ret2
 exact ⟨rfl, rfl⟩
set_option maxHeartbeats 1000000 in
theorem column_in (b : Nat) (n m : Nat) (c off g : Nat) (k : Int) (v : Value) (w : World) (hk : Kx w b v (.slice (some ⟨g, off, none⟩) m c)) (hn : n < m) (hc : w.cell? ⟨g, off + n, none⟩ = some (.int .i64 k)) :
 Calls Tryz.prog 162 #[.pointer (some ⟨b, 0, none⟩), .int .i64 n] w fun e w' => e = .returned (.tuple #[.int .i64 k, .bool (decide (0 < k) && decide (k < 4))]) ∧ w' = w := by
 have c1 := hk.cell1
 have h1 : decide ((n : Int) < 0) = false := decide_eq_false (by omega)
 have h2 : decide ((m : Int) ≤ n) = false := decide_eq_false (by omega)
 clear hk
 cases h3 : decide (0 < k)
 · go_enter Tryz.func162, Tryz.ntmps162
   go_wp2
   go_ret2
   exact ⟨rfl, rfl⟩
 · go_enter Tryz.func162, Tryz.ntmps162
   go_wp2
   go_ret2
   exact ⟨rfl, rfl⟩
theorem column_c (b : Nat) (n : Int) (m c : Nat) (A : Option Addr) (cols : List Int) (v : Value) (w : World) (hk : Kx w b v (.slice A m c)) (hl : cols.length = m) (hs : SlI w A cols) :
 Calls Tryz.prog 162 #[.pointer (some ⟨b, 0, none⟩), .int .i64 n] w fun e w' => e = .returned (.tuple #[.int .i64 (colR cols n).1, .bool (colR cols n).2]) ∧ w' = w := by
 unfold colR
 by_cases hn : n < 0
 · rw [if_pos hn]
   exact column_low b n w hn
 · rw [if_neg hn]
   obtain ⟨i, rfl⟩ : ∃ i : Nat, n = i := ⟨n.toNat, by omega⟩
   rw [Int.toNat_natCast]
   cases h : cols[i]? with
   | none => exact column_high b i m c A v w hk (by rw [← hl]; exact List.getElem?_eq_none_iff.1 h)
   | some k =>
     have hlt := (List.getElem?_eq_some_iff.1 h).1
     rcases hs with h0 | ⟨g, off, rfl, _, hc⟩
     · rw [h0] at h; simp at h
     · exact column_in b i m c off g k v w hk (by omega) (hc i k h)
theorem ev_nc {F : Act} {w : World} {a : Addr} {s : Nat} {o : Oper} (ho : o.op = .nilCheck (.tmp s)) (ht : Reg.slot F s = .pointer (some a)) :
 (execOp F.eval o).run Tryz.prog w = .ok (.value (.pointer (some a))) w := by
 have e1 : F.eval (.tmp s) = .pointer (some a) := ht
 simp only [execOp, ho, e1]
 rfl
theorem fa_node2 (w : World) (b : Nat) : (Instr.fieldAt 83 (.pointer (some ⟨b, 0, none⟩)) 2).run Tryz.prog w = .ok (.pointer (some ⟨b, 2, none⟩)) w := by go_simp
theorem fa_node0 (w : World) (b : Nat) : (Instr.fieldAt 83 (.pointer (some ⟨b, 0, none⟩)) 0).run Tryz.prog w = .ok (.pointer (some ⟨b, 0, none⟩)) w := by go_simp
theorem fa_val0 (w : World) (b off : Nat) : (Instr.fieldAt 81 (.pointer (some ⟨b, off, none⟩)) 0).run Tryz.prog w = .ok (.pointer (some ⟨b, off, none⟩)) w := by go_simp
theorem fa_kinds0 (w : World) (b : Nat) : (Instr.fieldAt 175 (.pointer (some ⟨b, 0, none⟩)) 0).run Tryz.prog w = .ok (.pointer (some ⟨b, 0, none⟩)) w := by go_simp
theorem Nx.ldV {w : World} {b : Nat} {x : Nd} (h : Nx w b x) : (Instr.loadAt 81 (.pointer (some ⟨b, 2, none⟩))).run Tryz.prog w = .ok x.v.v w := by
 have h2 := h.cell2
 have h3 := h.cell3
 have h4 := h.cell4
 go_simp
theorem Nx.ldK {w : World} {b : Nat} {x : Nd} (h : Nx w b x) : (Instr.loadAt 3 (.pointer (some ⟨b, 2, none⟩))).run Tryz.prog w = .ok (.int .i64 x.v.k) w := by
 have h2 := h.cell2
 go_simp
theorem Nx.ldO {w : World} {b : Nat} {x : Nd} (h : Nx w b x) : (Instr.loadAt 3 (.pointer (some ⟨b, 0, none⟩))).run Tryz.prog w = .ok (.int .i64 x.op) w := by
 have h0 := h.cell0
 go_simp
def lvK (cols ks : List Int) (x : Nd) : Int × Bool × List Int :=
 if x.op == 0 then ((colR cols x.n).1, (colR cols x.n).2, ks) else if x.op == 1 then (x.v.k, mayB x.v, ks)
 else if ks.length < takes x.op then (0, false, ks) else ((kindR x.op (ks.drop (ks.length - takes x.op))).1, (kindR x.op (ks.drop (ks.length - takes x.op))).2, ks.take (ks.length - takes x.op))
def LvPost (b : Nat) (u : Value) (B : Nat) (r : Int × Bool × List Int) (w : World) (e : Ending) (w' : World) : Prop :=
 e = .returned (.tuple #[.int .i64 r.1, .bool r.2.1]) ∧ Below B w w' ∧ ∃ v', Kx w' b v' u ∧ OwnJ w' B v' r.2.2
theorem enMayE : ∀ args w, (callFunc 163 args).run Tryz.prog w = .ok (.enter 163 args) w := fun _ _ => by kernel_rfl
theorem enOperands : ∀ args w, (callFunc 165 args).run Tryz.prog w = .ok (.enter 165 args) w := fun _ _ => by kernel_rfl
theorem enPopI : ∀ args w, (callFunc 164 args).run Tryz.prog w = .ok (.enter 164 args) w := fun _ _ => by kernel_rfl
set_option maxHeartbeats 1000000 in
theorem leaves_col (b B : Nat) (x : Nd) (v : Value) (A : Option Addr) (m c : Nat) (cols ks : List Int) (w : World) (hk : Kx w b v (.slice A m c)) (ho : OwnJ w B v ks) (hB : B ≤ b) (hl : cols.length = m) (hs : SlI w A cols) (hop : (x.op == 0) = true) :
 Calls Tryz.prog 138 #[.pointer (some ⟨b, 0, none⟩), x.w] w (LvPost b (.slice A m c) B ((colR cols x.n).1, (colR cols x.n).2, ks) w) := by
 have hlt := hk.lt
 have Hk := Lib.hid hk
 have Ho := Lib.hid ho
 have Hs := Lib.hid hs
 have Hl := Lib.hid hl
 clear hk ho hs hl
 obtain ⟨r1, r2, hr⟩ : ∃ r1 r2, colR cols x.n = (r1, r2) := ⟨_, _, rfl⟩
 rw [hr]
 have Hr := Lib.hid hr
 clear hr
 go_enter Tryz.func138, Tryz.ntmps138
 go_wp2_with fail
 refine (column_c b x.n m c A cols v _ (Hk.out.alloc _) Hl.out (Hs.out.alloc _)).mono ?_
 rintro e w1 ⟨rfl, rfl⟩
 rw [Hr.out]
 go_wp2
 go_ret2
 exact ⟨rfl, (Below.refl B w).alloc (by omega) _, v, Hk.out.alloc _, Ho.out.alloc _⟩
set_option maxHeartbeats 1000000 in
theorem leaves_const (b B : Nat) (x : Nd) (v u : Value) (ks : List Int) (w : World) (hk : Kx w b v u) (ho : OwnJ w B v ks) (hB : B ≤ b) (hz : x.v.s.size ≤ maxLen) (h0 : (x.op == 0) = false) (hop : (x.op == 1) = true) :
 Calls Tryz.prog 138 #[.pointer (some ⟨b, 0, none⟩), x.w] w (LvPost b u B (x.v.k, mayB x.v, ks) w) := by
 have hlt := hk.lt
 have Hk := Lib.hid hk
 have Ho := Lib.hid ho
 have Hz := Lib.hid hz
 clear hk ho hz
 go_enter Tryz.func138, Tryz.ntmps138
 go_wp2_with fail
 have hn0 : Nx (w.alloc (.cells x.cells 83)) w.heap.size x := Nx.new w x
 refine Reg.wp_region_vals mixed (by kernel_rfl) [(20, .pointer (some ⟨w.heap.size, 2, none⟩)), (21, .pointer (some ⟨w.heap.size, 2, none⟩)), (22, .int .i64 x.v.k), (23, .pointer (some ⟨w.heap.size, 2, none⟩)), (24, x.v.v), (25, .bool (mayB x.v)), (4, .int .i64 x.v.k), (5, .bool (mayB x.v))] 44 rfl (by kernel_rfl) ?_ ?_
 · intro F hF w' hB'
   have hn : Nx w' w.heap.size x := hn0.after hB'
   refine ⟨?_, ?_, ?_, ?_, ?_, ?_, ?_, ?_, trivial⟩
   · exact Reg.doesV_val (ev_fa rfl (by rw [hF]; kernel_rfl) (fa_node2 w' w.heap.size)) (by rw [hF]; kernel_rfl) (by rw [hF]; kernel_rfl)
   · exact Reg.doesV_val (ev_fa rfl (by rw [hF]; kernel_rfl) (fa_val0 w' w.heap.size 2)) (by rw [hF]; kernel_rfl) (by rw [hF]; kernel_rfl)
   · exact Reg.doesV_val (ev_ld rfl (by rw [hF]; kernel_rfl) hn.ldK) (by rw [hF]; kernel_rfl) (by rw [hF]; kernel_rfl)
   · exact Reg.doesV_val (ev_fa rfl (by rw [hF]; kernel_rfl) (fa_node2 w' w.heap.size)) (by rw [hF]; kernel_rfl) (by rw [hF]; kernel_rfl)
   · exact Reg.doesV_val (ev_ld rfl (by rw [hF]; kernel_rfl) hn.ldV) (by rw [hF]; kernel_rfl) (by rw [hF]; kernel_rfl)
   · exact Reg.doesV_call (may_c x.v w' Hz.out) (ev_call enMayE rfl (by rw [hF]; kernel_rfl)) (by rw [hF]; kernel_rfl) (by rw [hF]; kernel_rfl)
   · exact Reg.doesV_val (ev_assign rfl) (by rw [hF]; kernel_rfl) (by rw [hF]; kernel_rfl)
   · exact Reg.doesV_val (ev_assign rfl) (by rw [hF]; kernel_rfl) (by rw [hF]; kernel_rfl)
 · intro w' hB'
   simp only [Reg.putAll, Act.put, List.setIfInBounds_toArray, List.set_cons_zero, List.set_cons_succ]
   have hbw : Below w.heap.size w w' := (below_one _ _).trans (hB'.mono (by simp))
   go_wp2
   go_ret2
   exact ⟨rfl, hbw.mono (by omega), v, Hk.out.after hbw, Ho.out.after hbw⟩
set_option maxHeartbeats 1000000 in
theorem leaves_few (b B : Nat) (x : Nd) (v u : Value) (ks : List Int) (w : World) (hk : Kx w b v u) (ho : OwnJ w B v ks) (hB : B ≤ b) (h0 : (x.op == 0) = false) (h1 : (x.op == 1) = false) (hl : ks.length < takes x.op) :
 Calls Tryz.prog 138 #[.pointer (some ⟨b, 0, none⟩), x.w] w (LvPost b u B (0, false, ks) w) := by
 have hlt := hk.lt
 have Hk := Lib.hid hk
 have Ho := Lib.hid ho
 have Hl := Lib.hid hl
 clear hk ho hl
 obtain ⟨T, hT⟩ : ∃ T, takes x.op = T := ⟨_, rfl⟩
 have HT := Lib.hid hT
 clear hT
 go_enter Tryz.func138, Tryz.ntmps138
 go_wp2_with fail
 have hn0 : Nx (w.alloc (.cells x.cells 83)) w.heap.size x := Nx.new w x
 refine Reg.wp_region_vals mixed (by kernel_rfl) [(27, .pointer (some ⟨b, 0, none⟩)), (28, .pointer (some ⟨b, 0, none⟩)), (29, .pointer (some ⟨b, 0, none⟩)), (30, .pointer (some ⟨w.heap.size, 0, none⟩)), (31, .int .i64 x.op), (32, .int .i64 T), (33, .tuple #[.slice none 0 0, .bool false]), (26, .tuple #[.slice none 0 0, .bool false]), (34, .slice none 0 0), (35, .bool false), (6, .slice none 0 0), (7, .bool false)] 44 rfl (by kernel_rfl) ?_ ?_
 · intro F hF w' hB'
   have hn : Nx w' w.heap.size x := hn0.after hB'
   have hk' : Kx w' b v u := (Hk.out.alloc _).after hB'
   have ho' : OwnJ w' B v ks := (Ho.out.alloc _).after hB'
   refine ⟨?_, ?_, ?_, ?_, ?_, ?_, ?_, ?_, ?_, ?_, ?_, ?_, trivial⟩
   · exact Reg.doesV_val (ev_move rfl) (by rw [hF]; kernel_rfl) (by rw [hF]; kernel_rfl)
   · exact Reg.doesV_val (ev_nc (a := ⟨b, 0, none⟩) rfl (by rw [hF]; kernel_rfl)) (by rw [hF]; kernel_rfl) (by rw [hF]; kernel_rfl)
   · exact Reg.doesV_val (ev_fa rfl (by rw [hF]; kernel_rfl) (fa_kinds0 w' b)) (by rw [hF]; kernel_rfl) (by rw [hF]; kernel_rfl)
   · exact Reg.doesV_val (ev_fa rfl (by rw [hF]; kernel_rfl) (fa_node0 w' w.heap.size)) (by rw [hF]; kernel_rfl) (by rw [hF]; kernel_rfl)
   · exact Reg.doesV_val (ev_ld rfl (by rw [hF]; kernel_rfl) hn.ldO) (by rw [hF]; kernel_rfl) (by rw [hF]; kernel_rfl)
   · exact Reg.doesV_call (by have h := operands_c x.op w'; rw [HT.out] at h; exact h.mono (fun e w2 hh => ⟨hh.1, hh.2 ▸ Below.refl _ _⟩)) (ev_call enOperands rfl (by rw [hF]; kernel_rfl)) (by rw [hF]; kernel_rfl) (by rw [hF]; kernel_rfl)
   · exact Reg.doesV_call ((pop_few b T v u ks B w' hk' ho' (by rw [← HT.out]; exact takes_le _) (by rw [← HT.out]; exact Hl.out)).mono (fun e w2 hh => ⟨hh.1, hh.2 ▸ Below.refl _ _⟩)) (ev_call enPopI rfl (by rw [hF]; kernel_rfl)) (by rw [hF]; kernel_rfl) (by rw [hF]; kernel_rfl)
   · exact Reg.doesV_val (ev_move rfl) (by rw [hF]; kernel_rfl) (by rw [hF]; kernel_rfl)
   · exact Reg.doesV_val (ev_extract (vs := #[.slice none 0 0, .bool false]) rfl (by rw [hF]; kernel_rfl) rfl) (by rw [hF]; kernel_rfl) (by rw [hF]; kernel_rfl)
   · exact Reg.doesV_val (ev_extract (vs := #[.slice none 0 0, .bool false]) rfl (by rw [hF]; kernel_rfl) rfl) (by rw [hF]; kernel_rfl) (by rw [hF]; kernel_rfl)
   · exact Reg.doesV_val (ev_assign rfl) (by rw [hF]; kernel_rfl) (by rw [hF]; kernel_rfl)
   · exact Reg.doesV_val (ev_assign rfl) (by rw [hF]; kernel_rfl) (by rw [hF]; kernel_rfl)
 · intro w' hB'
   simp only [Reg.putAll, Act.put, List.setIfInBounds_toArray, List.set_cons_zero, List.set_cons_succ]
   have hbw : Below w.heap.size w w' := (below_one _ _).trans (hB'.mono (by simp))
   go_wp2
   go_ret2
   exact ⟨rfl, hbw.mono (by omega), v, Hk.out.after hbw, Ho.out.after hbw⟩
structure LvJ (b B : Nat) (x : Nd) (v u v' : Value) (ks rest ts : List Int) (A : Option Addr) (w0 : World) (ph : Bool) (w : World) : Prop where
 below : Below B w0 w
 nx : Nx w w0.heap.size x
 one : ph = false → Kx w b v u ∧ OwnJ w B v ks
 two : ph = true → Kx w b v' u ∧ OwnJ w B v' rest ∧ SlI w A ts
theorem LvJ.after {b B : Nat} {x : Nd} {v u v' : Value} {ks rest ts : List Int} {A : Option Addr} {w0 : World} {ph : Bool} {w w' : World} (h : LvJ b B x v u v' ks rest ts A w0 ph w) (hB : B ≤ w.heap.size) (hb : Below w.heap.size w w') : LvJ b B x v u v' ks rest ts A w0 ph w' :=
 ⟨h.below.trans (hb.mono hB), h.nx.after hb, fun e => ⟨(h.one e).1.after hb, (h.one e).2.after hb⟩, fun e => ⟨(h.two e).1.after hb, (h.two e).2.1.after hb, (h.two e).2.2.after hb⟩⟩
set_option maxHeartbeats 1000000 in
theorem leaves_op (b B : Nat) (x : Nd) (v u : Value) (ks : List Int) (w : World) (hk : Kx w b v u) (ho : OwnJ w B v ks) (hB : B ≤ b) (hmax : ks.length ≤ 1000) (h0 : (x.op == 0) = false) (h1 : (x.op == 1) = false) (hl : takes x.op ≤ ks.length) :
 Calls Tryz.prog 138 #[.pointer (some ⟨b, 0, none⟩), x.w] w (LvPost b u B ((kindR x.op (ks.drop (ks.length - takes x.op))).1, (kindR x.op (ks.drop (ks.length - takes x.op))).2, ks.take (ks.length - takes x.op)) w) := by
 have hlt := hk.lt
 have Hk := Lib.hid hk
 have Ho := Lib.hid ho
 obtain ⟨T, hT⟩ : ∃ T, takes x.op = T := ⟨_, rfl⟩
 have hT2 : T ≤ 2 := by rw [← hT]; exact takes_le _
 rw [hT] at hl ⊢
 obtain ⟨A, c, v', hpop⟩ := pop_det T v ks w B ho hT2 hl hmax
 obtain ⟨ts, hts⟩ : ∃ ts, ks.drop (ks.length - T) = ts := ⟨_, rfl⟩
 obtain ⟨rest, hrest⟩ : ∃ rest, ks.take (ks.length - T) = rest := ⟨_, rfl⟩
 have hlen : ts.length = T := by rw [← hts, List.length_drop]; omega
 obtain ⟨r1, r2, hr⟩ : ∃ r1 r2, kindR x.op ts = (r1, r2) := ⟨_, _, rfl⟩
 rw [hts, hrest, hr]
 have HT := Lib.hid hT
 have Hpop := Lib.hid hpop
 have Hts := Lib.hid hts
 have Hrest := Lib.hid hrest
 have Hr := Lib.hid hr
 have Hlen := Lib.hid hlen
 clear hk ho hT hpop hts hrest hr hlen hl hmax hT2
 go_enter Tryz.func138, Tryz.ntmps138
 go_wp2_with fail
 have hn0 : Nx (w.alloc (.cells x.cells 83)) w.heap.size x := Nx.new w x
 have hbb : Below B w (w.alloc (.cells x.cells 83)) := (Below.refl B w).alloc (by omega) _
 refine RegT.wp_region_two mixed (by kernel_rfl) (LvJ b B x v u v' ks rest ts A w) 6 (of_decide_eq_true (by kernel_rfl)) ⟨⟨hbb.os, hbb.tape, hbb.output, hbb.size, hbb.block⟩, hn0, fun _ => ⟨Hk.out.alloc _, Ho.out.alloc _⟩, fun e => by cases e⟩
  [(27, .pointer (some ⟨b, 0, none⟩)), (28, .pointer (some ⟨b, 0, none⟩)), (29, .pointer (some ⟨b, 0, none⟩)), (30, .pointer (some ⟨w.heap.size, 0, none⟩)), (31, .int .i64 x.op), (32, .int .i64 T), (33, .tuple #[.slice A T c, .bool true]), (26, .tuple #[.slice A T c, .bool true]), (34, .slice A T c), (35, .bool true), (6, .slice A T c), (7, .bool true)] 44 rfl (by kernel_rfl) ?_ ?_
 · intro F hF w' ph hJ
   have hn := hJ.nx
   have hsz : B ≤ w'.heap.size := by have := hJ.below.size; omega
   refine ⟨fun _ => ?_, fun _ => ?_, fun _ => ?_, fun _ => ?_, fun _ => ?_, fun _ => ?_, fun hph => ?_, fun _ => ?_, fun _ => ?_, fun _ => ?_, fun _ => ?_, fun _ => ?_, trivial⟩
   · exact RegT.doesT_val (by decide) hJ (ev_move rfl) (by rw [hF]; kernel_rfl) (by rw [hF]; kernel_rfl)
   · exact RegT.doesT_val (by decide) hJ (ev_nc (a := ⟨b, 0, none⟩) rfl (by rw [hF]; kernel_rfl)) (by rw [hF]; kernel_rfl) (by rw [hF]; kernel_rfl)
   · exact RegT.doesT_val (by decide) hJ (ev_fa rfl (by rw [hF]; kernel_rfl) (fa_kinds0 w' b)) (by rw [hF]; kernel_rfl) (by rw [hF]; kernel_rfl)
   · exact RegT.doesT_val (by decide) hJ (ev_fa rfl (by rw [hF]; kernel_rfl) (fa_node0 w' w.heap.size)) (by rw [hF]; kernel_rfl) (by rw [hF]; kernel_rfl)
   · exact RegT.doesT_val (by decide) hJ (ev_ld rfl (by rw [hF]; kernel_rfl) hn.ldO) (by rw [hF]; kernel_rfl) (by rw [hF]; kernel_rfl)
   · exact RegT.doesT_call (by decide) (fun w'' hb => hJ.after hsz hb) (by have h := operands_c x.op w'; rw [HT.out] at h; exact h.mono (fun e w2 hh => ⟨hh.1, hh.2 ▸ Below.refl _ _⟩)) (ev_call enOperands rfl (by rw [hF]; kernel_rfl)) (by rw [hF]; kernel_rfl) (by rw [hF]; kernel_rfl)
   · obtain ⟨k', o'⟩ := hJ.one (hph rfl)
     refine RegT.doesT_main (v := .tuple #[.slice A T c, .bool true]) ((Hpop.out b u B w' k' o').mono ?_) (ev_call enPopI rfl (by rw [hF]; kernel_rfl)) (by rw [hF]; kernel_rfl) (by rw [hF]; kernel_rfl)
     rintro e w2 ⟨he, rfl, p1, p2, p3⟩
     rw [Hrest.out] at p1
     rw [Hts.out] at p2
     exact ⟨he, hJ.below.setCell hB _, hn.set k', (fun e => by cases e), fun _ => ⟨k'.set v', p1.set k', p2.set p3⟩⟩
   · exact RegT.doesT_val (by decide) hJ (ev_move rfl) (by rw [hF]; kernel_rfl) (by rw [hF]; kernel_rfl)
   · exact RegT.doesT_val (by decide) hJ (ev_extract (vs := #[.slice A T c, .bool true]) rfl (by rw [hF]; kernel_rfl) rfl) (by rw [hF]; kernel_rfl) (by rw [hF]; kernel_rfl)
   · exact RegT.doesT_val (by decide) hJ (ev_extract (vs := #[.slice A T c, .bool true]) rfl (by rw [hF]; kernel_rfl) rfl) (by rw [hF]; kernel_rfl) (by rw [hF]; kernel_rfl)
   · exact RegT.doesT_val (by decide) hJ (ev_assign rfl) (by rw [hF]; kernel_rfl) (by rw [hF]; kernel_rfl)
   · exact RegT.doesT_val (by decide) hJ (ev_assign rfl) (by rw [hF]; kernel_rfl) (by rw [hF]; kernel_rfl)
 · intro w' hJ
   simp only [Reg.putAll, Act.put, List.setIfInBounds_toArray, List.set_cons_zero, List.set_cons_succ]
   obtain ⟨k', o', s'⟩ := hJ.two rfl
   have n0 := hJ.nx.cell0
   have nl0 := hJ.nx.lt
   have HJ := Lib.hid hJ
   have Hk' := Lib.hid k'
   have Ho' := Lib.hid o'
   have Hs' := Lib.hid s'
   clear hJ k' o' s'
   go_wp2_with fail
   refine (kindOf_c x.op A T c ts w' Hlen.out (Hlen.out.trans HT.out.symm) Hs'.out).mono ?_
   rintro e w1 ⟨rfl, rfl⟩
   rw [Hr.out]
   go_wp2
   go_ret2
   exact ⟨rfl, HJ.out.below, v', Hk'.out, Ho'.out⟩
theorem leaves_c (b B : Nat) (x : Nd) (v : Value) (A : Option Addr) (m c : Nat) (cols ks : List Int) (w : World) (hk : Kx w b v (.slice A m c)) (ho : OwnJ w B v ks) (hB : B ≤ b) (hl : cols.length = m) (hs : SlI w A cols) (hmax : ks.length ≤ 1000) (hz : x.v.s.size ≤ maxLen) :
 Calls Tryz.prog 138 #[.pointer (some ⟨b, 0, none⟩), x.w] w (LvPost b (.slice A m c) B (lvK cols ks x) w) := by
 unfold lvK
 cases h0 : x.op == 0
 · cases h1 : x.op == 1
   · rw [if_neg Bool.false_ne_true, if_neg Bool.false_ne_true]
     by_cases hf : ks.length < takes x.op
     · rw [if_pos hf]
       exact leaves_few b B x v _ ks w hk ho hB h0 h1 hf
     · rw [if_neg hf]
       exact leaves_op b B x v _ ks w hk ho hB hmax h0 h1 (by omega)
   · rw [if_neg Bool.false_ne_true, if_pos rfl]
     exact leaves_const b B x v _ ks w hk ho hB hz h0 h1
 · rw [if_pos rfl]
   exact leaves_col b B x v A m c cols ks w hk ho hB hl hs h0
def stepK (cols ks : List Int) (x : Nd) : Option (List Int) := if (lvK cols ks x).2.1 then some ((lvK cols ks x).2.2 ++ [(lvK cols ks x).1]) else none
theorem lvK_len (cols ks : List Int) (x : Nd) : (lvK cols ks x).2.2.length ≤ ks.length := by
 unfold lvK
 split
 · exact Nat.le_refl _
 · split
   · exact Nat.le_refl _
   · split
     · exact Nat.le_refl _
     · simp
theorem stepK_len {cols ks r : List Int} {x : Nd} (h : stepK cols ks x = some r) : r.length ≤ ks.length + 1 := by
 unfold stepK at h
 split at h
 · cases h
   have := lvK_len cols ks x
   simp; omega
 · cases h
def StPost (b : Nat) (u : Value) (B : Nat) (r : Option (List Int)) (w : World) (e : Ending) (w' : World) : Prop :=
 Below B w w' ∧ match r with
  | none => e = .returned (.int .i64 30)
  | some ks => e = .returned (.int .i64 0) ∧ ∃ v', Kx w' b v' u ∧ OwnJ w' B v' ks
set_option maxHeartbeats 1000000 in
theorem kstep_c (b B : Nat) (x : Nd) (v : Value) (A : Option Addr) (m c : Nat) (cols ks : List Int) (w : World) (hk : Kx w b v (.slice A m c)) (ho : OwnJ w B v ks) (hB : B ≤ b) (hl : cols.length = m) (hs : SlI w A cols) (hmax : ks.length ≤ 900) (hz : x.v.s.size ≤ maxLen) :
 Calls Tryz.prog 118 #[.pointer (some ⟨b, 0, none⟩), x.w] w (StPost b (.slice A m c) B (stepK cols ks x) w) := by
 have hlt := hk.lt
 have Hlen := Lib.hid (lvK_len cols ks x)
 have Hlv := Lib.hid (fun (w1 : World) (k1 : Kx w1 b v (.slice A m c)) (o1 : OwnJ w1 B v ks) (s1 : SlI w1 A cols) => leaves_c b B x v A m c cols ks w1 k1 o1 hB hl s1 (by omega) hz)
 unfold stepK
 obtain ⟨⟨kd, ok, rest⟩, hr⟩ : ∃ r, lvK cols ks x = r := ⟨_, rfl⟩
 rw [hr] at Hlen Hlv ⊢
 obtain ⟨R, hR⟩ : ∃ R, (if ok = true then some (rest ++ [kd]) else none) = R := ⟨_, rfl⟩
 have HR := Lib.hid hR
 show Calls _ _ _ _ (StPost b (.slice A m c) B (if ok = true then some (rest ++ [kd]) else none) w)
 rw [hR]
 clear hR
 have Hk := Lib.hid hk
 have Ho := Lib.hid ho
 have Hs := Lib.hid hs
 clear hk ho hs hr hl hz
 go_enter Tryz.func118, Tryz.ntmps118
 go_wp2_with fail
 refine (Hlv.out _ (Hk.out.alloc _) (Ho.out.alloc _) (Hs.out.alloc _)).mono ?_
 rintro e w1 ⟨rfl, hb1, v1, k1, o1⟩
 have hbw : Below B w w1 := ((Below.refl B w).alloc (by omega) _).trans hb1
 have Hbw := Lib.hid hbw
 have Hk1 := Lib.hid k1
 have Ho1 := Lib.hid o1
 clear hb1 hbw k1 o1
 cases ok
 · obtain rfl : none = R := HR.out
   go_wp2
   go_ret
   exact ⟨Hbw.out, rfl⟩
 · go_wp2_with fail
   refine (push_c b kd v1 _ rest B w1 Hk1.out Ho1.out hB (by have : rest.length ≤ ks.length := Hlen.out; omega)).mono ?_
   rintro e w2 ⟨rfl, hb2, v2, k2, o2⟩
   have Hb2 := Lib.hid (Hbw.out.trans hb2)
   have Hk2 := Lib.hid k2
   have Ho2 := Lib.hid o2
   clear hb2 k2 o2
   obtain rfl : some (rest ++ [kd]) = R := HR.out
   go_wp2
   go_ret
   exact ⟨Hb2.out, rfl, v2, Hk2.out, Ho2.out⟩
def SlN (w : World) (A : Option Addr) (e : List Nd) : Prop :=
 e = [] ∨ ∃ b off, A = some ⟨b, off, none⟩ ∧ b < w.heap.size ∧ ∀ i (x : Nd), e[i]? = some x →
  w.cell? ⟨b, off + i * 5, none⟩ = some (.int .i64 x.op) ∧ w.cell? ⟨b, off + i * 5 + 1, none⟩ = some (.int .i64 x.n) ∧ w.cell? ⟨b, off + i * 5 + 2, none⟩ = some (.int .i64 x.v.k) ∧ w.cell? ⟨b, off + i * 5 + 3, none⟩ = some (.int .i64 x.v.n) ∧ w.cell? ⟨b, off + i * 5 + 4, none⟩ = some (.string x.v.s)
theorem SlN.after {w w' : World} {A : Option Addr} {e : List Nd} (h : SlN w A e) (hb : Below w.heap.size w w') : SlN w' A e := by
 rcases h with h | ⟨b, off, hA, hlt, h⟩
 · exact .inl h
 · refine .inr ⟨b, off, hA, Nat.lt_of_lt_of_le hlt hb.size, fun i x hx => ?_⟩
   obtain ⟨h0, h1, h2, h3, h4⟩ := h i x hx
   exact ⟨(hb.cell hlt).trans h0, (hb.cell hlt).trans h1, (hb.cell hlt).trans h2, (hb.cell hlt).trans h3, (hb.cell hlt).trans h4⟩
def goS {σ : Type} (step : σ → Nd → Sum Int σ) : σ → List Nd → Sum Int σ
 | s, [] => .inr s
 | s, x :: r => match step s x with
   | .inl e => .inl e
   | .inr s' => goS step s' r
theorem goS_drop {σ : Type} (step : σ → Nd → Sum Int σ) (s : σ) (e : List Nd) (k : Nat) (x : Nd) (h : e[k]? = some x) : goS step s (e.drop k) = match step s x with
 | .inl e => .inl e
 | .inr s' => goS step s' (e.drop (k + 1)) := by
 have hlt : k < e.length := (List.getElem?_eq_some_iff.1 h).1
 have hv : e[k] = x := (List.getElem?_eq_some_iff.1 h).2
 rw [List.drop_eq_getElem_cons hlt, hv, goS]
def RunPost {σ : Type} (B : Nat) (I : Nat → σ → World → Prop) (r : Sum Int σ) (w : World) (en : Ending) (w' : World) : Prop :=
 Below B w w' ∧ match r with
  | .inl er => en = .returned (.int .i64 er)
  | .inr s => en = .returned (.int .i64 0) ∧ ∃ i, I i s w'
def StepPost {σ : Type} (B : Nat) (I : σ → World → Prop) (r : Sum Int σ) (w : World) (en : Ending) (w' : World) : Prop :=
 Below B w w' ∧ match r with
  | .inl er => en = .returned (.int .i64 er) ∧ (er != 0) = true
  | .inr s => en = .returned (.int .i64 0) ∧ I s w'
set_option maxHeartbeats 1000000 in
theorem run_many (fv : Value) (A : Option Addr) (n c : Nat) (w : World) (hn : 100 < n) (hm : n ≤ maxLen) :
 Calls Tryz.prog 117 #[.slice A n c, fv] w fun en w' => en = .returned (.int .i64 1) ∧ w' = w := by
 unfold maxLen at hm
 have h1 : decide ((100 : Int) < n) = true := decide_eq_true (by omega)
 go_enter Tryz.func117, Tryz.ntmps117
 go_wp2
 go_ret
 exact ⟨rfl, rfl⟩
set_option maxHeartbeats 4000000 in
theorem runE_c {σ : Type} (f : FuncId) (p : Value) (hE : ∀ args w, (callFunc f args).run Tryz.prog w = .ok (.enter f args) w) (B : Nat) (I : Nat → σ → World → Prop) (step : σ → Nd → Sum Int σ) (A : Option Addr) (n c : Nat) (e : List Nd) (s0 : σ) (w : World) (hn : e.length = n) (hs : SlN w A e) (hmax : n ≤ 100)
 (hB : B ≤ w.heap.size) (hAB : ∀ b off, A = some ⟨b, off, none⟩ → e ≠ [] → b < B) (h0 : I 0 s0 w) (hI : ∀ i s w1 w2, I i s w1 → Below w1.heap.size w1 w2 → I i s w2)
 (hcall : ∀ i s x w1, i < 100 → e[i]? = some x → Below B w w1 → I i s w1 → Calls Tryz.prog f #[p, x.w] w1 (StepPost B (I (i + 1)) (step s x) w1)) :
 Calls Tryz.prog 117 #[.slice A n c, .func (.func f) #[p] #[]] w (RunPost B I (goS step s0 e) w) := by
 have Hn := Lib.hid hn
 have Hs := Lib.hid hs
 have HI := Lib.hid hI
 have Hcall := Lib.hid hcall
 have HAB := Lib.hid hAB
 have H0 := Lib.hid h0
 obtain ⟨R, hR⟩ : ∃ R, goS step s0 e = R := ⟨_, rfl⟩
 rw [hR]
 have HR := Lib.hid hR
 have h1 : decide ((100 : Int) < n) = false := decide_eq_false (by omega)
 clear hn hs hI hcall hAB h0 hR
 go_enter Tryz.func117, Tryz.ntmps117
 go_wp2_with fail
 go_loopw [13] (fun i wr => ∃ (k : Nat) (s : σ), k ≤ n ∧ i = .int .i64 k ∧ Hid (Below B w wr) ∧ Hid (I k s wr) ∧ Hid (goS step s (e.drop k) = R)) (fun i _ => n - (intOf i).toNat)
 case atStart => exact ⟨0, s0, Nat.zero_le _, rfl, Below.refl _ _, H0.out, HR.out⟩
 case round =>
  obtain ⟨k, s, hk, rfl, hb, hIk, hinv⟩ := hrel
  by_cases hlt' : k < n
  · obtain ⟨x, hx⟩ : ∃ x, e[k]? = some x := ⟨e[k]'(by rw [Hn.out]; exact hlt'), List.getElem?_eq_getElem _⟩
    rcases Hs.out with h0 | ⟨b, off, rfl, hlt, hc⟩
    · rw [h0] at hx; simp at hx
    have hbB : b < B := HAB.out b off rfl (by rintro rfl; simp at hx)
    obtain ⟨c0, c1, c2, c3, c4⟩ := hc k x hx
    have d0 := (hb.out.cell (p := ⟨b, off + k * 5, none⟩) hbB).trans c0
    have d1 := (hb.out.cell (p := ⟨b, off + k * 5 + 1, none⟩) hbB).trans c1
    have d2 := (hb.out.cell (p := ⟨b, off + k * 5 + 2, none⟩) hbB).trans c2
    have d3 := (hb.out.cell (p := ⟨b, off + k * 5 + 3, none⟩) hbB).trans c3
    have d4 := (hb.out.cell (p := ⟨b, off + k * 5 + 4, none⟩) hbB).trans c4
    have hBr : B ≤ wr.heap.size := Nat.le_trans hB hb.out.size
    have Hx := Lib.hid hx
    clear c0 c1 c2 c3 c4 hc hx hlt
    go_wp2_with fail
    have hb1 := (hb.out.alloc hBr (.cells x.cells 83))
    have hI1 := HI.out k s _ _ hIk.out (below_one wr (.cells x.cells 83))
    have hstep := goS_drop step s e k x Hx.out
    rw [hinv.out] at hstep
    refine (Hcall.out k s x _ (by omega) Hx.out hb1 hI1).mono ?_
    obtain ⟨S, hS⟩ : ∃ S, step s x = S := ⟨_, rfl⟩
    rw [hS] at hstep ⊢
    clear hS hI1 d0 d1 d2 d3 d4 hIk hinv
    rintro en w1 ⟨hb2, hpost⟩
    have Hb2 := Lib.hid (hb1.trans hb2)
    clear hb1 hb2 hb
    cases S with
    | inl er =>
      obtain ⟨rfl, hne⟩ := hpost
      have Hst := Lib.hid hstep
      clear hstep
      go_wp2
      go_ret
      rw [Hst.out]
      exact ⟨Hb2.out, rfl⟩
    | inr s' =>
      obtain ⟨rfl, hI2⟩ := hpost
      have Hst := Lib.hid hstep
      have HI2 := Lib.hid hI2
      clear hstep hI2
      go_wp2
      go_roundw
      case rel => exact ⟨k + 1, s', by omega, by go_num, Hb2, HI2, Lib.hid Hst.out.symm⟩
      case measure => simp [intOf]; omega
  · have hkn : k = n := by omega
    have hstep := hinv.out
    rw [List.drop_eq_nil_of_le (by rw [Hn.out]; omega), goS] at hstep
    have Hst := Lib.hid hstep
    clear hstep hinv
    go_wp2
    go_ret
    rw [← Hst.out]
    exact ⟨hb.out, rfl, k, hIk.out⟩
def stepKS (cols : List Int) (ks : List Int) (x : Nd) : Sum Int (List Int) := match stepK cols ks x with
 | none => .inl 30
 | some r => .inr r
def typeR (e : List Nd) (cols : List Int) : Int × Int := if 100 < e.length then (0, 1) else match goS (stepKS cols) [] e with
 | .inl er => (0, er)
 | .inr [k] => (k, 0)
 | .inr _ => (0, 30)
theorem enKStep : ∀ args w, (callFunc 118 args).run Tryz.prog w = .ok (.enter 118 args) w := fun _ _ => by kernel_rfl
theorem goS_err {cols : List Int} : ∀ (e : List Nd) (s : List Int) (er : Int), goS (stepKS cols) s e = .inl er → er = 30
 | [], s, er, h => by simp [goS] at h
 | x :: r, s, er, h => by
   rw [goS] at h
   unfold stepKS at h
   cases hs : stepK cols s x with
   | none => rw [hs] at h; simp at h; exact h.symm
   | some s' => rw [hs] at h; exact goS_err r s' er h
set_option maxHeartbeats 2000000 in
theorem type_few (A A2 : Option Addr) (n c m c2 : Nat) (e : List Nd) (cols : List Int) (w : World) (hn : e.length = n) (hs : SlN w A e) (hmax : n ≤ 100) (hm : cols.length = m) (hs2 : SlI w A2 cols) (hz : ∀ x ∈ e, x.v.s.size ≤ maxLen) :
 Calls Tryz.prog 97 #[.slice A n c, .slice A2 m c2] w fun en w' => en = .returned (.tuple #[.int .i64 (typeR e cols).1, .int .i64 (typeR e cols).2]) ∧ Below w.heap.size w w' := by
 have Hn := Lib.hid hn
 have Hs := Lib.hid hs
 have Hm := Lib.hid hm
 have Hs2 := Lib.hid hs2
 have Hz := Lib.hid hz
 have hT : typeR e cols = match goS (stepKS cols) [] e with
  | .inl er => (0, er)
  | .inr [k] => (k, 0)
  | .inr _ => (0, 30) := by unfold typeR; rw [if_neg (by omega)]
 obtain ⟨R, hR⟩ : ∃ R, typeR e cols = R := ⟨_, rfl⟩
 rw [hR] at hT ⊢
 have HT := Lib.hid hT
 clear hn hs hm hs2 hz hR hT
 have hmf : ∀ (fn : Fn) (first cap : Array Value) (w : World), (Instr.makeFunc fn first cap).run Tryz.prog w = .ok (.func fn first cap) w := fun _ _ _ _ => rfl
 go_enter Tryz.func97, Tryz.ntmps97
 go_wp2_with fail
 have hk0 : Kx (w.alloc (.cells #[.slice none 0 0, .slice A2 m c2] 175)) w.heap.size (.slice none 0 0) (.slice A2 m c2) := Kx.new w _ _
 have hb0 := below_one w (.cells #[.slice none 0 0, .slice A2 m c2] 175)
 refine (runE_c 118 (.pointer (some ⟨w.heap.size, 0, none⟩)) enKStep w.heap.size (fun i ks w1 => ks.length ≤ i ∧ ∃ v, Kx w1 w.heap.size v (.slice A2 m c2) ∧ OwnJ w1 w.heap.size v ks) (stepKS cols) A n c e [] _ Hn.out (Hs.out.after hb0) hmax (by simp)
  (fun b off hA hne => by rcases Hs.out with h | ⟨b', off', hA', hlt, _⟩
                          · exact absurd h hne
                          · rw [hA] at hA'; cases hA'; exact hlt)
  ⟨Nat.zero_le _, _, hk0, OwnJ.nil _ _⟩ (fun i s w1 w2 h hb => ⟨h.1, h.2.choose, h.2.choose_spec.1.after hb, h.2.choose_spec.2.after hb⟩) ?_).mono ?_
 · rintro i ks x w1 hi hx hb ⟨hl, v, hk, ho⟩
   have hbw : Below w.heap.size w w1 := hb0.trans hb
   refine (kstep_c w.heap.size w.heap.size x v A2 m c2 cols ks w1 hk ho (Nat.le_refl _) Hm.out (Hs2.out.after hbw) (by omega) (Hz.out x (List.mem_of_getElem? hx))).mono ?_
   rintro en w2 ⟨hb2, hp⟩
   refine ⟨hb2, ?_⟩
   unfold stepKS
   cases hst : stepK cols ks x with
   | none => rw [hst] at hp; exact ⟨hp, rfl⟩
   | some r => rw [hst] at hp; exact ⟨hp.1, by have := stepK_len hst; omega, hp.2⟩
 · rintro en w1 ⟨hb1, hpost⟩
   have hbw : Below w.heap.size w w1 := hb0.trans hb1
   have Hbw := Lib.hid hbw
   have hT := HT.out
   clear hk0 hb0 hb1 hbw HT
   cases hg : goS (stepKS cols) [] e with
   | inl er =>
     rw [hg] at hpost hT
     subst hpost hT
     obtain rfl := goS_err e [] er hg
     clear hg
     go_wp2
     go_ret2
     exact ⟨rfl, Hbw.out⟩
   | inr ks =>
     rw [hg] at hpost hT
     obtain ⟨rfl, i, _, v, hk, ho⟩ := hpost
     have Hk := Lib.hid hk
     have Ho := Lib.hid ho
     have hlt := hk.lt
     clear hg hk ho
     match ks, hT, Ho with
     | [], hT, Ho =>
       subst hT
       go_wp2_with fail
       refine (result_bad _ [] v _ _ w1 Hk.out Ho.out (by simp)).mono ?_
       rintro en w2 ⟨rfl, rfl⟩
       go_wp2
       go_ret2
       exact ⟨rfl, Hbw.out⟩
     | [k], hT, Ho =>
       subst hT
       go_wp2_with fail
       refine (result_one _ k v _ _ w1 Hk.out Ho.out).mono ?_
       rintro en w2 ⟨rfl, rfl⟩
       go_wp2
       go_ret2
       exact ⟨rfl, Hbw.out⟩
     | a :: b :: r, hT, Ho =>
       subst hT
       go_wp2_with fail
       refine (result_bad _ (a :: b :: r) v _ _ w1 Hk.out Ho.out (by simp)).mono ?_
       rintro en w2 ⟨rfl, rfl⟩
       go_wp2
       go_ret2
       exact ⟨rfl, Hbw.out⟩
set_option maxHeartbeats 2000000 in
theorem type_many (A A2 : Option Addr) (n c m c2 : Nat) (w : World) (hn : 100 < n) (hmax : n ≤ maxLen) :
 Calls Tryz.prog 97 #[.slice A n c, .slice A2 m c2] w fun en w' => en = .returned (.tuple #[.int .i64 0, .int .i64 1]) ∧ Below w.heap.size w w' := by
 have hmf : ∀ (fn : Fn) (first cap : Array Value) (w : World), (Instr.makeFunc fn first cap).run Tryz.prog w = .ok (.func fn first cap) w := fun _ _ _ _ => rfl
 have Hmax := Lib.hid hmax
 clear hmax
 go_enter Tryz.func97, Tryz.ntmps97
 go_wp2_with fail
 refine (run_many _ A n c _ hn Hmax.out).mono ?_
 rintro en w1 ⟨rfl, rfl⟩
 go_wp2
 go_ret2
 exact ⟨rfl, below_one _ _⟩
theorem type_c (A A2 : Option Addr) (n c m c2 : Nat) (e : List Nd) (cols : List Int) (w : World) (hn : e.length = n) (hs : SlN w A e) (hmax : n ≤ maxLen) (hm : cols.length = m) (hs2 : SlI w A2 cols) (hz : ∀ x ∈ e, x.v.s.size ≤ maxLen) :
 Calls Tryz.prog 97 #[.slice A n c, .slice A2 m c2] w fun en w' => en = .returned (.tuple #[.int .i64 (typeR e cols).1, .int .i64 (typeR e cols).2]) ∧ Below w.heap.size w w' := by
 by_cases h : n ≤ 100
 · exact type_few A A2 n c m c2 e cols w hn hs h hm hs2 hz
 · have e1 : typeR e cols = (0, 1) := by unfold typeR; rw [if_pos (by omega)]
   rw [e1]
   exact type_many A A2 n c m c2 w (by omega) hmax
set_option maxHeartbeats 1000000 in
theorem kat_c (A : Option Addr) (n c : Nat) (ks : List Int) (x : Int) (w : World) (hn : ks.length = n) (hm : n ≤ maxLen) (hs : SlG w A 1 rdI ks) :
 Calls Tryz.prog 98 #[.slice A n c, .int .i64 x] w fun e w' => e = .returned (.int .i64 (kAt ks x)) ∧ w' = w := by
 have hmx : n ≤ 9223372036854775807 := hm
 unfold kAt
 by_cases h0 : x < 0
 · rw [if_pos (.inl h0)]
   have h1 : decide (x < 0) = true := decide_eq_true h0
   clear hs hn hm h0
   go_enter Tryz.func98, Tryz.ntmps98
   go_wp2
   go_ret
   exact ⟨rfl, rfl⟩
 · have h1 : decide (x < 0) = false := decide_eq_false h0
   obtain ⟨i, rfl⟩ : ∃ i : Nat, x = i := ⟨x.toNat, by omega⟩
   by_cases h2 : n ≤ i
   · rw [if_pos (.inr (by omega))]
     have h3 : decide ((n : Int) ≤ i) = true := decide_eq_true (by omega)
     clear hs hn hm h0
     go_enter Tryz.func98, Tryz.ntmps98
     go_wp2
     go_ret
     exact ⟨rfl, rfl⟩
   · have hlt : i < n := by omega
     rw [if_neg (by rintro (h | h) <;> omega)]
     have h3 : decide ((n : Int) ≤ i) = false := decide_eq_false (by omega)
     obtain ⟨b, off, k, rfl, hb, hx, hc⟩ := hs.at1 (k := i) (by omega)
     have d0 := hc _ rfl
     have e : ks.getD (i : Int).toNat 0 = k := by rw [Int.toNat_natCast, List.getD_eq_getElem?_getD, hx]; rfl
     rw [e]
     clear hs hn hm h0 hc hx e h2
     go_enter Tryz.func98, Tryz.ntmps98
     go_wp2
     go_ret
     exact ⟨rfl, rfl⟩
set_option maxHeartbeats 2000000 in
theorem aggk_c (a : Ag) (A : Option Addr) (n c : Nat) (ks : List Int) (w : World) (hn : ks.length = n) (hm : n ≤ maxLen) (hs : SlG w A 1 rdI ks) :
 Calls Tryz.prog 100 #[a.w, .slice A n c] w fun e w' => e = .returned (.int .i64 (scAgg ks a)) ∧ Below w.heap.size w w' := by
 obtain ⟨fn, col⟩ := a
 have hb := below_one w (.cells #[.int .i64 fn, .int .i64 col] 73)
 have HK := Lib.hid (kat_c A n c ks col (w.alloc (.cells #[.int .i64 fn, .int .i64 col] 73)) hn hm (hs.after hb))
 have Hb := Lib.hid hb
 unfold scAgg
 simp only
 obtain ⟨K, hK⟩ : ∃ K, kAt ks col = K := ⟨_, rfl⟩
 rw [hK] at HK ⊢
 clear hs hn hm hb hK
 by_cases h0 : fn = 0
 · rw [if_pos h0]
   have h1 : (fn == 0) = true := by simpa using h0
   clear h0 HK
   go_enter Tryz.func100, Tryz.ntmps100
   go_wp2
   go_ret
   exact ⟨rfl, Hb.out⟩
 · rw [if_neg h0]
   have h1 : (fn == 0) = false := by simpa using h0
   obtain ⟨R, hR⟩ : ∃ R, (if fn = 1 ∧ K ≠ 2 then 0 else K) = R := ⟨_, rfl⟩
   rw [hR]
   have HR := Lib.hid hR
   clear h0 hR
   go_enter Tryz.func100, Tryz.ntmps100
   go_wp2_with fail
   refine HK.out.mono ?_
   rintro e w1 ⟨rfl, rfl⟩
   by_cases h2 : fn = 1
   · have h3 : (fn == 1) = true := by simpa using h2
     by_cases h4 : K = 2
     · have h5 : (K != 2) = false := by simpa using h4
       have hr : R = K := by rw [← HR.out, if_neg (fun h => h.2 h4)]
       subst hr
       clear h2 h4 HR
       go_wp2
       go_ret
       exact ⟨rfl, Hb.out⟩
     · have h5 : (K != 2) = true := by simpa using h4
       have hr : R = 0 := by rw [← HR.out, if_pos ⟨h2, h4⟩]
       subst hr
       clear h2 h4 HR
       go_wp2
       go_ret
       exact ⟨rfl, Hb.out⟩
   · have h3 : (fn == 1) = false := by simpa using h2
     have hr : R = K := by rw [← HR.out, if_neg (fun h => h2 h.1)]
     subst hr
     clear h2 HR
     go_wp2
     go_ret
     exact ⟨rfl, Hb.out⟩
set_option maxHeartbeats 2000000 in
theorem key_c (x : Cl) (w : World) :
 Calls Tryz.prog 58 #[x.w] w fun e w' => e = .returned (.bool (scKey x)) ∧ Below w.heap.size w w' := by
 obtain ⟨nm, kd, nu, un, rf, ac⟩ := x
 have hb := below_one w (.cells #[.string nm, .int .i64 kd, .bool nu, .bool un, .string rf, .int .i64 ac] 41)
 have Hb := Lib.hid hb
 unfold scKey
 simp only
 obtain ⟨R, hR⟩ : ∃ R, (!nu && (decide (kd ≠ 1) && rf.toList.isEmpty)) = R := ⟨_, rfl⟩
 rw [hR]
 have HR := Lib.hid hR
 clear hb hR
 cases nu
 · by_cases h1 : kd = 1
   · have h2 : (kd != 1) = false := by simpa using h1
     obtain rfl : R = false := by rw [← HR.out]; simp [h1]
     clear h1 HR
     go_enter Tryz.func58, Tryz.ntmps58
     go_wp2
     go_ret
     exact ⟨rfl, Hb.out⟩
   · have h2 : (kd != 1) = true := by simpa using h1
     have hr : R = rf.toList.isEmpty := by rw [← HR.out]; simp [h1]
     have He := Lib.hid hr
     clear h1 HR hr
     go_enter Tryz.func58, Tryz.ntmps58
     go_wp2
     go_ret
     refine ⟨?_, Hb.out⟩
     rw [He.out]
     cases h : rf.toList <;> simp_all
 · obtain rfl : R = false := by rw [← HR.out]; rfl
   clear HR
   go_enter Tryz.func58, Tryz.ntmps58
   go_wp2
   go_ret
   exact ⟨rfl, Hb.out⟩
theorem dec_str (a b : ByteArray) : decide (a = b) = (a.toList == b.toList) := by
 by_cases h : a = b
 · rw [decide_eq_true h, h]; simp
 · rw [decide_eq_false h]
   symm
   simpa using fun h2 => h (toList_inj h2)
def namedB (d : Df) (n : ByteArray) : Bool := if d.k = 0 then decide (d.t.name = n) else if d.k = 1 then decide (d.v.name = n) else false
set_option maxHeartbeats 2000000 in
theorem named_c (x : Dm) (n : ByteArray) (w : World) :
 Calls Tryz.prog 25 #[x.w, .string n] w fun e w' => e = .returned (.bool (namedB x.df n)) ∧ Below w.heap.size w w' := by
 have hb := below_one w (.cells x.cells 38)
 have Hb : Hid (Below w.heap.size w (w.alloc (.cells #[.int .i64 x.k, .string x.t.name, .slice x.t.cols.A x.t.cols.n x.t.cols.c, .slice x.t.chks.A x.t.chks.n x.t.chks.c, .string x.v.name, .string x.v.frm, .string x.v.wth, .int .i64 x.v.on0, .int .i64 x.v.on1, .slice x.v.whr.A x.v.whr.n x.v.whr.c, .slice x.v.pick.A x.v.pick.n x.v.pick.c, .bool x.v.grp, .slice x.v.aggs.A x.v.aggs.n x.v.aggs.c] 38))) := Lib.hid hb
 have hse : ∀ a b : ByteArray, decide (a = b) = (a.toList == b.toList) := dec_str
 have HE := Lib.hid hse
 unfold namedB
 have e1 : x.df.k = x.k := rfl
 have e2 : x.df.t.name = x.t.name := rfl
 have e3 : x.df.v.name = x.v.name := rfl
 rw [e1, e2, e3]
 clear hb hse e1 e2 e3
 by_cases h0 : x.k = 0
 · rw [if_pos h0]
   have h1 : (x.k == 0) = true := by simpa using h0
   clear h0
   go_enter Tryz.func25, Tryz.ntmps25
   go_wp2
   go_ret
   exact ⟨by rw [HE.out]; rfl, Hb.out⟩
 · rw [if_neg h0]
   have h1 : (x.k == 0) = false := by simpa using h0
   by_cases h2 : x.k = 1
   · rw [if_pos h2]
     have h3 : (x.k == 1) = true := by simpa using h2
     clear h0 h2
     go_enter Tryz.func25, Tryz.ntmps25
     go_wp2
     go_ret
     exact ⟨by rw [HE.out]; rfl, Hb.out⟩
   · rw [if_neg h2]
     have h3 : (x.k == 1) = false := by simpa using h2
     clear h0 h2
     go_enter Tryz.func25, Tryz.ntmps25
     go_wp2
     go_ret
     exact ⟨rfl, Hb.out⟩
theorem SlG.slN {w : World} {A : Option Addr} {e : List Nd} (h : SlG w A 5 rdN e) : SlN w A e := by
 rcases h with h | ⟨b, off, hA, hlt, h⟩
 · exact .inl h
 · exact .inr ⟨b, off, hA, hlt, fun i x hx => ⟨h i x hx 0 _ rfl, h i x hx 1 _ rfl, h i x hx 2 _ rfl, h i x hx 3 _ rfl, h i x hx 4 _ rfl⟩⟩
theorem SlG.slI {w : World} {A : Option Addr} {ks : List Int} (h : SlG w A 1 rdI ks) : SlI w A ks := by
 rcases h with h | ⟨b, off, hA, hlt, h⟩
 · exact .inl h
 · exact .inr ⟨b, off, hA, hlt, fun i x hx => by have := h i x hx 0 _ rfl; simpa using this⟩
set_option maxHeartbeats 2000000 in
theorem truth9_c (x : Sx Nd) (A : Option Addr) (n c : Nat) (ks : List Int) (w : World) (hx : x.In w 5 rdN) (hz : ∀ y ∈ x.xs, y.v.s.size ≤ maxLen) (hn : ks.length = n) (hs : SlG w A 1 rdI ks) :
 Calls Tryz.prog 65 #[.slice x.A x.n x.c, .slice A n c] w fun e w' => e = .returned (.bool (decide ((typeR x.xs ks).2 = 0) && (decide ((typeR x.xs ks).1 = 1) || decide ((typeR x.xs ks).1 = 0)))) ∧ Below w.heap.size w w' := by
 have HT := Lib.hid (type_c x.A A x.n x.c n c x.xs ks w hx.len hx.sl.slN hx.max hn hs.slI hz)
 obtain ⟨K, hK⟩ : ∃ K, (typeR x.xs ks).1 = K := ⟨_, rfl⟩
 obtain ⟨E, hE⟩ : ∃ E, (typeR x.xs ks).2 = E := ⟨_, rfl⟩
 rw [hK, hE] at HT ⊢
 obtain ⟨R, hR⟩ : ∃ R, (decide (E = 0) && (decide (K = 1) || decide (K = 0))) = R := ⟨_, rfl⟩
 rw [hR]
 clear hx hz hn hs hK hE
 by_cases h1 : E = 0
 · have h2 : (E == 0) = true := by simpa using h1
   rw [decide_eq_true h1, Bool.true_and] at hR
   clear h1
   by_cases h3 : K = 1
   · have h4 : (K == 1) = true := by simpa using h3
     rw [decide_eq_true h3, Bool.true_or] at hR
     subst hR
     clear h3
     go_enter Tryz.func65, Tryz.ntmps65
     go_wp2_with fail
     refine HT.out.mono ?_
     rintro e w1 ⟨rfl, hb⟩
     clear HT
     go_wp2
     go_ret
     exact ⟨rfl, hb⟩
   · have h4 : (K == 1) = false := by simpa using h3
     rw [decide_eq_false h3, Bool.false_or] at hR
     have hR2 : (K == 0) = R := hR
     clear h3 hR
     go_enter Tryz.func65, Tryz.ntmps65
     go_wp2_with fail
     refine HT.out.mono ?_
     rintro e w1 ⟨rfl, hb⟩
     clear HT
     go_wp2
     go_ret
     exact ⟨rfl, hb⟩
 · have h2 : (E == 0) = false := by simpa using h1
   rw [decide_eq_false h1, Bool.false_and] at hR
   subst hR
   clear h1
   go_enter Tryz.func65, Tryz.ntmps65
   go_wp2_with fail
   refine HT.out.mono ?_
   rintro e w1 ⟨rfl, hb⟩
   clear HT
   go_wp2
   go_ret
   exact ⟨rfl, hb⟩
set_option maxHeartbeats 4000000 in
theorem idxSc_c (F : Nat) (p1 : Value) (p : Sc → Bool) (A : Option Addr) (n c : Nat) (xs : List (Sc)) (w : World) (hn : xs.length = n) (hm : n ≤ maxLen) (hs : SlG w A 4 rdSc xs)
 (hF : ∀ (x : Sc) (u : World), (callFunc F #[x.w, p1]).run Tryz.prog u = .ok (.enter F #[x.w, p1]) u)
 (hit : ∀ (x : Sc) (u : World), x ∈ xs → Below w.heap.size w u → Calls Tryz.prog F #[x.w, p1] u fun e u' => e = .returned (.bool (p x)) ∧ Below u.heap.size u u') :
 Calls Tryz.prog 34 #[.slice A n c, .func (.func F) #[] #[p1]] w fun e w' => e = .returned (.int .i64 (idxL p xs 0)) ∧ Below w.heap.size w w' := by
 obtain ⟨R, hR⟩ : ∃ R, idxL p xs 0 = R := ⟨_, rfl⟩
 rw [hR]
 have HR := Lib.hid hR
 have Hs := Lib.hid hs
 have Hn := Lib.hid hn
 have Hit := Lib.hid hit
 have hmx : n ≤ 9223372036854775807 := hm
 clear hs hR hit hn hm
 go_enter Tryz.func34, Tryz.ntmps34
 go_wp2_with fail
 go_loopw [8] (fun i wr => ∃ k : Nat, k ≤ n ∧ i = .int .i64 k ∧ Hid (Below w.heap.size w wr) ∧ Hid (idxL p (xs.drop k) k = R)) (fun i _ => n - (intOf i).toNat)
 case atStart => exact ⟨0, Nat.zero_le _, rfl, Lib.hid (Below.refl _ _), HR⟩
 case round =>
  obtain ⟨k, hk, rfl, hb, hinv⟩ := hrel
  clear HR
  by_cases hlt : k < n
  · obtain ⟨b, off, x, rfl, hblt, hx, hc⟩ := Hs.out.atS (k := k) (by rw [Hn.out]; exact hlt)
    have d0 : wr.cell? ⟨b, off + k * 4, none⟩ = some (.string x.name) := (hb.out.cell (p := ⟨b, off + k * 4, none⟩) hblt).trans (hc 0 _ rfl)
    have d1 : wr.cell? ⟨b, off + k * 4 + 1, none⟩ = some (.bool x.tb) := (hb.out.cell (p := ⟨b, off + k * 4 + 1, none⟩) hblt).trans (hc 1 _ rfl)
    have d2 : wr.cell? ⟨b, off + k * 4 + 2, none⟩ = some (.slice x.ks.A x.ks.n x.ks.c) := (hb.out.cell (p := ⟨b, off + k * 4 + 2, none⟩) hblt).trans (hc 2 _ rfl)
    have d3 : wr.cell? ⟨b, off + k * 4 + 3, none⟩ = some (.slice x.ns.A x.ns.n x.ns.c) := (hb.out.cell (p := ⟨b, off + k * 4 + 3, none⟩) hblt).trans (hc 3 _ rfl)
    have l0 : b < wr.heap.size := Nat.lt_of_lt_of_le hblt hb.out.size
    have Hst := Lib.hid ((idxL_drop p xs k x hx).symm.trans hinv.out)
    have hF1 := hF x wr
    have HC := Lib.hid (Hit.out x wr (List.mem_of_getElem? hx) hb.out)
    clear hinv hc hx
    have hgo : (k : Int) < n := by omega
    cases hq : p x
    · have Hst2 : Hid (idxL p (xs.drop (k + 1)) (k + 1) = R) := by
       have := Hst.out
       rw [hq] at this
       exact Lib.hid this
      clear Hst
      go_wp2_with fail
      refine HC.out.mono ?_
      rintro e w1 ⟨rfl, hg1⟩
      rw [hq]
      have Hb1 := Lib.hid (below_via hb.out hg1)
      clear hg1 hb d0 d1 d2 d3 HC hF1
      go_wp2
      go_roundw
      case rel => exact ⟨k + 1, by omega, by go_num, Hb1, Hst2⟩
      case measure => simp [intOf]; omega
    · have Hst2 : Hid ((k : Int) = R) := by
       have := Hst.out
       rw [hq] at this
       exact Lib.hid this
      clear Hst
      go_wp2_with fail
      refine HC.out.mono ?_
      rintro e w1 ⟨rfl, hg1⟩
      rw [hq]
      have Hb1 := Lib.hid (below_via hb.out hg1)
      clear hg1 hb d0 d1 d2 d3 HC hF1
      go_wp2
      go_ret
      exact ⟨congrArg (fun z => Ending.returned (Value.int .i64 z)) Hst2.out, Hb1.out⟩
  · obtain rfl : k = n := by omega
    have Hst' : Hid (-1 = R) := by
     have := hinv.out
     rw [show xs.drop k = [] from List.drop_eq_nil_of_le (by rw [Hn.out]; exact Nat.le_refl _)] at this
     exact Lib.hid this
    clear hinv
    go_wp2
    go_ret
    exact ⟨congrArg (fun z => Ending.returned (Value.int .i64 z)) Hst'.out, hb.out⟩
theorem hasSc_c (F : Nat) (p1 : Value) (p : Sc → Bool) (A : Option Addr) (n c : Nat) (xs : List (Sc)) (w : World) (hn : xs.length = n) (hm : n ≤ maxLen) (hs : SlG w A 4 rdSc xs)
 (hF : ∀ (x : Sc) (u : World), (callFunc F #[x.w, p1]).run Tryz.prog u = .ok (.enter F #[x.w, p1]) u)
 (hit : ∀ (x : Sc) (u : World), x ∈ xs → Below w.heap.size w u → Calls Tryz.prog F #[x.w, p1] u fun e u' => e = .returned (.bool (p x)) ∧ Below u.heap.size u u') :
 Calls Tryz.prog 37 #[.slice A n c, .func (.func F) #[] #[p1]] w fun e w' => e = .returned (.bool (xs.any p)) ∧ Below w.heap.size w w' := by
 have HC := Lib.hid (idxSc_c F p1 p A n c xs w hn hm hs hF hit)
 rw [← idxL_any]
 obtain ⟨R, hR⟩ : ∃ R, idxL p xs 0 = R := ⟨_, rfl⟩
 rw [hR] at HC ⊢
 clear hs hR hit hF
 go_enter Tryz.func37, Tryz.ntmps37
 go_wp2_with fail
 refine HC.out.mono ?_
 rintro e w1 ⟨rfl, hb1⟩
 go_wp2
 go_ret
 exact ⟨rfl, hb1⟩
set_option maxHeartbeats 4000000 in
theorem idxCl_c (F : Nat) (p1 : Value) (p : Cl → Bool) (A : Option Addr) (n c : Nat) (xs : List (Cl)) (w : World) (hn : xs.length = n) (hm : n ≤ maxLen) (hs : SlG w A 6 rdCl xs)
 (hF : ∀ (x : Cl) (u : World), (callFunc F #[x.w, p1]).run Tryz.prog u = .ok (.enter F #[x.w, p1]) u)
 (hit : ∀ (x : Cl) (u : World), x ∈ xs → Below w.heap.size w u → Calls Tryz.prog F #[x.w, p1] u fun e u' => e = .returned (.bool (p x)) ∧ Below u.heap.size u u') :
 Calls Tryz.prog 95 #[.slice A n c, .func (.func F) #[] #[p1]] w fun e w' => e = .returned (.int .i64 (idxL p xs 0)) ∧ Below w.heap.size w w' := by
 obtain ⟨R, hR⟩ : ∃ R, idxL p xs 0 = R := ⟨_, rfl⟩
 rw [hR]
 have HR := Lib.hid hR
 have Hs := Lib.hid hs
 have Hn := Lib.hid hn
 have Hit := Lib.hid hit
 have hmx : n ≤ 9223372036854775807 := hm
 clear hs hR hit hn hm
 go_enter Tryz.func95, Tryz.ntmps95
 go_wp2_with fail
 go_loopw [8] (fun i wr => ∃ k : Nat, k ≤ n ∧ i = .int .i64 k ∧ Hid (Below w.heap.size w wr) ∧ Hid (idxL p (xs.drop k) k = R)) (fun i _ => n - (intOf i).toNat)
 case atStart => exact ⟨0, Nat.zero_le _, rfl, Lib.hid (Below.refl _ _), HR⟩
 case round =>
  obtain ⟨k, hk, rfl, hb, hinv⟩ := hrel
  clear HR
  by_cases hlt : k < n
  · obtain ⟨b, off, x, rfl, hblt, hx, hc⟩ := Hs.out.atS (k := k) (by rw [Hn.out]; exact hlt)
    have d0 : wr.cell? ⟨b, off + k * 6, none⟩ = some (.string x.name) := (hb.out.cell (p := ⟨b, off + k * 6, none⟩) hblt).trans (hc 0 _ rfl)
    have d1 : wr.cell? ⟨b, off + k * 6 + 1, none⟩ = some (.int .i64 x.kind) := (hb.out.cell (p := ⟨b, off + k * 6 + 1, none⟩) hblt).trans (hc 1 _ rfl)
    have d2 : wr.cell? ⟨b, off + k * 6 + 2, none⟩ = some (.bool x.nul) := (hb.out.cell (p := ⟨b, off + k * 6 + 2, none⟩) hblt).trans (hc 2 _ rfl)
    have d3 : wr.cell? ⟨b, off + k * 6 + 3, none⟩ = some (.bool x.uni) := (hb.out.cell (p := ⟨b, off + k * 6 + 3, none⟩) hblt).trans (hc 3 _ rfl)
    have d4 : wr.cell? ⟨b, off + k * 6 + 4, none⟩ = some (.string x.ref) := (hb.out.cell (p := ⟨b, off + k * 6 + 4, none⟩) hblt).trans (hc 4 _ rfl)
    have d5 : wr.cell? ⟨b, off + k * 6 + 5, none⟩ = some (.int .i64 x.act) := (hb.out.cell (p := ⟨b, off + k * 6 + 5, none⟩) hblt).trans (hc 5 _ rfl)
    have l0 : b < wr.heap.size := Nat.lt_of_lt_of_le hblt hb.out.size
    have Hst := Lib.hid ((idxL_drop p xs k x hx).symm.trans hinv.out)
    have hF1 := hF x wr
    have HC := Lib.hid (Hit.out x wr (List.mem_of_getElem? hx) hb.out)
    clear hinv hc hx
    have hgo : (k : Int) < n := by omega
    cases hq : p x
    · have Hst2 : Hid (idxL p (xs.drop (k + 1)) (k + 1) = R) := by
       have := Hst.out
       rw [hq] at this
       exact Lib.hid this
      clear Hst
      go_wp2_with fail
      refine HC.out.mono ?_
      rintro e w1 ⟨rfl, hg1⟩
      rw [hq]
      have Hb1 := Lib.hid (below_via hb.out hg1)
      clear hg1 hb d0 d1 d2 d3 d4 d5 HC hF1
      go_wp2
      go_roundw
      case rel => exact ⟨k + 1, by omega, by go_num, Hb1, Hst2⟩
      case measure => simp [intOf]; omega
    · have Hst2 : Hid ((k : Int) = R) := by
       have := Hst.out
       rw [hq] at this
       exact Lib.hid this
      clear Hst
      go_wp2_with fail
      refine HC.out.mono ?_
      rintro e w1 ⟨rfl, hg1⟩
      rw [hq]
      have Hb1 := Lib.hid (below_via hb.out hg1)
      clear hg1 hb d0 d1 d2 d3 d4 d5 HC hF1
      go_wp2
      go_ret
      exact ⟨congrArg (fun z => Ending.returned (Value.int .i64 z)) Hst2.out, Hb1.out⟩
  · obtain rfl : k = n := by omega
    have Hst' : Hid (-1 = R) := by
     have := hinv.out
     rw [show xs.drop k = [] from List.drop_eq_nil_of_le (by rw [Hn.out]; exact Nat.le_refl _)] at this
     exact Lib.hid this
    clear hinv
    go_wp2
    go_ret
    exact ⟨congrArg (fun z => Ending.returned (Value.int .i64 z)) Hst'.out, hb.out⟩
theorem hasCl_c (F : Nat) (p1 : Value) (p : Cl → Bool) (A : Option Addr) (n c : Nat) (xs : List (Cl)) (w : World) (hn : xs.length = n) (hm : n ≤ maxLen) (hs : SlG w A 6 rdCl xs)
 (hF : ∀ (x : Cl) (u : World), (callFunc F #[x.w, p1]).run Tryz.prog u = .ok (.enter F #[x.w, p1]) u)
 (hit : ∀ (x : Cl) (u : World), x ∈ xs → Below w.heap.size w u → Calls Tryz.prog F #[x.w, p1] u fun e u' => e = .returned (.bool (p x)) ∧ Below u.heap.size u u') :
 Calls Tryz.prog 60 #[.slice A n c, .func (.func F) #[] #[p1]] w fun e w' => e = .returned (.bool (xs.any p)) ∧ Below w.heap.size w w' := by
 have HC := Lib.hid (idxCl_c F p1 p A n c xs w hn hm hs hF hit)
 rw [← idxL_any]
 obtain ⟨R, hR⟩ : ∃ R, idxL p xs 0 = R := ⟨_, rfl⟩
 rw [hR] at HC ⊢
 clear hs hR hit hF
 go_enter Tryz.func60, Tryz.ntmps60
 go_wp2_with fail
 refine HC.out.mono ?_
 rintro e w1 ⟨rfl, hb1⟩
 go_wp2
 go_ret
 exact ⟨rfl, hb1⟩
set_option maxHeartbeats 4000000 in
theorem idxEx_c (F : Nat) (p1 : Value) (p : Sx Nd → Bool) (A : Option Addr) (n c : Nat) (xs : List (Sx Nd)) (w : World) (hn : xs.length = n) (hm : n ≤ maxLen) (hs : SlG w A 1 rdX xs)
 (hF : ∀ (x : Sx Nd) (u : World), (callFunc F #[.slice x.A x.n x.c, p1]).run Tryz.prog u = .ok (.enter F #[.slice x.A x.n x.c, p1]) u)
 (hit : ∀ (x : Sx Nd) (u : World), x ∈ xs → Below w.heap.size w u → Calls Tryz.prog F #[.slice x.A x.n x.c, p1] u fun e u' => e = .returned (.bool (p x)) ∧ Below u.heap.size u u') :
 Calls Tryz.prog 96 #[.slice A n c, .func (.func F) #[] #[p1]] w fun e w' => e = .returned (.int .i64 (idxL p xs 0)) ∧ Below w.heap.size w w' := by
 obtain ⟨R, hR⟩ : ∃ R, idxL p xs 0 = R := ⟨_, rfl⟩
 rw [hR]
 have HR := Lib.hid hR
 have Hs := Lib.hid hs
 have Hn := Lib.hid hn
 have Hit := Lib.hid hit
 have hmx : n ≤ 9223372036854775807 := hm
 clear hs hR hit hn hm
 go_enter Tryz.func96, Tryz.ntmps96
 go_wp2_with fail
 go_loopw [8] (fun i wr => ∃ k : Nat, k ≤ n ∧ i = .int .i64 k ∧ Hid (Below w.heap.size w wr) ∧ Hid (idxL p (xs.drop k) k = R)) (fun i _ => n - (intOf i).toNat)
 case atStart => exact ⟨0, Nat.zero_le _, rfl, Lib.hid (Below.refl _ _), HR⟩
 case round =>
  obtain ⟨k, hk, rfl, hb, hinv⟩ := hrel
  clear HR
  by_cases hlt : k < n
  · obtain ⟨b, off, x, rfl, hblt, hx, hc⟩ := Hs.out.atS (k := k) (by rw [Hn.out]; exact hlt)
    have d0 : wr.cell? ⟨b, off + k, none⟩ = some (.slice x.A x.n x.c) := (hb.out.cell (p := ⟨b, off + k, none⟩) hblt).trans (by have := hc 0 _ rfl; simpa using this)
    have l0 : b < wr.heap.size := Nat.lt_of_lt_of_le hblt hb.out.size
    have Hst := Lib.hid ((idxL_drop p xs k x hx).symm.trans hinv.out)
    have hF1 := hF x wr
    have HC := Lib.hid (Hit.out x wr (List.mem_of_getElem? hx) hb.out)
    clear hinv hc hx
    have hgo : (k : Int) < n := by omega
    cases hq : p x
    · have Hst2 : Hid (idxL p (xs.drop (k + 1)) (k + 1) = R) := by
       have := Hst.out
       rw [hq] at this
       exact Lib.hid this
      clear Hst
      go_wp2_with fail
      refine HC.out.mono ?_
      rintro e w1 ⟨rfl, hg1⟩
      rw [hq]
      have Hb1 := Lib.hid (below_via hb.out hg1)
      clear hg1 hb d0 HC hF1
      go_wp2
      go_roundw
      case rel => exact ⟨k + 1, by omega, by go_num, Hb1, Hst2⟩
      case measure => simp [intOf]; omega
    · have Hst2 : Hid ((k : Int) = R) := by
       have := Hst.out
       rw [hq] at this
       exact Lib.hid this
      clear Hst
      go_wp2_with fail
      refine HC.out.mono ?_
      rintro e w1 ⟨rfl, hg1⟩
      rw [hq]
      have Hb1 := Lib.hid (below_via hb.out hg1)
      clear hg1 hb d0 HC hF1
      go_wp2
      go_ret
      exact ⟨congrArg (fun z => Ending.returned (Value.int .i64 z)) Hst2.out, Hb1.out⟩
  · obtain rfl : k = n := by omega
    have Hst' : Hid (-1 = R) := by
     have := hinv.out
     rw [show xs.drop k = [] from List.drop_eq_nil_of_le (by rw [Hn.out]; exact Nat.le_refl _)] at this
     exact Lib.hid this
    clear hinv
    go_wp2
    go_ret
    exact ⟨congrArg (fun z => Ending.returned (Value.int .i64 z)) Hst'.out, hb.out⟩
theorem hasEx_c (F : Nat) (p1 : Value) (p : Sx Nd → Bool) (A : Option Addr) (n c : Nat) (xs : List (Sx Nd)) (w : World) (hn : xs.length = n) (hm : n ≤ maxLen) (hs : SlG w A 1 rdX xs)
 (hF : ∀ (x : Sx Nd) (u : World), (callFunc F #[.slice x.A x.n x.c, p1]).run Tryz.prog u = .ok (.enter F #[.slice x.A x.n x.c, p1]) u)
 (hit : ∀ (x : Sx Nd) (u : World), x ∈ xs → Below w.heap.size w u → Calls Tryz.prog F #[.slice x.A x.n x.c, p1] u fun e u' => e = .returned (.bool (p x)) ∧ Below u.heap.size u u') :
 Calls Tryz.prog 63 #[.slice A n c, .func (.func F) #[] #[p1]] w fun e w' => e = .returned (.bool (xs.any p)) ∧ Below w.heap.size w w' := by
 have HC := Lib.hid (idxEx_c F p1 p A n c xs w hn hm hs hF hit)
 rw [← idxL_any]
 obtain ⟨R, hR⟩ : ∃ R, idxL p xs 0 = R := ⟨_, rfl⟩
 rw [hR] at HC ⊢
 clear hs hR hit hF
 go_enter Tryz.func63, Tryz.ntmps63
 go_wp2_with fail
 refine HC.out.mono ?_
 rintro e w1 ⟨rfl, hb1⟩
 go_wp2
 go_ret
 exact ⟨rfl, hb1⟩
set_option maxHeartbeats 4000000 in
theorem idxDf_c (F : Nat) (p1 : Value) (p : Dm → Bool) (A : Option Addr) (n c : Nat) (xs : List (Dm)) (w : World) (hn : xs.length = n) (hm : n ≤ maxLen) (hs : SlG w A 13 rdD xs)
 (hF : ∀ (x : Dm) (u : World), (callFunc F #[x.w, p1]).run Tryz.prog u = .ok (.enter F #[x.w, p1]) u)
 (hit : ∀ (x : Dm) (u : World), x ∈ xs → Below w.heap.size w u → Calls Tryz.prog F #[x.w, p1] u fun e u' => e = .returned (.bool (p x)) ∧ Below u.heap.size u u') :
 Calls Tryz.prog 23 #[.slice A n c, .func (.func F) #[] #[p1]] w fun e w' => e = .returned (.int .i64 (idxL p xs 0)) ∧ Below w.heap.size w w' := by
 obtain ⟨R, hR⟩ : ∃ R, idxL p xs 0 = R := ⟨_, rfl⟩
 rw [hR]
 have HR := Lib.hid hR
 have Hs := Lib.hid hs
 have Hn := Lib.hid hn
 have Hit := Lib.hid hit
 have hmx : n ≤ 9223372036854775807 := hm
 clear hs hR hit hn hm
 go_enter Tryz.func23, Tryz.ntmps23
 go_wp2_with fail
 go_loopw [8] (fun i wr => ∃ k : Nat, k ≤ n ∧ i = .int .i64 k ∧ Hid (Below w.heap.size w wr) ∧ Hid (idxL p (xs.drop k) k = R)) (fun i _ => n - (intOf i).toNat)
 case atStart => exact ⟨0, Nat.zero_le _, rfl, Lib.hid (Below.refl _ _), HR⟩
 case round =>
  obtain ⟨k, hk, rfl, hb, hinv⟩ := hrel
  clear HR
  by_cases hlt : k < n
  · obtain ⟨b, off, x, rfl, hblt, hx, hc⟩ := Hs.out.atS (k := k) (by rw [Hn.out]; exact hlt)
    have d0 : wr.cell? ⟨b, off + k * 13, none⟩ = some (.int .i64 x.k) := (hb.out.cell (p := ⟨b, off + k * 13, none⟩) hblt).trans (hc 0 _ rfl)
    have d1 : wr.cell? ⟨b, off + k * 13 + 1, none⟩ = some (.string x.t.name) := (hb.out.cell (p := ⟨b, off + k * 13 + 1, none⟩) hblt).trans (hc 1 _ rfl)
    have d2 : wr.cell? ⟨b, off + k * 13 + 2, none⟩ = some (.slice x.t.cols.A x.t.cols.n x.t.cols.c) := (hb.out.cell (p := ⟨b, off + k * 13 + 2, none⟩) hblt).trans (hc 2 _ rfl)
    have d3 : wr.cell? ⟨b, off + k * 13 + 3, none⟩ = some (.slice x.t.chks.A x.t.chks.n x.t.chks.c) := (hb.out.cell (p := ⟨b, off + k * 13 + 3, none⟩) hblt).trans (hc 3 _ rfl)
    have d4 : wr.cell? ⟨b, off + k * 13 + 4, none⟩ = some (.string x.v.name) := (hb.out.cell (p := ⟨b, off + k * 13 + 4, none⟩) hblt).trans (hc 4 _ rfl)
    have d5 : wr.cell? ⟨b, off + k * 13 + 5, none⟩ = some (.string x.v.frm) := (hb.out.cell (p := ⟨b, off + k * 13 + 5, none⟩) hblt).trans (hc 5 _ rfl)
    have d6 : wr.cell? ⟨b, off + k * 13 + 6, none⟩ = some (.string x.v.wth) := (hb.out.cell (p := ⟨b, off + k * 13 + 6, none⟩) hblt).trans (hc 6 _ rfl)
    have d7 : wr.cell? ⟨b, off + k * 13 + 7, none⟩ = some (.int .i64 x.v.on0) := (hb.out.cell (p := ⟨b, off + k * 13 + 7, none⟩) hblt).trans (hc 7 _ rfl)
    have d8 : wr.cell? ⟨b, off + k * 13 + 8, none⟩ = some (.int .i64 x.v.on1) := (hb.out.cell (p := ⟨b, off + k * 13 + 8, none⟩) hblt).trans (hc 8 _ rfl)
    have d9 : wr.cell? ⟨b, off + k * 13 + 9, none⟩ = some (.slice x.v.whr.A x.v.whr.n x.v.whr.c) := (hb.out.cell (p := ⟨b, off + k * 13 + 9, none⟩) hblt).trans (hc 9 _ rfl)
    have d10 : wr.cell? ⟨b, off + k * 13 + 10, none⟩ = some (.slice x.v.pick.A x.v.pick.n x.v.pick.c) := (hb.out.cell (p := ⟨b, off + k * 13 + 10, none⟩) hblt).trans (hc 10 _ rfl)
    have d11 : wr.cell? ⟨b, off + k * 13 + 11, none⟩ = some (.bool x.v.grp) := (hb.out.cell (p := ⟨b, off + k * 13 + 11, none⟩) hblt).trans (hc 11 _ rfl)
    have d12 : wr.cell? ⟨b, off + k * 13 + 12, none⟩ = some (.slice x.v.aggs.A x.v.aggs.n x.v.aggs.c) := (hb.out.cell (p := ⟨b, off + k * 13 + 12, none⟩) hblt).trans (hc 12 _ rfl)
    have l0 : b < wr.heap.size := Nat.lt_of_lt_of_le hblt hb.out.size
    have Hst := Lib.hid ((idxL_drop p xs k x hx).symm.trans hinv.out)
    have hF1 := hF x wr
    have HC := Lib.hid (Hit.out x wr (List.mem_of_getElem? hx) hb.out)
    clear hinv hc hx
    have hgo : (k : Int) < n := by omega
    cases hq : p x
    · have Hst2 : Hid (idxL p (xs.drop (k + 1)) (k + 1) = R) := by
       have := Hst.out
       rw [hq] at this
       exact Lib.hid this
      clear Hst
      go_wp2_with fail
      refine HC.out.mono ?_
      rintro e w1 ⟨rfl, hg1⟩
      rw [hq]
      have Hb1 := Lib.hid (below_via hb.out hg1)
      clear hg1 hb d0 d1 d2 d3 d4 d5 d6 d7 d8 d9 d10 d11 d12 HC hF1
      go_wp2
      go_roundw
      case rel => exact ⟨k + 1, by omega, by go_num, Hb1, Hst2⟩
      case measure => simp [intOf]; omega
    · have Hst2 : Hid ((k : Int) = R) := by
       have := Hst.out
       rw [hq] at this
       exact Lib.hid this
      clear Hst
      go_wp2_with fail
      refine HC.out.mono ?_
      rintro e w1 ⟨rfl, hg1⟩
      rw [hq]
      have Hb1 := Lib.hid (below_via hb.out hg1)
      clear hg1 hb d0 d1 d2 d3 d4 d5 d6 d7 d8 d9 d10 d11 d12 HC hF1
      go_wp2
      go_ret
      exact ⟨congrArg (fun z => Ending.returned (Value.int .i64 z)) Hst2.out, Hb1.out⟩
  · obtain rfl : k = n := by omega
    have Hst' : Hid (-1 = R) := by
     have := hinv.out
     rw [show xs.drop k = [] from List.drop_eq_nil_of_le (by rw [Hn.out]; exact Nat.le_refl _)] at this
     exact Lib.hid this
    clear hinv
    go_wp2
    go_ret
    exact ⟨congrArg (fun z => Ending.returned (Value.int .i64 z)) Hst'.out, hb.out⟩
def Sc.cl (x : Sc) : List Value := [.string x.name, .bool x.tb, .slice x.ks.A x.ks.n x.ks.c, .slice x.ns.A x.ns.n x.ns.c]
def BkS (w : World) (b : Nat) (x : Sc) : Prop := Bk w b #[.string x.name, .bool x.tb, .slice x.ks.A x.ks.n x.ks.c, .slice x.ns.A x.ns.n x.ns.c] 64
theorem BkS.all {w : World} {b : Nat} {x : Sc} (h : BkS w b x) : w.cell? ⟨b, 0, none⟩ = some (.string x.name) ∧ w.cell? ⟨b, 1, none⟩ = some (.bool x.tb) ∧ w.cell? ⟨b, 2, none⟩ = some (.slice x.ks.A x.ks.n x.ks.c) ∧ w.cell? ⟨b, 3, none⟩ = some (.slice x.ns.A x.ns.n x.ns.c) ∧ b < w.heap.size := ⟨h.cell 0, h.cell 1, h.cell 2, h.cell 3, h.lt⟩
theorem BkS.thaw {w : World} {b : Nat} {x : Sc} (h : BkS w b x) : w.frozen? ⟨b, 0, none⟩ = false ∧ w.frozen? ⟨b, 1, none⟩ = false ∧ w.frozen? ⟨b, 2, none⟩ = false ∧ w.frozen? ⟨b, 3, none⟩ = false := ⟨Bk.thaw h 0, Bk.thaw h 1, Bk.thaw h 2, Bk.thaw h 3⟩
theorem BkS.after {w w' : World} {b B : Nat} {x : Sc} (h : BkS w b x) (hb : Below B w w') (hB : b < B) : BkS w' b x := Bk.after h hb hB
theorem ret_sc2 {fn : Func} {R : Ending → World → Prop} {F : Act} {w : World} {t u : Tmp} {b : Nat} {x : Sc} {z : Value} (hres : fn.results = #[.cell t 64, .tmp u]) (ht : Reg.slot F t = .pointer (some ⟨b, 0, none⟩)) (hu : Reg.slot F u = z) (hb : BkS w b x) (hd : F.defers = [])
 (hR : R (.returned (.tuple #[x.w, z])) w) : bodyPost Tryz.prog fn R .ret F w := by
 obtain ⟨h0, h1, h2, h3, _⟩ := hb.all
 refine bodyPost_ret (v := .tuple #[x.w, z]) ?_ hd hR
 have ht' : F.tmps[t]?.getD undef = .pointer (some ⟨b, 0, none⟩) := by simpa [Reg.slot] using ht
 have hu' : F.tmps[u]?.getD undef = z := by simpa [Reg.slot] using hu
 simp [results, hres, ht', hu', go_sem, h0, h1, h2, h3]
theorem below_put {B : Nat} {w u : World} {b : Nat} (h : Below B w u) (hB : B ≤ b) (vs : List Value) (j : Nat) : Below B w (putL u b j vs) :=
 ⟨(putL_io vs u b j).1.trans h.os, (putL_io vs u b j).2.1.trans h.tape, (putL_io vs u b j).2.2.trans h.output, by rw [putL_size]; exact h.size, fun k hk => (putL_heap vs u b j k (by omega)).trans (h.block k hk)⟩
theorem findE_sc (nm : ByteArray) (xs : List Sc) : findE (enL xs) nm = (xs.find? fun x => decide (x.name = nm)).map Sc.en := by
 unfold findE enL
 rw [List.find?_map]
 congr 2
 funext x
 exact decide_eq_decide.2 Iff.rfl
set_option maxHeartbeats 2000000 in
theorem find1_c (x : Sc) (nm : ByteArray) (b : Nat) (u : World) (h0 : u.cell? ⟨b, 0, none⟩ = some (.string nm)) (hb : b < u.heap.size) :
 Calls Tryz.prog 35 #[x.w, .pointer (some ⟨b, 0, none⟩)] u fun e u' => e = .returned (.bool (decide (x.name = nm))) ∧ Below u.heap.size u u' := by
 have Hb := Lib.hid (below_one u (.cells #[.string x.name, .bool x.tb, .slice x.ks.A x.ks.n x.ks.c, .slice x.ns.A x.ns.n x.ns.c] 64))
 have HE := Lib.hid (dec_str x.name nm)
 go_enter Tryz.func35, Tryz.ntmps35
 go_wp2
 go_ret
 exact ⟨by rw [HE.out]; rfl, Hb.out⟩
def FindS (g : List En) (nm : ByteArray) (w : World) (e : Ending) (w' : World) : Prop :=
 ∃ (x : Sc) (ok : Bool), e = .returned (.tuple #[x.w, .bool ok]) ∧ x.In w' ∧ ((ok = false ∧ x = sc0 ∧ findE g nm = none) ∨ (ok = true ∧ findE g nm = some x.en)) ∧ Below w.heap.size w w'
set_option maxHeartbeats 4000000 in
theorem find9_c (A : Option Addr) (n c : Nat) (xs : List Sc) (nm : ByteArray) (w : World) (hL : ScL w A n xs) :
 Calls Tryz.prog 26 #[.slice A n c, .string nm] w (FindS (enL xs) nm w) := by
 obtain ⟨S, hS⟩ : ∃ S, FindS (enL xs) nm w = S := ⟨_, rfl⟩
 rw [hS]
 have HS := Lib.hid hS
 obtain ⟨w0, hw0⟩ : ∃ w0, (w.alloc (.cells #[.string nm] 9)).alloc (.cells #[.string emp, .bool false, .slice none 0 0, .slice none 0 0] 64) = w0 := ⟨_, rfl⟩
 have hB0 : Below w.heap.size w w0 := by rw [← hw0]; exact below_two _ _ _
 have hN : Bk w0 w.heap.size #[.string nm] 9 := by rw [← hw0]; exact (Bk.new w _ _).after (below_one _ _) (by simp)
 have hZ : BkS w0 (w.heap.size + 1) sc0 := by
  have := Bk.new (w.alloc (.cells #[.string nm] 9)) #[.string emp, .bool false, .slice none 0 0, .slice none 0 0] 64
  rw [hw0] at this
  simpa [BkS, sc0, sx0] using this
 have HB0 := Lib.hid hB0
 have HN := Lib.hid hN
 have HZ := Lib.hid hZ
 have HW0 := Lib.hid hw0
 have HL := Lib.hid (hL.after hB0)
 have HLw := Lib.hid hL
 have hI := idxSc_c 35 (.pointer (some ⟨w.heap.size, 0, none⟩)) (fun x => decide (x.name = nm)) A n c xs w0 HL.out.len HL.out.max HL.out.sl (fun _ _ => by kernel_rfl)
  (fun x u _ hb => find1_c x nm w.heap.size u ((hN.after hb hN.lt).cell 0) (hN.after hb hN.lt).lt)
 have HI := Lib.hid hI
 have Hf := Lib.hid (idxL_find (fun x : Sc => decide (x.name = nm)) xs 0)
 have He := Lib.hid (findE_sc nm xs)
 obtain ⟨R, hR⟩ : ∃ R, idxL (fun x : Sc => decide (x.name = nm)) xs 0 = R := ⟨_, rfl⟩
 rw [hR] at HI Hf
 clear hS hB0 hN hZ hw0 hL hI hR
 have hmf : ∀ (fn : Fn) (first cap : Array Value) (w : World), (Instr.makeFunc fn first cap).run Tryz.prog w = .ok (.func fn first cap) w := fun _ _ _ _ => rfl
 go_enter Tryz.func26, Tryz.ntmps26
 go_upto_region 1 with fail
 rw [HW0.out]
 go_wp2_with fail
 refine HI.out.mono ?_
 rintro e w1 ⟨rfl, hb1⟩
 have HB1 := Lib.hid (below_via HB0.out hb1)
 have HZ1 : Hid (BkS w1 (w.heap.size + 1) sc0) := Lib.hid (HZ.out.after hb1 HZ.out.all.2.2.2.2)
 have HL1 := Lib.hid (HL.out.after hb1)
 obtain ⟨c0, c1, c2, c3, lb⟩ := HZ1.out.all
 obtain ⟨f0, f1, f2, f3⟩ := HZ1.out.thaw
 clear hb1 HI
 rcases Hf.out with ⟨rfl, h2⟩ | ⟨i, x, rfl, h2, h3⟩
 · have hr : S (.returned (.tuple #[sc0.w, .bool false])) (putL w1 (w.heap.size + 1) 0 sc0.cl) := by
    rw [← HS.out]
    exact ⟨sc0, false, rfl, sc0_in _, .inl ⟨rfl, rfl, by rw [He.out, h2]; rfl⟩, below_put HB1.out (by omega) _ _⟩
   have HR := Lib.hid hr
   clear h2 hr Hf
   go_wp2
   change bodyPost _ _ _ _ _ (putL w1 (w.heap.size + 1) 0 sc0.cl)
   exact ret_sc2 (b := w.heap.size + 1) (x := sc0) (z := .bool false) Tryz.results26 rfl rfl (Bk.put HZ1.out sc0.cl rfl) rfl HR.out
 · have hin : x.In (putL w1 (w.heap.size + 1) 0 x.cl) := (HLw.out.each x (List.mem_of_getElem? h2)).after (below_put HB1.out (by omega) _ _)
   have hr : S (.returned (.tuple #[x.w, .bool true])) (putL w1 (w.heap.size + 1) 0 x.cl) := by
    rw [← HS.out]
    exact ⟨x, true, rfl, hin, .inr ⟨rfl, by rw [He.out, h3]; rfl⟩, below_put HB1.out (by omega) _ _⟩
   have HR := Lib.hid hr
   obtain ⟨b, off, y, rfl, hblt, hy, hc⟩ := HL1.out.sl.atS (List.getElem?_eq_some_iff.1 h2).1
   obtain rfl : x = y := Option.some.inj (h2.symm.trans hy)
   have d0 : w1.cell? ⟨b, off + i * 4, none⟩ = some (.string x.name) := hc 0 _ rfl
   have d1 : w1.cell? ⟨b, off + i * 4 + 1, none⟩ = some (.bool x.tb) := hc 1 _ rfl
   have d2 : w1.cell? ⟨b, off + i * 4 + 2, none⟩ = some (.slice x.ks.A x.ks.n x.ks.c) := hc 2 _ rfl
   have d3 : w1.cell? ⟨b, off + i * 4 + 3, none⟩ = some (.slice x.ns.A x.ns.n x.ns.c) := hc 3 _ rfl
   have hlt : i < n := by rw [← HL1.out.len]; exact (List.getElem?_eq_some_iff.1 h2).1
   rw [Nat.zero_add]
   clear h2 h3 hr Hf hin hy hc
   go_wp2
   change bodyPost _ _ _ _ _ (putL w1 (w.heap.size + 1) 0 x.cl)
   exact ret_sc2 (b := w.heap.size + 1) (x := x) (z := .bool true) Tryz.results26 rfl rfl (Bk.put HZ1.out x.cl rfl) rfl HR.out
theorem emp_of9 {b : ByteArray} (h : b.toList.isEmpty = true) : b = emp := toList_inj (by rw [ByteArray.toList_eq emp]; simpa using h)
set_option maxHeartbeats 4000000 in
theorem ref9_c (x : Cl) (A : Option Addr) (n c : Nat) (xs : List Sc) (w : World) (hL : ScL w A n xs) (hne : ∀ e ∈ enL xs, e.tb = true → 1 ≤ e.ks.length) :
 Calls Tryz.prog 62 #[.slice A n c, x.w] w fun e w' => e = .returned (.bool (scRef (enL xs) x)) ∧ Below w.heap.size w w' := by
 obtain ⟨nm, kd, nu, un, rf, ac⟩ := x
 obtain ⟨w0, hw0⟩ : ∃ w0, w.alloc (.cells #[.string nm, .int .i64 kd, .bool nu, .bool un, .string rf, .int .i64 ac] 41) = w0 := ⟨_, rfl⟩
 have hB0 : Below w.heap.size w w0 := by rw [← hw0]; exact below_one _ _
 have hK : Bk w0 w.heap.size #[.string nm, .int .i64 kd, .bool nu, .bool un, .string rf, .int .i64 ac] 41 := by rw [← hw0]; exact Bk.new w _ _
 have HB0 := Lib.hid hB0
 have HK := Lib.hid hK
 have HW0 := Lib.hid hw0
 have HF := Lib.hid (find9_c A n c xs rf w0 (hL.after hB0))
 have Hne := Lib.hid hne
 obtain ⟨R, hR⟩ : ∃ R, scRef (enL xs) ⟨nm, kd, nu, un, rf, ac⟩ = R := ⟨_, rfl⟩
 rw [hR]
 unfold scRef at hR
 simp only at hR
 have c4 := hK.cell 4
 have lK := hK.lt
 simp at c4
 clear hw0 hB0 hK hL hne
 by_cases he : rf.toList.isEmpty = true
 · rw [if_pos he] at hR
   obtain rfl := emp_of9 he
   subst hR
   clear he HF
   go_enter Tryz.func62, Tryz.ntmps62
   go_upto_region 1 with fail
   rw [HW0.out]
   go_wp2
   go_ret
   exact ⟨rfl, HB0.out⟩
 · rw [if_neg he] at hR
   have he2 : rf.toList.isEmpty = false := by simpa using he
   have HR := Lib.hid hR
   clear hR he
   go_enter Tryz.func62, Tryz.ntmps62
   go_upto_region 1 with fail
   rw [HW0.out]
   go_wp2_with fail
   refine HF.out.mono ?_
   rintro e w1 ⟨s, ok, rfl, hsi, hcase, hb1⟩
   obtain ⟨w2, hw2⟩ : ∃ w2, w1.alloc (.cells #[.string s.name, .bool s.tb, .slice s.ks.A s.ks.n s.ks.c, .slice s.ns.A s.ns.n s.ns.c] 64) = w2 := ⟨_, rfl⟩
   have hb2 : Below w0.heap.size w0 w2 := by rw [← hw2]; exact below_al hb1 _
   have HBf := Lib.hid (below_via HB0.out hb2)
   have hK2 : Bk w2 w.heap.size #[.string nm, .int .i64 kd, .bool nu, .bool un, .string rf, .int .i64 ac] 41 := HK.out.after hb2 HK.out.lt
   have hS2 : BkS w2 w1.heap.size s := by rw [← hw2]; exact Bk.new _ _ _
   have k0 : w2.cell? ⟨w.heap.size, 1, none⟩ = some (.int .i64 kd) := hK2.cell 1
   have k2 : w2.cell? ⟨w.heap.size, 2, none⟩ = some (.bool nu) := hK2.cell 2
   have k5 : w2.cell? ⟨w.heap.size, 5, none⟩ = some (.int .i64 ac) := hK2.cell 5
   have lk := hK2.lt
   obtain ⟨s0, s1, s2, s3, ls⟩ := hS2.all
   have Hw2 := Lib.hid hw2
   have Hcase := Lib.hid hcase
   have Hsi := Lib.hid (hsi.after (by rw [← hw2]; exact below_one _ _ : Below w1.heap.size w1 w2))
   clear hb1 hb2 hK2 hS2 hw2 hcase hsi HF c4 lK
   go_upto_region 4 with fail
   rw [Hw2.out]
   cases ok
   · obtain rfl : false = R := by
      rcases Hcase.out with h | h
      · rw [← HR.out, h.2.2]
      · cases h.1
     go_region
     go_wp2
     go_ret
     exact ⟨rfl, HBf.out.drew⟩
   · have hf : findE (enL xs) rf = some s.en := by
      rcases Hcase.out with h | h
      · cases h.1
      · exact h.2
     have hR2 : (s.tb && (decide (kAt s.ks.xs 0 = kd) && (decide (ac ≠ 2) || nu))) = R := by rw [← HR.out, hf]; rfl
     cases ht : s.tb
     · rw [ht] at hR2 s1
       obtain rfl : false = R := hR2
       go_region
       go_wp2
       go_ret
       exact ⟨rfl, HBf.out.drew⟩
     · rw [ht] at hR2 s1
       have hl := Hne.out s.en (List.mem_of_find?_eq_some hf) ht
       obtain ⟨g, off, k, hA, hg, hk, hc⟩ := Hsi.out.ks.sl.at1 (k := 0) hl
       have hn1 : 0 < s.ks.n := by rw [← Hsi.out.ks.len]; exact hl
       have d0 : w2.cell? ⟨g, off, none⟩ = some (.int .i64 k) := hc _ rfl
       rw [hA] at s2
       have hk0 : kAt s.ks.xs 0 = k := by rw [kAt_at (by omega) (by have : s.en.ks = s.ks.xs := rfl; rw [this] at hl; omega), List.getD_eq_getElem?_getD]; simp at hk ⊢; rw [hk]; rfl
       rw [hk0] at hR2
       clear hc hk hk0 hl hf
       by_cases h1 : k = kd
       · have h2 : (k == kd) = true := by simpa using h1
         rw [decide_eq_true h1] at hR2
         by_cases h3 : ac = 2
         · have h4 : (ac != 2) = false := by simpa using h3
           have hr : nu = R := by rw [← hR2]; simp [h3]
           subst hr
           clear h1 h3 hR2
           go_region
           go_wp2
           go_ret
           exact ⟨rfl, HBf.out.drew⟩
         · have h4 : (ac != 2) = true := by simpa using h3
           have hr : true = R := by rw [← hR2]; simp [h3]
           subst hr
           clear h1 h3 hR2
           go_region
           go_wp2
           go_ret
           exact ⟨rfl, HBf.out.drew⟩
       · have h2 : (k == kd) = false := by simpa using h1
         have hr : false = R := by rw [← hR2]; simp [h1]
         subst hr
         clear h1 hR2
         go_region
         go_wp2
         go_ret
         exact ⟨rfl, HBf.out.drew⟩
theorem SlG.take9 {α : Type} {rd : α → List Value} {S : Nat} {w : World} {A : Option Addr} {xs : List α} (h : SlG w A S rd xs) (k : Nat) : SlG w A S rd (xs.take k) := by
 rcases h with h | ⟨b, off, hA, hlt, h⟩
 · left; rw [h]; simp
 · refine .inr ⟨b, off, hA, hlt, fun i x hx j u hu => h i x ?_ j u hu⟩
   rw [List.getElem?_take] at hx
   split at hx
   · exact hx
   · cases hx
set_option maxHeartbeats 2000000 in
theorem share1_c (x : Cl) (nm : ByteArray) (b : Nat) (u : World) (h0 : u.cell? ⟨b, 0, none⟩ = some (.string nm)) (hb : b < u.heap.size) :
 Calls Tryz.prog 94 #[x.w, .pointer (some ⟨b, 0, none⟩)] u fun e u' => e = .returned (.bool (decide (x.name = nm))) ∧ Below u.heap.size u u' := by
 have Hb := Lib.hid (below_one u (.cells #[.string x.name, .int .i64 x.kind, .bool x.nul, .bool x.uni, .string x.ref, .int .i64 x.act] 41))
 have HE := Lib.hid (dec_str x.name nm)
 go_enter Tryz.func94, Tryz.ntmps94
 go_wp2
 go_ret
 exact ⟨by rw [HE.out]; rfl, Hb.out⟩
set_option maxHeartbeats 2000000 in
theorem tab1_c (x : Cl) (A : Option Addr) (n c : Nat) (xs : List Sc) (b : Nat) (u : World) (h0 : u.cell? ⟨b, 0, none⟩ = some (.slice A n c)) (hb : b < u.heap.size) (hL : ScL u A n xs) (hne : ∀ e ∈ enL xs, e.tb = true → 1 ≤ e.ks.length) :
 Calls Tryz.prog 61 #[x.w, .pointer (some ⟨b, 0, none⟩)] u fun e u' => e = .returned (.bool (!scRef (enL xs) x)) ∧ Below u.heap.size u u' := by
 have hb0 := below_one u (.cells #[.string x.name, .int .i64 x.kind, .bool x.nul, .bool x.uni, .string x.ref, .int .i64 x.act] 41)
 have Hb := Lib.hid hb0
 have HR := Lib.hid (ref9_c x A n c xs _ (hL.after hb0) hne)
 obtain ⟨R, hR⟩ : ∃ R, scRef (enL xs) x = R := ⟨_, rfl⟩
 rw [hR] at HR ⊢
 clear hL hne hb0 hR
 go_enter Tryz.func61, Tryz.ntmps61
 go_wp2_with fail
 refine HR.out.mono ?_
 rintro e w1 ⟨rfl, hb1⟩
 have Hb1 := Lib.hid (below_via Hb.out hb1)
 clear hb1
 go_wp2
 go_ret
 exact ⟨rfl, Hb1.out⟩
def trB (ks : List Int) (e : List Nd) : Bool := decide ((typeR e ks).2 = 0) && (decide ((typeR e ks).1 = 1) || decide ((typeR e ks).1 = 0))
set_option maxHeartbeats 2000000 in
theorem tab2_c (x : Sx Nd) (A : Option Addr) (n c : Nat) (ks : List Int) (b : Nat) (u : World) (h0 : u.cell? ⟨b, 2, none⟩ = some (.slice A n c)) (hb : b < u.heap.size) (hx : x.In u 5 rdN) (hz : ∀ y ∈ x.xs, y.v.s.size ≤ maxLen) (hn : ks.length = n) (hs : SlG u A 1 rdI ks) :
 Calls Tryz.prog 64 #[.slice x.A x.n x.c, .pointer (some ⟨b, 0, none⟩)] u fun e u' => e = .returned (.bool (!trB ks x.xs)) ∧ Below u.heap.size u u' := by
 have HR := Lib.hid (truth9_c x A n c ks u hx hz hn hs)
 unfold trB
 obtain ⟨R, hR⟩ : ∃ R, (decide ((typeR x.xs ks).2 = 0) && (decide ((typeR x.xs ks).1 = 1) || decide ((typeR x.xs ks).1 = 0))) = R := ⟨_, rfl⟩
 rw [hR] at HR ⊢
 clear hx hz hn hs hR
 go_enter Tryz.func64, Tryz.ntmps64
 go_wp2_with fail
 refine HR.out.mono ?_
 rintro e w1 ⟨rfl, hb1⟩
 go_wp2
 go_ret
 exact ⟨rfl, hb1⟩
set_option maxHeartbeats 2000000 in
theorem src1_c (d : Dm) (x : Sc) (b : Nat) (u : World) (h0 : BkD u b d) :
 Calls Tryz.prog 38 #[x.w, .pointer (some ⟨b, 0, none⟩)] u fun e u' => e = .returned (.bool (namedB d.df x.name)) ∧ Below u.heap.size u u' := by
 have hb0 := below_one u (.cells #[.string x.name, .bool x.tb, .slice x.ks.A x.ks.n x.ks.c, .slice x.ns.A x.ns.n x.ns.c] 64)
 have Hb := Lib.hid hb0
 obtain ⟨c0, c1, c2, c3, c4, c5, c6, c7, c8, c9, c10, c11, c12, hlt⟩ := h0.all
 have HR := Lib.hid (named_c d x.name (u.alloc (.cells #[.string x.name, .bool x.tb, .slice x.ks.A x.ks.n x.ks.c, .slice x.ns.A x.ns.n x.ns.c] 64)))
 obtain ⟨R, hR⟩ : ∃ R, namedB d.df x.name = R := ⟨_, rfl⟩
 rw [hR] at HR ⊢
 clear hb0 hR h0
 go_enter Tryz.func38, Tryz.ntmps38
 go_wp2_with fail
 refine HR.out.mono ?_
 rintro e w1 ⟨rfl, hb1⟩
 have Hb1 := Lib.hid (below_via Hb.out hb1)
 clear hb1
 go_wp2
 go_ret
 exact ⟨rfl, Hb1.out⟩
set_option maxHeartbeats 2000000 in
theorem fnd1_c (d : Dm) (nm : ByteArray) (b : Nat) (u : World) (h0 : u.cell? ⟨b, 0, none⟩ = some (.string nm)) (hb : b < u.heap.size) :
 Calls Tryz.prog 24 #[d.w, .pointer (some ⟨b, 0, none⟩)] u fun e u' => e = .returned (.bool (namedB d.df nm)) ∧ Below u.heap.size u u' := by
 have hb0 := below_one u (.cells d.cells 38)
 have Hb : Hid (Below u.heap.size u (u.alloc (.cells #[.int .i64 d.k, .string d.t.name, .slice d.t.cols.A d.t.cols.n d.t.cols.c, .slice d.t.chks.A d.t.chks.n d.t.chks.c, .string d.v.name, .string d.v.frm, .string d.v.wth, .int .i64 d.v.on0, .int .i64 d.v.on1, .slice d.v.whr.A d.v.whr.n d.v.whr.c, .slice d.v.pick.A d.v.pick.n d.v.pick.c, .bool d.v.grp, .slice d.v.aggs.A d.v.aggs.n d.v.aggs.c] 38))) := Lib.hid hb0
 have HR := Lib.hid (fun u' => named_c d nm u')
 obtain ⟨R, hR⟩ : ∃ R, namedB d.df nm = R := ⟨_, rfl⟩
 rw [hR] at HR ⊢
 clear hb0 hR
 go_enter Tryz.func24, Tryz.ntmps24
 go_wp2_with fail
 refine (HR.out _).mono ?_
 rintro e w1 ⟨rfl, hb1⟩
 have Hb1 := Lib.hid (below_via Hb.out hb1)
 clear hb1
 go_wp2
 go_ret
 exact ⟨rfl, Hb1.out⟩
set_option maxHeartbeats 4000000 in
theorem shares_c (A : Option Addr) (n c : Nat) (xs : List Cl) (w : World) (hn : xs.length = n) (hm : n ≤ maxLen) (hnc : n ≤ c) (hcm : c ≤ maxLen) (hs : SlG w A 6 rdCl xs) :
 Calls Tryz.prog 59 #[.slice A n c] w fun e w' => e = .returned (.bool (twiceC xs)) ∧ Below w.heap.size w w' := by
 rw [twice_take]
 obtain ⟨R, hR⟩ : ∃ R, (List.range xs.length).any (scShare xs) = R := ⟨_, rfl⟩
 rw [hR]
 rw [hn] at hR
 have HR := Lib.hid hR
 have Hn := Lib.hid hn
 have Hs := Lib.hid hs
 have hmx : c ≤ 9223372036854775807 := hcm
 have Hm := Lib.hid hm
 clear hR hn hs hm hcm
 have hmf : ∀ (fn : Fn) (first cap : Array Value) (w : World), (Instr.makeFunc fn first cap).run Tryz.prog w = .ok (.func fn first cap) w := fun _ _ _ _ => rfl
 go_enter Tryz.func59, Tryz.ntmps59
 go_wp2_with fail
 go_loopw [7] (fun i wr => ∃ k : Nat, k ≤ n ∧ i = .int .i64 (k : Int) ∧ Hid (Below w.heap.size w wr) ∧ Hid ((List.range k).any (scShare xs) = false)) (fun i _ => n - (intOf i).toNat)
 case atStart => exact ⟨0, Nat.zero_le _, rfl, Lib.hid (Below.refl _ _), Lib.hid rfl⟩
 case round =>
  obtain ⟨k, hk, rfl, hb, hinv⟩ := hrel
  by_cases hlt : k < n
  · obtain ⟨b, off, x, rfl, hblt, hx, hc⟩ := Hs.out.atS (k := k) (by rw [Hn.out]; exact hlt)
    have d0 : wr.cell? ⟨b, off + k * 6, none⟩ = some (.string x.name) := (hb.out.cell (p := ⟨b, off + k * 6, none⟩) hblt).trans (hc 0 _ rfl)
    have d1 : wr.cell? ⟨b, off + k * 6 + 1, none⟩ = some (.int .i64 x.kind) := (hb.out.cell (p := ⟨b, off + k * 6 + 1, none⟩) hblt).trans (hc 1 _ rfl)
    have d2 : wr.cell? ⟨b, off + k * 6 + 2, none⟩ = some (.bool x.nul) := (hb.out.cell (p := ⟨b, off + k * 6 + 2, none⟩) hblt).trans (hc 2 _ rfl)
    have d3 : wr.cell? ⟨b, off + k * 6 + 3, none⟩ = some (.bool x.uni) := (hb.out.cell (p := ⟨b, off + k * 6 + 3, none⟩) hblt).trans (hc 3 _ rfl)
    have d4 : wr.cell? ⟨b, off + k * 6 + 4, none⟩ = some (.string x.ref) := (hb.out.cell (p := ⟨b, off + k * 6 + 4, none⟩) hblt).trans (hc 4 _ rfl)
    have d5 : wr.cell? ⟨b, off + k * 6 + 5, none⟩ = some (.int .i64 x.act) := (hb.out.cell (p := ⟨b, off + k * 6 + 5, none⟩) hblt).trans (hc 5 _ rfl)
    have l0 : b < wr.heap.size := Nat.lt_of_lt_of_le hblt hb.out.size
    obtain ⟨w1, hw1⟩ : ∃ w1, wr.alloc (.cells #[.string x.name, .int .i64 x.kind, .bool x.nul, .bool x.uni, .string x.ref, .int .i64 x.act] 41) = w1 := ⟨_, rfl⟩
    have hb1 : Below w.heap.size w w1 := by rw [← hw1]; exact below_al hb.out _
    have hK : Bk w1 wr.heap.size #[.string x.name, .int .i64 x.kind, .bool x.nul, .bool x.uni, .string x.ref, .int .i64 x.act] 41 := by rw [← hw1]; exact Bk.new wr _ _
    have hI := hasCl_c 94 (.pointer (some ⟨wr.heap.size, 0, none⟩)) (fun y => decide (y.name = x.name)) (some ⟨b, off, none⟩) k c (xs.take k) w1 (by rw [List.length_take, Hn.out]; omega) (by have := Hm.out; omega) ((Hs.out.after hb1).take9 k) (fun _ _ => by kernel_rfl)
     (fun y u _ hu => share1_c y x.name wr.heap.size u ((hK.after hu hK.lt).cell 0) (hK.after hu hK.lt).lt)
    have hsh : scShare xs k = ((xs.take k).any fun y => decide (y.name = x.name)) := by
     unfold scShare
     rw [List.getD_eq_getElem?_getD, hx]
     congr 1
     funext y
     exact decide_eq_decide.2 Iff.rfl
    rw [← hsh] at hI
    have HI := Lib.hid hI
    have Hw1 := Lib.hid hw1
    have HB1 := Lib.hid hb1
    have hgo : (k : Int) < n := by omega
    have Hstep : Hid ((List.range (k + 1)).any (scShare xs) = scShare xs k) := Lib.hid (by rw [List.range_succ, List.any_append, hinv.out]; simp)
    have Hall : Hid (scShare xs k = true → true = R) := Lib.hid fun h => by rw [← HR.out]; exact (List.any_eq_true.2 ⟨k, List.mem_range.2 hlt, h⟩).symm
    obtain ⟨Q, hQ⟩ : ∃ Q, scShare xs k = Q := ⟨_, rfl⟩
    rw [hQ] at HI Hstep Hall
    clear hw1 hb1 hI hsh hQ hc hx hK hinv
    go_wp2_with fail
    rw [Hw1.out]
    refine HI.out.mono ?_
    rintro e w2 ⟨rfl, hb2⟩
    have HB2 := Lib.hid (below_via HB1.out hb2)
    clear hb2 HI d0 d1 d2 d3 d4 d5 hb HB1
    cases Q
    · clear Hall
      go_wp2
      go_roundw
      case rel => exact ⟨k + 1, by omega, by go_num, HB2, Hstep⟩
      case measure => simp [intOf]; omega
    · obtain rfl := Hall.out rfl
      go_wp2
      go_ret
      exact ⟨rfl, HB2.out⟩
  · obtain rfl : k = n := by omega
    obtain rfl : false = R := by rw [← HR.out, hinv.out]
    clear hinv
    go_wp2
    go_ret
    exact ⟨rfl, hb.out⟩
theorem dfOk9 : ElOk Tryz.prog 23 38 13 216 (Dm.w ⟨0, ⟨emp, sx0, sx0⟩, ⟨emp, emp, emp, 0, 0, sx0, sx0, false, sx0⟩⟩) rdD where
 under := Tryz.underlying23
 info := by kernel_rfl
 zs := rfl
 pos := by decide
 len := fun _ => rfl
 one := fun x u hu => by
  simp [rdD] at hu
  rcases hu with rfl | rfl | rfl | rfl | rfl | rfl | rfl | rfl | rfl | rfl | rfl | rfl | rfl <;> rfl
def catK {α : Type} (k : Nat) (xs ys : List α) : List α := if k = 0 then [] else if k = 1 then xs else xs ++ ys
set_option maxHeartbeats 4000000 in
theorem growSc_c (n : Nat) (w : World) (hn : n ≤ 2000) :
 Calls Tryz.prog 93 #[.slice none 0 0, .int .i64 (n : Int)] w fun e w' => ∃ v, e = .returned v ∧ OwnG w' w.heap.size 64 4 rdSc v ([] : List (Sc)) ∧ Below w.heap.size w w' := by
 by_cases h0 : n = 0
 · subst h0
   go_enter Tryz.func93, Tryz.ntmps93
   go_wp2
   go_ret
   exact ⟨_, rfl, OwnG.nil _ _ _, Below.refl _ _⟩
 · obtain ⟨i0, hi, hz0, hz1, hz2⟩ := scOk.parts
   have hz1' : 0 < i0.size := by rw [hz1]; decide
   have hrz := fun ty => Lib.run_append_nil_zeros (P := Tryz.prog) w 58 3 ty 64 i0 _ .i64 .i64 Tryz.underlying58 Tryz.underlying3 hi hz0 n (by omega) hz1' (by omega) (by rw [hz2]; omega)
   have hge := grownCap_ge w n 0 64
   have hle := grownCap_le_maxLen w n 0 64 (by unfold maxLen; omega)
   have hown : OwnG (w.drew.alloc (.cells (Builtin.zeroCells (Value.cells sc0.w) n ++ Builtin.zeroCells (Value.cells sc0.w) (grownCap w n 0 64 - n)) 64)) w.heap.size 64 4 rdSc (.slice (some ⟨w.heap.size, 0, none⟩) 0 (grownCap w n 0 64)) ([] : List (Sc)) :=
    OwnG.made w.drew w.heap.size 64 _ _ (Nat.le_refl _) hle (by rw [Array.size_append, size_zeroCells, size_zeroCells, scOk.zs, ← Nat.add_mul]; congr 1; omega)
   have HO := Lib.hid hown
   have Hb : Hid (Below w.heap.size w (w.drew.alloc (.cells (Builtin.zeroCells (Value.cells sc0.w) n ++ Builtin.zeroCells (Value.cells sc0.w) (grownCap w n 0 64 - n)) 64))) := Lib.hid ((Below.refl w.heap.size w).drew.alloc (Nat.le_refl _) _)
   obtain ⟨G, hG⟩ : ∃ G, grownCap w n 0 64 = G := ⟨_, rfl⟩
   rw [hG] at hrz hge hle HO Hb
   unfold maxLen at hle
   have h1 : (n : Int) > 0 := by omega
   clear hown hG hi hz0 hz1 hz2 hz1' h0
   go_enter Tryz.func93, Tryz.ntmps93
   go_wp2_with (at_builtin; refine Lib.wpList_append_run _ rfl _ _ _ _ rfl _ _ rfl rfl _ _ (hrz _) ?_)
   all_goals
    go_ret
    exact ⟨_, rfl, HO.out, Hb.out⟩
set_option maxHeartbeats 8000000 in
theorem catSc_c (g : Nat) (A B : Option Addr) (n c m d : Nat) (xs ys : List (Sc)) (w : World) (h0 : w.cell? ⟨g, 0, none⟩ = some (.slice A n c)) (h1 : w.cell? ⟨g, 1, none⟩ = some (.slice B m d)) (hg : g < w.heap.size)
 (hn : xs.length = n) (hm : ys.length = m) (hn1 : n ≤ 1000) (hm1 : m ≤ 1000) (hs : SlG w A 4 rdSc xs) (ht : SlG w B 4 rdSc ys) :
 Calls Tryz.prog 57 #[.slice (some ⟨g, 0, none⟩) 2 2] w fun e w' => ∃ v, e = .returned v ∧ OwnG w' w.heap.size 64 4 rdSc v (xs ++ ys) ∧ Below w.heap.size w w' := by
 have Hn := Lib.hid hn
 have Hm := Lib.hid hm
 have Hs := Lib.hid hs
 have Ht := Lib.hid ht
 clear hn hm hs ht
 go_enter Tryz.func57, Tryz.ntmps57
 go_wp2_with fail
 go_loopw [3, 11] (fun q i wr => ∃ (k : Nat) (z : Nat), k ≤ 2 ∧ i = .int .i64 (k : Int) ∧ q = .int .i64 (z : Int) ∧ w = wr ∧ Hid (z = (catK k xs ys).length)) (fun _ i _ => 2 - (intOf i).toNat)
 case atStart => exact ⟨0, 0, by omega, rfl, rfl, rfl, Lib.hid rfl⟩
 case round =>
  obtain ⟨k, z, hk, rfl, rfl, rfl, hz⟩ := hrel
  rcases (show k = 0 ∨ k = 1 ∨ k = 2 by omega) with rfl | rfl | rfl
  · obtain rfl : z = 0 := hz.out
    go_wp2
    go_roundw
    case rel => exact ⟨1, n, by omega, rfl, by go_num, trivial, Lib.hid Hn.out.symm⟩
    case measure => simp [intOf]
  · obtain rfl : z = n := hz.out.trans Hn.out
    go_wp2
    go_roundw
    case rel => exact ⟨2, z + m, by omega, rfl, by go_num, trivial, Lib.hid (by show _ = (xs ++ ys).length; rw [List.length_append, Hn.out, Hm.out])⟩
    case measure => simp [intOf]
  · obtain rfl : z = n + m := hz.out.trans (by show (xs ++ ys).length = _; rw [List.length_append, Hn.out, Hm.out])
    have HG := Lib.hid (growSc_c (n + m) w (by omega))
    clear hz
    go_wp2_with fail
    refine HG.out.mono ?_
    rintro e w1 ⟨v, rfl, hv, hb⟩
    have h0' := (hb.cell (p := ⟨g, 0, none⟩) hg).trans h0
    have h1' := (hb.cell (p := ⟨g, 1, none⟩) hg).trans h1
    have HV := Lib.hid hv
    have HB := Lib.hid hb
    clear hv hb HG
    go_wp2_with fail
    go_loopw [6, 27] (fun q i wr => ∃ (k : Nat) (v : Value), k ≤ 2 ∧ i = .int .i64 (k : Int) ∧ q = v ∧ Hid (OwnG wr w.heap.size 64 4 rdSc v (catK k xs ys)) ∧ Hid (Below w.heap.size w wr)) (fun _ i _ => 2 - (intOf i).toNat)
    case atStart => exact ⟨0, _, by omega, rfl, rfl, HV, HB⟩
    case round =>
     obtain ⟨k, q, hk, rfl, hq, hv, hb⟩ := hrel
     replace hq := hq.symm
     subst hq
     have h0' := (hb.out.cell (p := ⟨g, 0, none⟩) hg).trans h0
     have h1' := (hb.out.cell (p := ⟨g, 1, none⟩) hg).trans h1
     have HBe : ∀ w', wr.grownBy w' q.ownBlock → Below w.heap.size w w' := fun w' hg => hb.out.grown hg hb.out.size (fun k hk => (hv.out.lt k hk).1)
     have Hbe := Lib.hid HBe
     have hBw := hb.out.size
     clear HBe HV HB
     rcases (show k = 0 ∨ k = 1 ∨ k = 2 by omega) with rfl | rfl | rfl
     · go_wp2_with (at_builtin; go_must (refine wpList_appG scOk rfl (.tmp 31) (.tmp 32) rfl w.heap.size _ [] xs A n c rfl hv.out rfl Hn.out (Hs.out.after hb.out) (by have e1 := Hn.out; have e2 := Hm.out; simp [maxLen]; omega) (by have e1 := Hn.out; have e2 := Hm.out; simp; omega) hBw ?_; intro v1 w2 hv1 hg1; have HV1 := Lib.hid hv1; have HB1 := Lib.hid (Hbe.out _ hg1); clear hv1 hg1))
       go_roundw
       case rel => exact ⟨1, _, by omega, rfl, rfl, Lib.hid (by simpa [catK] using HV1.out), HB1⟩
       case measure => simp [intOf]
     · go_wp2_with (at_builtin; go_must (refine wpList_appG scOk rfl (.tmp 31) (.tmp 32) rfl w.heap.size _ xs ys B m d rfl hv.out rfl Hm.out (Ht.out.after hb.out) (by have e1 := Hn.out; have e2 := Hm.out; simp [maxLen]; omega) (by have e1 := Hn.out; have e2 := Hm.out; simp; omega) hBw ?_; intro v1 w2 hv1 hg1; have HV1 := Lib.hid hv1; have HB1 := Lib.hid (Hbe.out _ hg1); clear hv1 hg1))
       go_roundw
       case rel => exact ⟨2, _, by omega, rfl, rfl, Lib.hid (by simpa [catK] using HV1.out), HB1⟩
       case measure => simp [intOf]
     · clear Hbe
       go_wp2
       go_ret
       exact ⟨_, rfl, hv.out, hb.out⟩
set_option maxHeartbeats 4000000 in
theorem growI_c (n : Nat) (w : World) (hn : n ≤ 2000) :
 Calls Tryz.prog 120 #[.slice none 0 0, .int .i64 (n : Int)] w fun e w' => ∃ v, e = .returned v ∧ OwnG w' w.heap.size 3 1 rdI v ([] : List (Int)) ∧ Below w.heap.size w w' := by
 by_cases h0 : n = 0
 · subst h0
   go_enter Tryz.func120, Tryz.ntmps120
   go_wp2
   go_ret
   exact ⟨_, rfl, OwnG.nil _ _ _, Below.refl _ _⟩
 · obtain ⟨i0, hi, hz0, hz1, hz2⟩ := iOk.parts
   have hz1' : 0 < i0.size := by rw [hz1]; decide
   have hrz := fun ty => Lib.run_append_nil_zeros (P := Tryz.prog) w 33 3 ty 3 i0 _ .i64 .i64 Tryz.underlying33 Tryz.underlying3 hi hz0 n (by omega) hz1' (by omega) (by rw [hz2]; omega)
   have hge := grownCap_ge w n 0 3
   have hle := grownCap_le_maxLen w n 0 3 (by unfold maxLen; omega)
   have hown : OwnG (w.drew.alloc (.cells (Builtin.zeroCells (Value.cells (Value.int .i64 0)) n ++ Builtin.zeroCells (Value.cells (Value.int .i64 0)) (grownCap w n 0 3 - n)) 3)) w.heap.size 3 1 rdI (.slice (some ⟨w.heap.size, 0, none⟩) 0 (grownCap w n 0 3)) ([] : List (Int)) :=
    OwnG.made w.drew w.heap.size 3 _ _ (Nat.le_refl _) hle (by rw [Array.size_append, size_zeroCells, size_zeroCells, iOk.zs, ← Nat.add_mul]; congr 1; omega)
   have HO := Lib.hid hown
   have Hb : Hid (Below w.heap.size w (w.drew.alloc (.cells (Builtin.zeroCells (Value.cells (Value.int .i64 0)) n ++ Builtin.zeroCells (Value.cells (Value.int .i64 0)) (grownCap w n 0 3 - n)) 3))) := Lib.hid ((Below.refl w.heap.size w).drew.alloc (Nat.le_refl _) _)
   obtain ⟨G, hG⟩ : ∃ G, grownCap w n 0 3 = G := ⟨_, rfl⟩
   rw [hG] at hrz hge hle HO Hb
   unfold maxLen at hle
   have h1 : (n : Int) > 0 := by omega
   clear hown hG hi hz0 hz1 hz2 hz1' h0
   go_enter Tryz.func120, Tryz.ntmps120
   go_wp2_with (at_builtin; refine Lib.wpList_append_run _ rfl _ _ _ _ rfl _ _ rfl rfl _ _ (hrz _) ?_)
   all_goals
    go_ret
    exact ⟨_, rfl, HO.out, Hb.out⟩
set_option maxHeartbeats 8000000 in
theorem catI_c (g : Nat) (A B : Option Addr) (n c m d : Nat) (xs ys : List (Int)) (w : World) (h0 : w.cell? ⟨g, 0, none⟩ = some (.slice A n c)) (h1 : w.cell? ⟨g, 1, none⟩ = some (.slice B m d)) (hg : g < w.heap.size)
 (hn : xs.length = n) (hm : ys.length = m) (hn1 : n ≤ 1000) (hm1 : m ≤ 1000) (hs : SlG w A 1 rdI xs) (ht : SlG w B 1 rdI ys) :
 Calls Tryz.prog 99 #[.slice (some ⟨g, 0, none⟩) 2 2] w fun e w' => ∃ v, e = .returned v ∧ OwnG w' w.heap.size 3 1 rdI v (xs ++ ys) ∧ Below w.heap.size w w' := by
 have Hn := Lib.hid hn
 have Hm := Lib.hid hm
 have Hs := Lib.hid hs
 have Ht := Lib.hid ht
 clear hn hm hs ht
 go_enter Tryz.func99, Tryz.ntmps99
 go_wp2_with fail
 go_loopw [3, 11] (fun q i wr => ∃ (k : Nat) (z : Nat), k ≤ 2 ∧ i = .int .i64 (k : Int) ∧ q = .int .i64 (z : Int) ∧ w = wr ∧ Hid (z = (catK k xs ys).length)) (fun _ i _ => 2 - (intOf i).toNat)
 case atStart => exact ⟨0, 0, by omega, rfl, rfl, rfl, Lib.hid rfl⟩
 case round =>
  obtain ⟨k, z, hk, rfl, rfl, rfl, hz⟩ := hrel
  rcases (show k = 0 ∨ k = 1 ∨ k = 2 by omega) with rfl | rfl | rfl
  · obtain rfl : z = 0 := hz.out
    go_wp2
    go_roundw
    case rel => exact ⟨1, n, by omega, rfl, by go_num, trivial, Lib.hid Hn.out.symm⟩
    case measure => simp [intOf]
  · obtain rfl : z = n := hz.out.trans Hn.out
    go_wp2
    go_roundw
    case rel => exact ⟨2, z + m, by omega, rfl, by go_num, trivial, Lib.hid (by show _ = (xs ++ ys).length; rw [List.length_append, Hn.out, Hm.out])⟩
    case measure => simp [intOf]
  · obtain rfl : z = n + m := hz.out.trans (by show (xs ++ ys).length = _; rw [List.length_append, Hn.out, Hm.out])
    have HG := Lib.hid (growI_c (n + m) w (by omega))
    clear hz
    go_wp2_with fail
    refine HG.out.mono ?_
    rintro e w1 ⟨v, rfl, hv, hb⟩
    have h0' := (hb.cell (p := ⟨g, 0, none⟩) hg).trans h0
    have h1' := (hb.cell (p := ⟨g, 1, none⟩) hg).trans h1
    have HV := Lib.hid hv
    have HB := Lib.hid hb
    clear hv hb HG
    go_wp2_with fail
    go_loopw [6, 27] (fun q i wr => ∃ (k : Nat) (v : Value), k ≤ 2 ∧ i = .int .i64 (k : Int) ∧ q = v ∧ Hid (OwnG wr w.heap.size 3 1 rdI v (catK k xs ys)) ∧ Hid (Below w.heap.size w wr)) (fun _ i _ => 2 - (intOf i).toNat)
    case atStart => exact ⟨0, _, by omega, rfl, rfl, HV, HB⟩
    case round =>
     obtain ⟨k, q, hk, rfl, hq, hv, hb⟩ := hrel
     replace hq := hq.symm
     subst hq
     have h0' := (hb.out.cell (p := ⟨g, 0, none⟩) hg).trans h0
     have h1' := (hb.out.cell (p := ⟨g, 1, none⟩) hg).trans h1
     have HBe : ∀ w', wr.grownBy w' q.ownBlock → Below w.heap.size w w' := fun w' hg => hb.out.grown hg hb.out.size (fun k hk => (hv.out.lt k hk).1)
     have Hbe := Lib.hid HBe
     have hBw := hb.out.size
     clear HBe HV HB
     rcases (show k = 0 ∨ k = 1 ∨ k = 2 by omega) with rfl | rfl | rfl
     · go_wp2_with (at_builtin; go_must (refine wpList_appG iOk rfl (.tmp 31) (.tmp 32) rfl w.heap.size _ [] xs A n c rfl hv.out rfl Hn.out (Hs.out.after hb.out) (by have e1 := Hn.out; have e2 := Hm.out; simp [maxLen]; omega) (by have e1 := Hn.out; have e2 := Hm.out; simp; omega) hBw ?_; intro v1 w2 hv1 hg1; have HV1 := Lib.hid hv1; have HB1 := Lib.hid (Hbe.out _ hg1); clear hv1 hg1))
       go_roundw
       case rel => exact ⟨1, _, by omega, rfl, rfl, Lib.hid (by simpa [catK] using HV1.out), HB1⟩
       case measure => simp [intOf]
     · go_wp2_with (at_builtin; go_must (refine wpList_appG iOk rfl (.tmp 31) (.tmp 32) rfl w.heap.size _ xs ys B m d rfl hv.out rfl Hm.out (Ht.out.after hb.out) (by have e1 := Hn.out; have e2 := Hm.out; simp [maxLen]; omega) (by have e1 := Hn.out; have e2 := Hm.out; simp; omega) hBw ?_; intro v1 w2 hv1 hg1; have HV1 := Lib.hid hv1; have HB1 := Lib.hid (Hbe.out _ hg1); clear hv1 hg1))
       go_roundw
       case rel => exact ⟨2, _, by omega, rfl, rfl, Lib.hid (by simpa [catK] using HV1.out), HB1⟩
       case measure => simp [intOf]
     · clear Hbe
       go_wp2
       go_ret
       exact ⟨_, rfl, hv.out, hb.out⟩
set_option maxHeartbeats 4000000 in
theorem growDf_c (n : Nat) (w : World) (hn : n ≤ 2000) :
 Calls Tryz.prog 70 #[.slice none 0 0, .int .i64 (n : Int)] w fun e w' => ∃ v, e = .returned v ∧ OwnG w' w.heap.size 38 13 rdD v ([] : List (Dm)) ∧ Below w.heap.size w w' := by
 by_cases h0 : n = 0
 · subst h0
   go_enter Tryz.func70, Tryz.ntmps70
   go_wp2
   go_ret
   exact ⟨_, rfl, OwnG.nil _ _ _, Below.refl _ _⟩
 · obtain ⟨i0, hi, hz0, hz1, hz2⟩ := dfOk9.parts
   have hz1' : 0 < i0.size := by rw [hz1]; decide
   have hrz := fun ty => Lib.run_append_nil_zeros (P := Tryz.prog) w 23 3 ty 38 i0 _ .i64 .i64 Tryz.underlying23 Tryz.underlying3 hi hz0 n (by omega) hz1' (by omega) (by rw [hz2]; omega)
   have hge := grownCap_ge w n 0 38
   have hle := grownCap_le_maxLen w n 0 38 (by unfold maxLen; omega)
   have hown : OwnG (w.drew.alloc (.cells (Builtin.zeroCells (Value.cells (Dm.w ⟨0, ⟨emp, sx0, sx0⟩, ⟨emp, emp, emp, 0, 0, sx0, sx0, false, sx0⟩⟩)) n ++ Builtin.zeroCells (Value.cells (Dm.w ⟨0, ⟨emp, sx0, sx0⟩, ⟨emp, emp, emp, 0, 0, sx0, sx0, false, sx0⟩⟩)) (grownCap w n 0 38 - n)) 38)) w.heap.size 38 13 rdD (.slice (some ⟨w.heap.size, 0, none⟩) 0 (grownCap w n 0 38)) ([] : List (Dm)) :=
    OwnG.made w.drew w.heap.size 38 _ _ (Nat.le_refl _) hle (by rw [Array.size_append, size_zeroCells, size_zeroCells, dfOk9.zs, ← Nat.add_mul]; congr 1; omega)
   have HO := Lib.hid hown
   have Hb : Hid (Below w.heap.size w (w.drew.alloc (.cells (Builtin.zeroCells (Value.cells (Dm.w ⟨0, ⟨emp, sx0, sx0⟩, ⟨emp, emp, emp, 0, 0, sx0, sx0, false, sx0⟩⟩)) n ++ Builtin.zeroCells (Value.cells (Dm.w ⟨0, ⟨emp, sx0, sx0⟩, ⟨emp, emp, emp, 0, 0, sx0, sx0, false, sx0⟩⟩)) (grownCap w n 0 38 - n)) 38))) := Lib.hid ((Below.refl w.heap.size w).drew.alloc (Nat.le_refl _) _)
   obtain ⟨G, hG⟩ : ∃ G, grownCap w n 0 38 = G := ⟨_, rfl⟩
   rw [hG] at hrz hge hle HO Hb
   unfold maxLen at hle
   have h1 : (n : Int) > 0 := by omega
   clear hown hG hi hz0 hz1 hz2 hz1' h0
   go_enter Tryz.func70, Tryz.ntmps70
   go_wp2_with (at_builtin; refine Lib.wpList_append_run _ rfl _ _ _ _ rfl _ _ rfl rfl _ _ (hrz _) ?_)
   all_goals
    go_ret
    exact ⟨_, rfl, HO.out, Hb.out⟩
set_option maxHeartbeats 8000000 in
theorem catDf_c (g : Nat) (A B : Option Addr) (n c m d : Nat) (xs ys : List (Dm)) (w : World) (h0 : w.cell? ⟨g, 0, none⟩ = some (.slice A n c)) (h1 : w.cell? ⟨g, 1, none⟩ = some (.slice B m d)) (hg : g < w.heap.size)
 (hn : xs.length = n) (hm : ys.length = m) (hn1 : n ≤ 1000) (hm1 : m ≤ 1000) (hs : SlG w A 13 rdD xs) (ht : SlG w B 13 rdD ys) :
 Calls Tryz.prog 41 #[.slice (some ⟨g, 0, none⟩) 2 2] w fun e w' => ∃ v, e = .returned v ∧ OwnG w' w.heap.size 38 13 rdD v (xs ++ ys) ∧ Below w.heap.size w w' := by
 have Hn := Lib.hid hn
 have Hm := Lib.hid hm
 have Hs := Lib.hid hs
 have Ht := Lib.hid ht
 clear hn hm hs ht
 go_enter Tryz.func41, Tryz.ntmps41
 go_wp2_with fail
 go_loopw [3, 11] (fun q i wr => ∃ (k : Nat) (z : Nat), k ≤ 2 ∧ i = .int .i64 (k : Int) ∧ q = .int .i64 (z : Int) ∧ w = wr ∧ Hid (z = (catK k xs ys).length)) (fun _ i _ => 2 - (intOf i).toNat)
 case atStart => exact ⟨0, 0, by omega, rfl, rfl, rfl, Lib.hid rfl⟩
 case round =>
  obtain ⟨k, z, hk, rfl, rfl, rfl, hz⟩ := hrel
  rcases (show k = 0 ∨ k = 1 ∨ k = 2 by omega) with rfl | rfl | rfl
  · obtain rfl : z = 0 := hz.out
    go_wp2
    go_roundw
    case rel => exact ⟨1, n, by omega, rfl, by go_num, trivial, Lib.hid Hn.out.symm⟩
    case measure => simp [intOf]
  · obtain rfl : z = n := hz.out.trans Hn.out
    go_wp2
    go_roundw
    case rel => exact ⟨2, z + m, by omega, rfl, by go_num, trivial, Lib.hid (by show _ = (xs ++ ys).length; rw [List.length_append, Hn.out, Hm.out])⟩
    case measure => simp [intOf]
  · obtain rfl : z = n + m := hz.out.trans (by show (xs ++ ys).length = _; rw [List.length_append, Hn.out, Hm.out])
    have HG := Lib.hid (growDf_c (n + m) w (by omega))
    clear hz
    go_wp2_with fail
    refine HG.out.mono ?_
    rintro e w1 ⟨v, rfl, hv, hb⟩
    have h0' := (hb.cell (p := ⟨g, 0, none⟩) hg).trans h0
    have h1' := (hb.cell (p := ⟨g, 1, none⟩) hg).trans h1
    have HV := Lib.hid hv
    have HB := Lib.hid hb
    clear hv hb HG
    go_wp2_with fail
    go_loopw [6, 27] (fun q i wr => ∃ (k : Nat) (v : Value), k ≤ 2 ∧ i = .int .i64 (k : Int) ∧ q = v ∧ Hid (OwnG wr w.heap.size 38 13 rdD v (catK k xs ys)) ∧ Hid (Below w.heap.size w wr)) (fun _ i _ => 2 - (intOf i).toNat)
    case atStart => exact ⟨0, _, by omega, rfl, rfl, HV, HB⟩
    case round =>
     obtain ⟨k, q, hk, rfl, hq, hv, hb⟩ := hrel
     replace hq := hq.symm
     subst hq
     have h0' := (hb.out.cell (p := ⟨g, 0, none⟩) hg).trans h0
     have h1' := (hb.out.cell (p := ⟨g, 1, none⟩) hg).trans h1
     have HBe : ∀ w', wr.grownBy w' q.ownBlock → Below w.heap.size w w' := fun w' hg => hb.out.grown hg hb.out.size (fun k hk => (hv.out.lt k hk).1)
     have Hbe := Lib.hid HBe
     have hBw := hb.out.size
     clear HBe HV HB
     rcases (show k = 0 ∨ k = 1 ∨ k = 2 by omega) with rfl | rfl | rfl
     · go_wp2_with (at_builtin; go_must (refine wpList_appG dfOk9 rfl (.tmp 31) (.tmp 32) rfl w.heap.size _ [] xs A n c rfl hv.out rfl Hn.out (Hs.out.after hb.out) (by have e1 := Hn.out; have e2 := Hm.out; simp [maxLen]; omega) (by have e1 := Hn.out; have e2 := Hm.out; simp; omega) hBw ?_; intro v1 w2 hv1 hg1; have HV1 := Lib.hid hv1; have HB1 := Lib.hid (Hbe.out _ hg1); clear hv1 hg1))
       go_roundw
       case rel => exact ⟨1, _, by omega, rfl, rfl, Lib.hid (by simpa [catK] using HV1.out), HB1⟩
       case measure => simp [intOf]
     · go_wp2_with (at_builtin; go_must (refine wpList_appG dfOk9 rfl (.tmp 31) (.tmp 32) rfl w.heap.size _ xs ys B m d rfl hv.out rfl Hm.out (Ht.out.after hb.out) (by have e1 := Hn.out; have e2 := Hm.out; simp [maxLen]; omega) (by have e1 := Hn.out; have e2 := Hm.out; simp; omega) hBw ?_; intro v1 w2 hv1 hg1; have HV1 := Lib.hid hv1; have HB1 := Lib.hid (Hbe.out _ hg1); clear hv1 hg1))
       go_roundw
       case rel => exact ⟨2, _, by omega, rfl, rfl, Lib.hid (by simpa [catK] using HV1.out), HB1⟩
       case measure => simp [intOf]
     · clear Hbe
       go_wp2
       go_ret
       exact ⟨_, rfl, hv.out, hb.out⟩
theorem OwnG.sx9 {α : Type} {rd : α → List Value} {S : Nat} {w : World} {B : Nat} {E : TypeId} {v : Value} {xs : List α} (hl : ∀ x, (rd x).length = S) (h : OwnG w B E S rd v xs) : ∃ x : Sx α, v = x.v ∧ x.In w S rd ∧ x.xs = xs ∧ x.n ≤ x.c ∧ x.c ≤ maxLen ∧ x.Lo B ∧ ∀ k, x.A.map (·.block) = some k → k < w.heap.size := by
 obtain ⟨A, c, hv, hc, hm, hs⟩ := h.sl hl
 obtain ⟨A', c', hv', hi, hlo⟩ := h.sx hl
 rw [hv] at hv'
 injection hv' with e1 e2 e3
 subst e1
 exact ⟨⟨A, xs.length, c, xs⟩, hv, ⟨rfl, Nat.le_trans hc hm, hs⟩, rfl, hc, hm, fun k hk => (hlo k hk).1, fun k hk => (hlo k hk).2⟩
set_option maxHeartbeats 8000000 in
theorem results9_c (v : Vm) (A : Option Addr) (n c : Nat) (fk : List Int) (w : World) (hv : v.In w) (hp : v.pick.n ≤ 40) (ha : v.aggs.n ≤ 40) (hn : fk.length = n) (hm : n ≤ maxLen) (hs : SlG w A 1 rdI fk) :
 Calls Tryz.prog 67 #[v.w, .slice A n c] w fun e w' => ∃ x : Sx Int, e = .returned (.slice x.A x.n x.c) ∧ x.In w' 1 rdI ∧ x.xs = scRes v.vw fk ∧ x.Lo w.heap.size ∧ (∀ k, x.A.map (·.block) = some k → k < w'.heap.size) ∧ Below w.heap.size w w' := by
 obtain ⟨nm, fr, wt, o0, o1, wh, ⟨pA, pn, pc, pxs⟩, gr, ⟨aA, an, ac, axs⟩⟩ := v
 obtain ⟨hw', ⟨pl, pm, psl⟩, ⟨al, am, asl⟩⟩ := hv
 simp only at pl pm psl al am asl hp ha
 obtain ⟨w0, hw0⟩ : ∃ w0, w.alloc (.cells #[.string nm, .string fr, .string wt, .int .i64 o0, .int .i64 o1, .slice wh.A wh.n wh.c, .slice pA pn pc, .bool gr, .slice aA an ac] 36) = w0 := ⟨_, rfl⟩
 have hB0 : Below w.heap.size w w0 := by rw [← hw0]; exact below_one _ _
 have hK : Bk w0 w.heap.size #[.string nm, .string fr, .string wt, .int .i64 o0, .int .i64 o1, .slice wh.A wh.n wh.c, .slice pA pn pc, .bool gr, .slice aA an ac] 36 := by rw [← hw0]; exact Bk.new w _ _
 have HB0 := Lib.hid hB0
 have HK := Lib.hid hK
 have HW0 := Lib.hid hw0
 have Hp := Lib.hid (And.intro pl (psl.after hB0))
 have Ha := Lib.hid (And.intro al (asl.after hB0))
 have Hs := Lib.hid (hs.after hB0)
 have Hn := Lib.hid hn
 have Hm := Lib.hid hm
 have lK := hK.lt
 have k6 : w0.cell? ⟨w.heap.size, 6, none⟩ = some (.slice pA pn pc) := hK.cell 6
 have hKa : Hid (∀ w', Below w0.heap.size w0 w' → w'.cell? ⟨w.heap.size, 8, none⟩ = some (.slice aA an ac)) := Lib.hid fun w' hb => (hK.after hb hK.lt).cell 8
 have HR : Hid (scRes (⟨nm, fr, wt, o0, o1, wh.xs, pxs, gr, axs⟩ : Vw) fk = pxs.map (kAt fk) ++ axs.map (scAgg fk)) := Lib.hid rfl
 show Calls _ _ _ _ (fun e w' => ∃ x : Sx Int, e = .returned (.slice x.A x.n x.c) ∧ x.In w' 1 rdI ∧ x.xs = scRes (⟨nm, fr, wt, o0, o1, wh.xs, pxs, gr, axs⟩ : Vw) fk ∧ x.Lo w.heap.size ∧ (∀ k, x.A.map (·.block) = some k → k < w'.heap.size) ∧ Below w.heap.size w w')
 rw [HR.out]
 clear hw' pl psl al asl hw0 hB0 hK hs hn hm HK HR
 go_enter Tryz.func67, Tryz.ntmps67
 go_upto_region 2 with fail
 rw [HW0.out]
 go_wp2_with fail
 go_loopw [5, 13] (fun q i wr => ∃ (k : Nat) (v : Value), k ≤ pn ∧ i = .int .i64 (k : Int) ∧ q = v ∧ Hid (OwnG wr w0.heap.size 3 1 rdI v ((pxs.take k).map (kAt fk))) ∧ Hid (Below w0.heap.size w0 wr)) (fun _ i _ => pn - (intOf i).toNat)
 case atStart => exact ⟨0, _, Nat.zero_le _, rfl, rfl, Lib.hid (by rw [List.take_zero]; exact OwnG.nil _ _ _), Lib.hid (Below.refl _ _)⟩
 case round =>
  obtain ⟨k, q, hk, rfl, hq, hv, hb⟩ := hrel
  replace hq := hq.symm
  subst hq
  by_cases hlt : k < pn
  · obtain ⟨g, off, x, rfl, hglt, hx, hc⟩ := Hp.out.2.at1 (k := k) (by rw [Hp.out.1]; exact hlt)
    have d0 : wr.cell? ⟨g, off + k, none⟩ = some (.int .i64 x) := (hb.out.cell (p := ⟨g, off + k, none⟩) hglt).trans (hc _ rfl)
    have HC := Lib.hid (kat_c A n c fk x wr Hn.out Hm.out (Hs.out.after hb.out))
    have Hst : Hid ((pxs.take (k + 1)).map (kAt fk) = (pxs.take k).map (kAt fk) ++ [kAt fk x]) := Lib.hid (by rw [List.take_add_one, hx, List.map_append]; rfl)
    have Hln : Hid ((((pxs.take k).map (kAt fk)).length : Nat) ≤ 40) := Lib.hid (by rw [List.length_map, List.length_take]; omega)
    have hbs := hb.out.size
    have hgo : (k : Int) < pn := by omega
    obtain ⟨K, hK⟩ : ∃ K, kAt fk x = K := ⟨_, rfl⟩
    rw [hK] at HC Hst
    obtain ⟨L, hL⟩ : ∃ L, (pxs.take k).map (kAt fk) = L := ⟨_, rfl⟩
    rw [hL] at hv Hst Hln
    clear hK hL hc hx
    go_wp2_with fail
    refine HC.out.mono ?_
    rintro e w1 ⟨rfl, rfl⟩
    clear HC d0
    go_wp2_with (at_builtin; go_must (refine wpList_appG iOk rfl (.tmp 17) (.tmp 21) rfl w0.heap.size _ L [K] (some ⟨w1.heap.size, 0, none⟩) 1 1 rfl (hv.out.alloc _) rfl rfl (SlG.new iOk.len [K] rfl) (by have := Hln.out; simp [maxLen]; omega) (by have := Hln.out; simp; omega) (by simp; omega) ?_; intro v1 w2 hv1 hg1; have HV1 := Lib.hid hv1; have HB1 := Lib.hid ((hb.out.alloc hbs (.cells #[.int .i64 K] 3)).grown hg1 (by simp; omega) (fun k hk => (hv.out.lt k hk).1)); clear hv1 hg1))
    go_roundw
    case rel => exact ⟨k + 1, _, by omega, by go_num, rfl, Lib.hid (by rw [Hst.out]; exact HV1.out), HB1⟩
    case measure => simp [intOf]; omega
  · obtain rfl : k = pn := by omega
    have HV : Hid (OwnG wr w0.heap.size 3 1 rdI q (pxs.map (kAt fk))) := Lib.hid (by have := hv.out; rwa [List.take_of_length_le (by rw [Hp.out.1]; exact Nat.le_refl _)] at this)
    have HLp : Hid ((pxs.map (kAt fk)).length ≤ 40) := Lib.hid (by rw [List.length_map, Hp.out.1]; exact hp)
    have HBx := Lib.hid hb.out
    have k8 := hKa.out wr hb.out
    have hlw : w.heap.size < wr.heap.size := Nat.lt_of_lt_of_le lK hb.out.size
    obtain ⟨P, hP⟩ : ∃ P, pxs.map (kAt fk) = P := ⟨_, rfl⟩
    rw [hP] at HV HLp
    have HP := Lib.hid hP
    obtain ⟨W, hW⟩ : ∃ W, W = wr := ⟨_, rfl⟩
    subst hW
    clear hv hP k6 hb
    go_wp2_with fail
    go_loopw [5, 27] (fun q i wr => ∃ (k : Nat) (v : Value), k ≤ an ∧ i = .int .i64 (k : Int) ∧ q = v ∧ Hid (OwnG wr w0.heap.size 3 1 rdI v (P ++ (axs.take k).map (scAgg fk))) ∧ Hid (Below w0.heap.size w0 wr)) (fun _ i _ => an - (intOf i).toNat)
    case atStart => exact ⟨0, _, Nat.zero_le _, rfl, rfl, Lib.hid (by rw [List.take_zero, List.map_nil, List.append_nil]; exact HV.out), HBx⟩
    case round =>
     obtain ⟨k, q, hk, rfl, hq, hv, hb⟩ := hrel
     replace hq := hq.symm
     subst hq
     clear HV HBx k8 hlw
     by_cases hlt : k < an
     · obtain ⟨g, off, x, rfl, hglt, hx, hc⟩ := Ha.out.2.atS (k := k) (by rw [Ha.out.1]; exact hlt)
       obtain ⟨fn, col⟩ := x
       have d0 : wr.cell? ⟨g, off + k * 2, none⟩ = some (.int .i64 fn) := (hb.out.cell (p := ⟨g, off + k * 2, none⟩) hglt).trans (hc 0 _ rfl)
       have d1 : wr.cell? ⟨g, off + k * 2 + 1, none⟩ = some (.int .i64 col) := (hb.out.cell (p := ⟨g, off + k * 2 + 1, none⟩) hglt).trans (hc 1 _ rfl)
       have l0 : g < wr.heap.size := Nat.lt_of_lt_of_le hglt hb.out.size
       have hbA := below_al hb.out (.cells #[.int .i64 fn, .int .i64 col] 73)
       have HBA := Lib.hid hbA
       have HVA := Lib.hid (hv.out.alloc (.cells #[.int .i64 fn, .int .i64 col] 73))
       have HC := Lib.hid (aggk_c ⟨fn, col⟩ A n c fk (wr.alloc (.cells #[.int .i64 fn, .int .i64 col] 73)) Hn.out Hm.out (Hs.out.after hbA))
       have Hst : Hid ((axs.take (k + 1)).map (scAgg fk) = (axs.take k).map (scAgg fk) ++ [scAgg fk ⟨fn, col⟩]) := Lib.hid (by rw [List.take_add_one, hx, List.map_append]; rfl)
       have Hln : Hid (((P ++ (axs.take k).map (scAgg fk)).length : Nat) ≤ 80) := Lib.hid (by rw [List.length_append, List.length_map, List.length_take]; have := HLp.out; omega)
       have hbs := hb.out.size
       have hgo : (k : Int) < an := by omega
       obtain ⟨K, hK⟩ : ∃ K, scAgg fk ⟨fn, col⟩ = K := ⟨_, rfl⟩
       rw [hK] at HC Hst
       obtain ⟨L, hL⟩ : ∃ L, P ++ (axs.take k).map (scAgg fk) = L := ⟨_, rfl⟩
       have Hst2 : Hid (P ++ (axs.take (k + 1)).map (scAgg fk) = L ++ [K]) := Lib.hid (by rw [Hst.out, ← List.append_assoc, hL])
       rw [hL] at HVA Hln
       clear hK hL hc hx hbA hb hv Hst
       go_wp2_with fail
       refine HC.out.mono ?_
       rintro e w1 ⟨rfl, hb1⟩
       have HB1 := Lib.hid (below_via HBA.out hb1)
       have HV1 := Lib.hid (HVA.out.after hb1)
       have hbs1 := HB1.out.size
       clear HC d0 d1 hb1 HVA
       go_wp2_with (at_builtin; go_must (refine wpList_appG iOk rfl (.tmp 31) (.tmp 35) rfl w0.heap.size _ L [K] (some ⟨w1.heap.size, 0, none⟩) 1 1 rfl (HV1.out.alloc _) rfl rfl (SlG.new iOk.len [K] rfl) (by have := Hln.out; simp [maxLen]; omega) (by have := Hln.out; simp; omega) (by simp; omega) ?_; intro v1 w2 hv1 hg1; have HV2 := Lib.hid hv1; have HB2 := Lib.hid ((HB1.out.alloc hbs1 (.cells #[.int .i64 K] 3)).grown hg1 (by simp; omega) (fun k hk => (HV1.out.lt k hk).1)); clear hv1 hg1))
       go_roundw
       case rel => exact ⟨k + 1, _, by omega, by go_num, rfl, Lib.hid (by rw [Hst2.out]; exact HV2.out), HB2⟩
       case measure => simp [intOf]; omega
     · obtain rfl : k = an := by omega
       have HVf : Hid (OwnG wr w0.heap.size 3 1 rdI q (P ++ axs.map (scAgg fk))) := Lib.hid (by have := hv.out; rwa [List.take_of_length_le (by rw [Ha.out.1]; exact Nat.le_refl _)] at this)
       have HBf := Lib.hid (below_via HB0.out hb.out)
       clear hv hb
       obtain ⟨x, hx1, hx2, hx3, _, _, hx4, hx5⟩ := HVf.out.sx9 iOk.len
       subst hx1
       have Hx := Lib.hid (And.intro hx2 (And.intro hx3 (And.intro (show x.Lo w.heap.size from fun k hk => by have := hx4 k hk; omega) hx5)))
       clear hx2 hx3 hx4 hx5 HVf
       go_wp2
       go_ret
       exact ⟨x, rfl, Hx.out.1, by rw [HP.out]; exact Hx.out.2.1, Hx.out.2.2.1, Hx.out.2.2.2, HBf.out⟩
def SrcS (o : Int ⊕ En) (w : World) (e : Ending) (w' : World) : Prop := Below w.heap.size w w' ∧ match o with
 | .inl n => e = .returned (.tuple #[sc0.w, .int .i64 n])
 | .inr g => ∃ x : Sc, e = .returned (.tuple #[x.w, .int .i64 0]) ∧ x.In w' ∧ x.en = g ∧ x.ks.Lo w.heap.size ∧ x.ns.Lo w.heap.size
def tbEn (t : Tb) : En := ⟨t.name, true, t.cols.map (·.kind), t.cols.map (·.nul)⟩
def tabO (all : List En) (t : Tb) : Int ⊕ En := if scTab typeR all t = 0 then .inr (tbEn t) else .inl (scTab typeR all t)
structure TbJ (w0 : World) (o : Nat) (nm : ByteArray) (ks : List Int) (ns : List Bool) (v1 v2 : Value) (w : World) : Prop where
 bk : Bk w o #[.string nm, .bool true, v1, v2] 64
 ks : OwnG w w0.heap.size 3 1 rdI v1 ks
 ns : OwnG w w0.heap.size 4 1 rdB v2 ns
 ap : Apb o w0 w
theorem TbJ.alloc {w0 : World} {o : Nat} {nm : ByteArray} {ks : List Int} {ns : List Bool} {v1 v2 : Value} {w : World} (h : TbJ w0 o nm ks ns v1 v2 w) (b : Obj) : TbJ w0 o nm ks ns v1 v2 (w.alloc b) := ⟨h.bk.alloc b, h.ks.alloc b, h.ns.alloc b, h.ap.alloc b⟩
theorem TbJ.putK {w0 : World} {o : Nat} {nm : ByteArray} {ks ks' : List Int} {ns : List Bool} {v1 v2 v : Value} {w w' : World} (h : TbJ w0 o nm ks ns v1 v2 w) (ho : o < w0.heap.size) (hv : OwnG w' w0.heap.size 3 1 rdI v ks') (hg : w.grownBy w' v1.ownBlock) (hd : ∀ k, v1.ownBlock = some k → v2.ownBlock = some k → False) : TbJ w0 o nm ks' ns v v2 (w'.setCell ⟨o, 2, none⟩ v) := by
 have hs := h.ap.size
 have hb : Bk w' o #[.string nm, .bool true, v1, v2] 64 := (hg.block o (by omega) (fun e => by have := (h.ks.lt o e.symm).1; omega)).trans h.bk
 have hn : OwnG w' w0.heap.size 4 1 rdB v2 ns := h.ns.same fun k hk => hg.block k (h.ns.lt k hk).2 (fun e => hd k e.symm hk)
 refine ⟨Bk.set hb 2 v, hv.same fun k hk => Below.heap_setCell _ _ _ _ (by have := (hv.lt k hk).1; show k ≠ o; omega), hn.same fun k hk => Below.heap_setCell _ _ _ _ (by have := (hn.lt k hk).1; show k ≠ o; omega), ?_⟩
 exact (h.ap.grown hg fun k hk => (h.ks.lt k hk).1).set 2 v
theorem TbJ.putN {w0 : World} {o : Nat} {nm : ByteArray} {ks : List Int} {ns ns' : List Bool} {v1 v2 v : Value} {w w' : World} (h : TbJ w0 o nm ks ns v1 v2 w) (ho : o < w0.heap.size) (hv : OwnG w' w0.heap.size 4 1 rdB v ns') (hg : w.grownBy w' v2.ownBlock) (hd : ∀ k, v1.ownBlock = some k → v2.ownBlock = some k → False) : TbJ w0 o nm ks ns' v1 v (w'.setCell ⟨o, 3, none⟩ v) := by
 have hs := h.ap.size
 have hb : Bk w' o #[.string nm, .bool true, v1, v2] 64 := (hg.block o (by omega) (fun e => by have := (h.ns.lt o e.symm).1; omega)).trans h.bk
 have hn : OwnG w' w0.heap.size 3 1 rdI v1 ks := h.ks.same fun k hk => hg.block k (h.ks.lt k hk).2 (fun e => hd k hk e.symm)
 refine ⟨Bk.set hb 3 v, hn.same fun k hk => Below.heap_setCell _ _ _ _ (by have := (hn.lt k hk).1; show k ≠ o; omega), hv.same fun k hk => Below.heap_setCell _ _ _ _ (by have := (hv.lt k hk).1; show k ≠ o; omega), ?_⟩
 exact (h.ap.grown hg fun k hk => (h.ns.lt k hk).1).set 3 v
theorem own_apart {w : World} {B : Nat} {v1 v2 : Value} {ks : List Int} {ns : List Bool} (h1 : OwnG w B 3 1 rdI v1 ks) (h2 : OwnG w B 4 1 rdB v2 ns) : ∀ k, v1.ownBlock = some k → v2.ownBlock = some k → False := by
 intro k e1 e2
 rcases h1.2 with ⟨rfl, _⟩ | ⟨g, cap, cur, rfl, _, hh, _⟩
 · cases e1
 rcases h2.2 with ⟨rfl, _⟩ | ⟨g', cap', cur', rfl, _, hh', _⟩
 · cases e2
 simp only [Value.ownBlock, Option.some.injEq] at e1 e2
 subst e1
 subst e2
 rw [hh] at hh'
 injection hh' with hh'
 injection hh' with _ ht _
 exact absurd ht (by decide)
theorem kindR_pos (op : Int) (ts : List Int) : 0 ≤ (kindR op ts).1 := by
 unfold kindR
 repeat' split
 all_goals first | (simp; done) | decide
theorem mayB_pos {v : Val} (h : mayB v = true) : 0 ≤ v.k := by
 unfold mayB at h
 repeat' (split at h)
 all_goals simp_all
theorem stepKS_pos {cols ks r : List Int} {x : Nd} (hk : ∀ k ∈ ks, 0 ≤ k) (h : stepKS cols ks x = .inr r) : ∀ k ∈ r, 0 ≤ k := by
 unfold stepKS at h
 cases hs : stepK cols ks x with
 | none => rw [hs] at h; cases h
 | some q =>
   rw [hs] at h
   obtain rfl : q = r := by simpa using h
   unfold stepK at hs
   split at hs
   · rename_i hok
     obtain rfl := Option.some.inj hs
     intro k hm
     rcases List.mem_append.1 hm with hm | hm
     · refine hk k ?_
       unfold lvK at hm
       split at hm
       · exact hm
       split at hm
       · exact hm
       split at hm
       · exact hm
       · exact List.mem_of_mem_take hm
     · obtain rfl := List.mem_singleton.1 hm
       unfold lvK at hok ⊢
       split
       · rename_i h0
         rw [if_pos h0] at hok
         have hok : (colR cols x.n).2 = true := hok
         show 0 ≤ (colR cols x.n).1
         unfold colR at hok ⊢
         by_cases hn : x.n < 0
         · rw [if_pos hn] at hok; cases hok
         · rw [if_neg hn] at hok ⊢
           cases hk2 : cols[x.n.toNat]? with
           | none => rw [hk2] at hok; cases hok
           | some k =>
             rw [hk2] at hok
             simp only [Bool.and_eq_true, decide_eq_true_eq] at hok
             show 0 ≤ k
             omega
       rename_i h0
       rw [if_neg h0] at hok
       split
       · rename_i h1
         rw [if_pos h1] at hok
         exact mayB_pos hok
       rename_i h1
       rw [if_neg h1] at hok
       split
       · simp
       · exact kindR_pos _ _
   · cases hs
theorem goS_pos {cols : List Int} : ∀ (e : List Nd) (ks r : List Int), (∀ k ∈ ks, 0 ≤ k) → goS (stepKS cols) ks e = .inr r → ∀ k ∈ r, 0 ≤ k
 | [], ks, r, hk, h => by
   rw [goS] at h
   obtain rfl : ks = r := by simpa using h
   exact hk
 | x :: e, ks, r, hk, h => by
   rw [goS] at h
   cases hs : stepKS cols ks x with
   | inl er => rw [hs] at h; cases h
   | inr q =>
     rw [hs] at h
     exact goS_pos e q r (stepKS_pos hk hs) h
theorem typeR_pos (e : List Nd) (cols : List Int) : 0 ≤ (typeR e cols).1 := by
 unfold typeR
 split
 · simp
 split
 · simp
 · rename_i k h
   exact goS_pos e [] _ (fun k hk => by cases hk) h k (by simp)
 · simp
theorem truth_tr (e : List Nd) (ks : List Int) : truthE typeR e ks = trB ks e := by
 have := typeR_pos e ks
 unfold truthE trB
 congr 1
 rw [Bool.eq_iff_iff]
 simp only [decide_eq_true_eq, Bool.or_eq_true]
 omega
end Go.Proofs.YtamekagminbejaaGreatDoor
