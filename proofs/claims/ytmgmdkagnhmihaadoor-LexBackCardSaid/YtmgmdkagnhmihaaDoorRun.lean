/-
  The law of Reg in the form in which it is used: what each operation yields is said once, for the frame as it stands at the region's end. It has no condition beyond those that it names.
-/
import Derived.Test.YtmgmdkagnhmihaaDoorReg
namespace Go.Proofs.YtmgmdkagnhmihaaDoor
open Go Go.RowKit
namespace Reg

/-- The frame with these values put. -/
def putAll (a : Act) : List (Tmp × Value) → Act
  | [] => a
  | x :: l => putAll (a.put (some x.1) x.2) l

theorem putAll_size (l : List (Tmp × Value)) : ∀ a : Act, (putAll a l).tmps.size = a.tmps.size := by
  induction l with
  | nil => intro a; rfl
  | cons x l ih => intro a; rw [putAll, ih, size_put]
theorem putAll_defers (l : List (Tmp × Value)) : ∀ a : Act, (putAll a l).defers = a.defers := by
  induction l with
  | nil => intro a; rfl
  | cons x l ih => intro a; rw [putAll, ih, defers_put]
theorem putAll_other (l : List (Tmp × Value)) (t : Tmp) : ∀ a : Act, t ∉ l.map (·.1) → slot (putAll a l) t = slot a t := by
  induction l with
  | nil => intro a _; rfl
  | cons x l ih =>
    intro a h
    simp only [List.map_cons, List.mem_cons, not_or] at h
    rw [putAll, ih _ h.2, slot_put_ne]
    intro e; injection e with e; exact h.1 e.symm
theorem putAll_at (l : List (Tmp × Value)) (t : Tmp) (v : Value) : ∀ a : Act, t < a.tmps.size → (l.map (·.1)).Nodup → (t, v) ∈ l → slot (putAll a l) t = v := by
  induction l with
  | nil => intro a _ _ h; cases h
  | cons x l ih =>
    intro a ht hn h
    simp only [List.map_cons, List.nodup_cons] at hn
    rw [putAll]
    rcases List.mem_cons.1 h with rfl | h
    · rw [putAll_other _ _ _ hn.1, slot_put_same _ _ _ ht]
    · exact ih _ (by rw [size_put]; exact ht) hn.2 h

/-- The frame at the end: what is known, and what is left open. -/
def fin (a : Act) (vals : List (Tmp × Value)) (free : List Tmp) (g : Tmp → Value) : Act := putAll a (vals ++ free.map fun t => (t, g t))

/-- The frame in which an operation is carried out: the late slots are as they were, for those that come before they are written. -/
def fr (a : Act) (vals late : List (Tmp × Value)) (free : List Tmp) (early : Nat → Bool) (i : Nat) (g : Tmp → Value) : Act := if early i then fin a vals free g else fin a (vals ++ late) free g

/-- What an operation reads as it was before. -/
def oldsOf (ops : Array Oper) (late : List (Tmp × Value)) (early : Nat → Bool) (i : Nat) : List Tmp :=
  match ops[i]? with
  | some o => if early i then (o.looksAt ops).filter fun t => (late.map (·.1)).contains t else []
  | none => []

/-- The table is in order. -/
def plan (ops : Array Oper) (n : Nat) (vals late : List (Tmp × Value)) (free : List Tmp) (sf : Nat → List Tmp) (early : Nat → Bool) : Bool :=
  (((vals ++ late).map (·.1) ++ free).all fun t => decide (t < n) && (dsts ops).contains t) &&
  ((dsts ops).all fun t => ((vals ++ late).map (·.1) ++ free).contains t) &&
  decide (((vals ++ late).map (·.1) ++ free).Nodup) &&
  decide ((dsts ops).Nodup) &&
  ((List.range ops.size).all fun i => match ops[i]? with
    | none => true
    | some o =>
      ((direct o).all fun j => decide (j < i)) &&
      ((oldsOf ops late early i).all fun t => (List.range ops.size).all fun k => match ops[k]? with
        | some ok => ok.dst != some t || (direct ok).contains i
        | none => true) &&
      ((o.looksAt ops).all fun t => !(dsts ops).contains t || (oldsOf ops late early i).contains t || (direct o).any fun j => ((ops[j]?).bind (·.dst)) == some t) &&
      ((sf i).all fun t => free.contains t && (o.dst == some t || (direct o).any fun j => ((ops[j]?).bind (·.dst)) == some t)))

def seeOf (ops : Array Oper) (sf : Nat → List Tmp) (i : Nat) : List Tmp := (((ops[i]?).bind (·.dst)).toList) ++ sf i
def depsOf (ops : Array Oper) (i : Nat) : List Nat := ((ops[i]?).map direct).getD []

def factOf (ops : Array Oper) (vals : List (Tmp × Value)) (p : Nat → List Value → World → Prop) (i : Nat) (vs : List Value) (w : World) : Prop :=
  match (ops[i]?).bind (·.dst) with
  | some d => (∀ v, (d, v) ∈ vals → vs.head? = some v) ∧ p i vs.tail w
  | none => p i vs w

section
variable {P : Program} {ops : Array Oper} {Q : Exit → Act → World → Prop}

theorem wanted_congr (o : Oper) (a a' : Act) (hsz : a.tmps.size = a'.tmps.size) (h : ∀ t ∈ o.looksAt ops, slot a t = slot a' t) : Region.wanted o (yielded ops a.tmps) = Region.wanted o (yielded ops a'.tmps) := by
  unfold Region.wanted
  cases hg : o.guard with
  | none => rfl
  | some gw =>
    obtain ⟨g, want⟩ := gw
    have hy : yielded ops a.tmps g = yielded ops a'.tmps g := by
      unfold yielded
      cases ht : (ops[g]?).bind (·.dst) with
      | none => rfl
      | some t =>
        have := h t (by simp [Oper.looksAt, hg, ht])
        have e : a.tmps[t]? = a'.tmps[t]? := by
          rcases Nat.lt_or_ge t a.tmps.size with hlt | hge
          · have hlt' : t < a'.tmps.size := hsz ▸ hlt
            simp only [slot, Array.getD_eq_getD_getElem?, Array.getElem?_eq_getElem hlt, Array.getElem?_eq_getElem hlt', Option.getD_some] at this
            rw [Array.getElem?_eq_getElem hlt, Array.getElem?_eq_getElem hlt', this]
          · rw [Array.getElem?_eq_none hge, Array.getElem?_eq_none (show a'.tmps.size ≤ t from hsz ▸ hge)]
        simp only [Option.bind_some, e]
    simp only [hy]

theorem exec_congr (o : Oper) (hs : ∀ cs b, o.op ≠ .select cs b) (a a' : Act) (h : ∀ t ∈ o.looksAt ops, slot a t = slot a' t) : execOp a.eval o = execOp a'.eval o :=
  execOp_congr o hs fun x hx => by
    cases x with
    | tmp t => exact h t (List.mem_append_left _ (List.mem_filterMap.2 ⟨.tmp t, by simpa using hx, rfl⟩))
    | _ => rfl

/-- What one operation owes, in the frame at the end. -/
def Does (P : Program) (ops : Array Oper) (vals : List (Tmp × Value)) (sf : Nat → List Tmp) (p : Nat → List Value → World → Prop) (B : Nat) (F : Act) (i : Nat) (o : Oper) (w : World) : Prop :=
  if Region.wanted o (yielded ops F.tmps) = true then
    Oper.wp P o F w (fun a' w' => ∃ v, a' = F.put o.dst v ∧ (∀ d u, o.dst = some d → (d, u) ∈ vals → v = u) ∧ p i ((sf i).map (slot a')) w' ∧ Below B w w' ∧
      ∀ j, j ≠ i → j < ops.size → p j ((sf j).map (slot F)) w → p j ((sf j).map (slot F)) w') (fun _ _ _ => False)
  else (∀ d u, o.dst = some d → (d, u) ∈ vals → undef = u) ∧ p i ((sf i).map (slot (F.put o.dst undef))) w

theorem upon_congr {o : Oper} {a F : Act} {K K' : Act → World → Prop} {r : Result Next} (h : ∀ v w, K' (F.put o.dst v) w → K (a.put o.dst v) w)
    (hnd : ∀ d w, ¬ K' (({ F with defers := d :: F.defers } : Act).put o.dst undef) w) (hh : o.upon P F K' (fun _ _ _ => False) r) : o.upon P a K Q r := by
  cases r with
  | ok n w =>
    cases n with
    | value v => exact h _ _ hh
    | skip => exact h _ _ hh
    | defer d => exact absurd hh (hnd d w)
    | enter f args =>
      refine Calls.mono hh ?_
      intro e w' he
      cases e with
      | returned v => exact h _ _ he
      | panicked c => exact (he : False).elim
      | outgrown => obtain ⟨_, _, hf⟩ := he; exact hf.elim
    | row row args =>
      refine Rows.mono hh ?_
      intro u w' he
      exact h _ _ he
    | _ => exact (hh : False).elim
  | halt x w =>
    cases x <;> exact (hh : False).elim

theorem fr_size (a : Act) (vals late : List (Tmp × Value)) (free : List Tmp) (early : Nat → Bool) (i : Nat) (g : Tmp → Value) : (fr a vals late free early i g).tmps.size = a.tmps.size := by
  unfold fr fin
  split <;> rw [putAll_size]

theorem wp_region_run {id : Nat} {a : Act} {w : World} (hm : P.follows .mixedOrders = true) (hs : Region.noSelect ops = true)
    (vals late : List (Tmp × Value)) (free : List Tmp) (sf : Nat → List Tmp) (early : Nat → Bool) (p : Nat → List Value → World → Prop) (n : Nat) (hn : a.tmps.size = n) (hok : plan ops n vals late free sf early = true)
    (B : Nat) (hstep : ∀ i o, ops[i]? = some o → ∀ (g : Tmp → Value) (w' : World), Below B w w' → (∀ j ∈ direct o, p j ((sf j).map (slot (fr a vals late free early i g))) w') → Does P ops (vals ++ late) sf p B (fr a vals late free early i g) i o w')
    (hend : ∀ (g : Tmp → Value) (w' : World), Below B w w' → (∀ i, i < ops.size → p i ((sf i).map (slot (fin a (vals ++ late) free g))) w') → Q .normal (fin a (vals ++ late) free g) w') :
    (Code.region id ops true).wp P Q a w := by
  have hok' := hok
  simp only [plan, Bool.and_eq_true, List.all_eq_true, decide_eq_true_eq, List.contains_iff_mem] at hok
  obtain ⟨⟨⟨⟨hk1, hk2⟩, hnod⟩, hdn⟩, hop⟩ := hok
  have hkeys : ∀ (l : List (Tmp × Value)) (g : Tmp → Value), (l ++ free.map fun t => (t, g t)).map (·.1) = l.map (·.1) ++ free := fun l g => by simp [List.map_map, Function.comp_def]
  have hopi : ∀ i o, ops[i]? = some o → (∀ j ∈ direct o, j < i) ∧ (∀ t ∈ o.looksAt ops, t ∈ dsts ops → t ∈ oldsOf ops late early i ∨ ∃ j ∈ direct o, (ops[j]?).bind (·.dst) = some t) ∧ (∀ t ∈ sf i, t ∈ free ∧ (o.dst = some t ∨ ∃ j ∈ direct o, (ops[j]?).bind (·.dst) = some t)) := by
    intro i o hi
    have := hop i (List.mem_range.2 (Array.getElem?_eq_some_iff.1 hi).1)
    simp only [hi, Bool.and_eq_true, List.all_eq_true, decide_eq_true_eq, Bool.or_eq_true, Bool.not_eq_true', List.any_eq_true, beq_iff_eq] at this
    refine ⟨this.1.1.1, fun t ht hd => ?_, fun t ht => ⟨by simpa using (this.2 t ht).1, (this.2 t ht).2⟩⟩
    rcases this.1.2 t ht with (h | h) | h
    · simp [hd] at h
    · exact .inl (by simpa using h)
    · exact .inr h
  -- the facts of the law
  have hnod1 : (vals.map (·.1) ++ free).Nodup := by
    have h := hnod
    simp only [List.map_append, List.append_assoc] at h
    have h1 := List.nodup_append.1 h
    have h2 := List.nodup_append.1 h1.2.1
    exact List.nodup_append.2 ⟨h1.1, h2.2.1, fun x hx y hy => h1.2.2 x hx y (List.mem_append_right _ hy)⟩
  have hlatefree : ∀ t, t ∈ late.map (·.1) → t ∉ vals.map (·.1) ++ free := by
    intro t ht hm
    have h := hnod
    simp only [List.map_append, List.append_assoc] at h
    have h1 := List.nodup_append.1 h
    have h2 := List.nodup_append.1 h1.2.1
    rcases List.mem_append.1 hm with hv | hf
    · exact h1.2.2 t hv t (List.mem_append_left _ ht) rfl
    · exact h2.2.2 t ht t hf rfl
  -- what slot t holds in the frame of operation i
  have hslot : ∀ (i : Nat) (a' : Act), a'.tmps.size = a.tmps.size → (∀ t, t ∉ dsts ops → slot a' t = slot a t) → ∀ t, (t ∉ dsts ops ∨ t ∈ free ∨ (∃ v, (t, v) ∈ vals ∧ slot a' t = v) ∨ (early i = false ∧ ∃ v, (t, v) ∈ late ∧ slot a' t = v) ∨ (early i = true ∧ t ∈ late.map (·.1) ∧ slot a' t = slot a t)) → slot a' t = slot (fr a vals late free early i (slot a')) t := by
    intro i a' hsz hrest t ht
    have hfree' : t ∈ free → ∀ l, (l.map (·.1) ++ free).Nodup → slot (fin a l free (slot a')) t = slot a' t := by
      intro hf l hl
      rw [fin, putAll_at _ t (slot a' t) a (by rw [hn]; exact (hk1 t (List.mem_append_right _ hf)).1) (by rw [hkeys]; exact hl) (List.mem_append_right _ (List.mem_map.2 ⟨t, hf, rfl⟩))]
    have hval' : ∀ v, (t, v) ∈ vals ++ late → ∀ l, (t, v) ∈ l → (l.map (·.1) ++ free).Nodup → slot (fin a l free (slot a')) t = v := by
      intro v hv l hl hnn
      rw [fin, putAll_at _ t v a (by rw [hn]; exact (hk1 t (List.mem_append_left _ (List.mem_map.2 ⟨_, hv, rfl⟩))).1) (by rw [hkeys]; exact hnn) (List.mem_append_left _ hl)]
    unfold fr
    rcases ht with ht | ht | ⟨v, hv, hs⟩ | ⟨he, v, hv, hs⟩ | ⟨he, ht, hs⟩
    · have no : t ∉ (vals ++ late).map (·.1) ++ free := fun hm => ht (hk1 t hm).2
      have no1 : t ∉ vals.map (·.1) ++ free := fun hm => no (by
        simp only [List.map_append, List.append_assoc]
        rcases List.mem_append.1 hm with h | h
        · exact List.mem_append_left _ h
        · exact List.mem_append_right _ (List.mem_append_right _ h))
      split
      · rw [hrest t ht, fin, putAll_other _ _ _ (by rw [hkeys]; exact no1)]
      · rw [hrest t ht, fin, putAll_other _ _ _ (by rw [hkeys]; exact no)]
    · split
      · exact (hfree' ht _ hnod1).symm
      · exact (hfree' ht _ hnod).symm
    · split
      · rw [hval' v (List.mem_append_left _ hv) vals hv hnod1, hs]
      · rw [hval' v (List.mem_append_left _ hv) _ (List.mem_append_left _ hv) hnod, hs]
    · rw [if_neg (by rw [he]; exact Bool.false_ne_true), hval' v (List.mem_append_right _ hv) _ (List.mem_append_right _ hv) hnod, hs]
    · rw [if_pos he, hs, fin, putAll_other _ _ _ (by rw [hkeys]; exact hlatefree t ht)]
  have hslotE : ∀ (a' : Act), a'.tmps.size = a.tmps.size → (∀ t, t ∉ dsts ops → slot a' t = slot a t) → ∀ t, (t ∉ dsts ops ∨ t ∈ free ∨ ∃ v, (t, v) ∈ vals ++ late ∧ slot a' t = v) → slot a' t = slot (fin a (vals ++ late) free (slot a')) t := by
    intro a' hsz hrest t ht
    rcases ht with ht | ht | ⟨v, hv, hs⟩
    · rw [hrest t ht, fin, putAll_other]
      rw [hkeys]
      intro hm
      exact ht (hk1 t hm).2
    · rw [fin, putAll_at _ t (slot a' t) a (by rw [hn]; exact (hk1 t (List.mem_append_right _ ht)).1) (by rw [hkeys]; exact hnod) (List.mem_append_right _ (List.mem_map.2 ⟨t, ht, rfl⟩))]
    · rw [hs, fin, putAll_at _ t v a (by rw [hn]; exact (hk1 t (List.mem_append_left _ (List.mem_map.2 ⟨_, hv, rfl⟩))).1) (by rw [hkeys]; exact hnod) (List.mem_append_left _ hv)]
  have hallOk : ok ops (seeOf ops sf) (depsOf ops) (oldsOf ops late early) = true := by
    refine List.all_eq_true.2 fun i hi => ?_
    have hlt := List.mem_range.1 hi
    rw [Array.getElem?_eq_getElem hlt]
    obtain ⟨h1, h2, h3⟩ := hopi i ops[i] (Array.getElem?_eq_getElem hlt)
    simp only [okAt, Bool.and_eq_true, List.all_eq_true, decide_eq_true_eq, List.any_eq_true, Bool.or_eq_true, beq_iff_eq]
    have hold : ∀ t ∈ oldsOf ops late early i, ∀ k ∈ List.range ops.size, (match ops[k]? with | some ok => ok.dst != some t || (direct ok).contains i | none => true) = true := by
      have := hop i (List.mem_range.2 hlt)
      rw [Array.getElem?_eq_getElem hlt] at this
      simp only [Bool.and_eq_true, List.all_eq_true] at this
      exact this.1.1.2
    refine ⟨⟨⟨hold, h1⟩, fun j hj => ⟨j, by simpa [depsOf, hlt] using hj, .inl rfl⟩⟩, fun k hk => ?_⟩
    have hklt := List.mem_range.1 hk
    rw [Array.getElem?_eq_getElem hklt]
    cases hd : ops[k].dst with
    | none => simp [hd]
    | some d =>
      simp only [Option.bind_some, hd, Bool.or_eq_true, Bool.not_eq_true', beq_iff_eq, List.contains_iff_mem]
      by_cases hm : d ∈ seeOf ops sf i
      · -- who writes d
        have uniq : ∀ j, (ops[j]?).bind (·.dst) = some d → j = k := by
          intro j hj
          cases hoj : ops[j]? with
          | none => rw [hoj] at hj; cases hj
          | some oj =>
            rw [hoj] at hj
            have hjlt : j < ops.size := (Array.getElem?_eq_some_iff.1 hoj).1
            -- dsts has no doubles
            have key : ∀ (l : List Oper) (x y : Nat) (ox oy : Oper), (l.filterMap (·.dst)).Nodup → l[x]? = some ox → l[y]? = some oy → ox.dst = some d → oy.dst = some d → x = y := by
              intro l
              induction l with
              | nil => intro x y ox oy _ hx; simp at hx
              | cons z l ih =>
                intro x y ox oy hnn hx hy hdx hdy
                have hl : (l.filterMap (·.dst)).Nodup := by
                  cases hz : z.dst with
                  | none => simpa [List.filterMap_cons, hz] using hnn
                  | some dz => rw [List.filterMap_cons_some (h := hz)] at hnn; exact (List.nodup_cons.1 hnn).2
                have hz0 : z.dst = some d → d ∉ l.filterMap (·.dst) := fun hz => by
                  rw [List.filterMap_cons_some (h := hz)] at hnn; exact (List.nodup_cons.1 hnn).1
                cases x with
                | zero =>
                  cases y with
                  | zero => rfl
                  | succ y =>
                    simp at hx hy; subst hx
                    exact absurd (List.mem_filterMap.2 ⟨oy, List.mem_of_getElem? hy, hdy⟩) (hz0 hdx)
                | succ x =>
                  cases y with
                  | zero =>
                    simp at hx hy; subst hy
                    exact absurd (List.mem_filterMap.2 ⟨ox, List.mem_of_getElem? hx, hdx⟩) (hz0 hdy)
                  | succ y =>
                    simp at hx hy
                    rw [ih x y ox oy hl hx hy hdx hdy]
            exact key ops.toList j k oj ops[k] hdn (by simpa using hoj) (by simp [hklt]) (by simpa using hj) hd
        unfold seeOf at hm
        rw [Array.getElem?_eq_getElem hlt] at hm
        rcases List.mem_append.1 hm with hm | hm
        · left; right
          have : ops[i].dst = some d := by simpa using hm
          exact (uniq i (by rw [Array.getElem?_eq_getElem hlt]; simpa using this)).symm
        · rcases (h3 d hm).2 with h | ⟨j, hj, hjd⟩
          · left; right
            exact (uniq i (by rw [Array.getElem?_eq_getElem hlt]; simpa using h)).symm
          · right
            have := uniq j hjd
            subst this
            simpa [depsOf, hlt] using hj
      · left; left; simpa using hm
  have hfree : ∀ (d : Tmp) (v : Value), (d, v) ∈ vals ++ late → d ∉ free := by
    intro d v hv hf
    have := (List.nodup_append.1 hnod).2.2 d (List.mem_map.2 ⟨_, hv, rfl⟩) d hf
    exact this rfl
  refine wp_region_facts hm (seeOf ops sf) (depsOf ops) (oldsOf ops late early) (factOf ops (vals ++ late) p) hallOk B ?_ ?_
  · intro i o hi a' w' hsz hrest hold hB hdeps
    obtain ⟨h1, h2, h3⟩ := hopi i o hi
    have hilt : i < ops.size := (Array.getElem?_eq_some_iff.1 hi).1
    have hdepsi : depsOf ops i = direct o := by simp [depsOf, hi]
    -- what j's fact says, of j's own p
    have toP : ∀ j, At (seeOf ops sf) (factOf ops (vals ++ late) p) j a' w' → p j ((sf j).map (slot a')) w' := by
      intro j hj
      unfold At factOf seeOf at hj
      cases hd : (ops[j]?).bind (·.dst) with
      | none => simpa [hd] using hj
      | some d => simp only [hd] at hj; simpa using hj.2
    have exact_of : ∀ j ∈ direct o, ∀ t v, (ops[j]?).bind (·.dst) = some t → (t, v) ∈ vals ++ late → slot a' t = v := by
      intro j hj t v hd hv
      have := hdeps j (by rw [hdepsi]; exact hj)
      unfold At factOf seeOf at this
      simp only [hd] at this
      simpa using this.1 v hv
    have agree : ∀ t ∈ o.looksAt ops, slot a' t = slot (fr a vals late free early i (slot a')) t := by
      intro t ht
      refine hslot i a' hsz hrest t ?_
      by_cases hd : t ∈ dsts ops
      · right
        rcases h2 t ht hd with ho | ⟨j, hj, hjd⟩
        · -- it is read as it was
          right; right; right
          have hs := hold t ho
          unfold oldsOf at ho
          rw [hi] at ho
          simp only at ho
          cases he : early i with
          | false => rw [he] at ho; simp at ho
          | true =>
            rw [he] at ho
            simp only [if_true, List.mem_filter, List.contains_iff_mem] at ho
            exact ⟨rfl, ho.2, hs⟩
        · have hmem : t ∈ (vals ++ late).map (·.1) ++ free := hk2 t hd
          rcases List.mem_append.1 hmem with hv | hf
          · obtain ⟨⟨t', v⟩, hv2, rfl⟩ := List.mem_map.1 hv
            have hs := exact_of j hj _ v hjd hv2
            rcases List.mem_append.1 hv2 with h | h
            · exact .inr (.inl ⟨v, h, hs⟩)
            · -- a late slot, already written: this operation is not early
              cases he : early i with
              | false => exact .inr (.inr (.inl ⟨rfl, v, h, hs⟩))
              | true =>
                exfalso
                -- then it is among the olds, and its writer waits for i: but the writer stands before i
                have hol : t' ∈ oldsOf ops late early i := by
                  unfold oldsOf
                  rw [hi]
                  simp only [he, if_true, List.mem_filter, List.contains_iff_mem]
                  exact ⟨ht, List.mem_map.2 ⟨_, h, rfl⟩⟩
                have hjlt : j < ops.size := by have := h1 j hj; omega
                have := hop i (List.mem_range.2 hilt)
                rw [hi] at this
                simp only [Bool.and_eq_true, List.all_eq_true] at this
                have hw := this.1.1.2 t' hol j (List.mem_range.2 hjlt)
                rw [Array.getElem?_eq_getElem hjlt] at hw hjd
                simp only [Option.bind_some] at hjd
                simp only [hjd, bne_self_eq_false, Bool.false_or, List.contains_iff_mem] at hw
                have a1 := (hopi j ops[j] (Array.getElem?_eq_getElem hjlt)).1 i hw
                have a2 := h1 j hj
                omega
          · exact .inl hf
      · exact .inl hd
    have agreeF : ∀ j, (sf j).map (slot (fr a vals late free early i (slot a'))) = (sf j).map (slot a') ∨ j ≥ ops.size := by
      intro j
      rcases Nat.lt_or_ge j ops.size with hj | hj
      · left
        refine List.map_congr_left fun t ht => ?_
        obtain ⟨_, _, h3⟩ := hopi j ops[j] (Array.getElem?_eq_getElem hj)
        exact (hslot i a' hsz hrest t (.inr (.inl (h3 t ht).1))).symm
      · exact .inr hj
    have agreeL : ∀ j, j < ops.size → (sf j).map (slot (fr a vals late free early i (slot a'))) = (sf j).map (slot a') := fun j hj => (agreeF j).resolve_right (by omega)
    have hD := hstep i o hi (slot a') w' hB (fun j hj => by
      have hjlt : j < ops.size := by have := h1 j hj; omega
      rw [agreeL j hjlt]
      exact toP j (hdeps j (by rw [hdepsi]; exact hj)))
    have finish : ∀ (v : Value) (w'' : World), (∀ d u, o.dst = some d → (d, u) ∈ vals ++ late → v = u) → p i ((sf i).map (slot ((fr a vals late free early i (slot a')).put o.dst v))) w'' → Below B w' w'' →
        (∀ j, j ≠ i → j < ops.size → p j ((sf j).map (slot (fr a vals late free early i (slot a')))) w' → p j ((sf j).map (slot (fr a vals late free early i (slot a')))) w'') →
        ∃ v', a'.put o.dst v = a'.put o.dst v' ∧ At (seeOf ops sf) (factOf ops (vals ++ late) p) i (a'.put o.dst v) w'' ∧ Below B w' w'' ∧ ∀ j, j ≠ i → j < ops.size → At (seeOf ops sf) (factOf ops (vals ++ late) p) j a' w' → At (seeOf ops sf) (factOf ops (vals ++ late) p) j a' w'' := by
      intro v w'' hex hp hb hkeep
      have hput : (sf i).map (slot (a'.put o.dst v)) = (sf i).map (slot ((fr a vals late free early i (slot a')).put o.dst v)) := by
        refine List.map_congr_left fun t ht => ?_
        by_cases hd : o.dst = some t
        · have htlt : t < n := (hk1 t (List.mem_append_right _ (h3 t ht).1)).1
          rw [hd, slot_put_same _ _ _ (by rw [hsz, hn]; exact htlt), slot_put_same _ _ _ (by rw [fr_size, hn]; exact htlt)]
        · rw [slot_put_ne _ _ _ _ hd, slot_put_ne _ _ _ _ hd]
          exact hslot i a' hsz hrest t (.inr (.inl (h3 t ht).1))
      refine ⟨v, rfl, ?_, hb, fun j hji hj hat => ?_⟩
      · unfold At factOf seeOf
        simp only [hi, Option.bind_some]
        cases hd : o.dst with
        | none => rw [hd] at hp hput; simp only [Option.toList_none, List.nil_append]; rw [hput]; exact hp
        | some d =>
          rw [hd] at hp hput
          simp only [Option.toList_some, List.cons_append, List.nil_append, List.map_cons, List.head?_cons, List.tail_cons]
          refine ⟨fun u hu => ?_, by rw [hput]; exact hp⟩
          have hdlt : d < n := (hk1 d (List.mem_append_left _ (List.mem_map.2 ⟨_, hu, rfl⟩))).1
          rw [slot_put_same _ _ _ (by rw [hsz, hn]; exact hdlt), hex d u hd hu]
      · have hpj := toP j hat
        have hnew := hkeep j hji hj (by rw [agreeL j hj]; exact hpj)
        rw [agreeL j hj] at hnew
        unfold At factOf seeOf at hat ⊢
        cases hd : (ops[j]?).bind (·.dst) with
        | none => simp only [hd, Option.toList_none, List.nil_append] at hat ⊢; exact hnew
        | some d =>
          simp only [hd] at hat ⊢
          exact ⟨hat.1, by simpa using hnew⟩
    have hsel : ∀ cs b, o.op ≠ .select cs b := fun cs b => Region.noSelect_spec hs i o cs b hi
    unfold wpOp
    simp only [hi]
    unfold Does at hD
    rw [← wanted_congr o a' (fr a vals late free early i (slot a')) (by rw [fr_size, hsz]) agree] at hD
    split
    · rename_i hw
      rw [if_pos hw] at hD
      left
      unfold Oper.wp at hD ⊢
      rw [← exec_congr o hsel a' _ agree] at hD
      refine upon_congr (F := fr a vals late free early i (slot a')) ?_ ?_ hD
      · rintro v w'' ⟨v', he, hex, hp, hb, hkeep⟩
        -- v and v' put the same
        cases hd : o.dst with
        | none =>
          rw [hd] at he hp hex
          have := finish v w'' (by rw [hd]; exact fun d u h => by cases h) (by rw [hd]; exact hp) hb hkeep
          rw [hd] at this
          exact this
        | some d =>
          rw [hd] at he hp
          have hdlt : d < n := (hk1 d (hk2 d (List.mem_filterMap.2 ⟨o, by have := Array.mem_of_getElem? hi; simpa using this, hd⟩))).1
          have hvv : v = v' := by
            have h1 : slot ((fr a vals late free early i (slot a')).put (some d) v) d = slot ((fr a vals late free early i (slot a')).put (some d) v') d := congrArg (fun x => slot x d) he
            rwa [slot_put_same _ _ _ (by rw [fr_size, hn]; exact hdlt), slot_put_same _ _ _ (by rw [fr_size, hn]; exact hdlt)] at h1
          subst hvv
          have := finish v w'' hex (by rw [hd]; exact hp) hb hkeep
          rw [hd] at this
          exact this
      · rintro d w'' ⟨v, he, _⟩
        have h1 := congrArg (fun x => x.defers.length) he
        simp only [defers_put, List.length_cons] at h1
        omega
    · rename_i hw
      rw [if_neg (by simpa using hw)] at hD
      exact finish undef w' hD.1 hD.2 (Below.refl _ _) (fun _ _ _ h => h)
  · intro a' w' hdf hsz hrest hB hall
    have hfin : a' = fin a (vals ++ late) free (slot a') := by
      have ht : a'.tmps = (fin a (vals ++ late) free (slot a')).tmps := by
        refine Array.ext (by rw [fin, putAll_size, hsz]) fun t h1 h2 => ?_
        have hs := hslotE a' hsz hrest t (by
          by_cases hd : t ∈ dsts ops
          · right
            have hmem : t ∈ (vals ++ late).map (·.1) ++ free := hk2 t hd
            rcases List.mem_append.1 hmem with hv | hf
            · right
              obtain ⟨⟨t', v⟩, hv2, rfl⟩ := List.mem_map.1 hv
              obtain ⟨o, ho, hod⟩ := List.mem_filterMap.1 hd
              obtain ⟨i, hi, hoi⟩ := List.mem_iff_getElem.1 ho
              have hi' : i < ops.size := by simpa using hi
              have := hall i hi'
              unfold At factOf seeOf at this
              have hio : ops[i]? = some o := by rw [Array.getElem?_eq_getElem hi']; simpa using hoi
              simp only [hio, Option.bind_some, hod] at this
              exact ⟨v, hv2, by simpa using this.1 v hv2⟩
            · exact .inl hf
          · exact .inl hd)
        simpa [slot, h1, h2] using hs
      have hd : a'.defers = (fin a (vals ++ late) free (slot a')).defers := by rw [hdf, fin, putAll_defers]
      obtain ⟨x, y⟩ := a'
      simp only at ht hd
      cases hF : fin a (vals ++ late) free (slot ⟨x, y⟩) with
      | mk x' y' => rw [hF] at ht hd; simp only at ht hd; rw [ht, hd]
    have hq := hend (slot a') w' hB (fun i hi => by
      have := hall i hi
      rw [← hfin]
      unfold At factOf seeOf at this
      cases hd : (ops[i]?).bind (·.dst) with
      | none => simpa [hd] using this
      | some d => simp only [hd] at this; simpa using this.2)
    rw [← hfin] at hq
    exact hq

/-- What holds of each operation, one by one. -/
def Each (f : Nat → Oper → Prop) : Nat → List Oper → Prop
  | _, [] => True
  | i, o :: l => f i o ∧ Each f (i + 1) l
theorem each_at {f : Nat → Oper → Prop} : ∀ (l : List Oper) (k i : Nat) (o : Oper), Each f k l → l[i]? = some o → f (k + i) o
  | [], _, _, _, _, h => by simp at h
  | x :: l, k, 0, o, h, he => by simp at he; subst he; exact h.1
  | x :: l, k, i + 1, o, h, he => by
    have := each_at l (k + 1) i o h.2 (by simpa using he)
    rwa [Nat.add_assoc, Nat.add_comm 1 i] at this

theorem put_slot (F : Act) (d : Tmp) (v : Value) (h : d < F.tmps.size) (e : F.put (some d) v = F) : slot F d = v := by
  rw [← e, slot_put_same _ _ _ h]

/-- What one operation owes where every value is known: in the frame E in which it is carried out it yields what stands in the frame F at the end, and turns nothing that was there before. -/
def DoesV (P : Program) (ops : Array Oper) (E F : Act) (o : Oper) (w : World) : Prop :=
  if Region.wanted o (yielded ops E.tmps) = true then Oper.wp P o E w (fun a' w' => ∃ v, a' = E.put o.dst v ∧ F.put o.dst v = F ∧ Below w.heap.size w w') (fun _ _ _ => False)
  else F.put o.dst undef = F

/-- A REGION THAT DRAWS ITS ORDER, EVERY VALUE OF IT KNOWN; 'late': slots that are read first, then written. -/
theorem wp_region_late {id : Nat} {a : Act} {w : World} (hm : P.follows .mixedOrders = true) (hs : Region.noSelect ops = true)
    (vals late : List (Tmp × Value)) (early : Nat → Bool) (n : Nat) (hn : a.tmps.size = n) (hok : plan ops n vals late [] (fun _ => []) early = true)
    (hstep : ∀ E F : Act, E = putAll a vals → F = putAll a (vals ++ late) → ∀ w', Below w.heap.size w w' → Each (fun i o => DoesV P ops (if early i then E else F) F o w') 0 ops.toList)
    (hend : ∀ w', Below w.heap.size w w' → Q .normal (putAll a (vals ++ late)) w') :
    (Code.region id ops true).wp P Q a w := by
  have hfin : ∀ g l, fin a l [] g = putAll a l := fun g l => by simp [fin]
  have hok' := hok
  simp only [plan, Bool.and_eq_true, List.all_eq_true, decide_eq_true_eq, List.contains_iff_mem, List.append_nil] at hok
  obtain ⟨⟨⟨⟨hk1, hk2⟩, hnod⟩, hdn⟩, hop⟩ := hok
  refine wp_region_run hm hs vals late [] (fun _ => []) early (fun _ _ _ => True) n hn hok' w.heap.size ?_ ?_
  · intro i o hi g w' hB _
    have hD := each_at ops.toList 0 i o (hstep _ _ rfl rfl w' hB) (by simpa using hi)
    have hfr : fr a vals late [] early i g = if early i then putAll a vals else putAll a (vals ++ late) := by unfold fr; rw [hfin, hfin]
    rw [hfr]
    rw [Nat.zero_add] at hD
    have hex : ∀ (v : Value), (putAll a (vals ++ late)).put o.dst v = putAll a (vals ++ late) → ∀ d u, o.dst = some d → (d, u) ∈ vals ++ late → v = u := by
      intro v hv d u hd hu
      have hdlt : d < n := (hk1 d (List.mem_map.2 ⟨_, hu, rfl⟩)).1
      rw [hd] at hv
      have h1 := put_slot _ d v (by rw [putAll_size, hn]; exact hdlt) hv
      rw [← h1, putAll_at (vals ++ late) d u a (by rw [hn]; exact hdlt) hnod hu]
    generalize (if early i = true then putAll a vals else putAll a (vals ++ late)) = E at hD ⊢
    unfold DoesV at hD
    unfold Does
    split
    · rename_i hw
      rw [if_pos hw] at hD
      unfold Oper.wp at hD ⊢
      refine upon_congr (F := E) ?_ ?_ hD
      · rintro v w'' ⟨v', he, hF, hb⟩
        refine ⟨v', he, hex v' hF, trivial, hb.mono (by have := hB.size; omega), fun _ _ _ h => h⟩
      · rintro d w'' ⟨v, he, _⟩
        have h1 := congrArg (fun x => x.defers.length) he
        simp only [defers_put, List.length_cons] at h1
        omega
    · rename_i hw
      rw [if_neg hw] at hD
      exact ⟨hex undef hD, trivial⟩
  · intro g w' hB _
    rw [hfin]
    exact hend w' hB

/-- A REGION THAT DRAWS ITS ORDER, EVERY VALUE OF IT KNOWN. -/
theorem wp_region_vals {id : Nat} {a : Act} {w : World} (hm : P.follows .mixedOrders = true) (hs : Region.noSelect ops = true)
    (vals : List (Tmp × Value)) (n : Nat) (hn : a.tmps.size = n) (hok : plan ops n vals [] [] (fun _ => []) (fun _ => false) = true)
    (hstep : ∀ F : Act, F = putAll a vals → ∀ w', Below w.heap.size w w' → Each (fun _ o => DoesV P ops F F o w') 0 ops.toList)
    (hend : ∀ w', Below w.heap.size w w' → Q .normal (putAll a vals) w') :
    (Code.region id ops true).wp P Q a w := by
  refine wp_region_late hm hs vals [] (fun _ => false) n hn hok ?_ ?_
  · intro E F _ hF w' hB
    rw [List.append_nil] at hF
    exact hstep F hF w' hB
  · intro w' hB
    rw [List.append_nil]
    exact hend w' hB

theorem doesV_val {E F : Act} {o : Oper} {w : World} {v : Value} (hr : (execOp E.eval o).run P w = .ok (.value v) w) (hw : Region.wanted o (yielded ops E.tmps) = true) (hF : F.put o.dst v = F) : DoesV P ops E F o w := by
  unfold DoesV
  rw [if_pos hw]
  unfold Oper.wp
  rw [hr]
  exact ⟨v, rfl, hF, Below.refl _ _⟩
theorem doesV_skip {E F : Act} {o : Oper} {w : World} (hw : Region.wanted o (yielded ops E.tmps) = false) (hF : F.put o.dst undef = F) : DoesV P ops E F o w := by
  unfold DoesV
  rw [if_neg (by rw [hw]; exact Bool.false_ne_true)]
  exact hF
theorem doesV_call {E F : Act} {o : Oper} {w : World} {v : Value} {f : FuncId} {args : Array Value} (hc : Calls P f args w fun e w' => e = .returned v ∧ Below w.heap.size w w')
    (hr : (execOp E.eval o).run P w = .ok (.enter f args) w) (hw : Region.wanted o (yielded ops E.tmps) = true) (hF : F.put o.dst v = F) : DoesV P ops E F o w := by
  unfold DoesV
  rw [if_pos hw]
  unfold Oper.wp
  rw [hr]
  refine Calls.mono hc ?_
  rintro e w' ⟨rfl, hb⟩
  exact ⟨v, rfl, hF, hb⟩

/-- A REGION THAT DRAWS ITS ORDER, SOME SLOTS OF IT LEFT OPEN: of these p says what is known. -/
theorem wp_region_free {id : Nat} {a : Act} {w : World} (hm : P.follows .mixedOrders = true) (hs : Region.noSelect ops = true)
    (vals : List (Tmp × Value)) (free : List Tmp) (sf : Nat → List Tmp) (p : Nat → List Value → World → Prop) (n : Nat) (hn : a.tmps.size = n) (hok : plan ops n vals [] free sf (fun _ => false) = true)
    (hstep : ∀ (g : Tmp → Value) (F : Act), F = fin a vals free g → F.tmps.size = n → (∀ d u, (d, u) ∈ vals → slot F d = u) → ∀ w', Below w.heap.size w w' →
      Each (fun i o => (∀ j ∈ direct o, p j ((sf j).map (slot F)) w') → Does P ops vals sf p w.heap.size F i o w') 0 ops.toList)
    (hend : ∀ (g : Tmp → Value) (F : Act), F = fin a vals free g → ∀ (w' : World), Below w.heap.size w w' → (∀ i, i < ops.size → p i ((sf i).map (slot F)) w') → Q .normal F w') :
    (Code.region id ops true).wp P Q a w := by
  have hok' := hok
  simp only [plan, Bool.and_eq_true, List.all_eq_true, decide_eq_true_eq, List.contains_iff_mem, List.append_nil] at hok
  obtain ⟨⟨⟨⟨hk1, hk2⟩, hnod⟩, hdn⟩, hop⟩ := hok
  refine wp_region_run hm hs vals [] free sf (fun _ => false) p n hn hok' w.heap.size ?_ ?_
  · intro i o hi g w' hB hp
    have hfr : fr a vals [] free (fun _ => false) i g = fin a vals free g := by unfold fr; simp
    rw [hfr] at hp ⊢
    rw [List.append_nil]
    have hD := each_at ops.toList 0 i o (hstep g _ rfl (by rw [fin, putAll_size, hn]) ?_ w' hB) (by simpa using hi)
    · rw [Nat.zero_add] at hD
      exact hD hp
    · intro d u hu
      rw [fin, putAll_at _ d u a (by rw [hn]; exact (hk1 d (List.mem_append_left _ (List.mem_map.2 ⟨_, hu, rfl⟩))).1) (by simpa [List.map_map, Function.comp_def] using hnod) (List.mem_append_left _ hu)]
  · intro g w' hB hp
    rw [List.append_nil] at hp ⊢
    exact hend g _ rfl w' hB hp

theorem does_exact {vals : List (Tmp × Value)} {sf : Nat → List Tmp} {p : Nat → List Value → World → Prop} {B n i : Nat} {F : Act} {o : Oper} {w : World} (hn : F.tmps.size = n) (hv : ∀ d u, (d, u) ∈ vals → slot F d = u)
    (stab : ∀ j vs w w', Below w.heap.size w w' → p j vs w → p j vs w') (hB : B ≤ w.heap.size) (hp : ∀ vs w', p i vs w') (hdd : (o.dst.all fun d => decide (d < n)) = true) (hV : DoesV P ops F F o w) : Does P ops vals sf p B F i o w := by
  have hex : ∀ (v : Value), F.put o.dst v = F → ∀ d u, o.dst = some d → (d, u) ∈ vals → v = u := by
    intro v he d u hod hu
    rw [hod] at he hdd
    rw [← put_slot F d v (by rw [hn]; simpa using hdd) he, hv d u hu]
  unfold DoesV at hV
  unfold Does
  split
  · rename_i hw
    rw [if_pos hw] at hV
    unfold Oper.wp at hV ⊢
    refine upon_congr (F := F) ?_ ?_ hV
    · rintro v w'' ⟨v', he, hF, hb⟩
      exact ⟨v', he, hex v' hF, hp _ _, hb.mono hB, fun j _ _ h => stab j _ _ _ hb h⟩
    · rintro d w'' ⟨v, he, _⟩
      have h1 := congrArg (fun x => x.defers.length) he
      simp only [defers_put, List.length_cons] at h1
      omega
  · rename_i hw
    rw [if_neg hw] at hV
    exact ⟨hex undef hV, hp _ _⟩

/-- An operation that fills an open slot. -/
theorem does_free {vals : List (Tmp × Value)} {sf : Nat → List Tmp} {p : Nat → List Value → World → Prop} {B n i : Nat} {F : Act} {o : Oper} {w w' : World} {v : Value} {d : Tmp} (hn : F.tmps.size = n)
    (stab : ∀ j vs w w', Below w.heap.size w w' → p j vs w → p j vs w') (hB : B ≤ w.heap.size) (hd : o.dst = some d) (hlt : d < n) (hno : ((vals.map (·.1)).contains d) = false) (hsf : sf i = [d])
    (hr : (execOp F.eval o).run P w = .ok (.value v) w') (hw : Region.wanted o (yielded ops F.tmps) = true) (hb : Below w.heap.size w w') (hp : p i [v] w') : Does P ops vals sf p B F i o w := by
  unfold Does
  rw [if_pos hw]
  unfold Oper.wp
  rw [hr]
  refine ⟨v, rfl, fun d' u he hu => ?_, ?_, hb.mono hB, fun j _ _ h => stab j _ _ _ hb h⟩
  · rw [hd] at he
    injection he with he
    subst he
    have : d ∈ vals.map (·.1) := List.mem_map.2 ⟨_, hu, rfl⟩
    rw [List.contains_iff_mem.2 this] at hno
    cases hno
  · rw [hsf, hd]
    simp only [List.map_cons, List.map_nil]
    rw [slot_put_same _ _ _ (by rw [hn]; exact hlt)]
    exact hp

/-- A store. -/
theorem does_store {vals : List (Tmp × Value)} {sf : Nat → List Tmp} {p : Nat → List Value → World → Prop} {B i : Nat} {F : Act} {o : Oper} {w w' : World} (hd : o.dst = none)
    (hr : (execOp F.eval o).run P w = .ok .skip w') (hw : Region.wanted o (yielded ops F.tmps) = true) (hb : Below B w w') (hp : p i ((sf i).map (slot F)) w')
    (hk : ∀ j, j ≠ i → p j ((sf j).map (slot F)) w → p j ((sf j).map (slot F)) w') : Does P ops vals sf p B F i o w := by
  unfold Does
  rw [if_pos hw]
  unfold Oper.wp
  rw [hr]
  refine ⟨undef, rfl, fun d u he _ => (by rw [hd] at he; cases he), ?_, hb, fun j hj _ h => hk j hj h⟩
  rw [hd]
  exact hp
end
end Reg
end Go.Proofs.YtmgmdkagnhmihaaDoor
